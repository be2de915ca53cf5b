import PyProof.Rows.All
import Wide.All
import OpenK.AllK
import Wide.FinOn
import Lean
import PyProof.EqAt
import PyProof.EqKinds
import PyProof.TupleCall
import PyProof.NeKinds
import PyProof.IsiNone
import PyProof.FactsAll.NoneType_1
import KE.KIntText
import PyProof.DictItems
import KE.KPairComp
import PyProof.Rows.TupDisplay
import KE.KDictList
import PyProof.SumWalk
import PyProof.Rows.RuleIs
import KE.KDictOf
import KE.KDictLaws
import PyProof.ReprRoads
import PyProof.AttrMissHeap
import PyProof.Draws
import PyProof.EnumMake
import PySem.Challenge.RW_freshrooms_k39_singly_by_standings
set_option Elab.async false
set_option linter.all false
set_option maxRecDepth 100000
theorem oq9 {α : Type _} {a b : α} (h:some a=some b):a=b:=Option.some.inj h
theorem lr9 {α : Type _} {a : α} {b : List α} (c : List α) (h:a ∈ b):a ∈ c ++ b:=List.mem_append_right c h
theorem ll9 {α : Type _} {a : α} {b : List α} (c : List α) (h:a ∈ b):a ∈ b ++ c:=List.mem_append_left c h
theorem lc9 {α : Type _} {a : α} {l : List α} (b : α) (h:a ∈ l):a ∈ b :: l:=List.mem_cons_of_mem b h
noncomputable section
namespace L2
open PySem PySem.Spec PyProof.Rows
abbrev Key:=Sum Int Str
def vxl:Key->Value->Bool
 | .inl k,v=>Value.isInt k v
 | .inr x,v=>Value.isStrOf x v
def keyH (w:World):Key->Int
 | .inl k=>hashInt k
 | .inr x=>hashStr w x
theorem jq0:∀ {k:Key} {v:Value},vxl k v=true->(∃ i t,k=Sum.inl i/\v=Value.int i t)\/(∃ x t,k=Sum.inr x/\v=Value.str x t)
 | .inl i,v,h=>by
  obtain ⟨t,e⟩:=Value.isInt_shape (k:=i) (v:=v) h
  exact .inl ⟨i,t,rfl,e⟩
 | .inr x,v,h=>by
  obtain ⟨t,e⟩:=Value.isStrOf_shape (x:=x) (v:=v) h
  exact .inr ⟨x,t,rfl,e⟩
theorem vxk (a b:Int):decide ((Sum.inl a:Key)=Sum.inl b)=(a == b):=by
 by_cases e:a=b
 ·subst e;simp
 ·have h:¬ (Sum.inl a:Key)=Sum.inl b:=fun q=>e (Sum.inl.inj q)
  rw [decide_eq_false h]
  exact (beq_eq_false_iff_ne.mpr e).symm
theorem vxh (a b:Str):decide ((Sum.inr a:Key)=Sum.inr b)=decide (a=b):=by
 by_cases e:a=b
 ·subst e;simp
 ·have h:¬ (Sum.inr a:Key)=Sum.inr b:=fun q=>e (Sum.inr.inj q)
  rw [decide_eq_false h,decide_eq_false e]
theorem vxj (a:Int) (b:Str):decide ((Sum.inl a:Key)=Sum.inr b)=false:=decide_eq_false (fun q=>nomatch q)
theorem vxi (a:Str) (b:Int):decide ((Sum.inr a:Key)=Sum.inl b)=false:=decide_eq_false (fun q=>nomatch q)
def kqr (prog:Program) (w:World):PySem.KeyKind prog w Key where
 is:=vxl
 hash:=keyH w
 inj:=fun v a b ha hb=>by
  rcases jq0 ha with ⟨i,t,rfl,rfl⟩ | ⟨x,t,rfl,rfl⟩
  ·rcases jq0 hb with ⟨j,u,rfl,e⟩ | ⟨y,u,rfl,e⟩
   ·injection e with e1 _;rw [e1]
   ·exact nomatch e
  ·rcases jq0 hb with ⟨j,u,rfl,e⟩ | ⟨y,u,rfl,e⟩
   ·exact nomatch e
   ·injection e with e1 _;rw [e1]
 byValue:=fun k v h=>by
  rcases jq0 h with ⟨i,t,rfl,rfl⟩ | ⟨x,t,rfl,rfl⟩<;>rfl
 pyHash:=fun hv h=>by
  rcases jq0 hv with ⟨i,t,rfl,rfl⟩ | ⟨x,t,rfl,rfl⟩
  ·exact wpAny_pyHash_int h
  ·exact wpAny_pyHash_str h
 eqBool:=fun hu hv h=>by
  rcases jq0 hu with ⟨i,t,rfl,rfl⟩ | ⟨x,t,rfl,rfl⟩
  ·rcases jq0 hv with ⟨j,u,rfl,rfl⟩ | ⟨y,u,rfl,rfl⟩
   ·rw [vxk] at h;exact wpAny_eqBool_int h
   ·rw [vxj] at h;exact SeqAt.EqAt.int_str i t y u _ _ _ _ h
  ·rcases jq0 hv with ⟨j,u,rfl,rfl⟩ | ⟨y,u,rfl,rfl⟩
   ·rw [vxi] at h;exact SeqAt.EqAt.str_int x t j u _ _ _ _ h
   ·rw [vxh] at h;exact wpAny_eqBool_str h
 «strs»:=fun k x t v h=>by
  rcases jq0 h with ⟨i,u,rfl,e⟩ | ⟨y,u,rfl,e⟩
  ·exact nomatch e
  ·injection e with e1 _
   subst e1
   cases v<;>rfl
end L2
namespace L2
open PySem PySem.Spec PyProof.Rows
inductive V where
 | non | bl (b:Bool) | int (i:Int) | str (x:Str) | byt (b:Array UInt8) | flt (b:UInt64) | ref (a:Addr) | ty (n:String)
 deriving DecidableEq
def RelV:V->Value->Prop
 | .non,u=>u=Value.none
 | .bl b,u=>u=Value.bool b
 | .int i,u=>∃ t,u=Value.int i t
 | .str x,u=>∃ t,u=Value.str x t
 | .byt b,u=>∃ t,u=Value.bytes b t
 | .flt b,u=>∃ t,u=Value.float b t
 | .ref a,u=>u=Value.ref a
 | .ty n,u=>u=Value.type n
abbrev Vals:List V->List Value->Prop:=Paired RelV
theorem Vals.length {xs:List V} {us:List Value} (r:Vals xs us):xs.length=us.length:=Paired.length r
theorem Vals.get:∀ {xs:List V} {us:List Value} {i:Nat} {x:V},Vals xs us->xs[i]?=some x->∃ u,us[i]?=some u/\RelV x u
 | _,_,_,_,.nil,e=>by simp at e
 | _,_,0,_,.cons r _,e=>by simp at e;subst e;exact ⟨_,rfl,r⟩
 | _,_,i + 1,x,.cons _ t,e=>by
  obtain ⟨u,h1,h2⟩:=Vals.get (i:=i) (x:=x) t (by simpa using e)
  exact ⟨u,by simpa using h1,h2⟩
theorem Vals.append:∀ {xs ys:List V} {us ws:List Value},Vals xs us->Vals ys ws->Vals (xs++ys) (us++ws)
 | _,_,_,_,.nil,s=>s
 | _,_,_,_,.cons r t,s=>.cons r (Vals.append t s)
theorem Vals.take:∀ {xs:List V} {us:List Value} (n:Nat),Vals xs us->Vals (xs.take n) (us.take n)
 | _,_,0,_=>.nil
 | _,_,_ + 1,.nil=>.nil
 | _,_,n + 1,.cons r t=>.cons r (Vals.take n t)
theorem Vals.drop:∀ {xs:List V} {us:List Value} (n:Nat),Vals xs us->Vals (xs.drop n) (us.drop n)
 | _,_,0,r=>r
 | _,_,_ + 1,.nil=>.nil
 | _,_,n + 1,.cons _ t=>Vals.drop n t
def wkc:Option V->Option Value->Prop
 | some v,some u=>RelV v u
 | none,none=>True
 | _,_=>False
def KV {κ:Type}:List (κ×V)->List (κ×Value)->Prop:=Paired fun (p:κ×V) (q:κ×Value)=>p.1=q.1/\RelV p.2 q.2
def kV:Key->V
 | .inl i=>.int i
 | .inr x=>.str x
inductive HO where
 | lst (xs:List V)
 | tup (xs:List V)
 | dK (kvs:List (Key×V)) | dT (kvs:List (List Key×V))
 | set (S:Int->Bool) (n:Nat)
 | ins (C dx:Addr) (fs:List (Str×V))
 | own (x:Addr)
 | xd (fs:List (Str×V))
 | met (f x:Addr)
 | rng (lo hi:Int)
 | frz (o:Obj) (u:HO)
 | tbl (ps:Array Value)
 | ext (φ:Heap->Prop)
abbrev Hp:=Addr->Option HO
def IsTupD (h:Heap) (a:Addr) (items:Array Value):Prop:=∃ o,h.get? a=some o/\o.cls=.type "tuple"/\o.dict=none/\∃ n,o.data=.seq items n
theorem IsTupD.tup {h:Heap} {a:Addr} {items:Array Value} (p:IsTupD h a items):IsTup h a items:=by
 obtain ⟨o,e,c,_,n,d⟩:=p;exact ⟨o,e,c,n,d⟩
theorem IsTupD.new (h:Heap) (xs:Array Value):IsTupD (h.push { cls:=.type "tuple",data:=.seq xs }) h.objs.size xs:=⟨_,Heap.get?_push_size _ rfl,rfl,rfl,0,rfl⟩
def upd (H:Hp) (a:Addr) (o:HO):Hp:=fun b=>if b=a then some o else H b
theorem jkd {H:Hp} {a:Addr} {o:HO}:upd H a o a=some o:=by unfold upd;rw [if_pos rfl]
theorem jjw {H:Hp} {a b:Addr} {o:HO} (h:b≠a):upd H a o b=H b:=by unfold upd;rw [if_neg h]
theorem jjz {H:Hp} {a b:Addr} {o:HO} (h:H a=some o) (h':H b=none):a≠b:=by
 intro e;subst e;rw [h] at h';cases h'
section
variable (P:Program) (w:World)
def ObjOk (H : Hp) (h : Heap) (a : Addr) : HO -> Prop
  | .lst xs => xs.length <= sizeLine /\ ∃ (its : List Value) (n : Nat), Vals xs its /\ h.get? a = some { cls := .type "list", data := .seq its.toArray n }
  | .tup xs => xs.length <= sizeLine /\ ∃ its : List Value, Vals xs its /\ IsTupD h a its.toArray
  | .dK kvs => kvs.length <= sizeLine /\ (a == sysModules) = false /\ ∃ vs, KV kvs vs /\ h.DictOf (kqr P w) a vs
  | .dT kvs => kvs.length <= sizeLine /\ (a == sysModules) = false /\ ∃ xs : List (List Key × Addr × Value),
      Paired (fun (p : List Key × V) (q : List Key × Addr × Value) => p.1 = q.1 /\ H q.2.1 = some (.tup (p.1.map kV)) /\ RelV p.2 q.2.2) kvs xs /\
      ∃ o es ep, h.get? a = some o /\ o.ExactDict /\ o.data = .dict es ep /\ es.toList = xs.map (entryOfKey (tupleKind (kqr P w))) /\ (xs.map (·.1)).Nodup
  | .set S n => h.SetOf (intKind P w) a S n
  | .ins C dx fs => H dx = some (.own a) /\ fs.length <= 1000 /\ dx ≠ a /\ h.get? a = some (PySem.W.instObj C dx) /\
      ∃ mA, h.Ns1 dx mA /\ (∀ f, wkc (fs.lookup f) (mA f)) /\ PySem.Within mA (fs.map (·.1))
  | .own _ => ∃ o, h.get? a = some o
  | .xd fs => ∃ mA, h.Ns1 a mA /\ ∀ f, wkc (fs.lookup f) (mA f)
  | .rng lo hi => ∃ t u v, h.get? a = some { cls := .type "range", data := .fields #[.int lo t, .int hi u, .int 1 v] }
  | .frz o u => h.get? a = some o /\ ObjOk H h a u
  | .tbl ps => h.get? a = some { cls := .none, data := .fields ps }
  | .met f x => h.get? a = some (PySem.W.methodObj (.ref f) (.ref x))
  | .ext φ => φ h /\ (∃ o, h.get? a = some o) /\ ∀ h1 h2 : Heap, φ h1 -> (∀ o, h1.get? a = some o -> h2.get? a = some o) -> φ h2
def HOk (H:Hp) (h:Heap):Prop:=∀ a o,H a=some o->ObjOk P w H h a o
end
section
variable {P:Program} {w:World} {H H':Hp} {h h':Heap} {a:Addr} {o:HO}
theorem ObjOk.lt (x:ObjOk P w H h a o):a < h.objs.size:=by
 cases o with
 | lst xs=>obtain ⟨_,_,_,_,e⟩:=x;exact Heap.lt_size e
 | tup xs=>obtain ⟨_,_,_,p⟩:=x;exact p.tup.lt
 | dK kvs=>obtain ⟨_,_,_,_,o,_,_,e,_⟩:=x;exact Heap.lt_size e
 | dT kvs=>obtain ⟨_,_,_,_,o,_,_,e,_⟩:=x;exact Heap.lt_size e
 | set S n=>obtain ⟨o,_,_,_,e,_⟩:=x;exact Heap.lt_size e
 | ins C dx fs=>obtain ⟨_,_,_,e,_⟩:=x;exact Heap.lt_size e
 | own y=>obtain ⟨_,e⟩:=x;exact Heap.lt_size e
 | xd fs=>obtain ⟨_,⟨_,_,_,e,_⟩,_⟩:=x;exact Heap.lt_size e
 | rng lo hi=>obtain ⟨_,_,_,e⟩:=x;exact Heap.lt_size e
 | frz ob u=>obtain ⟨e,_⟩:=x;exact Heap.lt_size e
 | tbl ps=>exact Heap.lt_size (show h.get? a=some _ from x)
 | met f y=>exact Heap.lt_size (show h.get? a=some _ from x)
 | ext φ=>obtain ⟨_,⟨_,e⟩,_⟩:=x;exact Heap.lt_size e
theorem Paired.mapP {α β:Type} {F G:α->β->Prop}:∀ {l₁:List α} {l₂:List β},Paired F l₁ l₂->(∀ a b,F a b->G a b)->Paired G l₁ l₂
 | _,_,.nil,_=>.nil
 | _,_,.cons r t,f=>.cons (f _ _ r) (Paired.mapP t f)
theorem ObjOk.stay (x:ObjOk P w H h a o) (k:∀ b u,(b=a\/H b=some (.own a))->h.get? b=some u->h'.get? b=some u)
  (ho:∀ b,H b=some (.own a)->H' b=some (.own a)) (ht:∀ b xs,H b=some (.tup xs)->H' b=some (.tup xs)):ObjOk P w H' h' a o:=by
 induction o with
 | lst xs=>obtain ⟨z,its,n,r,e⟩:=x;exact ⟨z,its,n,r,k _ _ (.inl rfl) e⟩
 | tup xs=>obtain ⟨z,its,r,ob,e,c⟩:=x;exact ⟨z,its,r,ob,k _ _ (.inl rfl) e,c⟩
 | dK kvs=>obtain ⟨z,y,vs,r,ob,es,ep,e,c⟩:=x;exact ⟨z,y,vs,r,ob,es,ep,k _ _ (.inl rfl) e,c⟩
 | dT kvs =>
  obtain ⟨z,y,xs,r,ob,es,ep,e,c⟩:=x
  exact ⟨z,y,xs,Paired.mapP r fun p q z=>⟨z.1,ht _ _ z.2.1,z.2.2⟩,ob,es,ep,k _ _ (.inl rfl) e,c⟩
 | set S n=>obtain ⟨ob,es,ep,t,e,c⟩:=x;exact ⟨ob,es,ep,t,k _ _ (.inl rfl) e,c⟩
 | ins C dx fs =>
  obtain ⟨d,z,ne,e,mA,⟨od,es,ep,e2,c⟩,r⟩:=x
  exact ⟨ho _ d,z,ne,k _ _ (.inl rfl) e,mA,⟨od,es,ep,k _ _ (.inr d) e2,c⟩,r⟩
 | own y=>obtain ⟨ob,e⟩:=x;exact ⟨ob,k _ _ (.inl rfl) e⟩
 | xd fs=>obtain ⟨mA,⟨od,es,ep,e,c⟩,r⟩:=x;exact ⟨mA,⟨od,es,ep,k _ _ (.inl rfl) e,c⟩,r⟩
 | rng lo hi=>obtain ⟨t,u,v,e⟩:=x;exact ⟨t,u,v,k _ _ (.inl rfl) e⟩
 | frz ob u ih=>obtain ⟨e,q⟩:=x;exact ⟨k _ _ (.inl rfl) e,ih q⟩
 | tbl ps =>
  have e:h.get? a=some { cls:=.none,data:=.fields ps }:=x
  show h'.get? a=some { cls:=.none,data:=.fields ps }
  exact k a _ (.inl rfl) e
 | met f y =>
  have e:h.get? a=some (PySem.W.methodObj (.ref f) (.ref y)):=x
  show h'.get? a=some (PySem.W.methodObj (.ref f) (.ref y))
  exact k a _ (.inl rfl) e
 | ext φ=>obtain ⟨p,⟨o,e⟩,st⟩:=x;exact ⟨st _ _ p fun o q=>k _ _ (.inl rfl) q,⟨o,k _ _ (.inl rfl) e⟩,st⟩
theorem HOk.lt (x:HOk P w H h) (e:H a=some o):a < h.objs.size:=(x a o e).lt
theorem HOk.fresh (x:HOk P w H h) (e:h.objs.size<=a):H a=none:=by
 cases q:H a with
 | none=>rfl
 | some u=>exact absurd (Nat.lt_of_lt_of_le (x.lt q) e) (Nat.lt_irrefl _)
theorem HOk.kept (x:HOk P w H h) (k:∀ b u,h.get? b=some u->h'.get? b=some u):HOk P w H h':=fun a o e =>
 (x a o e).stay (fun b u _ q=>k b u q) (fun _ q=>q) fun _ _ q=>q
theorem HOk.laid (x:HOk P w H h) (k:∀ b u,h.get? b=some u->h'.get? b=some u) (hp:h.objs.size<=a) (new:ObjOk P w (upd H a o) h' a o):HOk P w (upd H a o) h':=fun b u e=>by
 have hn:=x.fresh hp
 by_cases hb:b=a
 ·subst hb;rw [jkd] at e;cases e;exact new
 ·rw [jjw hb] at e
  exact (x b u e).stay (fun c v _ q=>k c v q) (fun c q=>by rw [jjw (jjz q hn)];exact q) fun c xs q=>by rw [jjw (jjz q hn)];exact q
end
def Rd (H:Hp) (a:Addr) (u:HO):Prop:=H a=some u\/∃ o,H a=some (.frz o u)
theorem Rd.ok {P:Program} {w:World} {H:Hp} {h:Heap} {a:Addr} {u:HO} (r:Rd H a u) (x:HOk P w H h):ObjOk P w H h a u:=by
 rcases r with r | ⟨o,r⟩
 ·exact x a u r
 ·obtain ⟨_,q⟩:=x a _ r
  exact q
def Mut:Option HO->Prop
 | some (.lst _)=>True
 | some (.dK _)=>True
 | some (.dT _)=>True
 | some (.set _ _)=>True
 | some (.ins _ _ _)=>True
 | some (.ext _)=>True
 | _=>False
section
variable {P:Program} {w:World} {H:Hp} {h h':Heap} {x e:Addr} {o':HO}
theorem HOk.write (ok:HOk P w H h) (mu:Mut (H x)) (he:e=x\/H e=some (.own x)) (k:∀ b u,b≠e->h.get? b=some u->h'.get? b=some u) (heo:∃ u,h'.get? e=some u)
  (new:ObjOk P w (upd H x o') h' x o'):HOk P w (upd H x o') h':=fun b u q=>by
 have nown:∀ c y,H c=some (.own y)->c≠x:=fun c y r z=>by subst z;rw [r] at mu;exact mu
 have ntup:∀ c xs,H c=some (.tup xs)->c≠x:=fun c xs r z=>by subst z;rw [r] at mu;exact mu
 by_cases hb:b=x
 ·subst hb;rw [jkd] at q;cases q;exact new
 ·rw [jjw hb] at q
  by_cases hbe:b=e
  ·have q':H b=some (.own x):=by
    rcases he with z | z
    ·exact absurd (hbe.trans z) hb
    ·rw [hbe];exact z
   rw [q] at q';cases q'
   obtain ⟨v,hv⟩:=heo
   exact ⟨v,by rw [hbe];exact hv⟩
  ·refine (ok b u q).stay (fun c v hc r=>k c v ?_ r) (fun c r=>by rw [jjw (nown c b r)];exact r) fun c xs r=>by rw [jjw (ntup c xs r)];exact r
   rcases hc with rfl | hc
   ·exact hbe
   ·rintro rfl
    rcases he with z | z
    ·exact nown c b hc z
    ·rw [hc] at z;cases z;exact hb rfl
end
structure Un (fs ex:List Addr) (H H':Hp) (h h':Heap):Prop where
 keep:∀ b o,h.get? b=some o->H b=none->b∉fs->b∉ex->h'.get? b=some o
 slot:∀ b o,h.get? b=some o->H b=none->b∈fs->b∉ex->∃ sl,h'.get? b=some { o with slots:=sl }
 free:∀ b o,h.get? b=some o->H b=none->b∉ex->H' b=none
 there:∀ b o,h.get? b=some o->b∉ex->∃ o',h'.get? b=some o'
 tups:∀ b xs,H b=some (.tup xs)->H' b=some (.tup xs)
 frzs:∀ b o u,H b=some (.frz o u)->H' b=some (.frz o u)
 tbls:∀ b ps,H b=some (.tbl ps)->∃ more,H' b=some (.tbl (ps++more))
section
variable {fs fs' ex ex':List Addr} {H H1 H2:Hp} {h h1 h2 h':Heap} {a x e:Addr} {o:HO}
theorem Un.any (u:Un fs ex H H1 h h1) {b:Addr} {ob:Obj} (q:h.get? b=some ob) (n:H b=none) (hx:b∉ex):∃ sl,h1.get? b=some { ob with slots:=sl }:=by
 by_cases hb:b∈fs
 ·exact u.slot b ob q n hb hx
 ·exact ⟨ob.slots,u.keep b ob q n hb hx⟩
theorem Un.kept (k:∀ b u,h.get? b=some u->h'.get? b=some u):Un fs ex H H h h' :=
 ⟨fun b ob q _ _ _=>k b ob q,fun b ob q _ _ _=>⟨ob.slots,k b ob q⟩,fun _ _ _ n _=>n,fun b ob q _=>⟨ob,k b ob q⟩,fun _ _ q=>q,fun _ _ _ q=>q,fun _ ps q=>⟨#[],by rw [q];simp⟩⟩
theorem Un.refl:Un fs ex H H h h:=Un.kept fun _ _ q=>q
theorem Un.laid (k:∀ b u,h.get? b=some u->h'.get? b=some u) (hp:h.objs.size<=a) (hn:H a=none):Un fs ex H (upd H a o) h h' where
 keep:=fun b u q _ _ _=>k b u q
 slot:=fun b u q _ _ _=>⟨u.slots,k b u q⟩
 free:=fun b u q n _=>by rw [jjw (Nat.ne_of_lt (Nat.lt_of_lt_of_le (Heap.lt_size q) hp))];exact n
 there:=fun b u q _=>⟨u,k b u q⟩
 tups:=fun b xs q=>by rw [jjw (jjz q hn)];exact q
 frzs:=fun b u xs q=>by rw [jjw (jjz q hn)];exact q
 tbls:=fun b ps q=>⟨#[],by rw [jjw (jjz q hn),q];simp⟩
theorem Un.write (mu:Mut (H x)) (he:e=x\/H e=some (.own x)) (k:∀ b u,b≠e->h.get? b=some u->h'.get? b=some u) (heo:∃ u,h'.get? e=some u):Un fs ex H (upd H x o) h h':=by
 have hx:∀ b,H b=none->b≠x:=fun b n z=>by subst z;rw [n] at mu;exact mu
 have hb:∀ b,H b=none->b≠e:=fun b n z=>by
  subst z
  rcases he with r | r
  ·exact hx b n r
  ·rw [n] at r;cases r
 have hm:∀ b u,H b=some u->¬ Mut (some u)->b≠x:=fun b u q nm z=>by subst z;rw [q] at mu;exact nm mu
 refine ⟨fun b u q n _ _=>k b u (hb b n) q,fun b u q n _ _=>⟨u.slots,k b u (hb b n) q⟩,fun b u q n _=>by rw [jjw (hx b n)];exact n,fun b u q _=>?_,
  fun b xs q=>by rw [jjw (hm b _ q fun z=>z)];exact q,fun b u xs q=>by rw [jjw (hm b _ q fun z=>z)];exact q,fun b ps q=>⟨#[],by rw [jjw (hm b _ q fun z=>z),q];simp⟩⟩
 by_cases hbe:b=e
 ·subst hbe;exact heo
 ·exact ⟨u,k b u hbe q⟩
end
def trk (h:Heap) (H:Hp):List Addr:=(List.range h.objs.size).filter fun a=>(H a).isSome
def qxw (h:Heap) (H:Hp):Heap:=PySem.W.hideAll h (trk h H)
theorem qvg (h:Heap) (H:Hp):(qxw h H).objs.size=h.objs.size:=PySem.W.hideAll_size _ _
theorem qxv {h:Heap} {H:Hp} {b:Addr} {o:Obj} (e:h.get? b=some o) (n:H b=none):(qxw h H).get? b=some o :=
 PySem.W.hideAll_get _ e fun hm=>by
  have q:(H b).isSome=true:=(List.mem_filter.mp hm).2
  rw [n] at q;simp at q
theorem vkx {h:Heap} {H:Hp} {b:Addr} {o:Obj} (e:(qxw h H).get? b=some o):h.get? b=some o/\H b=none:=by
 have e':h.get? b=some o:=PySem.W.of_hideAll (trk h H) e
 refine ⟨e',?_⟩
 cases q:H b with
 | none=>rfl
 | some x =>
  have hm:b∈trk h H:=List.mem_filter.mpr ⟨List.mem_range.mpr (Heap.lt_size e'),by simp [q]⟩
  have z:(qxw h H).get? b=none:=PySem.W.hideAll_none (trk h H) hm
  rw [z] at e;cases e
def vqy (g h:Heap) (L:Addr):List (Addr×Obj):=(List.range h.objs.size).filterMap fun a=>if a=L\/(g.get? a).isSome=true then none else (h.get? a).map fun o=>(a,o)
def rest (g h:Heap) (L d:Addr):List (Addr×Obj):=(vqy g h L).filter fun p=>decide (p.1≠d)
end L2
namespace L2
open PySem PySem.Spec PyProof.Rows
structure Mod (K:PySem.W.Frag) (mg:Str->Option Value) (base:Heap):Prop where
 kin:K.In base
 glob:base.Ns mainGlobals mg
 blt:∃ mb,base.Ns builtinsNs mb/\∀ x:Str,x≠"__name__"->mb x=bootBuiltins x
 nolimit:base.NoLimit
structure Cx where
 prog:Program
 w:World
 K:PySem.W.Frag
 mg:Str->Option Value
 base:Heap
 A:Around
 N:List Str
 s₀:Shared
 H₀:Hp
 env:Env
 outer:List Env
 stack:List Env
 ex:List Addr
 fn:Str->Bool
 calm:Bool
 pn:List (Addr×Obj)
 xe:Value->Shared->Prop
def frs (l:List Env):List Addr:=l.filterMap (·.frame)
abbrev Cx.fs (X:Cx):List Addr:=frs X.outer
def Vis (sc:Scope) (x:Str):Prop:=sc.names.lookup x=some .local\/sc.names.lookup x=some .cell\/sc.names.lookup x=some .free
def Loc (sc:Scope) (x:Str):Prop:=sc.names.lookup x=some .local\/sc.names.lookup x=some .cell
def wkx (env:Env) (h:Heap) (m:Str->Option Value) (x:Str) (u:Value):Prop :=
 (env.kindOf x=some .local/\m x=some u)\/((env.kindOf x=some .cell\/env.kindOf x=some .free)/\∃ c,env.cells.lookup x=some c/\h.IsCell c (some u))
structure Cx.Ok (X:Cx):Prop where
 mod:Mod X.K X.mg X.base
 kind:X.env.scope.kind=.function
 glob:X.env.globals=mainGlobals
 blt:X.env.builtins=builtinsNs
 above:X.s₀.heap.objs.size<=X.env.locals
 inj:∀ x y c,X.env.cells.lookup x=some c->X.env.cells.lookup y=some c->x=y
 has:∀ x,(X.env.kindOf x=some .cell\/X.env.kindOf x=some .free)->∃ c,X.env.cells.lookup x=some c
 cab:∀ x c,X.fn x=true->X.env.cells.lookup x=some c->X.s₀.heap.objs.size<=c
 hd:X.calm=true->X.A.handled=none
 frames:X.A.frames=some X.stack
 stk:X.stack=X.outer\/(X.stack=X.env :: X.outer/\X.env.frame=some X.env.locals)
 exf:∀ b∈X.ex,b≠X.env.locals/\∀ x c,X.env.cells.lookup x=some c->c≠b
 bs:∀ b o,X.base.get? b=some o->X.s₀.heap.get? b=some o/\X.H₀ b=none
 bsz:X.base.objs.size<=X.s₀.heap.objs.size
 noex:∀ b o,X.base.get? b=some o->b∉X.ex
 exfs:∀ b∈X.ex,b∉X.fs
 funs:X.s₀.heap.FunFrames X.base X.outer
 frf:∀ b∈X.fs,X.H₀ b=none
structure Inv (X:Cx) (pins:List (Addr×Obj)) (σ:List (Option V)) (H:Hp) (s:Shared):Prop where
 ok:X.Ok
 os:s.os=X.s₀.os
 bare:AllBare s.gens
 base:Un X.fs X.ex X.H₀ H X.s₀.heap s.heap
 loc:∃ m,s.heap.Ns X.env.locals m/\∀ (i:Nat) (x:Str) (v:V),X.N[i]?=some x->σ[i]?=some (some v)->Vis X.env.scope x->∃ u,RelV v u/\wkx X.env s.heap m x u
 cell:∀ x c,X.env.cells.lookup x=some c->∃ v,s.heap.IsCell c v
 free:H X.env.locals=none
 freeC:∀ x c,X.env.cells.lookup x=some c->H c=none
 pin:∀ p∈X.pn++pins,s.heap.get? p.1=some p.2/\H p.1=none/\p.1≠X.env.locals/\p.1∉X.fs/\∀ v,p.2.data≠.cell v
 hok:HOk X.prog X.w H s.heap
 len:σ.length=X.N.length
section
variable {X:Cx} {pins:List (Addr×Obj)} {σ:List (Option V)} {H H':Hp} {s:Shared} {h':Heap}
theorem Cx.Ok.nofr (ok:X.Ok) {b:Addr} {o:Obj} (e:X.base.get? b=some o):b∉X.fs:=fun hb=>by
 have:=(ok.funs.mem hb).1
 rw [e] at this;cases this
theorem Inv.bs (I:Inv X pins σ H s):∀ b o,X.base.get? b=some o->s.heap.get? b=some o/\H b=none:=fun b o e =>
 ⟨I.base.keep b o (I.ok.bs b o e).1 (I.ok.bs b o e).2 (I.ok.nofr e) (I.ok.noex b o e),I.base.free b o (I.ok.bs b o e).1 (I.ok.bs b o e).2 (I.ok.noex b o e)⟩
theorem Inv.bk (I:Inv X pins σ H s):∀ b o,X.base.get? b=some o->s.heap.get? b=some o:=fun b o e=>(I.bs b o e).1
theorem Inv.mod (I:Inv X pins σ H s):Mod X.K X.mg X.base:=I.ok.mod
theorem Inv.kIn (I:Inv X pins σ H s):X.K.In s.heap:=I.ok.mod.kin.keeps I.bk
theorem Inv.lt (I:Inv X pins σ H s):X.env.locals < s.heap.objs.size:=let ⟨_,hn,_⟩:=I.loc;hn.lt
theorem Inv.sz (I:Inv X pins σ H s):X.s₀.heap.objs.size<=s.heap.objs.size:=Nat.le_trans I.ok.above (Nat.le_of_lt I.lt)
theorem Inv.nofs (I:Inv X pins σ H s) {a:Addr} (h:s.heap.objs.size<=a):a∉X.fs:=fun hb=>by
 obtain ⟨_,o,ho,_⟩:=I.ok.funs.mem hb
 exact absurd (Nat.lt_of_lt_of_le (Heap.lt_size ho) (Nat.le_trans I.sz h)) (Nat.lt_irrefl _)
theorem Inv.cne (I:Inv X pins σ H s):∀ x c,X.env.cells.lookup x=some c->c≠X.env.locals:=fun x c e z=>by
 obtain ⟨v,o,ho,hd⟩:=I.cell x c e
 obtain ⟨m,⟨o',es,ep,ho',hd',_⟩,_⟩:=I.loc
 rw [z,ho'] at ho;cases ho;rw [hd'] at hd;cases hd
theorem Inv.funs (I:Inv X pins σ H s):s.heap.FunFrames X.base X.outer:=by
 have all:∀ (l:List Env),(∀ b∈frs l,b∈X.fs)->X.s₀.heap.FunFrames X.base l->s.heap.FunFrames X.base l:=by
  intro l
  induction l with
  | nil=>intro _ _;trivial
  | cons env r ih =>
   intro hs hl
   obtain ⟨hk,⟨L,o,hf,hn,ho,hd⟩,hr⟩:=hl
   have hL:L∈X.fs:=hs L (by unfold frs;rw [List.filterMap_cons,hf];exact List.mem_cons_self)
   obtain ⟨sl,e⟩:=I.base.slot L o ho (I.ok.frf L hL) hL fun z=>I.ok.exfs L z hL
   exact ⟨hk,⟨L,_,hf,hn,e,hd⟩,ih (fun b hb=>hs b (by unfold frs;rw [List.filterMap_cons,hf];exact lc9 _ hb)) hr⟩
 exact all X.outer (fun _ hb=>hb) I.ok.funs
theorem Inv.stack (I:Inv X pins σ H s):s.heap.FunFrames X.base X.stack:=by
 rcases I.ok.stk with e | ⟨e,hf⟩
 ·rw [e];exact I.funs
 ·rw [e]
  obtain ⟨m,hn,_⟩:=I.loc
  refine .cons (by rw [I.ok.kind];decide) hf hn ?_ I.funs
  exact Heap.get?_none_of_le (Nat.le_trans I.ok.bsz I.ok.above)
theorem Inv.stkSub (I:Inv X pins σ H s):∀ b∈frs X.stack,b∈X.env.locals :: X.fs:=fun b hb=>by
 rcases I.ok.stk with e | ⟨e,hf⟩
 ·rw [e] at hb;exact lc9 _ hb
 ·rw [e] at hb
  unfold frs at hb
  rw [List.filterMap_cons,hf] at hb
  exact hb
theorem Inv.stkFree (I:Inv X pins σ H s):∀ b∈frs X.stack,H b=none:=fun b hb=>by
 rcases List.mem_cons.mp (I.stkSub b hb) with e | hb
 ·rw [e];exact I.free
 ·obtain ⟨_,o,ho,_⟩:=I.ok.funs.mem hb
  exact I.base.free b o ho (I.ok.frf b hb) fun z=>I.ok.exfs b z hb
theorem Inv.step {g':Array GenState} {t':Nat} {d':Drawn} {ch:List Addr} (I:Inv X pins σ H s)
  (hch:∀ b∈ch,(b∈X.ex\/X.s₀.heap.objs.size<=b)/\b≠X.env.locals/\(∀ x c,X.env.cells.lookup x=some c->c≠b)/\∀ p∈X.pn++pins,p.1≠b)
  (keep:∀ b o,b≠X.env.locals->b∉X.fs->b∉ch->s.heap.get? b=some o->H b=none->h'.get? b=some o)
  (slot:∀ b o,b≠X.env.locals->b∈X.fs->b∉ch->s.heap.get? b=some o->H b=none->∃ sl,h'.get? b=some { o with slots:=sl }) (free:∀ b o,b∉ch->s.heap.get? b=some o->H b=none->H' b=none)
  (there:∀ b o,b∉ch->s.heap.get? b=some o->∃ o',h'.get? b=some o')
  (tups:∀ b xs,H b=some (.tup xs)->H' b=some (.tup xs)) (frzs:∀ b o u,H b=some (.frz o u)->H' b=some (.frz o u)) (tbls:∀ b ps,H b=some (.tbl ps)->∃ more,H' b=some (.tbl (ps++more)))
  (ns:∀ m,s.heap.Ns X.env.locals m->h'.Ns X.env.locals m) (hok:HOk X.prog X.w H' h') (hg:AllBare g') :
  Inv X pins σ H' { s with heap:=h',gens:=g',drawn:=d',toks:=t' }:=by
 have neL:∀ b o,X.s₀.heap.get? b=some o->b≠X.env.locals:=fun b o e=>Nat.ne_of_lt (Nat.lt_of_lt_of_le (Heap.lt_size e) I.ok.above)
 have neC:∀ b o,X.s₀.heap.get? b=some o->b∉X.ex->b∉ch:=fun b o e hx hb=>by
  rcases (hch b hb).1 with z | z
  ·exact hx z
  ·exact absurd (Nat.lt_of_lt_of_le (Heap.lt_size e) z) (Nat.lt_irrefl _)
 have cellK:∀ x c,X.env.cells.lookup x=some c->∀ v,s.heap.IsCell c v->h'.IsCell c v:=fun x c e v ⟨o,ho,hd⟩=>by
  have nch:c∉ch:=fun z=>(hch c z).2.2.1 x c e rfl
  by_cases hc:c∈X.fs
  ·obtain ⟨sl,q⟩:=slot c o (I.cne x c e) hc nch ho (I.freeC x c e)
   exact ⟨_,q,hd⟩
  ·exact ⟨o,keep c o (I.cne x c e) hc nch ho (I.freeC x c e),hd⟩
 refine ⟨I.ok,I.os,hg,⟨fun b o e n hb hx=>?_,fun b o e n hb hx=>?_,fun b o e n hx=>?_,fun b o e hx=>?_,fun b xs e=>tups b xs (I.base.tups b xs e),fun b o xs e=>frzs b o xs (I.base.frzs b o xs e),fun b ps e=>?_⟩,?_,fun x c e=>?_,?_,fun x c e=>?_,fun p hp=>?_,hok,I.len⟩
 ·exact keep b o (neL b o e) hb (neC b o e hx) (I.base.keep b o e n hb hx) (I.base.free b o e n hx)
 ·obtain ⟨sl,e1⟩:=I.base.slot b o e n hb hx
  obtain ⟨sl',e2⟩:=slot b _ (neL b o e) hb (neC b o e hx) e1 (I.base.free b o e n hx)
  exact ⟨sl',e2⟩
 ·obtain ⟨o',e1⟩:=I.base.there b o e hx
  exact free b o' (neC b o e hx) e1 (I.base.free b o e n hx)
 ·obtain ⟨o',e1⟩:=I.base.there b o e hx
  exact there b o' (neC b o e hx) e1
 ·obtain ⟨m1,e1⟩:=I.base.tbls b ps e
  obtain ⟨m2,e2⟩:=tbls b _ e1
  exact ⟨m1++m2,by rw [e2,Array.append_assoc]⟩
 ·obtain ⟨m,hn,hl⟩:=I.loc
  refine ⟨m,ns m hn,fun i x v e1 e2 e3=>?_⟩
  obtain ⟨u,r,l⟩:=hl i x v e1 e2 e3
  refine ⟨u,r,?_⟩
  rcases l with l | ⟨k,c,e,z⟩
  ·exact .inl l
  ·exact .inr ⟨k,c,e,cellK x c e _ z⟩
 ·obtain ⟨v,z⟩:=I.cell x c e
  exact ⟨v,cellK x c e v z⟩
 ·obtain ⟨m,⟨o,_,_,ho,_⟩,_⟩:=I.loc
  exact free _ o (fun z=>(hch _ z).2.1 rfl) ho I.free
 ·obtain ⟨v,o,ho,hd⟩:=I.cell x c e
  exact free c o (fun z=>(hch c z).2.2.1 x c e rfl) ho (I.freeC x c e)
 ·obtain ⟨e,n,ne,nf,d⟩:=I.pin p hp
  have nch:p.1∉ch:=fun z=>(hch p.1 z).2.2.2 p hp rfl
  exact ⟨keep p.1 p.2 ne nf nch e n,free p.1 p.2 nch e n,ne,nf,d⟩
theorem Inv.un {t':Nat} (I:Inv X pins σ H s) (u:Un X.fs [] H H' s.heap h') (hok:HOk X.prog X.w H' h'):Inv X pins σ H' { s with heap:=h',toks:=t' }:=by
 obtain ⟨m,⟨o,es,ep,ho,r⟩,_⟩:=id I.loc
 obtain ⟨sl,hL⟩:=u.any ho I.free (by simp)
 exact I.step (g':=s.gens) (d':=s.drawn) (ch:=[]) (fun _ z=>nomatch z) (fun b o _ hb _ e n=>u.keep b o e n hb (by simp)) (fun b o _ hb _ e n=>u.slot b o e n hb (by simp)) (fun b o _ e n=>u.free b o e n (by simp)) (fun b o _ e=>u.there b o e (by simp)) u.tups u.frzs u.tbls (fun m' hm=>by
  obtain ⟨o',es',ep',ho',r'⟩:=hm
  rw [ho] at ho';cases ho'
  exact ⟨_,es',ep',hL,r'⟩) hok I.bare
theorem Inv.call {g':Array GenState} {t':Nat} {d':Drawn} {ch:List Addr} (I:Inv X pins σ H s) (u:Un (frs X.stack) ch H H' s.heap h') (hok:HOk X.prog X.w H' h') (hg:AllBare g')
  (hch:∀ b∈ch,(b∈X.ex\/X.s₀.heap.objs.size<=b)/\b≠X.env.locals/\(∀ x c,X.env.cells.lookup x=some c->c≠b)/\∀ p∈X.pn++pins,p.1≠b) :
  Inv X pins σ H' { s with heap:=h',gens:=g',drawn:=d',toks:=t' }:=by
 obtain ⟨m,⟨o,es,ep,ho,r⟩,_⟩:=id I.loc
 obtain ⟨sl,hL⟩:=u.any ho I.free fun z=>(hch _ z).2.1 rfl
 exact I.step (ch:=ch) hch (fun b o hL hb hc e n=>u.keep b o e n (fun z=>(List.mem_cons.mp (I.stkSub b z)).elim hL hb) hc) (fun b o _ _ hc e n=>u.any e n hc) (fun b o hc e n=>u.free b o e n hc) (fun b o hc e=>u.there b o e hc) u.tups u.frzs u.tbls (fun m' hm=>by
  obtain ⟨o',es',ep',ho',r'⟩:=hm
  rw [ho] at ho';cases ho'
  exact ⟨_,es',ep',hL,r'⟩) hok hg
theorem Inv.turned {t':Nat} {it:Addr} (I:Inv X pins σ H s) (k:∀ b o,b≠it->s.heap.get? b=some o->h'.get? b=some o) (hn:H it=none) (hL:it≠X.env.locals)
  (h1:it∈X.ex\/X.s₀.heap.objs.size<=it) (h2:∀ x c,X.env.cells.lookup x=some c->c≠it) (h3:∀ p∈X.pn++pins,p.1≠it):Inv X pins σ H { s with heap:=h',toks:=t' }:=by
 have nit:∀ b u,H b=some u->b≠it:=fun b u e z=>by rw [z,hn] at e;cases e
 refine I.step (g':=s.gens) (d':=s.drawn) (ch:=[it]) (fun b hb=>?_) (fun b o _ _ hc e _=>k b o (fun z=>hc (by simp [z])) e) (fun b o _ _ hc e _=>⟨o.slots,k b o (fun z=>hc (by simp [z])) e⟩) (fun _ _ _ _ n=>n)
  (fun b o hc e=>⟨o,k b o (fun z=>hc (by simp [z])) e⟩) (fun _ _ e=>e) (fun _ _ _ e=>e) (fun b ps e=>⟨#[],by rw [e];simp⟩) (fun m hm=>?_) (fun b u e=>?_) I.bare
 ·have e:b=it:=by simpa using hb
  subst e
  exact ⟨h1,hL,h2,h3⟩
 ·obtain ⟨o,es,ep,ho,r⟩:=hm
  exact ⟨o,es,ep,k _ o (Ne.symm hL) ho,r⟩
 ·refine (I.hok b u e).stay (fun c v hc q=>k c v ?_ q) (fun _ q=>q) fun _ _ q=>q
  rcases hc with z | z
  ·rw [z];exact nit b u e
  ·exact nit c _ z
theorem Inv.tok (I:Inv X pins σ H s) (t:Nat):Inv X pins σ H { s with toks:=t }:=I.un (h':=s.heap) (t':=t) Un.refl I.hok
theorem Inv.kept {t':Nat} (I:Inv X pins σ H s) (k:∀ b u,s.heap.get? b=some u->h'.get? b=some u):Inv X pins σ H { s with heap:=h',toks:=t' }:=I.un (Un.kept k) (I.hok.kept k)
theorem Inv.laid {a:Addr} {o:HO} {t':Nat} (I:Inv X pins σ H s) (k:∀ b u,s.heap.get? b=some u->h'.get? b=some u) (hp:s.heap.objs.size<=a) (new:ObjOk X.prog X.w (upd H a o) h' a o) :
  Inv X pins σ (upd H a o) { s with heap:=h',toks:=t' }:=I.un (Un.laid k hp (I.hok.fresh hp)) (I.hok.laid k hp new)
theorem Inv.write {x e:Addr} {o:HO} {t':Nat} (I:Inv X pins σ H s) (mu:Mut (H x)) (he:e=x\/H e=some (.own x)) (k:∀ b u,b≠e->s.heap.get? b=some u->h'.get? b=some u) (heo:∃ u,h'.get? e=some u)
  (new:ObjOk X.prog X.w (upd H x o) h' x o):Inv X pins σ (upd H x o) { s with heap:=h',toks:=t' }:=I.un (Un.write mu he k heo) (I.hok.write mu he k heo new)
theorem Inv.pins_of {pins':List (Addr×Obj)} (I:Inv X pins σ H s) (h:∀ p∈pins',s.heap.get? p.1=some p.2/\H p.1=none/\p.1≠X.env.locals/\p.1∉X.fs/\∀ v,p.2.data≠.cell v):Inv X pins' σ H s :=
 ⟨I.ok,I.os,I.bare,I.base,I.loc,I.cell,I.free,I.freeC,fun p hp=>(List.mem_append.mp hp).elim (fun z=>I.pin p (ll9 _ z)) (h p),I.hok,I.len⟩
theorem kqq {N:List Str} (hN:N.Nodup) {i j:Nat} {x:Str} (a:N[i]?=some x) (b:N[j]?=some x):i=j:=by
 obtain ⟨h1,e1⟩:=List.getElem?_eq_some_iff.mp a
 obtain ⟨h2,e2⟩:=List.getElem?_eq_some_iff.mp b
 exact (List.getElem_inj hN).mp (e1.trans e2.symm)
theorem qkk {M:Model} {A:Around} {E:Value->Shared->Prop} {i:Nat} {x:Str} {v:V} {u:Value} {Q:Unit->Shared->Prop} (I:Inv X pins σ H s) (hN:X.N.Nodup) (hi:X.N[i]?=some x) (hx:Loc X.env.scope x) (r:RelV v u)
  (h:∀ s',Inv X pins (σ.set i (some v)) H s'->(∃ a,Heap.SameBut a s.heap s'.heap/\(a=X.env.locals\/X.env.cells.lookup x=some a))->Q () s') (hf:X.fn x=true\/X.env.scope.names.lookup x=some .local:=by first | exact .inl rfl | exact .inr rfl | assumption):wpAny M A (storeName X.env x u) Q E s:=by
 obtain ⟨m,hn,hl⟩:=id I.loc
 have hcls:(X.env.scope.kind == .class || (X.env.scope.kind == .module && X.env.locals != X.env.globals))=false:=by rw [I.ok.kind];rfl
 have hiσ:i < σ.length:=by rw [I.len];exact (List.getElem?_eq_some_iff.mp hi).1
 have cne:=I.cne
 have tracked:∀ {a:Addr} {h':Heap},(∃ o,s.heap.get? a=some o/\H a=none)->Heap.SameBut a s.heap h'->HOk X.prog X.w H h':=fun {a h'} ha hs b ob e=>by
  obtain ⟨_,_,hfree⟩:=ha
  refine (I.hok b ob e).stay (fun c w' hc q=>(hs.2 c ?_).trans q) (fun _ q=>q) fun _ _ q=>q
  rintro rfl
  rcases hc with rfl | hc
  ·rw [hfree] at e;cases e
  ·rw [hfree] at hc;cases hc
 rcases hx with hk | hk
 ·refine wpAny_storeName_local hk hn (fun h' hn' hs=>?_) hcls
  obtain ⟨oL,_,_,hoL,_⟩:=id hn
  refine h _ ⟨I.ok,I.os,I.bare,⟨fun b o e n hb hx=>?_,fun b o e n hb hx=>?_,I.base.free,fun b o e hx=>?_,I.base.tups,I.base.frzs,I.base.tbls⟩,⟨_,hn',fun j y v' e1 e2 e3=>?_⟩,fun y c e=>?_,I.free,I.freeC,fun p hp=>?_,tracked ⟨oL,hoL,I.free⟩ hs,by simpa using I.len⟩ ⟨_,hs,.inl rfl⟩
  ·exact (hs.2 b (Nat.ne_of_lt (Nat.lt_of_lt_of_le (Heap.lt_size e) I.ok.above))).trans (I.base.keep b o e n hb hx)
  ·obtain ⟨sl,e1⟩:=I.base.slot b o e n hb hx
   exact ⟨sl,(hs.2 b (Nat.ne_of_lt (Nat.lt_of_lt_of_le (Heap.lt_size e) I.ok.above))).trans e1⟩
  ·obtain ⟨o',e1⟩:=I.base.there b o e hx
   exact ⟨o',(hs.2 b (Nat.ne_of_lt (Nat.lt_of_lt_of_le (Heap.lt_size e) I.ok.above))).trans e1⟩
  ·by_cases hj:j=i
   ·subst hj
    rw [hi] at e1;cases e1
    rw [List.getElem?_set_self hiσ] at e2
    cases e2
    exact ⟨u,r,.inl ⟨hk,by simp⟩⟩
   ·rw [List.getElem?_set_ne (Ne.symm hj)] at e2
    obtain ⟨u',r',q⟩:=hl j y v' e1 e2 e3
    refine ⟨u',r',?_⟩
    rcases q with ⟨k,e⟩ | ⟨k,c,e,z⟩
    ·refine .inl ⟨k,?_⟩
     have:y≠x:=fun e=>hj (kqq hN e1 (e▸hi))
     simp [this,e]
    ·exact .inr ⟨k,c,e,z.sameBut hs (cne y c e)⟩
  ·obtain ⟨w',z⟩:=I.cell y c e
   exact ⟨w',z.sameBut hs (cne y c e)⟩
  ·obtain ⟨e,n,ne,nf,d⟩:=I.pin p hp
   exact ⟨(hs.2 p.1 ne).trans e,n,ne,nf,d⟩
 ·have hfn:X.fn x=true:=by
   rcases hf with z | z
   ·exact z
   ·rw [z] at hk;cases hk
  obtain ⟨c,hc⟩:=I.ok.has x (.inl hk)
  obtain ⟨w',z⟩:=I.cell x c hc
  refine wpAny_storeName_cell I.ok.kind hk hc z (fun h' hc' hs=>?_)
  obtain ⟨oc,hoc,hocd⟩:=id z
  refine h { s with heap:=h' } ⟨I.ok,I.os,I.bare,⟨fun b o e n hb hx=>?_,fun b o e n hb hx=>?_,I.base.free,fun b o e hx=>?_,I.base.tups,I.base.frzs,I.base.tbls⟩,⟨m,hn.sameBut hs (Ne.symm (cne x c hc)),fun j y v' e1 e2 e3=>?_⟩,fun y c' e=>?_,I.free,I.freeC,fun p hp=>?_,tracked ⟨oc,hoc,I.freeC x c hc⟩ hs,by simpa using I.len⟩ ⟨c,hs,.inr hc⟩
  ·exact (hs.2 b (Nat.ne_of_lt (Nat.lt_of_lt_of_le (Heap.lt_size e) (I.ok.cab x c hfn hc)))).trans (I.base.keep b o e n hb hx)
  ·obtain ⟨sl,e1⟩:=I.base.slot b o e n hb hx
   exact ⟨sl,(hs.2 b (Nat.ne_of_lt (Nat.lt_of_lt_of_le (Heap.lt_size e) (I.ok.cab x c hfn hc)))).trans e1⟩
  ·obtain ⟨o',e1⟩:=I.base.there b o e hx
   exact ⟨o',(hs.2 b (Nat.ne_of_lt (Nat.lt_of_lt_of_le (Heap.lt_size e) (I.ok.cab x c hfn hc)))).trans e1⟩
  ·by_cases hj:j=i
   ·subst hj
    rw [hi] at e1;cases e1
    rw [List.getElem?_set_self hiσ] at e2
    cases e2
    exact ⟨u,r,.inr ⟨.inl hk,c,hc,hc'⟩⟩
   ·rw [List.getElem?_set_ne (Ne.symm hj)] at e2
    obtain ⟨u',r',q⟩:=hl j y v' e1 e2 e3
    refine ⟨u',r',?_⟩
    rcases q with q | ⟨k,c',e,z'⟩
    ·exact .inl q
    ·refine .inr ⟨k,c',e,z'.sameBut hs ?_⟩
     rintro rfl
     exact hj (kqq hN e1 (I.ok.inj _ _ _ e hc▸hi))
  ·by_cases hcc:c'=c
   ·subst hcc;exact ⟨_,hc'⟩
   ·obtain ⟨w2,z2⟩:=I.cell y c' e
    exact ⟨w2,z2.sameBut hs hcc⟩
  ·obtain ⟨e,n,ne,nf,d⟩:=I.pin p hp
   refine ⟨(hs.2 p.1 ?_).trans e,n,ne,nf,d⟩
   intro q
   rw [q,hoc] at e
   have q':oc=p.2:=oq9 e
   exact d w' (by rw [<- q'];exact hocd)
theorem jx2 {M:Model} {A:Around} {E:Value->Shared->Prop} {i:Nat} {x:Str} {v:V} {u:Value} {Q:Unit->Shared->Prop} (I:Inv X pins σ H s) (hN:X.N.Nodup) (hi:X.N[i]?=some x) (hx:Loc X.env.scope x) (r:RelV v u)
  (h:∀ s',Inv X pins (σ.set i (some v)) H s'->Q () s') (hf:X.fn x=true\/X.env.scope.names.lookup x=some .local:=by first | exact .inl rfl | exact .inr rfl | assumption):wpAny M A (storeName X.env x u) Q E s :=
 qkk I hN hi hx r (fun s' I' _=>h s' I') hf
theorem Inv.call' {s':Shared} {ch:List Addr} (I:Inv X pins σ H s) (ho:s'.os=s.os) (u:Un (frs X.stack) ch H H' s.heap s'.heap) (hok:HOk X.prog X.w H' s'.heap) (hg:AllBare s'.gens)
  (hch:∀ b∈ch,(b∈X.ex\/X.s₀.heap.objs.size<=b)/\b≠X.env.locals/\(∀ x c,X.env.cells.lookup x=some c->c≠b)/\∀ p∈X.pn++pins,p.1≠b):Inv X pins σ H' s':=by
 obtain ⟨h',g',d',t',o'⟩:=s'
 have e:o'=s.os:=ho
 subst e
 exact I.call (g':=g') (t':=t') (d':=d') u hok hg hch
end
abbrev XK:=Value->Option Addr->Hp->Prop
abbrev St:=List (Option V)
abbrev VK:=V->Hp->Prop
abbrev TE:=St->Hp->VK->Prop
abbrev TT:=St->Hp->(Bool->Hp->Prop)->Prop
abbrev TA:=St->Hp->(List V->Hp->Prop)->Prop
structure Ends where
 nx:St->Hp->Prop
 rt:VK
 bk:St->Hp->Prop:=fun _ _=>False
 ct:St->Hp->Prop:=fun _ _=>False
abbrev TS:=Ends->St->Hp->Prop
def EP (X:Cx) (pins:List (Addr×Obj)) (σ:St) (Q:VK) (u:Value) (s':Shared):Prop:=∃ v H',Inv X pins σ H' s'/\RelV v u/\Q v H'
def TP (X:Cx) (pins:List (Addr×Obj)) (σ:St) (Q:Bool->Hp->Prop) (b:Bool) (s':Shared):Prop:=∃ H',Inv X pins σ H' s'/\Q b H'
def AP (X:Cx) (pins:List (Addr×Obj)) (σ:St) (Q:List V->Hp->Prop) (us:List Value) (s':Shared):Prop:=∃ vs H',Inv X pins σ H' s'/\Vals vs us/\Q vs H'
def SP (X:Cx) (pins:List (Addr×Obj)) (D:Ends) (f:Flow) (s':Shared):Prop :=
 match f with
 | .next=>∃ σ' H',Inv X pins σ' H' s'/\D.nx σ' H'
 | .brk=>∃ σ' H',Inv X pins σ' H' s'/\D.bk σ' H'
 | .cont=>∃ σ' H',Inv X pins σ' H' s'/\D.ct σ' H'
 | .ret u=>∃ v σ' H',Inv X pins σ' H' s'/\RelV v u/\D.rt v H'
def PE (X:Cx) (e:Expr) (t:TE):Prop :=
 ∀ (pins:List (Addr×Obj)) (s:Shared) (σ:St) (H:Hp) (Q:VK),Inv X pins σ H s->t σ H Q->wpAny (model X.prog X.w) X.A (eval e X.env) (EP X pins σ Q) X.xe s
def PT (X:Cx) (e:Expr) (t:TT):Prop :=
 ∀ (pins:List (Addr×Obj)) (s:Shared) (σ:St) (H:Hp) (Q:Bool->Hp->Prop),Inv X pins σ H s->t σ H Q->wpAny (model X.prog X.w) X.A (isTrue e X.env (eval e X.env)) (TP X pins σ Q) X.xe s
def PW (X:Cx) (e:Expr) (t:TT):Prop :=
 ∀ (whole:Sem Value) (pins:List (Addr×Obj)) (s:Shared) (σ:St) (H:Hp) (Q:Bool->Hp->Prop),Inv X pins σ H s->t σ H Q->wpAny (model X.prog X.w) X.A (isTrue e X.env whole) (TP X pins σ Q) X.xe s
theorem PW.pt {X:Cx} {e:Expr} {t:TT} (h:PW X e t):PT X e t:=h _
def PA (X:Cx) (es:List Expr) (t:TA):Prop :=
 ∀ (pos:Pos) (pins:List (Addr×Obj)) (s:Shared) (σ:St) (H:Hp) (Q:List V->Hp->Prop),Inv X pins σ H s->t σ H Q->wpAny (model X.prog X.w) X.A (spliced (backTo pos (starEach es X.env))) (AP X pins σ Q) X.xe s
def PS (X:Cx) (st:Stmt) (t:TS):Prop :=
 ∀ (pins:List (Addr×Obj)) (s:Shared) (σ:St) (H:Hp) (D:Ends),Inv X pins σ H s->t D σ H->wpAny (model X.prog X.w) X.A (exec st X.env) (SP X pins D) X.xe s
def PSs (X:Cx) (st:List Stmt) (t:TS):Prop :=
 ∀ (pins:List (Addr×Obj)) (s:Shared) (σ:St) (H:Hp) (D:Ends),Inv X pins σ H s->t D σ H->wpAny (model X.prog X.w) X.A (execs st X.env) (SP X pins D) X.xe s
theorem thn {α:Type} {t:Sem α} {Q Q':α->Shared->Prop} {M:Model} {A:Around} {E:Value->Shared->Prop} {s:Shared} (h:wpAny M A t Q E s) (hQ:∀ a s,Q a s->Q' a s):wpAny M A t Q' E s:=wpAny_mono h hQ fun _ _ x=>x
end L2
namespace L2
open PySem PySem.Spec PyProof.Rows
section
variable {X:Cx}
abbrev qzc (i:Nat):TE:=fun σ H Q=>∃ v,σ[i]?=some (some v)/\Q v H
abbrev tC (v:V):TE:=fun _ H Q=>Q v H
theorem vwr {i:Nat} {x:Str} {pos:Pos} (hN:X.N[i]?=some x) (hv:Vis X.env.scope x) (hd:(x == ("__debug__":Str))=false:=by decide) (hcd:(x == ("__classdict__":Str))=false:=by decide):PE X (.Name x pos) (qzc i):=by
 intro pins s σ H Q I h
 obtain ⟨v,e,h⟩:=h
 obtain ⟨m,hn,hl⟩:=I.loc
 obtain ⟨u,r,l⟩:=hl i x v hN e hv
 have fin:EP X pins σ Q u s:=⟨v,H,I,r,h⟩
 rcases l with ⟨hk,hm⟩ | ⟨hk,c,hc,hcell⟩
 ·exact wpAny_Name (wpAny_loadName_local I.ok.kind hk hn hm fin) hd
 ·rcases hk with hk | hk
  ·exact wpAny_Name (wpAny_loadName_cell I.ok.kind hk hc hcell fin) hd
  ·exact wpAny_Name (wpAny_loadName_free I.ok.kind hk hc hcell fin hcd) hd
theorem jj3 {i j pos}:PE X (.Constant (.int i) j pos) (tC (.int i)):=fun _ _ _ H _ I h=>wpAny_Constant_int ⟨.int i,H,I.tok _,⟨_,rfl⟩,h⟩
theorem qxg {b j pos}:PE X (.Constant (.bool b) j pos) (tC (.bl b)):=fun _ _ _ H _ I h=>Constant_bool ⟨.bl b,H,I,rfl,h⟩
theorem jq6 {j pos}:PE X (.Constant .none j pos) (tC .non):=fun _ _ _ H _ I h=>Constant_none ⟨.non,H,I,rfl,h⟩
theorem jwo {x j pos}:PE X (.Constant (.str x) j pos) (tC (.str x)):=fun _ _ _ H _ I h=>Calls.Constant_str ⟨.str x,H,I.tok _,⟨_,rfl⟩,h⟩
def Gl (X:Cx) (x:Str):Prop:=X.env.kindOf x=some .globalImplicit
theorem jxd {E:Value->Shared->Prop} {pins:List (Addr×Obj)} {s:Shared} {σ:St} {H:Hp} {x:Str} {u:Value} {pos:Pos} {Q:Value->Shared->Prop} (I:Inv X pins σ H s) (hg:Gl X x) (hm:X.mg x=some u) (h:Q u s)
  (hd:(x == ("__debug__":Str))=false:=by decide):wpAny (model X.prog X.w) X.A (eval (.Name x pos) X.env) Q E s :=
 Calls.Name_function_global I.ok.kind hg (Calls.loadGlobal_global (by rw [I.ok.glob];exact I.mod.glob.keeps I.bk) hm h) hd
theorem jzr {E:Value->Shared->Prop} {pins:List (Addr×Obj)} {s:Shared} {σ:St} {H:Hp} {x:Str} {u:Value} {pos:Pos} {Q:Value->Shared->Prop} (I:Inv X pins σ H s) (hg:Gl X x) (hm:X.mg x=none) (hv:bootBuiltins x=some u) (h:Q u s)
  (hn:x≠"__name__":=by decide) (hd:(x == ("__debug__":Str))=false:=by decide):wpAny (model X.prog X.w) X.A (eval (.Name x pos) X.env) Q E s:=by
 obtain ⟨mb,h1,h2⟩:=I.mod.blt
 exact Calls.Name_function_global I.ok.kind hg (Calls.loadGlobal_builtin (by rw [I.ok.glob];exact I.mod.glob.keeps I.bk) hm (by rw [I.ok.blt];exact h1.keeps I.bk) ((h2 x hn).trans hv) h) hd
theorem vkk {x:Str} {v:V} {u:Value} {pos:Pos} (hg:Gl X x) (hm:X.mg x=some u) (r:RelV v u) (hd:(x == ("__debug__":Str))=false:=by decide):PE X (.Name x pos) (tC v) :=
 fun _ _ _ H _ I h=>jxd I hg hm ⟨v,H,I,r,h⟩ hd
theorem qqe {x:Str} {v:V} {u:Value} {pos:Pos} (hg:Gl X x) (hm:X.mg x=none) (hv:bootBuiltins x=some u) (r:RelV v u) (hn:x≠"__name__":=by decide) (hd:(x == ("__debug__":Str))=false:=by decide):PE X (.Name x pos) (tC v) :=
 fun _ _ _ H _ I h=>jzr I hg hm hv ⟨v,H,I,r,h⟩ hn hd
variable {a b:Expr} {ta tb:TE} {pos:Pos}
variable {tA tB':TT} {rest:List Expr}
abbrev tAnd (t u:TT):TT:=fun σ H Q=>t σ H fun c H1=>if c=true then u σ H1 Q else Q false H1
abbrev tOr (t u:TT):TT:=fun σ H Q=>t σ H fun c H1=>if c=true then Q true H1 else u σ H1 Q
abbrev tNot (t:TT):TT:=fun σ H Q=>t σ H fun c H1=>Q (!c) H1
theorem vk3 (ha:PT X a tA):PW X (.BoolOp .And [a] pos) tA:=by
 intro wh pins s σ H Q I h
 refine isTrue_and (thn (ha pins s σ H Q I h) fun c s1 e=>?_)
 cases c with
 | true=>exact isTrue_and_nil e
 | false=>exact e
theorem vwg (ha:PT X a tA):PW X (.BoolOp .Or [a] pos) tA:=by
 intro wh pins s σ H Q I h
 refine isTrue_or (thn (ha pins s σ H Q I h) fun c s1 e=>?_)
 cases c with
 | false=>exact isTrue_or_nil e
 | true=>exact e
theorem vwh (ha:PT X a tA) (hb:PW X (.BoolOp .And (b :: rest) pos) tB'):PW X (.BoolOp .And (a :: b :: rest) pos) (tAnd tA tB'):=by
 intro wh pins s σ H Q I h
 refine isTrue_and (thn (ha pins s σ H _ I h) fun c s1 ⟨H1,I1,q1⟩=>?_)
 cases c with
 | true=>exact hb wh pins s1 σ H1 Q I1 q1
 | false=>exact ⟨H1,I1,q1⟩
theorem wj9 (ha:PT X a tA) (hb:PW X (.BoolOp .Or (b :: rest) pos) tB'):PW X (.BoolOp .Or (a :: b :: rest) pos) (tOr tA tB'):=by
 intro wh pins s σ H Q I h
 refine isTrue_or (thn (ha pins s σ H _ I h) fun c s1 ⟨H1,I1,q1⟩=>?_)
 cases c with
 | true=>exact ⟨H1,I1,q1⟩
 | false=>exact hb wh pins s1 σ H1 Q I1 q1
theorem vwi (ha:PT X a tA):PT X (.UnaryOp .Not a pos) (tNot tA):=by
 intro pins s σ H Q I h
 exact isTrue_not (ha pins s σ H (fun c H1=>Q (!c) H1) I h)
abbrev vzs (ta tb:TE):TE:=fun σ H Q=>ta σ H fun x H1=>∃ c,x=.bl c/\if c=true then tb σ H1 Q else Q (.bl false) H1
abbrev tOrV (ta tb:TE):TE:=fun σ H Q=>ta σ H fun x H1=>∃ c,x=.bl c/\if c=true then Q (.bl true) H1 else tb σ H1 Q
theorem vwt {op} {t:TE} (h:PE X a t):PE X (.BoolOp op [a] pos) t:=fun pins s σ H Q I hw=>BoolOp_one (h pins s σ H Q I hw)
theorem vwx (ha:PE X a ta) (hb:PE X (.BoolOp .And (b :: rest) pos) tb):PE X (.BoolOp .And (a :: b :: rest) pos) (vzs ta tb):=by
 intro pins s σ H Q I h
 refine BoolOp_and (thn (ha pins s σ H _ I h) fun v s1 ⟨x,H1,I1,r1,q1⟩=>?_)
 obtain ⟨c,rfl,q1⟩:=q1
 cases r1
 refine wpAny_truthy_bool ?_
 cases c with
 | true=>exact hb pins s1 σ H1 Q I1 q1
 | false=>exact ⟨.bl false,H1,I1,rfl,q1⟩
theorem wje (ha:PE X a ta) (hb:PE X (.BoolOp .Or (b :: rest) pos) tb):PE X (.BoolOp .Or (a :: b :: rest) pos) (tOrV ta tb):=by
 intro pins s σ H Q I h
 refine BoolOp_or (thn (ha pins s σ H _ I h) fun v s1 ⟨x,H1,I1,r1,q1⟩=>?_)
 obtain ⟨c,rfl,q1⟩:=q1
 cases r1
 refine wpAny_truthy_bool ?_
 cases c with
 | false=>exact hb pins s1 σ H1 Q I1 q1
 | true=>exact ⟨.bl true,H1,I1,rfl,q1⟩
abbrev tIf (t:TT) (ta tb:TE):TE:=fun σ H Q=>t σ H fun c H1=>if c=true then ta σ H1 Q else tb σ H1 Q
theorem qxf {c:Expr} (hc:PT X c tA) (ha:PE X a ta) (hb:PE X b tb):PE X (.IfExp c a b pos) (tIf tA ta tb):=by
 intro pins s σ H Q I h
 refine wpAny_IfExp (thn (hc pins s σ H _ I h) fun d s1 ⟨H1,I1,q1⟩=>?_)
 cases d with
 | true=>exact ha pins s1 σ H1 Q I1 q1
 | false=>exact hb pins s1 σ H1 Q I1 q1
end
end L2
namespace L2
open PySem PySem.Spec PyProof.Rows
def SqL (K:PySem.W.Frag) (H:Hp) (a:Addr) (xs:List V):Prop :=
 Rd H a (.lst xs) \/
  ∃ (o:Obj) (its:Array Value) (n:Nat),K.lookup a=some o/\o.cls=.type "list"/\o.dict=none/\o.data=.seq its n/\its.size<=sizeLine/\Vals xs its.toList
def SqT (K:PySem.W.Frag) (H:Hp) (a:Addr) (xs:List V):Prop :=
 Rd H a (.tup xs) \/
  ∃ (o:Obj) (its:Array Value) (n:Nat),K.lookup a=some o/\o.cls=.type "tuple"/\o.dict=none/\o.data=.seq its n/\its.size<=sizeLine/\Vals xs its.toList
def absV:Value->Option V
 | .none=>some .non
 | .bool b=>some (.bl b)
 | .int i _=>some (.int i)
 | .str x _=>some (.str x)
 | .bytes b _=>some (.byt b)
 | .float b _=>some (.flt b)
 | .ref a=>some (.ref a)
 | .type n=>some (.ty n)
 | _=>none
theorem RelV.abs {x:V} {u:Value} (r:RelV x u):absV u=some x:=by
 cases x with
 | non=>cases r;rfl
 | bl _=>cases r;rfl
 | int _=>obtain ⟨t,rfl⟩:=r;rfl
 | str _=>obtain ⟨t,rfl⟩:=r;rfl
 | byt _=>obtain ⟨t,rfl⟩:=r;rfl
 | flt _=>obtain ⟨t,rfl⟩:=r;rfl
 | ref _=>cases r;rfl
 | ty _=>cases r;rfl
theorem RelV.inj {x y:V} {u:Value} (r:RelV x u) (q:RelV y u):x=y:=oq9 (r.abs.symm.trans q.abs)
theorem Vals.inj:∀ {xs ys:List V} {us:List Value},Vals xs us->Vals ys us->xs=ys
 | _,_,_,.nil,.nil=>rfl
 | _,_,_,.cons r t,.cons r' t'=>by rw [r.inj r',Vals.inj t t']
section
variable {X:Cx} {pins:List (Addr×Obj)} {σ:St} {H:Hp} {s:Shared} {a:Addr} {xs ys:List V}
theorem SqL.of {K:PySem.W.Frag} (h:H a=some (.lst xs)):SqL K H a xs:=.inl (.inl h)
theorem SqT.of {K:PySem.W.Frag} (h:H a=some (.tup xs)):SqT K H a xs:=.inl (.inl h)
theorem Inv.list (I:Inv X pins σ H s) (h:SqL X.K H a xs):∃ its:List Value,Vals xs its/\PlainL s.heap a its.toArray/\xs.length<=sizeLine:=by
 rcases h with h | ⟨o,its,n,hk,hc,hd,hs,hz,r⟩
 ·obtain ⟨z,its,n,r,e⟩:=h.ok I.hok
  exact ⟨its,r,⟨_,n,e,rfl,rfl,rfl⟩,z⟩
 ·refine ⟨its.toList,r,⟨o,n,I.kIn a o hk,hc,hd,by simpa using hs⟩,?_⟩
  have e:=r.length
  simp only [Array.length_toList] at e
  omega
theorem Inv.tuple (I:Inv X pins σ H s) (h:SqT X.K H a xs):∃ its:List Value,Vals xs its/\IsTup s.heap a its.toArray/\xs.length<=sizeLine:=by
 rcases h with h | ⟨o,its,n,hk,hc,_,hs,hz,r⟩
 ·obtain ⟨z,its,r,p⟩:=h.ok I.hok
  exact ⟨its,r,p.tup,z⟩
 ·refine ⟨its.toList,r,⟨o,I.kIn a o hk,hc,n,by simpa using hs⟩,?_⟩
  have e:=r.length
  simp only [Array.length_toList] at e
  omega
theorem Inv.tupleD (I:Inv X pins σ H s) (h:SqT X.K H a xs):∃ o,s.heap.get? a=some o/\o.dict=none:=by
 rcases h with h | ⟨o,its,n,hk,hc,hd,hs,hz,r⟩
 ·obtain ⟨z,its,r,o,e,_,d,_⟩:=h.ok I.hok
  exact ⟨o,e,d⟩
 ·exact ⟨o,I.kIn a o hk,hd⟩
theorem Inv.list_inj (I:Inv X pins σ H s) (h:SqL X.K H a xs) (h':SqL X.K H a ys):xs=ys:=by
 obtain ⟨its,r,⟨o,n,e,_,_,d⟩,_⟩:=I.list h
 obtain ⟨its',r',⟨o',n',e',_,_,d'⟩,_⟩:=I.list h'
 rw [e] at e';cases e'
 rw [d] at d'
 injection d' with d1 _
 have:its=its':=by simpa using congrArg Array.toList d1
 subst this
 exact r.inj r'
theorem Inv.tuple_inj (I:Inv X pins σ H s) (h:SqT X.K H a xs) (h':SqT X.K H a ys):xs=ys:=by
 obtain ⟨its,r,⟨o,e,_,n,d⟩,_⟩:=I.tuple h
 obtain ⟨its',r',⟨o',e',_,n',d'⟩,_⟩:=I.tuple h'
 rw [e] at e';cases e'
 rw [d] at d'
 injection d' with d1 _
 have:its=its':=by simpa using congrArg Array.toList d1
 subst this
 exact r.inj r'
end
abbrev Cx.wish (X:Cx) (E:Value->Shared->Prop):Cx:={ X with xe:=E }
abbrev Cx.nox (X:Cx):Cx:=X.wish fun _ _=>False
theorem Cx.Ok.wish {X:Cx} (ok:X.Ok) (E:Value->Shared->Prop):(X.wish E).Ok :=
 ⟨ok.mod,ok.kind,ok.glob,ok.blt,ok.above,ok.inj,ok.has,ok.cab,ok.hd,ok.frames,ok.stk,ok.exf,ok.bs,ok.bsz,ok.noex,ok.exfs,ok.funs,ok.frf⟩
theorem Cx.Ok.unwish {X:Cx} {E:Value->Shared->Prop} (ok:(X.wish E).Ok):X.Ok :=
 ⟨ok.mod,ok.kind,ok.glob,ok.blt,ok.above,ok.inj,ok.has,ok.cab,ok.hd,ok.frames,ok.stk,ok.exf,ok.bs,ok.bsz,ok.noex,ok.exfs,ok.funs,ok.frf⟩
section
variable {X:Cx} {pins:List (Addr×Obj)} {σ:St} {H:Hp} {s:Shared} {E:Value->Shared->Prop}
theorem Inv.wish (I:Inv X pins σ H s) (E:Value->Shared->Prop):Inv (X.wish E) pins σ H s:=⟨I.ok.wish E,I.os,I.bare,I.base,I.loc,I.cell,I.free,I.freeC,I.pin,I.hok,I.len⟩
theorem Inv.unwish (I:Inv (X.wish E) pins σ H s):Inv X pins σ H s:=⟨I.ok.unwish,I.os,I.bare,I.base,I.loc,I.cell,I.free,I.freeC,I.pin,I.hok,I.len⟩
theorem SP.unwish {D:Ends} {f:Flow} {s':Shared} (h:SP (X.wish E) pins D f s'):SP X pins D f s':=by
 cases f with
 | next=>obtain ⟨σ',H',I,q⟩:=h;exact ⟨σ',H',I.unwish,q⟩
 | brk=>obtain ⟨σ',H',I,q⟩:=h;exact ⟨σ',H',I.unwish,q⟩
 | cont=>obtain ⟨σ',H',I,q⟩:=h;exact ⟨σ',H',I.unwish,q⟩
 | ret u=>obtain ⟨v,σ',H',I,r,q⟩:=h;exact ⟨v,σ',H',I.unwish,r,q⟩
end
section
variable {X:Cx} {st:Stmt} {rest:List Stmt} {t u:TS} {e:Expr} {te:TE} {pos:Pos}
abbrev vzo:TS:=fun D σ H=>D.nx σ H
abbrev tSeq (t u:TS):TS:=fun D σ H=>t { D with nx:=u D } σ H
theorem vka:PSs X [] vzo:=fun _ _ σ H _ I h=>wpAny_execs_nil ⟨σ,H,I,h⟩
theorem qx7 (h1:PS X st t) (h2:PSs X rest u):PSs X (st :: rest) (tSeq t u):=by
 intro pins s σ H D I h
 refine wpAny_execs_cons (thn (h1 pins s σ H { D with nx:=u D } I h) fun f s1 q=>?_)
 cases f with
 | next =>
  obtain ⟨σ',H',I',q⟩:=q
  exact h2 pins s1 σ' H' D I' q
 | ret v=>exact q
 | brk=>exact q
 | cont=>exact q
theorem vk9 (h1:PS X st t):PSs X [st] t:=by
 intro pins s σ H D I h
 refine wpAny_execs_cons (thn (h1 pins s σ H D I h) fun f s1 q=>?_)
 cases f with
 | next=>exact wpAny_execs_nil q
 | ret v=>exact q
 | brk=>exact q
 | cont=>exact q
abbrev vzq:TS:=fun D σ H=>D.ct σ H
theorem kx4:PS X (.Continue pos) vzq:=fun _ _ σ H _ I h=>wpAny_Continue ⟨σ,H,I,h⟩
theorem Inv.quiet {pins:List (Addr×Obj)} {σ:St} {H:Hp} {s:Shared} (I:Inv X pins σ H s):interactive X.env=false:=by simp [interactive,I.ok.kind]
abbrev vvk (te:TE):TS:=fun D σ H=>te σ H fun _ H1=>D.nx σ H1
theorem vkd (he:PE X e te) (hs:swapsWith e none pos.line X.env=pure false:=by rfl):PS X (.Expr e pos) (vvk te):=by
 intro pins s σ H D I h
 exact wpAny_Expr_any (thn (he pins s σ H _ I h) fun v s1 ⟨x,H1,I1,r1,q1⟩=>⟨σ,H1,I1,q1⟩) I.quiet hs
abbrev tRet (te:TE):TS:=fun D σ H=>te σ H D.rt
theorem vwk (he:PE X e te):PS X (.Return (some e) pos) (tRet te):=by
 intro pins s σ H D I h
 exact wpAny_Return_some (thn (he pins s σ H _ I h) fun v s1 ⟨x,H1,I1,r1,q1⟩=>⟨x,σ,H1,I1,r1,q1⟩)
abbrev tIfS (c:TT) (t u:TS):TS:=fun D σ H=>c σ H fun b H1=>if b=true then t D σ H1 else u D σ H1
theorem wja {c:Expr} {a b:List Stmt} {tc:TT} (hc:PT X c tc) (ha:PSs X a t) (hb:PSs X b u):PS X (.If c a b pos) (tIfS tc t u):=by
 intro pins s σ H D I h
 refine wpAny_If (thn (hc pins s σ H _ I h) fun d s1 ⟨H1,I1,q1⟩=>?_)
 cases d with
 | true=>exact ha pins s1 σ H1 D I1 q1
 | false=>exact hb pins s1 σ H1 D I1 q1
end
abbrev TG:=V->St->Hp->(St->Hp->Prop)->Prop
abbrev TGs:=List V->St->Hp->(St->Hp->Prop)->Prop
def PG (X:Cx) (target:Expr) (t:TG):Prop :=
 ∀ (pins:List (Addr×Obj)) (s:Shared) (σ:St) (H:Hp) (v:V) (u:Value) (Q:St->Hp->Prop),Inv X pins σ H s->RelV v u->t v σ H Q ->
  wpAny (model X.prog X.w) X.A (assign target X.env u) (fun _ s'=>∃ σ' H',Inv X pins σ' H' s'/\Q σ' H') X.xe s
def PGs (X:Cx) (ts:List Expr) (t:TGs):Prop :=
 ∀ (pins:List (Addr×Obj)) (s:Shared) (σ:St) (H:Hp) (vs:List V) (us:List Value) (Q:St->Hp->Prop),Inv X pins σ H s->Vals vs us->t vs σ H Q ->
  wpAny (model X.prog X.w) X.A (assignInOrder ((assignEach ts X.env).map (·.2)) us) (fun _ s'=>∃ σ' H',Inv X pins σ' H' s'/\Q σ' H') X.xe s
section
variable {X:Cx} {pos:Pos}
abbrev qvk (i:Nat):TG:=fun v σ H Q=>Q (σ.set i (some v)) H
theorem jjo {i:Nat} {x:Str} (hN:X.N.Nodup) (hi:X.N[i]?=some x) (hx:Loc X.env.scope x) (hf:X.fn x=true\/X.env.scope.names.lookup x=some .local:=by first | exact .inl rfl | exact .inr rfl | assumption):PG X (.Name x pos) (qvk i):=by
 intro pins s σ H v u Q I r h
 exact wpAny_assign_Name (jx2 I hN hi hx r (fun s' I'=>⟨_,H,I',h⟩) hf)
abbrev wku:TGs:=fun vs σ H Q=>vs=[]/\Q σ H
abbrev vxu (t:TG) (u:TGs):TGs:=fun vs σ H Q=>∃ v r,vs=v :: r/\t v σ H fun σ' H'=>u r σ' H' Q
theorem kji:PGs X [] wku:=by
 intro pins s σ H vs us Q I r h
 obtain ⟨e,h⟩:=h
 subst e
 cases r
 exact assignInOrder_nil ⟨σ,H,I,h⟩
theorem jqx {e:Expr} {es:List Expr} {t:TG} {u:TGs} (h1:PG X e t) (h2:PGs X es u)
  (hs:(assignEach (e :: es) X.env).map (·.2)=assign e X.env :: (assignEach es X.env).map (·.2):=by rfl):PGs X (e :: es) (vxu t u):=by
 intro pins s σ H vs us Q I r h
 obtain ⟨v,vr,e1,h⟩:=h
 subst e1
 cases r with
 | cons r rr =>
  rw [hs]
  refine assignInOrder_cons (thn (h1 pins s σ H _ _ _ I r h) fun _ s1 ⟨σ1,H1,I1,q1⟩=>?_)
  exact h2 pins s1 σ1 H1 _ _ Q I1 rr q1
abbrev vzr (te:TE) (g:TG):TS:=fun D σ H=>te σ H fun x H1=>g x σ H1 D.nx
theorem vwm {tg e:Expr} {te:TE} {g:TG} (he:PE X e te) (hg:PG X tg g) (hs:swapsWithSole [tg] e pos.line X.env=pure false:=by rfl) (hw:swappedStores [tg] e X.env=pure none:=by rfl)
  (h1:(assignEach [tg] X.env).map (·.2)=[assign tg X.env]:=by rfl):PS X (.Assign [tg] e pos) (vzr te g):=by
 intro pins s σ H D I h
 refine wpAny_Assign_stores (thn (he pins s σ H _ I h) fun v s1 ⟨x,H1,I1,r1,q1⟩=>?_) hs hw
 rw [h1]
 exact thn (hg pins s1 σ H1 x v _ I1 r1 q1) fun _ s2 q=>q
theorem vwj {i:Nat} {x:Str} {e:Expr} {te:TE} {pos':Pos} (hN:X.N.Nodup) (hi:X.N[i]?=some x) (hx:Loc X.env.scope x) (he:PE X e te) (hs:swapsWith e (some (.Name x pos')) pos.line X.env=pure false:=by rfl) (hf:X.fn x=true\/X.env.scope.names.lookup x=some .local:=by first | exact .inl rfl | exact .inr rfl | assumption) :
  PS X (.Assign [.Name x pos'] e pos) (vzr te (qvk i)):=by
 intro pins s σ H D I h
 refine wpAny_Assign_Name (thn (he pins s σ H _ I h) fun v s1 ⟨y,H1,I1,r1,q1⟩=>?_) hs
 exact jx2 I1 hN hi hx r1 (fun s2 I2=>⟨_,H1,I2,q1⟩) hf
end
section
variable {X:Cx} {pos:Pos}
abbrev vvf (c:TT) (tb:TS):TS:=fun D σ H=>∃ W:Nat->St->Hp->Prop,(∃ m,W m σ H)/\∀ m σ H,W m σ H ->
 c σ H fun b H1=>if b=true then ∃ N:St->Hp->Prop,(∀ σ' H',N σ' H'->∃ m',m' < m/\W m' σ' H')/\tb { D with nx:=N,ct:=N,bk:=D.nx } σ H1 else D.nx σ H1
theorem qx8 {c:Expr} {body:List Stmt} {tc:TT} {tb:TS} (hp:PassesOwn (model X.prog X.w) X.A X.env X.xe) (hc:PT X c tc) (hb:PSs X body tb):PS X (.While c body [] pos) (vvf tc tb):=by
 intro pins s σ H D I h
 obtain ⟨W,⟨m0,w0⟩,turn⟩:=h
 refine wpAny_While (codeAny_whileLoop (fun n s'=>∃ σ' H',Inv X pins σ' H' s'/\W n σ' H') ?_ m0 ⟨σ,H,I,w0⟩)
 rintro n s1 ⟨σ1,H1,I1,w1⟩
 refine wpAny_passesOwn hp (thn (hc pins s1 σ1 H1 _ I1 (turn n σ1 H1 w1)) fun b s2 ⟨H2,I2,q2⟩=>?_)
 cases b with
 | true =>
  obtain ⟨N,hN,q2⟩:=q2
  rw [if_pos rfl]
  refine wpAny_passesOwn hp (thn (hb pins s2 σ1 H2 _ I2 q2) fun f s3 q3=>?_)
  cases f with
  | next =>
   obtain ⟨σ3,H3,I3,n3⟩:=q3
   obtain ⟨m',hm,w3⟩:=hN σ3 H3 n3
   exact ⟨m',hm,σ3,H3,I3,w3⟩
  | cont =>
   obtain ⟨σ3,H3,I3,n3⟩:=q3
   obtain ⟨m',hm,w3⟩:=hN σ3 H3 n3
   exact ⟨m',hm,σ3,H3,I3,w3⟩
  | brk=>exact q3
  | ret v=>exact q3
 | false =>
  rw [if_neg Bool.false_ne_true]
  exact wpAny_execs_nil ⟨σ1,H2,I2,q2⟩
end
structure It where
 go:Nat->Hp->Prop
 yld:Nat->Hp->V->Hp->Prop
 stop:Nat->Hp->Prop
def kqb (X:Cx) (pins:List (Addr×Obj)) (H:Hp) (b:Addr):Prop :=
 H b=none/\b≠X.env.locals/\b∉X.fs/\(b∈X.ex\/X.s₀.heap.objs.size<=b)/\(∀ x c,X.env.cells.lookup x=some c->c≠b)/\∀ p∈X.pn++pins,p.1≠b
theorem Inv.fpOk {X:Cx} {pins:List (Addr×Obj)} {σ:St} {H H':Hp} {s:Shared} {b:Addr} (I:Inv X pins σ H s) (hb:s.heap.objs.size<=b) (hn:H' b=none):kqb X pins H' b:=by
 refine ⟨hn,Nat.ne_of_gt (Nat.lt_of_lt_of_le I.lt hb),I.nofs hb,.inr (Nat.le_trans I.sz hb),fun x c e z=>?_,fun p hp z=>?_⟩
 ·obtain ⟨v,q⟩:=I.cell x c e
  exact absurd (Nat.lt_of_lt_of_le q.lt (by rw [z];exact hb)) (Nat.lt_irrefl _)
 ·exact absurd (Nat.lt_of_lt_of_le (Heap.lt_size (I.pin p hp).1) (by rw [z];exact hb)) (Nat.lt_irrefl _)
structure Turn (P:Program) (w:World) (K:PySem.W.Frag) (tg:Expr) (J:It) (fp:List Addr) (it:Addr) (tn:Nat->Heap->Prop):Prop where
 mem:it∈fp
 obj:∀ i h,tn i h->∀ b∈fp,∃ o,h.get? b=some o/\∀ v,o.data≠.cell v
 keep:∀ i h h',tn i h->(∀ b∈fp,∀ o,h.get? b=some o->h'.get? b=some o)->tn i h'
 item:∀ (X:Cx),X.prog=P->X.w=w->X.K=K->X.calm=true->∀ (i:Nat) (pins:List (Addr×Obj)) (s:Shared) (σ:St) (H:Hp) (E:Value->Shared->Prop),Inv X pins σ H s->(∀ b∈fp,kqb X pins H b)->tn i s.heap->J.go i H ->
  wpAny (model P w) X.A (pyNext (.ref it)) (fun r s1=>∃ u,r=some u /\
   wpAny (model P w) X.A (letOwnedTupleGo tg (.ref it) u) (fun _ s2=>∃ x H',Inv X pins σ H' s2/\RelV x u/\J.yld i H x H'/\tn (i + 1) s2.heap/\∀ b∈fp,H' b=none) E s1) E s
 done:∀ (X:Cx),X.prog=P->X.w=w->X.K=K->X.calm=true->∀ (i:Nat) (pins:List (Addr×Obj)) (s:Shared) (σ:St) (H:Hp) (E:Value->Shared->Prop),Inv X pins σ H s->(∀ b∈fp,kqb X pins H b)->tn i s.heap->J.stop i H ->
  wpAny (model P w) X.A (pyNext (.ref it)) (fun r s1=>r=none/\Inv X pins σ H s1) E s
 self:∀ (A:Around) (i:Nat) (s:Shared) (Q:Value->Shared->Prop) (E:Value->Shared->Prop),tn i s.heap->Q (.ref it) s->wpAny (model P w) A (pyIter (.ref it)) Q E s
abbrev TI:=St->Hp->(It->Hp->Prop)->Prop
def PIE (X:Cx) (pins:List (Addr×Obj)) (σ:St) (tg:Expr) (R:It->Hp->Prop) (itv:Value) (s2:Shared):Prop :=
 ∃ (it:Addr) (fp:List Addr) (tn:Nat->Heap->Prop) (J:It) (H':Hp),itv=.ref it/\Inv X pins σ H' s2/\Turn X.prog X.w X.K tg J fp it tn/\tn 0 s2.heap/\(∀ b∈fp,kqb X pins H' b)/\R J H'
def PI (X:Cx) (tg iter:Expr) (wi:TI):Prop :=
 ∀ (pins:List (Addr×Obj)) (s:Shared) (σ:St) (H:Hp) (R:It->Hp->Prop),Inv X pins σ H s->wi σ H R ->
  wpAny (model X.prog X.w) X.A (eval iter X.env) (fun v s1=>wpAny (model X.prog X.w) X.A (pyIter v) (PIE X pins σ tg R) X.xe s1) X.xe s
theorem qxy {M : Model} {A : Around} {E : Value -> Shared -> Prop} {s : Shared} {tg : Expr} {it : Addr} {u : Value} {o : Obj} {n : String} {vs : Array Value} {Q : Unit -> Shared -> Prop} (ho : s.heap.get? it = some o) (hc : o.cls = .type n) (hd : o.data = .fields vs)
    (hn : ["enumerate", "zip", "dict_itemiterator", "dict_reverseitemiterator", "odict_iterator", "itertools.zip_longest", "itertools.pairwise"].contains n = false) (hQ : Q () s) : wpAny M A (letOwnedTupleGo tg (.ref it) u) Q E s := by
  unfold letOwnedTupleGo
  cases tg <;> first
    | exact wpAny_pure hQ
    | (cases u <;> first
        | exact wpAny_pure hQ
        | (refine wpAny_bind (wpAny_load ho ?_)
           rw [hc, hd]
           show wpAny M A (if (["enumerate", "zip", "dict_itemiterator", "dict_reverseitemiterator", "odict_iterator", "itertools.zip_longest", "itertools.pairwise"].contains n && vs[0]? == some (rawInt _)) = true then _ else _) Q E s
           rw [if_neg (by intro h; rw [hn, Bool.false_and] at h; cases h)]
           exact wpAny_pure hQ))
def Itl (K:PySem.W.Frag) (a:Addr):It :=
 ⟨fun i H=>∃ xs x,SqL K H a xs/\xs[i]?=some x,fun i H x H'=>H'=H/\∀ xs,SqL K H a xs->xs[i]?=some x,fun i H=>∃ xs,SqL K H a xs/\xs.length<=i⟩
def Itt (K:PySem.W.Frag) (a:Addr):It :=
 ⟨fun i H=>∃ xs x,SqT K H a xs/\xs[i]?=some x,fun i H x H'=>H'=H/\∀ xs,SqT K H a xs->xs[i]?=some x,fun i H=>∃ xs,SqT K H a xs/\xs.length<=i⟩
def Itr (lo:Int) (n:Nat):It:=⟨fun i _=>i < n,fun i H x H'=>H'=H/\x=.int (lo + i),fun i _=>n<=i⟩
theorem qke {P:Program} {w:World} {K:PySem.W.Frag} {tg:Expr} (a it:Addr):Turn P w K tg (Itl K a) [it] it (fun i h=>h.IsListIter it a i) where
 mem:=by simp
 obj:=fun i h st b hb=>by
  have e:b=it:=by simpa using hb
  subst e
  obtain ⟨o,e,c,d⟩:=st
  exact ⟨o,e,fun v z=>by rw [d] at z;cases z⟩
 keep:=fun i h h' st k=>st.at fun o e=>k it (by simp) o e
 item:=by
  intro X hP hw hK hc i pins s σ H E I hf st hg
  subst hP hw hK
  obtain ⟨xs,x,hq,hx⟩:=hg
  obtain ⟨its,rv,p,hz⟩:=I.list hq
  obtain ⟨u,hu,ru⟩:=rv.get hx
  obtain ⟨f0,f1,f2,f3,f4,f5⟩:=hf it (by simp)
  refine wpAny_pyNext_list_item st p.isList (x:=u) (by simpa using hu) fun h' st' sb=>?_
  have I1:Inv X pins σ H { s with heap:=h' }:=I.turned (t':=s.toks) (fun b o hb e=>(sb.2 b hb).trans e) f0 f1 f3 f4 f5
  obtain ⟨o,e,c,d⟩:=id st'
  exact ⟨u,rfl,qxy (s:={ s with heap:=h' }) e c d (by decide) ⟨x,H,I1,ru,⟨rfl,fun ys hy=>by rw [I.list_inj hy hq];exact hx⟩,st',fun b hb=>(hf b hb).1⟩⟩
 done:=by
  intro X hP hw hK hc i pins s σ H E I hf st hg
  subst hP hw hK
  obtain ⟨xs,hq,hx⟩:=hg
  obtain ⟨its,rv,p,hz⟩:=I.list hq
  obtain ⟨f0,f1,f2,f3,f4,f5⟩:=hf it (by simp)
  have hl:=rv.length
  exact wpAny_pyNext_list_end (I.ok.hd hc) st p.isList (by simp;omega) fun h' eb=>⟨rfl,I.turned (t':=s.toks) (fun b o hb e=>eb b o hb e) f0 f1 f3 f4 f5⟩
 self:=fun _ _ _ _ _ st h=>wpAny_pyIter_listiter st h
theorem qja {P:Program} {w:World} {K:PySem.W.Frag} {tg:Expr} (a it:Addr):Turn P w K tg (Itt K a) [it] it (fun i h=>h.IsTupleIter it a i) where
 mem:=by simp
 obj:=fun i h st b hb=>by
  have e:b=it:=by simpa using hb
  subst e
  obtain ⟨o,e,c,d⟩:=st
  exact ⟨o,e,fun v z=>by rw [d] at z;cases z⟩
 keep:=fun i h h' st k=>st.at fun o e=>k it (by simp) o e
 item:=by
  intro X hP hw hK hc i pins s σ H E I hf st hg
  subst hP hw hK
  obtain ⟨xs,x,hq,hx⟩:=hg
  obtain ⟨its,rv,p,hz⟩:=I.tuple hq
  obtain ⟨u,hu,ru⟩:=rv.get hx
  obtain ⟨f0,f1,f2,f3,f4,f5⟩:=hf it (by simp)
  refine wpAny_pyNext_tuple_item st (show s.heap.IsTuple a its.toArray from p) (x:=u) (by simpa using hu) fun h' st' sb=>?_
  have I1:Inv X pins σ H { s with heap:=h' }:=I.turned (t':=s.toks) (fun b o hb e=>(sb.2 b hb).trans e) f0 f1 f3 f4 f5
  obtain ⟨o,e,c,d⟩:=id st'
  exact ⟨u,rfl,qxy (s:={ s with heap:=h' }) e c d (by decide) ⟨x,H,I1,ru,⟨rfl,fun ys hy=>by rw [I.tuple_inj hy hq];exact hx⟩,st',fun b hb=>(hf b hb).1⟩⟩
 done:=by
  intro X hP hw hK hc i pins s σ H E I hf st hg
  subst hP hw hK
  obtain ⟨xs,hq,hx⟩:=hg
  obtain ⟨its,rv,p,hz⟩:=I.tuple hq
  obtain ⟨f0,f1,f2,f3,f4,f5⟩:=hf it (by simp)
  have hl:=rv.length
  exact wpAny_pyNext_tuple_end (I.ok.hd hc) st (show s.heap.IsTuple a its.toArray from p) (by simp;omega) fun h' eb=>⟨rfl,I.turned (t':=s.toks) (fun b o hb e=>eb b o hb e) f0 f1 f3 f4 f5⟩
 self:=fun _ _ _ _ _ st h=>wpAny_pyIter_tupleiter st h
theorem qjb {P:Program} {w:World} {K:PySem.W.Frag} {tg:Expr} (it:Addr) (lo:Int) (n:Nat):Turn P w K tg (Itr lo n) [it] it (fun i h=>IsRangeIter h it (lo + (i:Nat) * 1) ((n:Int) - (i:Nat)) 1) where
 mem:=by simp
 obj:=fun i h st b hb=>by
  have e:b=it:=by simpa using hb
  subst e
  exact ⟨_,st,fun v z=>by
   have z':Data.fields _=Data.cell v:=z
   cases z'⟩
 keep:=fun i h h' st k=>k it (by simp) _ st
 item:=by
  intro X hP hw hK hc i pins s σ H E I hf st hg
  subst hP hw hK
  obtain ⟨f0,f1,f2,f3,f4,f5⟩:=hf it (by simp)
  have W:=Walks.range (prog:=X.prog) (w:=X.w) (I.ok.hd hc) it lo 1 n
  refine W.item i s _ _ hg st fun v h' tk hv st' kk=>?_
  obtain ⟨t,rfl⟩:=hv
  have I1:Inv X pins σ H { s with heap:=h',toks:=tk }:=I.turned (fun b o hb e=>kk b o (by simpa using hb) e) f0 f1 f3 f4 f5
  refine ⟨_,rfl,qxy (s:={ s with heap:=h',toks:=tk }) (n:="range_iterator") st' rfl rfl (by decide) ⟨.int (lo + i),H,I1,⟨t,?_⟩,⟨rfl,rfl⟩,st',fun b hb=>(hf b hb).1⟩⟩
  rw [Int.mul_one]
 done:=by
  intro X hP hw hK hc i pins s σ H E I hf st hg
  subst hP hw hK
  obtain ⟨f0,f1,f2,f3,f4,f5⟩:=hf it (by simp)
  exact wpAny_pyNext_range_end (I.ok.hd hc) st (by have:n<=i:=hg;omega) fun h' eb=>⟨rfl,I.turned (t':=s.toks) (fun b o hb e=>eb b o hb e) f0 f1 f3 f4 f5⟩
 self:=fun _ _ _ _ _ st h=>wpAny_pyIter_rangeiter st h
end L2
namespace L2
open PySem PySem.Spec PyProof.Rows
section
variable {X:Cx} {tg:Expr}
theorem kzb {pins:List (Addr×Obj)} {σ:St} {H:Hp} {s:Shared} {R:It->Hp->Prop} {E:Value->Shared->Prop} {lo hi:Int} {t u v:Tok} {tk:Nat} (I:Inv X pins σ H s) (h1:-(2 ^ 62)<=lo) (h2:lo < 2 ^ 62) (h3:-(2 ^ 62)<=hi) (h4:hi < 2 ^ 62)
  (q:R (Itr lo (hi - lo).toNat) H):wpAny (model X.prog X.w) X.A (pyIter (.ref s.heap.objs.size)) (PIE X pins σ tg R) E { s with heap:=s.heap.push { cls:=.type "range",data:=.fields #[.int lo t,.int hi u,.int 1 v] },toks:=tk }:=by
 refine wpAny_pyIter_range (IsRange.new ..) (small_one h1 h2 h3 h4) ?_
 have I1:Inv X pins σ H { s with heap:=s.heap.push { cls:=.type "range",data:=.fields #[.int lo t,.int hi u,.int 1 v] },toks:=tk }:=I.kept fun b o e=>Heap.get?_push_of_some _ e
 refine ⟨(s.heap.push { cls:=.type "range",data:=.fields #[.int lo t,.int hi u,.int 1 v] }).objs.size,[(s.heap.push { cls:=.type "range",data:=.fields #[.int lo t,.int hi u,.int 1 v] }).objs.size],_,_,H,rfl,
  I1.kept (t':=tk) fun b o e=>Heap.get?_push_of_some _ e,qjb _ lo (hi - lo).toNat,?_,fun b hb=>?_,q⟩
 ·have e1:lo + ((0:Nat):Int) * 1=lo:=by simp
  have e2:(((hi - lo).toNat:Nat):Int) - ((0:Nat):Int)=Builtin.Range.rangeSize lo hi 1:=by rw [rangeSize_one];split<;>omega
  show IsRangeIter _ _ (lo + ((0:Nat):Int) * 1) ((((hi - lo).toNat:Nat):Int) - ((0:Nat):Int)) 1
  rw [e1,e2]
  exact Heap.get?_push_size _ rfl
 ·have e:b=(s.heap.push { cls:=.type "range",data:=.fields #[.int lo t,.int hi u,.int 1 v] }).objs.size:=by simpa using hb
  subst e
  exact I1.fpOk (Nat.le_refl _) (I1.hok.fresh (Nat.le_refl _))
abbrev wjt (ta:TA):TI:=fun σ H R=>ta σ H fun vs H1=>∃ j:Int,vs=[.int j]/\-(2 ^ 62)<=j/\j < 2 ^ 62/\R (Itr 0 j.toNat) H1
abbrev wjs (ta:TA):TI:=fun σ H R=>ta σ H fun vs H1=>∃ i j:Int,vs=[.int i,.int j]/\(-(2 ^ 62)<=i/\i < 2 ^ 62/\-(2 ^ 62)<=j/\j < 2 ^ 62)/\R (Itr i (j - i).toNat) H1
theorem qqc {a:Expr} {ta:TA} {p pos:Pos} (hg:Gl X "range") (hm:X.mg "range"=none) (ha:PA X [a] ta) (hs:starEach [a] X.env=[(false,eval a X.env)]:=by rfl):PI X tg (.Call (.Name "range" p) [a] [] pos) (wjt ta):=by
 intro pins s σ H R I h
 refine Call_ (jzr I hg hm boot_range (PyProof.Rows.callWith_type1 (thn (ha pos pins s σ H _ I h) fun us s1 ⟨vs,H1,I1,r1,q1⟩=>?_) hs rfl))
 obtain ⟨j,e,q1,q2,q⟩:=q1
 subst e
 cases r1 with
 | cons r rr =>
  cases rr
  obtain ⟨t,rfl⟩:=r
  exact call_range_1 (kzb I1 (by omega) (by omega) q1 q2 (by simpa using q))
theorem qqb {a b:Expr} {ta:TA} {p pos:Pos} (hg:Gl X "range") (hm:X.mg "range"=none) (ha:PA X [a,b] ta) (hs:starEach [a,b] X.env=[(false,eval a X.env),(false,eval b X.env)]:=by rfl) (hs2:starEach [b] X.env=[(false,eval b X.env)]:=by rfl) :
  PI X tg (.Call (.Name "range" p) [a,b] [] pos) (wjs ta):=by
 intro pins s σ H R I h
 refine Call_ (jzr I hg hm boot_range (PyProof.Rows.callWith_type1 (thn (ha pos pins s σ H _ I h) fun us s1 ⟨vs,H1,I1,r1,q1⟩=>?_) (by rw [hs,hs2]) (by rw [hs2];rfl)))
 obtain ⟨i,j,e,⟨q1,q2,q3,q4⟩,q⟩:=q1
 subst e
 cases r1 with
 | cons r rr =>
  cases rr with
  | cons r' rr =>
   cases rr
   obtain ⟨t,rfl⟩:=r
   obtain ⟨t',rfl⟩:=r'
   exact call_range_2 (kzb I1 q1 q2 q3 q4 q)
abbrev tFor (wi:TI) (g:TG) (tb:TS):TS:=fun D σ H=>wi σ H fun J H1=>∃ W:Nat->Nat->St->Hp->Prop,(∃ m,W 0 m σ H1)/\∀ i m σ H,W i m σ H ->
 (J.stop i H/\D.nx σ H)\/(J.go i H/\∃ N:St->Hp->Prop,(∀ σ' H',N σ' H'->∃ m',m' < m/\W (i + 1) m' σ' H')/\∀ x H',J.yld i H x H'->g x σ H' fun σ2 H2=>tb { D with nx:=N,ct:=N,bk:=D.nx } σ2 H2)
def jxt (fp:List Addr) (h:Heap):List (Addr×Obj):=fp.filterMap fun b=>(h.get? b).map fun o=>(b,o)
theorem jzj {fp:List Addr} {h:Heap} {b:Addr} {o:Obj} (hb:b∈fp) (e:h.get? b=some o):(b,o)∈jxt fp h:=List.mem_filterMap.mpr ⟨b,hb,by rw [e];rfl⟩
theorem kw1 {fp:List Addr} {h:Heap} {p:Addr×Obj} (hp:p∈jxt fp h):p.1∈fp/\h.get? p.1=some p.2:=by
 obtain ⟨b,hb,e⟩:=List.mem_filterMap.mp hp
 cases q:h.get? b with
 | none=>rw [q] at e;cases e
 | some o =>
  rw [q] at e
  have e':(b,o)=p:=oq9 e
  subst e'
  exact ⟨hb,q⟩
theorem Inv.pinned {pins:List (Addr×Obj)} {σ:St} {H:Hp} {s:Shared} {fp:List Addr} (I:Inv X pins σ H s) (hf:∀ b∈fp,kqb X pins H b) (ho:∀ b∈fp,∃ o,s.heap.get? b=some o/\∀ v,o.data≠.cell v):Inv X (pins++jxt fp s.heap) σ H s :=
 I.pins_of fun p hp=>(List.mem_append.mp hp).elim (fun z=>I.pin p (lr9 _ z)) fun z=>by
  obtain ⟨hb,e⟩:=kw1 z
  obtain ⟨f0,f1,f2,_⟩:=hf p.1 hb
  obtain ⟨o,e',d⟩:=ho p.1 hb
  rw [e] at e';cases e'
  exact ⟨e,f0,f1,f2,d⟩
theorem Inv.unpinned {pins pl:List (Addr×Obj)} {σ:St} {H:Hp} {s:Shared} (I:Inv X (pins++pl) σ H s):Inv X pins σ H s:=I.pins_of fun p hp=>I.pin p (lr9 _ (ll9 _ hp))
theorem vwl {iter:Expr} {body:List Stmt} {wi:TI} {g:TG} {tb:TS} {pos:Pos} (hp:PassesOwn (model X.prog X.w) X.A X.env X.xe) (hc:X.calm=true) (hi:PI X tg iter wi) (hg:PG X tg g) (hb:PSs X body tb)
  (hs:∀ x,foldedSetIterable iter X.env x=pure x:=by intro _;rfl):PS X (.For tg iter body [] pos) (tFor wi g tb):=by
 intro pins s σ H D I h
 refine wpAny_For (thn (hi pins s σ H _ I h) fun v s1 h1=>thn h1 fun itv s2 h2=>?_) hs
 obtain ⟨it,fp,tn,J,H2,e,I2,T,st2,f2,W,⟨m0,w0⟩,turn⟩:=h2
 subst e
 have stat:∀ {H':Hp},(∀ b∈fp,H' b=none)->∀ b∈fp,kqb X pins H' b:=fun hn b hb=>⟨hn b hb,(f2 b hb).2⟩
 refine codeAny_forLoop_any (fun n s'=>∃ i σ' H',Inv X pins σ' H' s'/\tn i s'.heap/\(∀ b∈fp,H' b=none)/\W i n σ' H') ?_ m0 ⟨0,σ,H2,I2,st2,fun b hb=>(f2 b hb).1,w0⟩
 rintro n s3 ⟨i,σ3,H3,I3,st3,fr3,w3⟩
 rcases turn i n σ3 H3 w3 with ⟨stop,qn⟩ | ⟨go,N,hN,step⟩
 ·refine wpAny_passesOwn hp (thn (T.done X rfl rfl rfl hc i pins s3 σ3 H3 X.xe I3 (stat fr3) st3 stop) fun r s4 ⟨hr,I4⟩=>?_)
  subst hr
  exact wpAny_execs_nil ⟨σ3,H3,I4,qn⟩
 ·refine wpAny_passesOwn hp (thn (T.item X rfl rfl rfl hc i pins s3 σ3 H3 X.xe I3 (stat fr3) st3 go) fun r s4 ⟨u,hr,h4⟩=>?_)
  subst hr
  refine wpAny_passesOwn hp (thn h4 fun _ s5 ⟨x,H5,I5,r5,y5,st5,fr5⟩=>?_)
  have I5':=I5.pinned (stat fr5) (T.obj _ _ st5)
  refine wpAny_passesOwn hp (thn (hg _ s5 σ3 H5 x u _ I5' r5 (step x H5 y5)) fun _ s6 ⟨σ6,H6,I6,q6⟩=>?_)
  refine wpAny_passesOwn hp (thn (hb _ s6 σ6 H6 _ I6 q6) fun f s7 q7=>?_)
  have again:∀ {σ7:St} {H7:Hp},Inv X (pins++jxt fp s5.heap) σ7 H7 s7->N σ7 H7->∃ m,m < n/\∃ i σ' H',Inv X pins σ' H' s7/\tn i s7.heap/\(∀ b∈fp,H' b=none)/\W i m σ' H':=fun {σ7 H7} I7 n7=>by
   obtain ⟨m',hm,w7⟩:=hN σ7 H7 n7
   refine ⟨m',hm,i + 1,σ7,H7,I7.unpinned,T.keep _ _ _ st5 fun b hb o e=>(I7.pin (b,o) (lr9 _ (lr9 _ (jzj hb e)))).1,fun b hb=>?_,w7⟩
   obtain ⟨o,e,d⟩:=T.obj _ _ st5 b hb
   exact (I7.pin (b,o) (lr9 _ (lr9 _ (jzj hb e)))).2.1
  cases f with
  | next=>obtain ⟨σ7,H7,I7,n7⟩:=q7;exact again I7 n7
  | cont=>obtain ⟨σ7,H7,I7,n7⟩:=q7;exact again I7 n7
  | brk=>obtain ⟨σ7,H7,I7,q7⟩:=q7;exact ⟨σ7,H7,I7.unpinned,q7⟩
  | ret v=>obtain ⟨x7,σ7,H7,I7,r7,q7⟩:=q7;exact ⟨x7,σ7,H7,I7.unpinned,r7,q7⟩
end
end L2
namespace L2
open PySem PySem.Spec PyProof.Rows
abbrev R2:=V->V->Hp->VK->Prop
def OpR (X:Cx) (f:Value->Value->Sem Value) (r:R2):Prop :=
 ∀ (pins:List (Addr×Obj)) (s:Shared) (σ:St) (H:Hp) (x y:V) (v u:Value) (Q:VK),Inv X pins σ H s->RelV x v->RelV y u->r x y H Q ->
  wpAny (model X.prog X.w) X.A (f v u) (EP X pins σ Q) X.xe s
def CallR (X:Cx) (f:Value) (r:List V->Hp->VK->Prop):Prop :=
 ∀ (pins:List (Addr×Obj)) (s:Shared) (σ:St) (H:Hp) (xs:List V) (us:List Value) (Q:VK),Inv X pins σ H s->Vals xs us->r xs H Q ->
  wpAny (model X.prog X.w) X.A (call f us) (EP X pins σ Q) X.xe s
def TruR (X:Cx) (r:V->Hp->(Bool->Hp->Prop)->Prop):Prop :=
 ∀ (pins:List (Addr×Obj)) (s:Shared) (σ:St) (H:Hp) (x:V) (v:Value) (Q:Bool->Hp->Prop),Inv X pins σ H s->RelV x v->r x H Q ->
  wpAny (model X.prog X.w) X.A (truthy v) (TP X pins σ Q) X.xe s
abbrev tOp (r:R2) (ta tb:TE):TE:=fun σ H Q=>ta σ H fun x H1=>tb σ H1 fun y H2=>r x y H2 Q
abbrev tUn (r:V->Hp->VK->Prop) (ta:TE):TE:=fun σ H Q=>ta σ H fun x H1=>r x H1 Q
def rI (C:Int->Int->Prop) (g:Int->Int->V):R2:=fun x y H Q=>∃ i j,x=.int i/\y=.int j/\C i j/\Q (g i j) H
def rI0 (g:Int->Int->V):R2:=fun x y H Q=>∃ i j,x=.int i/\y=.int j/\Q (g i j) H
section
variable {X:Cx} {a b c:Expr} {ta tb tc:TE} {pos:Pos}
theorem wk9 (ha:PE X a ta) (hb:PE X b tb) {pins:List (Addr×Obj)} {s:Shared} {σ:St} {H:Hp} {R:V->V->Hp->Prop} (I:Inv X pins σ H s)
  (h:ta σ H fun x H1=>tb σ H1 fun y H2=>R x y H2) {Q:Value->Shared->Prop} {f:Value->Value->Sem Value}
  (hf:∀ v u s2 x y H2,Inv X pins σ H2 s2->RelV x v->RelV y u->R x y H2->wpAny (model X.prog X.w) X.A (f v u) Q X.xe s2) :
  wpAny (model X.prog X.w) X.A (eval a X.env) (fun v s₁=>wpAny (model X.prog X.w) X.A (eval b X.env) (fun u s₂=>wpAny (model X.prog X.w) X.A (f v u) Q X.xe s₂) X.xe s₁) X.xe s:=by
 refine thn (ha pins s σ H _ I h) fun v s1 ⟨x,H1,I1,r1,q1⟩=>?_
 refine thn (hb pins s1 σ H1 _ I1 q1) fun u s2 ⟨y,H2,I2,r2,q2⟩=>?_
 exact hf v u s2 x y H2 I2 r1 r2 q2
theorem wjf {op:Operator} {r:R2} (ho:OpR X (binaryOp op) r) (ha:PE X a ta) (hb:PE X b tb):PE X (.BinOp a op b pos) (tOp r ta tb):=by
 intro pins s σ H Q I h
 exact wpAny_BinOp (wk9 ha hb I h fun v u s2 x y H2 I2 rx ry q=>ho pins s2 σ H2 x y v u Q I2 rx ry q)
theorem opI {f:Value->Value->Sem Value} {C:Int->Int->Prop} {g:Int->Int->Int}
  (rule:∀ (i j:Int) (t u:Tok) (s:Shared) (Q:Value->Shared->Prop) (E:Value->Shared->Prop),C i j->Q (.int (g i j) s.toks) { s with toks:=s.toks + 1 }->wpAny (model X.prog X.w) X.A (f (.int i t) (.int j u)) Q E s) :
  OpR X f (rI C fun i j=>.int (g i j)):=by
 intro pins s σ H x y v u Q I rx ry h
 obtain ⟨i,j,rfl,rfl,hc,q⟩:=h
 obtain ⟨t,rfl⟩:=rx
 obtain ⟨t',rfl⟩:=ry
 exact rule i j t t' s _ _ hc ⟨.int (g i j),H,I.tok _,⟨_,rfl⟩,q⟩
theorem opI0 {f:Value->Value->Sem Value} {g:Int->Int->Int}
  (rule:∀ (i j:Int) (t u:Tok) (s:Shared) (Q:Value->Shared->Prop) (E:Value->Shared->Prop),Q (.int (g i j) s.toks) { s with toks:=s.toks + 1 }->wpAny (model X.prog X.w) X.A (f (.int i t) (.int j u)) Q E s) :
  OpR X f (rI0 fun i j=>.int (g i j)):=by
 intro pins s σ H x y v u Q I rx ry h
 obtain ⟨i,j,rfl,rfl,q⟩:=h
 obtain ⟨t,rfl⟩:=rx
 obtain ⟨t',rfl⟩:=ry
 exact rule i j t t' s _ _ ⟨.int (g i j),H,I.tok _,⟨_,rfl⟩,q⟩
theorem wkr {f:Value->Value->Sem Value} {g:Int->Int->Bool}
  (rule:∀ (i j:Int) (t u:Tok) (s:Shared) (Q:Value->Shared->Prop) (E:Value->Shared->Prop),Q (.bool (g i j)) s->wpAny (model X.prog X.w) X.A (f (.int i t) (.int j u)) Q E s) :
  OpR X f (rI0 fun i j=>.bl (g i j)):=by
 intro pins s σ H x y v u Q I rx ry h
 obtain ⟨i,j,rfl,rfl,q⟩:=h
 obtain ⟨t,rfl⟩:=rx
 obtain ⟨t',rfl⟩:=ry
 exact rule i j t t' s _ _ ⟨.bl (g i j),H,I,rfl,q⟩
def wky (i j:Int):Prop:=0<=j/\j<=1000000/\i.natAbs < 2 ^ 64
theorem op_add:OpR X (binaryOp .Add) (rI0 fun i j=>.int (i + j)):=opI0 fun _ _ _ _ _ _ _ q=>add_int q
theorem jvh:OpR X (binaryOp .Mod) (rI (fun _ j=>0 < j) fun i j=>.int (i % j)):=opI fun i j _ _ _ _ _ hc q=>by
 have h1:(0:Int) < j:=hc
 exact mod_int' (by omega) (by rw [Int.fmod_eq_emod_of_nonneg i (by omega)];exact q)
theorem qzn:OpR X (binaryOp .Pow) (rI wky fun i j=>.int (i ^ j.toNat)):=opI fun _ _ _ _ _ _ _ hc q=>pow_int_small hc.1 hc.2.1 hc.2.2 q
end
section
variable {X:Cx} {a b c:Expr} {ta tb tc:TE} {pos:Pos}
theorem qzz {pins:List (Addr×Obj)} {σ:St} {H:Hp} {s:Shared} {Q:VK} {k k':Bool} (I:Inv X pins σ H s) (q:Q (.bl k) H) (e:k=k'):EP X pins σ Q (.bool k') s:=by
 subst e
 exact ⟨.bl k,H,I,rfl,q⟩
theorem qxi:OpR X (compareOp .Lt) (rI0 fun i j=>.bl (decide (i < j))):=wkr fun _ _ _ _ _ _ _ q=>lt_int q
theorem vx0:OpR X (compareOp .Gt) (rI0 fun i j=>.bl (decide (j < i))):=wkr fun _ _ _ _ _ _ _ q=>gt_int q
theorem jzo : OpR X (compareOp .Is) (fun x y H Q => y = .non /\ Q (.bl (decide (x = .non))) H) := by
  intro pins s σ H x y v u Q I rx ry h
  obtain ⟨rfl, q⟩ := h
  cases ry
  refine is_none_gen (qzz I q ?_)
  cases x <;> first
    | (cases rx; rfl)
    | (obtain ⟨t, rfl⟩ := rx; rfl)
theorem kx8 : OpR X (compareOp .IsNot) (fun x y H Q => y = .non /\ Q (.bl (!decide (x = .non))) H) := by
  intro pins s σ H x y v u Q I rx ry h
  obtain ⟨rfl, q⟩ := h
  cases ry
  refine isnot_none_gen (qzz I q ?_)
  cases x <;> first
    | (cases rx; rfl)
    | (obtain ⟨t, rfl⟩ := rx; rfl)
theorem OpR.or {f:Value->Value->Sem Value} {r r':R2} (h:OpR X f r) (h':OpR X f r'):OpR X f (fun x y H Q=>r x y H Q\/r' x y H Q):=by
 intro pins s σ H x y v u Q I rx ry q
 rcases q with q | q
 ·exact h pins s σ H x y v u Q I rx ry q
 ·exact h' pins s σ H x y v u Q I rx ry q
theorem jjy (b:Expr) {op:CmpOp} (h:op≠.In:=by decide) (h2:op≠.NotIn:=by decide):behindInMarks op b=false:=by
 have e1:(op == CmpOp.In)=false:=by cases op<;>first | rfl | exact absurd rfl h
 have e2:(op == CmpOp.NotIn)=false:=by cases op<;>first | rfl | exact absurd rfl h2
 cases b<;>simp [behindInMarks,e1,e2]
theorem vkm {op:CmpOp} {r:R2} (ho:OpR X (compareOp op) r) (ha:PE X a ta) (hb:PE X b tb) (hm:behindInMarks op b=false):PE X (.Compare a [op] [b] pos) (tOp r ta tb):=by
 intro pins s σ H Q I h
 exact wpAny_Compare1 (wk9 ha hb I h fun v u s2 x y H2 I2 rx ry q=>ho pins s2 σ H2 x y v u Q I2 rx ry q) hm
abbrev vzn (t:TE):TT:=fun σ H Q=>t σ H fun x H'=>∃ k,x=.bl k/\Q k H'
theorem vk7 {op:CmpOp} {r:R2} (ho:OpR X (compareOp op) r) (ha:PE X a ta) (hb:PE X b tb) (hm:behindInMarks op b=false):PT X (.Compare a [op] [b] pos) (vzn (tOp r ta tb)):=by
 intro pins s σ H Q I h
 refine wpAny_isTrue_Compare1 (thn (ha pins s σ H _ I h) fun v s1 ⟨x,H1,I1,r1,q1⟩=>thn (hb pins s1 σ H1 _ I1 q1) fun u s2 ⟨y,H2,I2,r2,q2⟩ =>
  thn (ho pins s2 σ H2 x y v u _ I2 r1 r2 q2) fun c s3 ⟨z,H3,I3,r3,k,e,q3⟩=>?_) hm
 subst e
 cases r3
 exact wpAny_truthy_bool ⟨H3,I3,q3⟩
def wkb (K:PySem.W.Frag) (x:V) (H:Hp) (k:Bool):Prop :=
 match x with
 | .non=>k=false
 | .bl b=>k=b
 | .int i=>k=(i != 0)
 | .str y=>y.length<=sizeLine/\k=((y.length:Int) != 0)
 | .byt y=>y.size<=sizeLine/\k=((y.size:Int) != 0)
 | .ref p=>(∃ xs,SqL K H p xs/\k=!xs.isEmpty)\/(∃ xs,SqT K H p xs/\k=!xs.isEmpty)\/∃ kvs,H p=some (.dK kvs)/\k=!kvs.isEmpty
 | _=>False
theorem qjq {κ:Type} {kvs:List (κ×V)} {vs:List (κ×Value)} (r:KV kvs vs):(!vs.isEmpty)=!kvs.isEmpty:=by
 cases r<;>rfl
theorem kq2 {xs:List V} {its:List Value} (r:Vals xs its):(!its.toArray.isEmpty)=!xs.isEmpty:=by
 cases r<;>simp
theorem kkz:(sizeLine:Nat) < 2 ^ 63:=by rw [sizeLine_eq];decide
theorem vve:TruR X (fun x H Q=>∃ k,wkb X.K x H k/\Q k H):=by
 intro pins s σ H x v Q I rx h
 obtain ⟨k,e,q⟩:=h
 have hl:=kkz
 have hs:sizeLine=16777216:=sizeLine_eq
 cases x with
 | non =>
  cases rx
  have e':k=false:=e
  subst e'
  exact truthy_none ⟨H,I,q⟩
 | bl b =>
  cases rx
  have e':k=b:=e
  subst e'
  exact wpAny_truthy_bool ⟨H,I,q⟩
 | int i =>
  obtain ⟨t,rfl⟩:=rx
  have e':k=(i != 0):=e
  subst e'
  exact PySem.P.truthy_int ⟨H,I,q⟩
 | str y =>
  obtain ⟨t,rfl⟩:=rx
  obtain ⟨hy,e'⟩:y.length<=sizeLine/\k=((y.length:Int) != 0):=e
  subst e'
  exact PySem.P.truthy_str (by omega) ⟨H,I.tok _,q⟩
 | byt y =>
  obtain ⟨t,rfl⟩:=rx
  obtain ⟨hy,e'⟩:y.size<=sizeLine/\k=((y.size:Int) != 0):=e
  subst e'
  exact PySem.W.truthy_bytes (by omega) ⟨H,I.tok _,q⟩
 | ref p =>
  cases rx
  have e':(∃ xs,SqL X.K H p xs/\k=!xs.isEmpty)\/(∃ xs,SqT X.K H p xs/\k=!xs.isEmpty)\/∃ kvs,H p=some (.dK kvs)/\k=!kvs.isEmpty:=e
  rcases e' with ⟨xs,hx,e'⟩ | ⟨xs,hx,e'⟩ | ⟨kvs,hx,e'⟩
  ·subst e'
   obtain ⟨its,r,pl,hz⟩:=I.list hx
   have hlen:=r.length
   exact wpAny_truthy_list pl.isList (by simp only [List.size_toArray];omega) ⟨H,I.tok _,by rw [kq2 r];exact q⟩
  ·subst e'
   obtain ⟨its,r,pl,hz⟩:=I.tuple hx
   have hlen:=r.length
   exact truthy_tuple pl (by simp only [List.size_toArray];omega) ⟨H,I.tok _,by rw [kq2 r];exact q⟩
  ·subst e'
   obtain ⟨hz,hS,vs,r,m⟩:kvs.length<=sizeLine/\(p == sysModules)=false/\∃ vs,KV kvs vs/\s.heap.DictOf (kqr X.prog X.w) p vs:=I.hok p _ hx
   have hlen:kvs.length=vs.length:=Paired.length r
   exact wpAny_truthy_dict hS m (by omega) ⟨H,I.tok _,by rw [qjq r];exact q⟩
 | _=>exact (show False from e).elim
theorem qx5 (ha:PE X a ta) (he:∀ whole,isTrue a X.env whole=(do let v <- whole;standAt a.pos;holding [v] (truthy v))) :
  PT X a (fun σ H Q=>ta σ H fun x H'=>∃ k,wkb X.K x H' k/\Q k H'):=by
 intro pins s σ H Q I h
 exact isTrue_plain (thn (ha pins s σ H _ I h) fun v s1 ⟨x,H1,I1,r1,q1⟩=>vve pins s1 σ H1 x v Q I1 r1 q1) (he _)
theorem op_add_str:OpR X (binaryOp .Add) (fun x y H Q=>∃ i j,x=.str i/\y=.str j/\i.length + j.length<=sizeLine/\Q (.str (i++j)) H):=by
 intro pins s σ H x y v u Q I rx ry h
 obtain ⟨i,j,rfl,rfl,hz,q⟩:=h
 obtain ⟨t,rfl⟩:=rx
 obtain ⟨t',rfl⟩:=ry
 exact add_str (fun t' tk=>⟨.str (i++j),H,I.tok _,⟨_,rfl⟩,q⟩) hz
theorem jzt {x:V} {us:List Value} (r:Vals [x] us):∃ u,us=[u]/\RelV x u:=by
 cases r with
 | cons r1 r2=>cases r2;exact ⟨_,rfl,r1⟩
theorem qkc {x y:V} {us:List Value} (r:Vals [x,y] us):∃ u w',us=[u,w']/\RelV x u/\RelV y w':=by
 cases r with
 | cons r1 r2 =>
  cases r2 with
  | cons r3 r4=>cases r4;exact ⟨_,_,rfl,r1,r3⟩
theorem qw5:CallR X (.type "int") (fun xs H Q=>(∃ i,xs=[.int i]/\Q (.int i) H)\/∃ k,xs=[.bl k]/\Q (.int (if k then 1 else 0)) H):=by
 intro pins s σ H xs us Q I r h
 rcases h with ⟨i,rfl,q⟩ | ⟨k,rfl,q⟩
 ·obtain ⟨u,rfl,t,rfl⟩:=jzt r
  exact call_int_int ⟨.int i,H,I,⟨_,rfl⟩,q⟩
 ·obtain ⟨u,rfl,r1⟩:=jzt r
  cases r1
  exact call_int_bool ⟨.int (if k then 1 else 0),H,I.tok _,⟨_,rfl⟩,q⟩
end
end L2
namespace L2
open PySem PySem.Spec PyProof.Rows
structure ObjM (h:Heap) (x dx C:Addr) (mA:Str->Option Value):Prop where
 obj:h.get? x=some (PySem.W.instObj C dx)
 ns:h.Ns1 dx mA
 ne:dx≠x
theorem qqu {h:Heap} {dx:Addr} {mA:Str->Option Value} (n:h.Ns1 dx mA):∃ od,h.get? dx=some od/\∀ name,PySem.W.lookIn name od=some (mA name):=by
 obtain ⟨o,es,ep,ho,hd,hk,_,hm⟩:=n
 refine ⟨o,ho,fun name=>?_⟩
 have e:=hm name
 unfold nsFind findBy at e
 rw [<- Array.find?_toList] at e
 unfold PySem.W.lookIn
 rw [hd]
 dsimp only
 split
 ·rename_i y q
  rw [q] at e
  exact congrArg some e
 ·rename_i q
  rw [q] at e
  have a:es.toList.any (·.refKey)=false:=by
   rw [List.any_eq_false]
   intro y hy
   obtain ⟨z,t,hkey⟩:=hk y (Array.mem_toList_iff.mp hy)
   simp [DictEntry.refKey,hkey]
  have a':¬ es.toList.any (·.refKey)=true:=by rw [a];exact Bool.false_ne_true
  rw [if_neg a']
  exact congrArg some e
theorem ObjM.look {h:Heap} {x dx C:Addr} {mA:Str->Option Value} (I:ObjM h x dx C mA):∃ od,PySem.W.InstAt h x (PySem.W.instObj C dx) C (some od)/\∀ name,PySem.W.lookIn name od=some (mA name) :=
 let ⟨od,ho,hl⟩:=qqu I.ns
 ⟨od,⟨I.obj,rfl,rfl,ho⟩,hl⟩
section
variable {P:Program} {w:World} {H H':Hp} {h h':Heap} {a C dx:Addr} {fs fs':List (Str×V)}
theorem vqd (hok:HOk P w H h) (e:H a=some (.ins C dx fs)):∃ mA,ObjM h a dx C mA/\(∀ f,wkc (fs.lookup f) (mA f))/\PySem.Within mA (fs.map (·.1))/\fs.length<=1000/\H dx=some (.own a):=by
 obtain ⟨d,z,ne,ob,mA,n,r,q⟩:=(show ObjOk P w H h a (.ins C dx fs) from hok a _ e)
 exact ⟨mA,⟨ob,n,ne⟩,r,q,z,d⟩
end
structure Cls (K:PySem.W.Frag) (C:Addr):Prop where
 pg:PySem.W.plainGet K C Str.empty=true
 hd:PySem.W.hasDictIn K C=true
 po:PySem.W.plainOver K C=true
 sa:PySem.W.findIn K (.ref C) "__setattr__"=some (some (.builtin "object.__setattr__"))
theorem Cls.get {K:PySem.W.Frag} {C:Addr} (c:Cls K C) (f:Str):PySem.W.plainGet K C f=true:=c.pg
section
variable {X:Cx} {pins:List (Addr×Obj)} {σ:St} {H:Hp} {s:Shared} {A:Around} {E:Value->Shared->Prop} {Q:Value->Shared->Prop} {c:Value} {b:Bool}
inductive TyOf (K:PySem.W.Frag) (H:Hp):V->Value->Prop where
 | non:TyOf K H .non (.type "NoneType")
 | bl (x:Bool):TyOf K H (.bl x) (.type "bool")
 | int (i:Int):TyOf K H (.int i) (.type "int")
 | str (x:Str):TyOf K H (.str x) (.type "str")
 | flt (x:UInt64):TyOf K H (.flt x) (.type "float")
 | lst {a:Addr} {xs:List V} (e:H a=some (.lst xs)):TyOf K H (.ref a) (.type "list")
 | frz {a:Addr} {o:Obj} {xs:List V} (e:H a=some (.frz o (.lst xs))):TyOf K H (.ref a) (.type "list")
 | tup {a:Addr} {xs:List V} (e:H a=some (.tup xs)):TyOf K H (.ref a) (.type "tuple")
 | dK {a:Addr} {kvs:List (Key×V)} (e:H a=some (.dK kvs)):TyOf K H (.ref a) (.type "dict")
 | dT {a:Addr} {kvs:List (List Key×V)} (e:H a=some (.dT kvs)):TyOf K H (.ref a) (.type "dict")
 | ins {a C dx:Addr} {fs:List (Str×V)} (e:H a=some (.ins C dx fs)) (cl:Cls K C) (ha:PySem.W.findIn K (.ref C) "__class__"=some (some (.builtin "object.__class__")))
   (hn:PySem.W.specialIn K (.builtin "object.__class__") "__get__"=some (some (.builtin "getset_descriptor.__get__"))) (htk:PySem.W.takesIn K (.builtin "object.__class__")=some true)
   (hm:PySem.W.mroIn K C (.type "object")=some true):TyOf K H (.ref a) (.ref C)
theorem qva {x:V} {u t:Value} (I:Inv X pins σ H s) (rx:RelV x u) (ty:TyOf X.K H x t) (e:PySem.W.kitOne X.K t c=some b) (h:∀ tk,Q (.bool b) { s with toks:=tk }) :
  wpAny (model X.prog X.w) A (call (.builtin "isinstance") [u,c]) Q E s:=by
 cases ty with
 | non=>cases (show u=Value.none from rx);exact PySem.W.kia_one PySem.W.kitx_none I.kIn True.intro e (fun z=>nomatch z) h
 | bl y=>cases (show u=Value.bool y from rx);exact PySem.W.kia_one PySem.W.kitx_bool I.kIn True.intro e (fun z=>nomatch z) h
 | int i=>obtain ⟨t,q⟩:=(show ∃ t,u=Value.int i t from rx);cases q;exact PySem.W.kia_one PySem.W.kitx_int I.kIn True.intro e (fun z=>nomatch z) h
 | str y=>obtain ⟨t,q⟩:=(show ∃ t,u=Value.str y t from rx);cases q;exact PySem.W.kia_one PySem.W.kitx_str I.kIn True.intro e (fun z=>nomatch z) h
 | flt y=>obtain ⟨t,q⟩:=(show ∃ t,u=Value.float y t from rx);cases q;exact PySem.W.kia_one PySem.W.kitx_float I.kIn True.intro e (fun z=>nomatch z) h
 | @lst a xs ea =>
  cases (show u=Value.ref a from rx)
  obtain ⟨_,_,n,_,h1⟩:=(show ObjOk X.prog X.w H s.heap a (.lst xs) from I.hok a _ ea)
  exact PySem.W.kia_one PySem.W.kitx_list I.kIn ⟨_,h1,rfl⟩ e (fun z=>nomatch z) h
 | @frz a ob xs ea =>
  cases (show u=Value.ref a from rx)
  obtain ⟨_,_,_,n,_,h1⟩:=(show ObjOk X.prog X.w H s.heap a (.frz ob (.lst xs)) from I.hok a _ ea)
  exact PySem.W.kia_one PySem.W.kitx_list I.kIn ⟨_,h1,rfl⟩ e (fun z=>nomatch z) h
 | @tup a xs ea =>
  cases (show u=Value.ref a from rx)
  obtain ⟨_,_,_,p⟩:=(show ObjOk X.prog X.w H s.heap a (.tup xs) from I.hok a _ ea)
  obtain ⟨o,h1,h2,_⟩:=p
  exact PySem.W.kia_one PySem.W.kitx_tuple I.kIn ⟨o,h1,h2⟩ e (fun z=>nomatch z) h
 | @dK a kvs ea =>
  cases (show u=Value.ref a from rx)
  obtain ⟨_,_,vs,_,p⟩:=(show ObjOk X.prog X.w H s.heap a (.dK kvs) from I.hok a _ ea)
  obtain ⟨o,es,ep,h1,h2,_⟩:=p
  exact PySem.W.kia_one PySem.W.kitx_dict I.kIn ⟨o,h1,h2.1⟩ e (fun z=>nomatch z) h
 | @dT a kvs ea =>
  cases (show u=Value.ref a from rx)
  obtain ⟨_,_,xs,_,o,es,ep,h1,h2,_⟩:=(show ObjOk X.prog X.w H s.heap a (.dT kvs) from I.hok a _ ea)
  exact PySem.W.kia_one PySem.W.kitx_dict I.kIn ⟨o,h1,h2.1⟩ e (fun z=>nomatch z) h
 | @ins a C dx fs ea cl ha hn htk hm =>
  cases (show u=Value.ref a from rx)
  obtain ⟨mA,O,_⟩:=vqd I.hok ea
  obtain ⟨od,J,_⟩:=O.look
  exact PySem.W.kia_one (PySem.W.kitx_own (cl.get _) cl.hd ha hn htk hm) I.kIn J e (fun z=>nomatch z) h
end
end L2
namespace L2
open PySem PySem.Spec PyProof.Rows
structure Room (k:Nat) (A:Around):Prop where
 hd:A.handled=none
 dp:A.depth + 3 * k + 5 < recursionLimit
 un:A.units + 16 * k + 200 < cLine
 gd:A.guards=some []
theorem Room.mono {j k:Nat} {A:Around} (r:Room k A) (h:j<=k):Room j A:=⟨r.hd,by have:=r.dp;omega,by have:=r.un;omega,r.gd⟩
theorem Room.deeper {k:Nat} {A:Around} (r:Room (k + 1) A) (env:Env):Room k (A.deeper env) :=
 ⟨r.hd,by have:=r.dp;show A.depth + 1 + 3 * k + 5 < _;omega,by have:=r.un;show A.units + 3 + 16 * k + 200 < _;omega,r.gd⟩
theorem Room.depth {k:Nat} {A:Around} (r:Room k A):A.depth < recursionLimit:=by have:=r.dp;omega
theorem Room.units {k:Nat} {A:Around} (r:Room k A):A.units + 64 < cLine:=by have:=r.un;omega
abbrev wkf:TA:=fun _ H Q=>Q [] H
abbrev vvl (ta:TE) (tr:TA):TA:=fun σ H Q=>ta σ H fun x H1=>tr σ H1 fun xs H2=>Q (x :: xs) H2
section
variable {X:Cx} {e:Expr} {es:List Expr} {te:TE} {t:TA} {pos:Pos}
theorem jkp:PA X [] wkf:=fun _ _ _ _ H Q I h=>Calls.spliced_nil ⟨[],H,I,.nil,h⟩
theorem jjr (ha:PE X e te) (hr:PA X es t) (hs:starEach (e :: es) X.env=(false,eval e X.env) :: starEach es X.env:=by rfl):PA X (e :: es) (vvl te t):=by
 intro pos pins s σ H Q I h
 rw [hs]
 show wpAny _ _ (spliced ((false,eval e X.env) :: backTo pos (starEach es X.env))) _ _ s
 refine Calls.spliced_cons (thn (ha pins s σ H _ I h) fun u s1 ⟨x,H1,I1,r1,q1⟩=>?_)
 exact thn (hr pos pins s1 σ H1 _ I1 q1) fun us s2 ⟨xs,H2,I2,r2,q2⟩=>⟨x :: xs,H2,I2,.cons r1 r2,q2⟩
abbrev tTup (t:TA):TE:=fun σ H Q=>t σ H fun xs H1=>xs.length<=sizeLine/\∀ p,H1 p=none->Q (.ref p) (upd H1 p (.tup xs))
abbrev tLst (t:TA):TE:=fun σ H Q=>t σ H fun xs H1=>xs.length<=sizeLine/\∀ p,H1 p=none->Q (.ref p) (upd H1 p (.lst xs))
theorem vws {x1} (h:PA X es t):PE X (.Tuple es x1 pos) (tTup t):=by
 intro pins s σ H Q I hq
 refine wpAny_Tuple_spliced (thn (h pos pins s σ H _ I hq) fun us s1 ⟨xs,H1,I1,r,z,q⟩=>⟨by rw [<- r.length];exact z,?_⟩)
 have hf:H1 s1.heap.objs.size=none:=I1.hok.fresh (Nat.le_refl _)
 refine ⟨.ref s1.heap.objs.size,upd H1 s1.heap.objs.size (.tup xs),I1.laid (t':=s1.toks) (fun b u e=>Heap.get?_push_of_some _ e) (Nat.le_refl _) ?_,rfl,q _ hf⟩
 exact ⟨z,us,r,⟨_,Heap.get?_push_size _ rfl,rfl,rfl,_,rfl⟩⟩
theorem vwu (h:PA X es t):PE X (.List es pos) (tLst t):=by
 intro pins s σ H Q I hq
 refine wpAny_List_spliced (thn (h pos pins s σ H _ I hq) fun us s1 ⟨xs,H1,I1,r,z,q⟩=>⟨by rw [<- r.length];exact z,?_⟩)
 have hf:H1 s1.heap.objs.size=none:=I1.hok.fresh (Nat.le_refl _)
 refine ⟨.ref s1.heap.objs.size,upd H1 s1.heap.objs.size (.lst xs),I1.laid (t':=s1.toks) (fun b u e=>Heap.get?_push_of_some _ e) (Nat.le_refl _) ?_,rfl,q _ hf⟩
 exact ⟨z,us,0,r,Heap.get?_push_size _ rfl⟩
end
abbrev Sp:=List V->Hp->VK->XK->Prop
abbrev CXT:=List Env->Hp->Shared->XK->Value->Shared->Prop
structure Env0 (P:Program) (w:World) (K:PySem.W.Frag) (mg:Str->Option Value) (base:Heap) (A:Around) (outer:List Env) (s:Shared) (H:Hp):Prop where
 frames:A.frames=some outer
 mod:Mod K mg base
 bs:∀ b o,base.get? b=some o->s.heap.get? b=some o/\H b=none
 bsz:base.objs.size<=s.heap.objs.size
 funs:s.heap.FunFrames base outer
 frf:∀ b∈frs outer,H b=none
 hok:HOk P w H s.heap
 bare:AllBare s.gens
def CE (outer:List Env) (P:Program) (w:World) (H:Hp) (s:Shared) (Q:VK) (u:Value) (s':Shared):Prop :=
 ∃ v H',s'.os=s.os/\AllBare s'.gens/\Un (frs outer) [] H H' s.heap s'.heap/\HOk P w H' s'.heap/\RelV v u/\Q v H'
def CR (CX:CXT) (outer:List Env) (P:Program) (w:World) (H:Hp) (s:Shared) (Q:VK) (E:XK) (r:Result) (s':Shared):Prop :=
 match r with
 | .ok (.ret u)=>CE outer P w H s Q u s'
 | .ok _=>False
 | .error e=>CX outer H s E e s'
structure FnOk (P:Program) (w:World) (K:PySem.W.Frag) (mg:Str->Option Value) (base:Heap) (CX:CXT) (k:Nat) (f:Addr) (fd:FuncData) (ps:List Str) (sp:Sp):Prop where
 len:∀ vs H Q E,sp vs H Q E->vs.length=ps.length
 run:∀ (A:Around) (outer:List Env) (s:Shared) (H:Hp) (args:Args) (us:List Value) (vs:List V) (Q:VK) (E:XK),Room k A->Env0 P w K mg base A outer s H->BindsTo s fd args (ps.zip us)->Vals vs us->sp vs H Q E ->
  codeAny (model P w) A (.call (.ref f) args) (CR CX outer P w H s Q E) s
section
variable {X:Cx} {pins:List (Addr×Obj)} {σ:St} {H:Hp} {s s':Shared}
theorem Inv.env0 (I:Inv X pins σ H s):Env0 X.prog X.w X.K X.mg X.base X.A X.stack s H :=
 ⟨I.ok.frames,I.ok.mod,I.bs,Nat.le_trans I.ok.bsz I.sz,I.stack,I.stkFree,I.hok,I.bare⟩
theorem Inv.after {Q:VK} {u:Value} (I:Inv X pins σ H s) (h:CE X.stack X.prog X.w H s Q u s'):EP X pins σ Q u s':=by
 obtain ⟨v,H',os,bare,un,hok,r,q⟩:=h
 obtain ⟨hh,g,d,t,os'⟩:=s'
 obtain rfl:os'=s.os:=os
 exact ⟨v,H',I.call (h':=hh) (g':=g) (d':=d) (t':=t) (ch:=[]) un hok bare (fun b z=>absurd z (by simp)),r,q⟩
end
abbrev qwr (sp:Sp) (dvs:List V) (E:XK) (t:TA):TE:=fun σ H Q=>t σ H fun vs H1=>sp (vs++dvs) H1 Q E
def Binds (K:PySem.W.Frag) (fd:FuncData) (ps:List Str) (ds:List Value):Prop :=
 ∀ (s:Shared) (us:List Value),K.In s.heap->(us++ds).length=ps.length->BindsTo s fd ⟨us,[]⟩ (ps.zip (us++ds))
theorem Binds.all {K:PySem.W.Frag} {fd:FuncData} {ps:List Str} (h:∀ us:List Value,us.length=ps.length->bindArgs fd ⟨us,[]⟩=pure (ps.zip us)):Binds K fd ps []:=fun s us _ hl=>by
 rw [List.append_nil] at hl ⊢
 exact .of_eq (h us hl)
def qwf (CX:CXT) (X:Cx) (E:XK):Prop:=∀ (pins:List (Addr×Obj)) (σ:St) (H:Hp) (s:Shared) (e:Value) (s':Shared),Inv X pins σ H s->CX X.stack H s E e s'->X.xe e s'
section
variable {X:Cx} {CX:CXT} {k:Nat} {f C:Addr} {fd:FuncData} {ps:List Str} {sp:Sp} {dvs:List V} {ds:List Value} {E:XK} {x m:Str} {p pos apos:Pos} {e o:Expr} {es:List Expr} {ta:TE} {t:TA}
theorem vvs {pins:List (Addr×Obj)} {σ:St} {H:Hp} {s:Shared} {Q:VK} {us:List Value} {vs:List V} (F:FnOk X.prog X.w X.K X.mg X.base CX k f fd ps sp) (hr:Room k X.A) (hb:Binds X.K fd ps ds) (hd:Vals dvs ds) (hx:qwf CX X E)
  (I:Inv X pins σ H s) (r:Vals vs us) (h:sp (vs++dvs) H Q E):wpAny (model X.prog X.w) X.A (call (.ref f) us) (EP X pins σ Q) X.xe s:=by
 have r2:Vals (vs++dvs) (us++ds):=r.append hd
 have hl:(us++ds).length=ps.length:=by rw [<- r2.length];exact F.len _ _ _ _ h
 refine wpAny_call (codeAny_mono (F.run X.A X.stack s H ⟨us,[]⟩ (us++ds) (vs++dvs) Q E hr I.env0 (hb s us I.kIn hl) r2 h) fun r s' hq=>?_)
 cases r with
 | error e=>exact hx pins σ H s e s' I hq
 | ok fl =>
  cases fl with
  | ret u=>exact I.after hq
  | next=>exact False.elim hq
  | brk=>exact False.elim hq
  | cont=>exact False.elim hq
theorem vkn (F:FnOk X.prog X.w X.K X.mg X.base CX k f fd ps sp) (hr:Room k X.A) (hg:Gl X x) (hm:X.mg x=some (.ref f)) (hk:PySem.W.keepIn X.K (.ref f)=true) (hb:Binds X.K fd ps ds) (hd:Vals dvs ds) (hx:qwf CX X E)
  (ha:PA X (e :: es) t) (hdb:(x == ("__debug__":Str))=false:=by decide) (he:starEach (e :: es) X.env=(false,eval e X.env) :: starEach es X.env:=by rfl) (hpl:(backTo pos (starEach es X.env)).any (·.1)=false:=by rfl) :
  PE X (.Call (.Name x p) (e :: es) [] pos) (qwr sp dvs E t):=by
 intro pins s σ H Q I h
 refine wpAny_Call_Name_kw (jxd I hg hm ?_ hdb)
 refine PySem.W.callWith_K (h₀:=X.base) I.ok.mod.kin hk (thn (ha pos pins s σ H _ I h) fun us s1 ⟨vs,H1,I1,r,q⟩=>⟨I1.kIn,?_⟩) he hpl
 exact vvs F hr hb hd hx I1 r q
end
structure FnScope (N P:List Str) (sc:Scope):Prop where
 kind:sc.kind=.function
 co:sc.isCoroutine=false
 gen:sc.isGenerator=false
 nd:N.Nodup
 pre:N.take P.length=P
 par:∀ x∈P,sc.names.lookup x=some .local\/sc.names.lookup x=some .cell
 nofree:∀ y∈sc.names,y.2≠.free
theorem kwp {kindOf : Str -> Option NameKind} {x : Str} : ∀ {binds : List (Str × Value)} {m : Str -> Option Value}, (∀ v, (x, v) ∉ binds) -> bindL kindOf binds m x = m x
  | [], _, _ => rfl
  | (n, v) :: r, m, h => by
    unfold bindL
    rw [kwp fun w hw => h w (lc9 _ hw)]
    split
    · have : x ≠ n := by rintro rfl; exact h v List.mem_cons_self
      simp [this]
    · rfl
theorem kwr {kindOf : Str -> Option NameKind} {x : Str} : ∀ {binds : List (Str × Value)} {m : Str -> Option Value}, (∀ v, (x, v) ∉ binds) -> bindC kindOf binds m x = m x
  | [], _, _ => rfl
  | (n, v) :: r, m, h => by
    unfold bindC
    rw [kwr fun w hw => h w (lc9 _ hw)]
    split
    · rfl
    · have : x ≠ n := by rintro rfl; exact h v List.mem_cons_self
      simp [this]
theorem kwq {kindOf:Str->Option NameKind} {x:Str} {v:Value}:∀ {P:List Str} {vs:List Value} {i:Nat} {m:Str->Option Value},P.Nodup->P[i]?=some x->vs[i]?=some v->kindOf x=some .local ->
  bindL kindOf (P.zip vs) m x=some v
 | [],_,_,_,_,h,_,_=>by simp at h
 | _ :: _,[],_,_,_,_,h,_=>by simp at h
 | p :: P,w :: vs,0,m,nd,h1,h2,hk=>by
  simp at h1 h2;subst h1;subst h2
  show bindL kindOf ((p,w) :: P.zip vs) m p=_
  unfold bindL
  rw [kwp fun v hv=>(List.nodup_cons.mp nd).1 (List.of_mem_zip hv).1,if_pos hk]
  simp
 | p :: P,w :: vs,i + 1,m,nd,h1,h2,hk=>by
  show bindL kindOf ((p,w) :: P.zip vs) m x=_
  unfold bindL
  exact kwq (i:=i) (List.nodup_cons.mp nd).2 (by simpa using h1) (by simpa using h2) hk
theorem kws {kindOf:Str->Option NameKind} {x:Str} {v:Value}:∀ {P:List Str} {vs:List Value} {i:Nat} {m:Str->Option Value},P.Nodup->P[i]?=some x->vs[i]?=some v->kindOf x≠some .local ->
  bindC kindOf (P.zip vs) m x=some v
 | [],_,_,_,_,h,_,_=>by simp at h
 | _ :: _,[],_,_,_,_,h,_=>by simp at h
 | p :: P,w :: vs,0,m,nd,h1,h2,hk=>by
  simp at h1 h2;subst h1;subst h2
  show bindC kindOf ((p,w) :: P.zip vs) m p=_
  unfold bindC
  rw [kwr fun v hv=>(List.nodup_cons.mp nd).1 (List.of_mem_zip hv).1,if_neg hk]
  simp
 | p :: P,w :: vs,i + 1,m,nd,h1,h2,hk=>by
  show bindC kindOf ((p,w) :: P.zip vs) m x=_
  unfold bindC
  exact kws (i:=i) (List.nodup_cons.mp nd).2 (by simpa using h1) (by simpa using h2) hk
def start (N:List Str) (vs:List V):St:=vs.map some++List.replicate (N.length - vs.length) none
def qk6 (CX:CXT) (P:Program) (w:World) (K:PySem.W.Frag) (mg:Str->Option Value) (base:Heap) (N:List Str) (qual:Str) (scope:Scope) (f:Addr) (cd:Value) (A:Around) (outer:List Env) (s:Shared) (H:Hp) (E:XK):Cx where
 prog:=P
 w:=w
 K:=K
 mg:=mg
 base:=base
 A:=A.deeper (envOfC qual scope s.heap.objs.size f cd)
 N:=N
 s₀:=s
 H₀:=H
 env:=envOfC qual scope s.heap.objs.size f cd
 outer:=outer
 stack:=envOfC qual scope s.heap.objs.size f cd :: outer
 ex:=[]
 calm:=true
 fn:=fun _=>true
 pn:=[]
 xe:=fun e s'=>wpAny (model P w) (A.deeper (envOfC qual scope s.heap.objs.size f cd)) (leaving (envOfC qual scope s.heap.objs.size f cd) e) (fun _ s''=>CX outer H s E e s'') (fun e' s''=>CX outer H s E e' s'') s'
theorem qj3 {sc:Scope} {n:Nat} {x:Str} (h:sc.names.lookup x=some .cell):∃ c,(cellsFrom n sc.names []).lookup x=some c:=by
 have q:=PySem.W.cellsFrom_some sc.names n [] (.inl h)
 exact Option.isSome_iff_exists.mp q
theorem kw8 {CX:CXT} {P:Program} {w:World} {K:PySem.W.Frag} {mg:Str->Option Value} {base:Heap} {N ps:List Str} {qual:Str} {scope:Scope} {f:Addr} {cd:Value} {A:Around} {outer:List Env} {s s1:Shared} {H:Hp} {E:XK} {us:List Value} {vs:List V}
  (S:FnScope N ps scope) (hd:A.handled=none) (e0:Env0 P w K mg base A outer s H) (hl:vs.length=ps.length) (r:Vals vs us)
  (x:InCallC s s.heap.objs.size (bindL (envOfC qual scope s.heap.objs.size f cd).kindOf (ps.zip us) fun _=>none) (cellsFrom (s.heap.objs.size + 1) scope.names []) (bindC (envOfC qual scope s.heap.objs.size f cd).kindOf (ps.zip us) fun _=>none) s1) :
  Inv (qk6 CX P w K mg base N qual scope f cd A outer s H E) [] (start N vs) H s1:=by
 have hpl:ps.length<=N.length:=by have:=congrArg List.length S.pre;rw [List.length_take] at this;omega
 obtain ⟨h1,tk,rfl,hk⟩:=x.done
 have noA:∀ b:Addr,b∉(qk6 CX P w K mg base N qual scope f cd A outer s H E).ex:=fun b z=>absurd (show b∈([]:List Addr) from z) (by simp)
 refine ⟨⟨e0.mod,S.kind,rfl,rfl,Nat.le_refl _,fun y z c h1 h2=>?_,fun y hy=>?_,fun y c _ h=>?_,fun _=>hd,Around.frames_deeper e0.frames,.inr ⟨rfl,rfl⟩,fun b z=>absurd z (noA b),e0.bs,e0.bsz,fun b _ _=>noA b,fun b z=>absurd z (noA b),e0.funs,e0.frf⟩,
  rfl,e0.bare,Un.kept hk,⟨_,x.toInCall.ns,fun i y v h1 h2 h3=>?_⟩,fun y c h=>⟨_,x.cell y c h⟩,e0.hok.fresh (Nat.le_refl _),fun y c h=>?_,fun p hp=>absurd (show p∈([]:List (Addr×Obj)) from hp) (by simp),e0.hok.kept hk,?_⟩
 ·exact name_of_addr x.apart (PySem.mem_of_lookup h1) (PySem.mem_of_lookup h2)
 ·have hy:scope.names.lookup y=some .cell\/scope.names.lookup y=some .free:=hy
  rcases hy with hy | hy
  ·exact qj3 hy
  ·exact absurd rfl (S.nofree _ (PySem.mem_of_lookup hy))
 ·exact Nat.le_of_lt (x.above y c (PySem.mem_of_lookup h))
 ·have hi:i < vs.length:=by
   unfold start at h2
   by_cases hi:i < vs.length
   ·exact hi
   ·rw [List.getElem?_append_right (by simpa using hi)] at h2
    rw [List.getElem?_replicate] at h2
    split at h2<;>cases h2
  have ha:vs[i]?=some v:=by
   unfold start at h2
   rw [List.getElem?_append_left (by simpa using hi),List.getElem?_map] at h2
   cases e:vs[i]? with
   | none=>rw [e] at h2;cases h2
   | some a=>rw [e] at h2;cases h2;rfl
  obtain ⟨u,hu,rv⟩:=r.get ha
  have hp:ps[i]?=some y:=by
   rw [<- S.pre,List.getElem?_take_of_lt (by omega)];exact h1
  have ndP:ps.Nodup:=by rw [<- S.pre];exact S.nd.sublist (List.take_sublist _ _)
  refine ⟨u,rv,?_⟩
  rcases S.par y (List.mem_of_getElem? hp) with k | k
  ·exact .inl ⟨k,kwq ndP hp hu k⟩
  ·obtain ⟨c,e⟩:=qj3 (n:=s.heap.objs.size + 1) k
   refine .inr ⟨.inl k,c,e,?_⟩
   have q:=x.cell y c e
   rw [kws ndP hp hu (by show scope.names.lookup y≠_;rw [k];decide)] at q
   exact q
 ·exact e0.hok.fresh (Nat.le_of_lt (x.above y c (PySem.mem_of_lookup h)))
 ·unfold start
  show _=N.length
  rw [List.length_append,List.length_map,List.length_replicate]
  omega
theorem wjy {CX:CXT} {P:Program} {w:World} {K:PySem.W.Frag} {mg:Str->Option Value} {base:Heap} {k:Nat} {f:Addr} {name qual:Str} {params:Arguments} {body:List Stmt} {scope:Scope} {dV kV doc pm cdv ct oc:Value} {an od:Option Addr}
  {osl:Array (Option Value)} {N ps:List Str} {sp:Sp} (lk:K.lookup f=some ⟨oc,od,.func (PySem.W.fnOf name qual params body scope dV kV doc pm an cdv ct),osl⟩) (hcd:PySem.W.codeIn K cdv qual=true) (S:FnScope N ps scope)
  (len:∀ vs H Q E,sp vs H Q E->vs.length=ps.length)
  (hbody:∀ (A:Around) (outer:List Env) (s:Shared) (H:Hp) (vs:List V) (Q:VK) (E:XK),Room k (A.deeper (envOfC qual scope s.heap.objs.size f cdv))->sp vs H Q E ->
   ∃ t,PSs (qk6 CX P w K mg base N qual scope f cdv A outer s H E) body t/\t { nx:=fun _ H'=>Q .non H',rt:=Q } (start N vs) H) :
  FnOk P w K mg base CX (k + 1) f (PySem.W.fnOf name qual params body scope dV kV doc pm an cdv ct) ps sp:=by
 refine ⟨len,fun A outer s H args us vs Q E hr e0 hb r hsp=>?_⟩
 have hl:=len _ _ _ _ hsp
 have KX:K.In s.heap:=e0.mod.kin.keeps fun b o e=>(e0.bs b o e).1
 have lim:s.heap.NoLimit:=e0.mod.nolimit.keeps fun b o e=>(e0.bs b o e).1
 have hkind:∀ y∈ps.zip us,scope.names.lookup y.1=some .local\/(scope.names.lookup y.1=some .cell/\((cellsFrom (s.heap.objs.size + 1) scope.names []).lookup y.1).isSome=true):=fun ⟨n,v⟩ hy=>by
  rcases S.par n (List.of_mem_zip hy).1 with q | q
  ·exact .inl q
  ·exact .inr ⟨q,PySem.W.cellsFrom_some _ _ _ (.inl q)⟩
 refine codeAny_call_function hr.depth (KX _ _ lk) rfl S.co S.gen rfl (PySem.W.codeRec_of KX hcd) (hb _ _ _ _ ?_)
 refine wpAny_newFunctionEnv_cells S.kind hkind fun env he s1 x=>?_
 subst he
 refine ⟨lim.keeps x.toInCall.keep,codeAny_func ?_⟩
 obtain ⟨t,ht,hq⟩:=hbody A outer s H vs Q E (hr.deeper _) hsp
 have I:Inv (qk6 CX P w K mg base N qual scope f cdv A outer s H E) [] (start N vs) H s1:=kw8 S hr.hd e0 hl r x
 refine wpAny_mono (ht [] s1 (start N vs) H _ I hq) (fun fl s' hs=>?_) fun e s' hs=>hs
 have fin:∀ {σ':St} {H':Hp} {v:V} {u:Value},Inv (qk6 CX P w K mg base N qual scope f cdv A outer s H E) [] σ' H' s'->RelV v u->Q v H'->CE outer P w H s Q u s' :=
  fun {σ' H' v u} J rv q=>⟨v,H',J.os,J.bare,J.base,J.hok,rv,q⟩
 cases fl with
 | ret u =>
  obtain ⟨v,σ',H',J,rv,q⟩:=hs
  exact fin J rv q
 | next =>
  obtain ⟨σ',H',J,q⟩:=hs
  exact fin (v:=V.non) (u:=Value.none) J rfl q
 | brk =>
  obtain ⟨_,_,_,q⟩:=hs
  exact False.elim q
 | cont =>
  obtain ⟨_,_,_,q⟩:=hs
  exact False.elim q
end L2
namespace L2
open PySem PySem.Spec PyProof.Rows
section
variable {X:Cx} {x:Str} {p pos:Pos} {e:Expr} {es:List Expr} {t:TA} {id T:String} {r:List V->Hp->VK->Prop}
abbrev tCB (r:List V->Hp->VK->Prop) (t:TA):TE:=fun σ H Q=>t σ H fun vs H1=>r vs H1 Q
theorem kql (hc:CallR X (.builtin id) r) (hg:Gl X x) (hm:X.mg x=none) (hv:bootBuiltins x=some (.builtin id)) (ha:PA X (e :: es) t) (hn:x≠"__name__":=by decide) (hdb:(x == ("__debug__":Str))=false:=by decide)
  (he:starEach (e :: es) X.env=(false,eval e X.env) :: starEach es X.env:=by rfl) (hpl:(backTo pos (starEach es X.env)).any (·.1)=false:=by rfl):PE X (.Call (.Name x p) (e :: es) [] pos) (tCB r t):=by
 intro pins s σ H Q I h
 refine wpAny_Call_Name_kw (jzr I hg hm hv ?_ hn hdb)
 exact PyProof.Rows.callWith_builtin1 (thn (ha pos pins s σ H _ I h) fun us s1 ⟨vs,H1,I1,r1,q1⟩=>hc pins s1 σ H1 vs us Q I1 r1 q1) he hpl
theorem qqd (hc:CallR X (.type T) r) (hg:Gl X x) (hm:X.mg x=none) (hv:bootBuiltins x=some (.type T)) (ha:PA X (e :: es) t) (hn:x≠"__name__":=by decide) (hdb:(x == ("__debug__":Str))=false:=by decide)
  (he:starEach (e :: es) X.env=(false,eval e X.env) :: starEach es X.env:=by rfl) (hpl:(backTo pos (starEach es X.env)).any (·.1)=false:=by rfl):PE X (.Call (.Name x p) (e :: es) [] pos) (tCB r t):=by
 intro pins s σ H Q I h
 refine wpAny_Call_Name_kw (jzr I hg hm hv ?_ hn hdb)
 exact PyProof.Rows.callWith_type1 (thn (ha pos pins s σ H _ I h) fun us s1 ⟨vs,H1,I1,r1,q1⟩=>hc pins s1 σ H1 vs us Q I1 r1 q1) he hpl
end
end L2
namespace HT
open PySem PyProof.Rows
section
variable {prog:Program} {w:World} {A:Around} {E:Value->Shared->Prop} {s:Shared}
theorem cat_tup {t b:Addr} {vs ws:List Value} {Q:Value->Shared->Prop} (ht:IsTup s.heap t vs.toArray) (hb:IsTup s.heap b ws.toArray) (hv:vs≠[])
  (h1:ws=[]->Q (.ref t) s) (h2:ws≠[]->Q (.ref s.heap.objs.size) { s with heap:=s.heap.push { cls:=.type "tuple",data:=.seq (vs++ws).toArray } })
  (hsz:vs.length + ws.length<=sizeLine):wpAny (model prog w) A (binaryOp .Add (.ref t) (.ref b)) Q E s:=by
 obtain ⟨⟨cls,dd,data,sl⟩,ho,hc,n,hd⟩:=id ht
 obtain ⟨⟨cls2,dd2,data2,sl2⟩,ho2,hc2,n2,hd2⟩:=id hb
 simp only at hc hd hc2 hd2
 subst hc hd hc2 hd2
 have e:vs.toArray++ws.toArray=(vs++ws).toArray:=by simp
 by_cases hw:ws=[]
 ·exact concat_meets ⟨_,ho,rfl⟩ ⟨_,ho2,rfl⟩ noFill_tuple_add seq_tuple_add PySem.F.slot_tuple_add PySem.F.entry_tuple_add (PySem.F.args_tuple_add_2 _ _)
   (tuple_addW1 t b vs.toArray ws.toArray n n2 dd dd2 sl sl2 (by simpa using hv) (by simp [hw])) ⟨ho,ho2,h1 hw⟩
 ·refine concat_meets ⟨_,ho,rfl⟩ ⟨_,ho2,rfl⟩ noFill_tuple_add seq_tuple_add PySem.F.slot_tuple_add PySem.F.entry_tuple_add (PySem.F.args_tuple_add_2 _ _)
   (tuple_addW2 t b vs.toArray ws.toArray n n2 dd dd2 sl sl2 (by simpa using hv) (by simpa using hw) (by rw [List.size_toArray,List.size_toArray];exact hsz)) ⟨ho,ho2,?_⟩
  rw [e]
  exact h2 hw
def sIx (n d:Nat):Option Int->Nat
 | none=>d
 | some v=>if v < 0 then (v + (n:Int)).toNat else min v.toNat n
theorem vvr (n d:Nat) (hd:d<=n) (o:Option Int):sIx n d o<=n:=by
 cases o with
 | none=>exact hd
 | some v =>
  show (if v < 0 then (v + (n:Int)).toNat else min v.toNat n)<=n
  by_cases hv:v < 0
  ·rw [if_pos hv];omega
  ·rw [if_neg hv];exact Nat.min_le_right _ _
theorem qw0 (v:Int) (n d:Nat):(if v < 0 then max (v + (n:Int)) 0 else min v (n:Int))=((sIx n d (some v):Nat):Int):=by
 show (if v < 0 then max (v + (n:Int)) 0 else min v (n:Int))=(((if v < 0 then (v + (n:Int)).toNat else min v.toNat n):Nat):Int)
 by_cases hv:v < 0
 ·simp only [if_pos hv];omega
 ·simp only [if_neg hv];omega
theorem qk0 (lo hi:Option Int) (n:Nat):Builtin.Slice.sliceAdjust lo hi 1 (n:Int)=(((sIx n 0 lo:Nat):Int),((sIx n n hi:Nat):Int)):=by
 have h1:¬ ((1:Int) < 0):=by omega
 unfold Builtin.Slice.sliceAdjust
 simp only [h1,if_false]
 refine Prod.ext ?_ ?_
 ·cases lo with
  | none=>rfl
  | some v=>exact qw0 v n 0
 ·cases hi with
  | none=>rfl
  | some v=>exact qw0 v n n
theorem qjg (i j:Nat):Builtin.Slice.slicePlaces (i:Int) (j:Int) 1=j - i:=by
 unfold Builtin.Slice.slicePlaces
 have h1:(1:Int) > 0:=by omega
 simp only [h1,if_true,Int.ediv_one]
 split<;>omega
theorem kku {v:Value} {o:Option Int} {Q:Option Int->Shared->Prop} (p:IsPart v o) (h:Q o s):wpAny (model prog w) A (Builtin.Slice.slicePartIndex v) Q E s:=by
 cases p with
 | none=>exact slicePart_none h
 | int i t=>exact slicePart_int h
theorem jzv {sl:Addr} {vl vu:Value} {lo hi:Option Int} {n:Nat} {Q:Int×Int×Nat->Shared->Prop} (hs:s.heap.IsSliceOf sl vl vu .none) (pl:IsPart vl lo) (pu:IsPart vu hi)
  (h:Q (((sIx n 0 lo:Nat):Int),1,sIx n n hi - sIx n 0 lo) s):wpAny (model prog w) A (Builtin.Slice.sliceApplied (.ref sl) (pure (n:Int))) Q E s:=by
 obtain ⟨os,hos,hcs,hds⟩:=id hs
 unfold Builtin.Slice.sliceApplied Builtin.Slice.sliceFields
 refine wpAny_bind (wpAny_bind (wpAny_field hos hds (x:=vl) rfl (wpAny_bind (wpAny_field hos hds (x:=vu) rfl (wpAny_bind (wpAny_field hos hds (x:=.none) rfl (wpAny_pure ?_)))))))
 refine wpAny_bind (slicePart_none ?_)
 show wpAny _ _ (if ((1:Int) == 0)=true then _ else _) _ _ s
 rw [if_neg (by decide)]
 refine wpAny_bind (kku pl (wpAny_bind (kku pu (wpAny_bind (wpAny_pure ?_)))))
 show wpAny _ _ (match Builtin.Slice.sliceAdjust lo hi 1 (n:Int) with | (lo,hi)=>pure (lo,(1:Int),Builtin.Slice.slicePlaces lo hi 1)) _ _ s
 rw [qk0 lo hi n]
 show wpAny _ _ (pure (((sIx n 0 lo:Nat):Int),(1:Int),Builtin.Slice.slicePlaces ((sIx n 0 lo:Nat):Int) ((sIx n n hi:Nat):Int) 1)) _ _ s
 rw [qjg]
 exact wpAny_pure h
theorem qxb (xs:Array Value) (i k:Nat):((List.range k).filterMap fun (m:Nat)=>xs[((i:Int) + (m:Int) * 1).toNat]?).toArray=((xs.toList.drop i).take k).toArray:=by
 have e:(fun (m:Nat)=>xs[((i:Int) + (m:Int) * 1).toNat]?)=fun m=>xs[i + m]?:=by
  funext m
  have:((i:Int) + (m:Int) * 1).toNat=i + m:=by omega
  rw [this]
 rw [e]
 have:=pick_run xs i k
 rw [List.filterMap_map] at this
 have e2:((fun x=>xs[x]?)∘fun x=>i + x)=fun m=>xs[i + m]?:=rfl
 rw [e2] at this
 rw [this]
theorem getItem_tuple_cut {t sl:Addr} {items:Array Value} {vl vu:Value} {lo hi:Option Int} {Q:Value->Shared->Prop} (ht:IsTup s.heap t items) (hs:s.heap.IsSliceOf sl vl vu .none) (pl:IsPart vl lo) (pu:IsPart vu hi)
  (hw:¬ (sIx items.size 0 lo=0/\sIx items.size items.size hi=items.size))
  (h:Q (.ref s.heap.objs.size) { s with heap:=s.heap.push { cls:=.type "tuple",data:=.seq ((items.toList.drop (sIx items.size 0 lo)).take (sIx items.size items.size hi - sIx items.size 0 lo)).toArray } })
  (hsz:items.size<=sizeLine):wpAny (model prog w) A (getItem (.ref t) (.ref sl)) Q E s:=by
 have htake:sizeOk (.seq ((items.toList.drop (sIx items.size 0 lo)).take (sIx items.size items.size hi - sIx items.size 0 lo)).toArray):=by
  show ((items.toList.drop (sIx items.size 0 lo)).take (sIx items.size items.size hi - sIx items.size 0 lo)).toArray.size<=sizeLine
  rw [List.size_toArray,List.length_take,List.length_drop,Array.length_toList]
  omega
 have hj:sIx items.size items.size hi<=items.size:=vvr _ _ (Nat.le_refl _) hi
 obtain ⟨os,hos,hcs,hds⟩:=id hs
 have hTs:s.TypeIs (.ref sl) "slice":=⟨os,hos,hcs⟩
 unfold getItem
 try with_reducible refine wpAny_holding ?_
 first | refine wpAny_bind (wpAny_pure ?_) | skip
 refine wpAny_bind (wpAny_sequenceKey ht.typeIs (by decide) ?_)
 refine wpAny_bind (wpAny_callSpecial?_slot (name:=Str.ofString "__getitem__") ht.typeIs PyProof.Rows.slot_tuple_getitem
  (wpAny_call_entry PyProof.Rows.slot_tuple_getitem ht.typeIs entry_tuple_getitem ?_ (args_tuple_getitem _ _)))
 show wpAny _ _ (Builtin.Tuple.tupleItemsOf (.ref t) >>= _) _ _ s
 refine wpAny_bind (tupleItemsOf_ ht ?_)
 refine wpAny_bind (wpAny_typeOf hTs ?_)
 rw [if_pos (by decide)]
 refine wpAny_bind (jzv hs pl pu ?_)
 have hno:¬ ((((sIx items.size 0 lo:Nat):Int) == 0 && (1:Int) == 1 && (sIx items.size items.size hi - sIx items.size 0 lo) == items.size)=true):=by
  intro q
  rw [Bool.and_eq_true,Bool.and_eq_true] at q
  have q1:((sIx items.size 0 lo:Nat):Int)=0:=eq_of_beq q.1.1
  have q2:sIx items.size items.size hi - sIx items.size 0 lo=items.size:=eq_of_beq q.2
  exact hw ⟨by omega,by omega⟩
 show wpAny _ _ (if (((sIx items.size 0 lo:Nat):Int) == 0 && (1:Int) == 1 && (sIx items.size items.size hi - sIx items.size 0 lo) == items.size)=true then _ else _) _ _ s
 rw [if_neg hno,qxb]
 first
  | exact wpAny_bind (m:=Builtin.Tuple.tupleExact _) (wpAny_newObj_type (wpAny_pure ⟨_,rfl,wpAny_pure h⟩) htake)
  | exact wpAny_bind (m:=Builtin.Tuple.tupleExact _) (wpAny_newObj_type (wpAny_bind (wpAny_pure (wpAny_pure ⟨_,rfl,wpAny_pure h⟩))) htake)
  | exact wpAny_bind (wpAny_bind (m:=Builtin.Tuple.tupleExact _) (wpAny_newObj_type (wpAny_pure (wpAny_pure ⟨_,rfl,wpAny_pure h⟩)) htake))
  | exact wpAny_bind (wpAny_bind (m:=Builtin.Tuple.tupleExact _) (wpAny_newObj_type (wpAny_pure ⟨_,rfl,wpAny_pure h⟩) htake))
end
end HT
namespace L2
open PySem PySem.Spec PyProof.Rows
abbrev TO:=St->Hp->(Option Int->Hp->Prop)->Prop
def PO (X:Cx) (e:Option Expr) (t:TO):Prop :=
 ∀ (pins:List (Addr×Obj)) (s:Shared) (σ:St) (H:Hp) (Q:Option Int->Hp->Prop),Inv X pins σ H s->t σ H Q ->
  wpAny (model X.prog X.w) X.A (evalPart e X.env) (fun u s'=>∃ o H',Inv X pins σ H' s'/\IsPart u o/\Q o H') X.xe s
abbrev vjl:TO:=fun _ H Q=>Q none H
abbrev vvj (t:TE):TO:=fun σ H Q=>t σ H fun x H1=>∃ i,x=.int i/\Q (some i) H1
theorem qjs {ns:List Int}:∀ {us:List Value},Vals (ns.map V.int) us->IntsAre us ns:=by
 induction ns with
 | nil=>intro us r;rw [List.map_nil] at r;cases r;exact .nil
 | cons n ns ih =>
  intro us r
  rw [List.map_cons] at r
  cases r with
  | cons r1 r2 =>
   obtain ⟨t,e⟩:=r1
   subst e
   exact .cons n t (ih r2)
section
variable {X:Cx} {e:Expr} {te:TE} {lo hi:Option Expr} {tl th:TO} {pos p2:Pos}
theorem vkf (h:PE X e te):PO X (some e) (vvj te):=by
 intro pins s σ H Q I hw
 rw [evalPart_some]
 refine thn (h pins s σ H _ I hw) fun u s1 ⟨x,H1,I1,r1,q1⟩=>?_
 obtain ⟨i,rfl,q⟩:=q1
 obtain ⟨t,rfl⟩:=r1
 exact ⟨some i,H1,I1,.int i t,q⟩
def SlR (X:Cx) (r:V->Option Int->Option Int->Hp->VK->Prop):Prop :=
 ∀ (pins:List (Addr×Obj)) (s:Shared) (σ:St) (H:Hp) (x:V) (v vl vu:Value) (lo hi:Option Int) (sl:Addr) (Q:VK),Inv X pins σ H s->RelV x v->s.heap.IsSliceOf sl vl vu .none->IsPart vl lo->IsPart vu hi->r x lo hi H Q ->
  ∃ T id,typeLookup (.type T) "__getitem__"=pure (some (.builtin id))/\s.TypeIs v T/\wpAny (model X.prog X.w) X.A (getItem v (.ref sl)) (EP X pins σ Q) X.xe s
theorem SlR.or {r r':V->Option Int->Option Int->Hp->VK->Prop} (h:SlR X r) (h':SlR X r'):SlR X (fun x lo hi H Q=>r x lo hi H Q\/r' x lo hi H Q):=by
 intro pins s σ H x v vl vu lo hi sl Q I rx hs pl pu q
 rcases q with q | q
 ·exact h pins s σ H x v vl vu lo hi sl Q I rx hs pl pu q
 ·exact h' pins s σ H x v vl vu lo hi sl Q I rx hs pl pu q
abbrev tSl (r:V->Option Int->Option Int->Hp->VK->Prop) (te:TE) (tl th:TO):TE:=fun σ H Q=>te σ H fun x H1=>tl σ H1 fun l H2=>th σ H2 fun u H3=>r x l u H3 Q
theorem qxd {r:V->Option Int->Option Int->Hp->VK->Prop} (hr:SlR X r) (he:PE X e te) (hl:PO X lo tl) (hu:PO X hi th):PE X (.Subscript e (.Slice lo hi none p2) pos) (tSl r te tl th):=by
 intro pins s σ H Q I h
 refine Subscript_ (thn (he pins s σ H _ I h) fun v s1 ⟨x,H1,I1,r1,q1⟩=>?_)
 refine wpAny_Slice (thn (hl pins s1 σ H1 _ I1 q1) fun vl s2 ⟨l,H2,I2,pl,q2⟩=>thn (hu pins s2 σ H2 _ I2 q2) fun vu s3 ⟨u,H3,I3,pu,q3⟩=>?_)
 rw [evalPart_none]
 refine wpAny_pure ?_
 have I4:Inv X pins σ H3 { s3 with heap:=s3.heap.push { cls:=.type "slice",data:=.fields #[vl,vu,.none] } }:=I3.kept (t':=s3.toks) fun b ob q=>Heap.get?_push_of_some _ q
 obtain ⟨T,id,hT,ht,hg⟩:=hr pins { s3 with heap:=s3.heap.push { cls:=.type "slice",data:=.fields #[vl,vu,.none] } } σ H3 x v vl vu l u s3.heap.objs.size Q I4 r1 (Heap.IsSliceOf.new ..) pl pu q3
 show wpAny (model X.prog X.w) X.A (subscriptTail e (.Slice lo hi none p2) v (.ref s3.heap.objs.size)) (EP X pins σ Q) X.xe { s3 with heap:=s3.heap.push { cls:=.type "slice",data:=.fields #[vl,vu,.none] } }
 exact tail_any (ops:=[.ref s3.heap.objs.size,v]) ht hT hg (by with_unfolding_all rfl)
def vj3 (xs:List V) (lo hi:Option Int):List V:=(xs.drop (HT.sIx xs.length 0 lo)).take (HT.sIx xs.length xs.length hi - HT.sIx xs.length 0 lo)
theorem kk8 (xs:List V) (lo hi:Option Int):(vj3 xs lo hi).length<=xs.length:=by
 unfold vj3
 rw [List.length_take,List.length_drop]
 omega
def wkg (K:PySem.W.Frag):V->Option Int->Option Int->Hp->VK->Prop:=fun x lo hi H Q=>∃ a xs,x=.ref a/\SqT K H a xs /\
 ¬ (HT.sIx xs.length 0 lo=0/\HT.sIx xs.length xs.length hi=xs.length)/\∀ p,H p=none->Q (.ref p) (upd H p (.tup (vj3 xs lo hi)))
theorem sl_tup:SlR X (wkg X.K):=by
 intro pins s σ H x v vl vu lo hi sl Q I rx hs pl pu h
 obtain ⟨a,xs,rfl,hx,hw,q⟩:=h
 cases rx
 obtain ⟨its,r,ht,hz⟩:=I.tuple hx
 have hlen:its.toArray.size=xs.length:=by rw [List.size_toArray];exact r.length.symm
 refine ⟨"tuple",_,PyProof.Rows.slot_tuple_getitem.lookup,ht.typeIs,?_⟩
 refine HT.getItem_tuple_cut ht hs pl pu (by rw [hlen];exact hw) ?_ (by rw [hlen];exact hz)
 rw [hlen]
 refine ⟨.ref s.heap.objs.size,_,I.laid (t':=s.toks) (o:=.tup (vj3 xs lo hi)) (fun b ob q=>Heap.get?_push_of_some _ q) (Nat.le_refl _) ?_,rfl,q _ (I.hok.fresh (Nat.le_refl _))⟩
 exact ⟨Nat.le_trans (kk8 xs lo hi) hz,_,(r.drop (HT.sIx xs.length 0 lo)).take (HT.sIx xs.length xs.length hi - HT.sIx xs.length 0 lo),IsTupD.new _ _⟩
def vw0 (K:PySem.W.Frag):R2:=fun x y H Q=>∃ a b xs ys,x=.ref a/\y=.ref b/\SqT K H a xs/\SqT K H b ys/\xs≠[]/\xs.length + ys.length<=sizeLine /\
 (ys=[]->Q (.ref a) H)/\(ys≠[]->∀ p,H p=none->Q (.ref p) (upd H p (.tup (xs++ys))))
theorem Vals.nil_iff {xs:List V} {us:List Value} (r:Vals xs us):us=[]↔xs=[]:=by
 cases r with
 | nil=>simp
 | cons _ _=>simp
theorem vkt:OpR X (binaryOp .Add) (vw0 X.K):=by
 intro pins s σ H x y v u Q I rx ry h
 obtain ⟨a,b,xs,ys,rfl,rfl,ha,hb,hx,hz,q1,q2⟩:=h
 cases rx
 cases ry
 obtain ⟨its,r1,p1,_⟩:=I.tuple ha
 obtain ⟨its2,r2,p2,_⟩:=I.tuple hb
 refine HT.cat_tup p1 p2 (fun z=>hx (r1.nil_iff.mp z)) (fun z=>⟨.ref a,H,I,rfl,q1 (r2.nil_iff.mp z)⟩) (fun z=>?_) (by rw [<- r1.length,<- r2.length];exact hz)
 refine ⟨.ref s.heap.objs.size,_,I.laid (t':=s.toks) (o:=.tup (xs++ys)) (fun b ob q=>Heap.get?_push_of_some _ q) (Nat.le_refl _) ?_,rfl,q2 (fun w=>z (r2.nil_iff.mpr w)) _ (I.hok.fresh (Nat.le_refl _))⟩
 exact ⟨by rw [List.length_append];exact hz,_,r1.append r2,IsTupD.new _ _⟩
end
end L2
namespace L2
open PySem PySem.Spec PyProof.Rows
def ixN (n:Nat) (i:Int):Option Nat:=if 0<=i then (if i < n then some i.toNat else none) else if -(n:Int)<=i then some (i + n).toNat else none
def atI {α:Type} (xs:List α) (i:Int):Option α:=(ixN xs.length i).bind fun j=>xs[j]?
theorem vq8 {n:Nat} {i:Int} {j:Nat} (h:ixN n i=some j):seqIndex? i n=some j/\j < n/\-(n:Int)<=i/\i < n:=by
 unfold ixN at h
 by_cases h0:0<=i
 ·rw [if_pos h0] at h
  by_cases h1:i < n
  ·rw [if_pos h1] at h
   have e:i.toNat=j:=oq9 h
   exact ⟨by rw [seqIndex_of h0 h1,e],by omega,by omega,h1⟩
  ·rw [if_neg h1] at h;cases h
 ·rw [if_neg h0] at h
  by_cases h1:-(n:Int)<=i
  ·rw [if_pos h1] at h
   have e:(i + n).toNat=j:=oq9 h
   exact ⟨by rw [seqIndex_neg (by omega) h1,e],by omega,h1,by omega⟩
  ·rw [if_neg h1] at h;cases h
theorem kxr {α:Type} {xs:List α} {i:Int} {v:α} (h:atI xs i=some v):∃ j,seqIndex? i xs.length=some j/\xs[j]?=some v/\j < xs.length/\-(xs.length:Int)<=i/\i < xs.length:=by
 unfold atI at h
 cases e:ixN xs.length i with
 | none=>rw [e] at h;cases h
 | some j =>
  rw [e] at h
  obtain ⟨h1,h2,h3,h4⟩:=vq8 e
  exact ⟨j,h1,h,h2,h3,h4⟩
def qwe (b:Expr):Prop:=∀ o i,subscripted b false o i=operate [o,i] (getItem o i)
def IxR (X:Cx) (r:R2):Prop :=
 ∀ (value slice:Expr) (pins:List (Addr×Obj)) (s:Shared) (σ:St) (H:Hp) (x y:V) (v u:Value) (Q:VK),Inv X pins σ H s->RelV x v->RelV y u->r x y H Q ->
  subscripted slice false v u=operate [v,u] (getItem v u)->wpAny (model X.prog X.w) X.A (subscriptTail value slice v u) (EP X pins σ Q) X.xe s
def MtR (X:Cx) (id:String) (r:V->List V->Hp->VK->Prop):Prop :=
 ∀ (pins:List (Addr×Obj)) (s:Shared) (σ:St) (H:Hp) (x:V) (xs:List V) (v:Value) (us:List Value) (Q:VK),Inv X pins σ H s->RelV x v->Vals xs us->r x xs H Q ->
  wpAny (model X.prog X.w) X.A (call (.builtin id) (v :: us)) (EP X pins σ Q) X.xe s
section
variable {X:Cx} {a b:Expr} {ta tb:TE} {pos:Pos}
theorem IxR.or {r r':R2} (h:IxR X r) (h':IxR X r'):IxR X (fun x y H Q=>r x y H Q\/r' x y H Q):=by
 intro value slice pins s σ H x y v u Q I rx ry q hs
 rcases q with q | q
 ·exact h value slice pins s σ H x y v u Q I rx ry q hs
 ·exact h' value slice pins s σ H x y v u Q I rx ry q hs
theorem wjg {r:R2} (hr:IxR X r) (ha:PE X a ta) (hb:PE X b tb) (hs:qwe b):PE X (.Subscript a b pos) (tOp r ta tb):=by
 intro pins s σ H Q I h
 exact Subscript_ (wk9 ha hb I h fun v u s2 x y H2 I2 rx ry q=>hr a b pins s2 σ H2 x y v u Q I2 rx ry q (hs _ _))
def wkm (K:PySem.W.Frag):R2:=fun x y H Q=>∃ p xs i v,x=.ref p/\y=.int i/\SqL K H p xs/\atI xs i=some v/\Q v H
def wkk (K:PySem.W.Frag):R2:=fun x y H Q=>∃ p xs i v,x=.ref p/\y=.int i/\SqT K H p xs/\atI xs i=some v/\Q v H
def wkl:R2:=fun x y H Q=>∃ z i c,x=.str z/\y=.int i/\z.length<=sizeLine/\atI z.cps.toList i=some c/\Q (.str ⟨#[c]⟩) H
theorem ix_list:IxR X (wkm X.K):=by
 intro value slice pins s σ H x y v u Q I rx ry h hs
 obtain ⟨p,xs,i,z,rfl,rfl,hq,he,q⟩:=h
 cases rx
 obtain ⟨t,rfl⟩:=ry
 obtain ⟨its,r,pl,hz⟩:=I.list hq
 obtain ⟨j,h1,h2,h3,h4,h5⟩:=kxr he
 obtain ⟨w,ew,rw'⟩:=r.get h2
 have hl:=r.length
 have hn:=kkz
 have fin:EP X pins σ Q w s:=⟨z,H,I,rw',q⟩
 by_cases h0:0<=i
 ·have hj:i.toNat=j:=by
   rw [seqIndex_of h0 h5] at h1
   exact oq9 h1
  exact item_listR pl.isList h0 (by omega) (by rw [hj];simpa using ew) fin hs
 ·have hj:(i + (its.toArray.size:Int)).toNat=j:=by
   rw [seqIndex_neg (by omega) h4] at h1
   rw [List.size_toArray,<- hl]
   exact oq9 h1
  exact subscriptTail_builtinR (x:=w) pl.isList.typeIs slot_list_getitem.lookup
   (wpAny_getItem_list_neg (Q:=fun r s'=>r=w/\EP X pins σ Q r s') pl.isList (by omega) (by rw [List.size_toArray]<;>omega) (by omega) (by rw [hj];simpa using ew) ⟨rfl,fin⟩) hs
theorem ix_tup:IxR X (wkk X.K):=by
 intro value slice pins s σ H x y v u Q I rx ry h hs
 obtain ⟨p,xs,i,z,rfl,rfl,hq,he,q⟩:=h
 cases rx
 obtain ⟨t,rfl⟩:=ry
 obtain ⟨its,r,pl,hz⟩:=I.tuple hq
 obtain ⟨j,h1,h2,h3,h4,h5⟩:=kxr he
 obtain ⟨w,ew,rw'⟩:=r.get h2
 have hl:=r.length
 have hn:=kkz
 have fin:EP X pins σ Q w s:=⟨z,H,I,rw',q⟩
 exact subscriptTail_builtinR (x:=w) pl.typeIs slot_tuple_getitem.lookup
  (getItem_tuple (j:=j) (Q:=fun r s'=>r=w/\EP X pins σ Q r s') pl (by omega) (by omega) (by rw [List.size_toArray,<- hl];exact h1) (by simpa using ew) ⟨rfl,fin⟩) hs
theorem vxm:IxR X wkl:=by
 intro value slice pins s σ H x y v u Q I rx ry h hs
 obtain ⟨z,i,c,rfl,rfl,hz,he,q⟩:=h
 obtain ⟨t,rfl⟩:=rx
 obtain ⟨t',rfl⟩:=ry
 obtain ⟨j,h1,h2,h3,h4,h5⟩:=kxr he
 have hl:z.cps.toList.length=z.length:=by simp [Str.length]
 rw [hl] at h1 h4 h5
 have hn:=kkz
 exact tail_any (typeIs_str s z t) slot_str_getitem.lookup (getItem_str (c:=c) (by
  have e1:decide (i < -(2 ^ 63:Int))=false:=decide_eq_false (by omega)
  have e2:decide (i>=2 ^ 63)=false:=decide_eq_false (by omega)
  rw [e1,e2,Bool.or_false]) (by rw [h1];simpa using h2) ⟨.str ⟨#[c]⟩,H,I.tok _,⟨_,rfl⟩,q⟩) hs
def rIx (K:PySem.W.Frag):R2:=fun x y H Q=>wkm K x y H Q\/wkk K x y H Q\/wkl x y H Q
theorem vxn:IxR X (rIx X.K):=ix_list.or (ix_tup.or vxm)
theorem kve (lo hi:Option Int) (n:Nat):(sliceBounds lo hi none n).1=((HT.sIx n 0 lo:Nat):Int)/\(sliceBounds lo hi none n).2.1=((HT.sIx n n hi:Nat):Int)/\(sliceBounds lo hi none n).2.2=1:=by
 refine ⟨?_,?_,rfl⟩
 ·cases lo with
  | none=>simp [sliceBounds,HT.sIx]
  | some i =>
   simp only [sliceBounds,HT.sIx,Option.getD_none,show (1:Int) > 0 by decide,if_true]
   by_cases h:i < 0
   ·simp only [h,if_true]<;>omega
   ·simp only [h,if_false]<;>omega
 ·cases hi with
  | none=>simp [sliceBounds,HT.sIx]
  | some i =>
   simp only [sliceBounds,HT.sIx,Option.getD_none,show (1:Int) > 0 by decide,if_true]
   by_cases h:i < 0
   ·simp only [h,if_true]<;>omega
   ·simp only [h,if_false]<;>omega
theorem kqf (its:List Value) (lo hi:Option Int):slicePick its.toArray lo hi none=((its.drop (HT.sIx its.length 0 lo)).take (HT.sIx its.length its.length hi - HT.sIx its.length 0 lo)).toArray:=by
 obtain ⟨h1,h2,h3⟩:=kve lo hi its.toArray.size
 unfold slicePick
 rw [h1,h2,h3]
 simp only [sliceRange_one,pick_run,List.size_toArray]<;>rfl
def wki (K:PySem.W.Frag):V->Option Int->Option Int->Hp->VK->Prop:=fun x lo hi H Q=>∃ a xs,x=.ref a/\SqL K H a xs/\∀ p,H p=none->Q (.ref p) (upd H p (.lst (vj3 xs lo hi)))
theorem sl_list:SlR X (wki X.K):=by
 intro pins s σ H x v vl vu lo hi sl Q I rx hs pl pu h
 obtain ⟨a,xs,rfl,hx,q⟩:=h
 cases rx
 obtain ⟨its,r,ht,hz⟩:=I.list hx
 have hlen:=r.length
 refine ⟨"list",_,slot_list_getitem.lookup,ht.isList.typeIs,?_⟩
 refine wpAny_getItem_list_slice ht.isList hs pl pu .none (by simp) ?_ (by rw [List.size_toArray]<;>omega)
 rw [kqf,<- hlen]
 refine ⟨.ref s.heap.objs.size,_,I.laid (t':=s.toks) (o:=.lst (vj3 xs lo hi)) (fun b ob q=>Heap.get?_push_of_some _ q) (Nat.le_refl _) ?_,rfl,q _ (I.hok.fresh (Nat.le_refl _))⟩
 exact ⟨Nat.le_trans (kk8 xs lo hi) hz,_,0,(r.drop (HT.sIx xs.length 0 lo)).take (HT.sIx xs.length xs.length hi - HT.sIx xs.length 0 lo),Heap.get?_push_size _ rfl⟩
theorem kvt:OpR X (compareOp .NotIn) (fun x y H Q=>∃ i j,x=.str i/\y=.str j/\Q (.bl (!(!(Builtin.Str.occurrences j i 0 j.length 1).isEmpty))) H):=by
 intro pins s σ H x y v u Q I rx ry h
 obtain ⟨i,j,rfl,rfl,q⟩:=h
 obtain ⟨t,rfl⟩:=rx
 obtain ⟨t',rfl⟩:=ry
 exact notIn_str ⟨.bl _,H,I,rfl,q⟩
theorem call_len_seq:CallR X (.builtin "len") (fun xs H Q=>∃ p ys,xs=[.ref p]/\(SqL X.K H p ys\/SqT X.K H p ys)/\Q (.int ys.length) H):=by
 intro pins s σ H xs us Q I r h
 obtain ⟨p,ys,rfl,hq,q⟩:=h
 obtain ⟨u,rfl,rx⟩:=jzt r
 cases rx
 have hn:=kkz
 rcases hq with hq | hq
 ·obtain ⟨its,r',pl,hz⟩:=I.list hq
  have hlen:=r'.length
  exact Calls.call_len_list pl.isList (by simp only [List.size_toArray]<;>omega) ⟨.int ys.length,H,I.tok _,⟨s.toks + 1,by rw [List.size_toArray,hlen]⟩,q⟩
 ·obtain ⟨its,r',pl,hz⟩:=I.tuple hq
  have hlen:=r'.length
  exact len_tuple pl (by simp only [List.size_toArray]<;>omega) ⟨.int ys.length,H,I.tok _,⟨s.toks + 1,by rw [List.size_toArray,hlen]⟩,q⟩
theorem call_len_str:CallR X (.builtin "len") (fun xs H Q=>∃ z,xs=[.str z]/\z.length<=sizeLine/\Q (.int z.length) H):=by
 intro pins s σ H xs us Q I r h
 obtain ⟨z,rfl,hz,q⟩:=h
 obtain ⟨u,rfl,t,rfl⟩:=jzt r
 have hn:=kkz
 exact len_str (by omega) ⟨.int z.length,H,I.tok _,⟨_,rfl⟩,q⟩
theorem CallR.or {f:Value} {r r':List V->Hp->VK->Prop} (h:CallR X f r) (h':CallR X f r'):CallR X f (fun xs H Q=>r xs H Q\/r' xs H Q):=by
 intro pins s σ H xs us Q I rs q
 rcases q with q | q
 ·exact h pins s σ H xs us Q I rs q
 ·exact h' pins s σ H xs us Q I rs q
theorem kwl:CallR X (.type "list") (fun xs H Q=>∃ p ys,xs=[.ref p]/\(SqL X.K H p ys\/SqT X.K H p ys)/\∀ l,H l=none->Q (.ref l) (upd H l (.lst ys))):=by
 intro pins s σ H xs us Q I r h
 obtain ⟨p,ys,rfl,hq,q⟩:=h
 obtain ⟨u,rfl,rx⟩:=jzt r
 cases rx
 have fin:∀ (its:List Value),Vals ys its->ys.length<=sizeLine->∀ (h':Heap) (c':Nat),(∀ b o',s.heap.get? b=some o'->h'.get? b=some o') ->
   h'.get? s.heap.objs.size=some { cls:=.type "list",dict:=none,data:=.seq its.toArray c',slots:=#[] }->EP X pins σ Q (.ref s.heap.objs.size) { s with heap:=h' }:=fun its r' hz h' c' kp e =>
  ⟨.ref s.heap.objs.size,_,I.laid (t':=s.toks) kp (Nat.le_refl _) (show ObjOk X.prog X.w _ h' _ (.lst ys) from ⟨hz,its,c',r',e⟩),rfl,q _ (I.hok.fresh (Nat.le_refl _))⟩
 rcases hq with hq | hq
 ·obtain ⟨its,r',pl,hz⟩:=I.list hq
  have hlen:=r'.length
  obtain ⟨o,ho,hc,n,hd⟩:=pl.isList
  exact call_list_seq p (.inl rfl) ho hc hd (fun h' c' kp e=>fin its r' hz h' c' kp e) (by simp only [List.size_toArray]<;>omega)
 ·obtain ⟨its,r',pl,hz⟩:=I.tuple hq
  have hlen:=r'.length
  obtain ⟨o,ho,hc,n,hd⟩:=pl
  exact call_list_seq p (.inr rfl) ho hc hd (fun h' c' kp e=>fin its r' hz h' c' kp e) (by simp only [List.size_toArray]<;>omega)
theorem kv0:CallR X (.type "tuple") (fun xs H Q=>∃ p ys,xs=[.ref p]/\((SqL X.K H p ys/\∀ l,H l=none->Q (.ref l) (upd H l (.tup ys)))\/(SqT X.K H p ys/\Q (.ref p) H))):=by
 intro pins s σ H xs us Q I r h
 obtain ⟨p,ys,rfl,h⟩:=h
 obtain ⟨u,rfl,rx⟩:=jzt r
 cases rx
 rcases h with ⟨hq,q⟩ | ⟨hq,q⟩
 ·obtain ⟨its,r',pl,hz⟩:=I.list hq
  have hlen:=r'.length
  refine call_tuple_list pl.isList (fun h' kp=>?_) (by simp only [List.size_toArray]<;>omega)
  have I1:Inv X pins σ H { s with heap:=h' }:=I.kept (t':=s.toks) kp
  have I2:Inv X pins σ (upd H h'.objs.size (.tup ys)) { s with heap:=h'.push { cls:=.type "tuple",data:=.seq its.toArray } } :=
   I1.laid (t':=s.toks) (fun b o e=>Heap.get?_push_of_some _ e) (Nat.le_refl _) (show ObjOk X.prog X.w _ _ _ (.tup ys) from ⟨hz,its,r',IsTupD.new _ _⟩)
  exact ⟨.ref h'.objs.size,_,I2,rfl,q _ (I1.hok.fresh (Nat.le_refl _))⟩
 ·obtain ⟨its,r',pl,hz⟩:=I.tuple hq
  exact call_tuple_same pl ⟨.ref p,H,I,rfl,q⟩
def tyV (K : PySem.W.Frag) (T : String) (x : V) (H : Hp) : Prop := match x with
  | .str _ => T = "str"
  | .int _ => T = "int"
  | .ref p => (T = "list" /\ ∃ xs, SqL K H p xs) \/ (T = "tuple" /\ ∃ o, K.lookup p = some o /\ o.cls = .type "tuple" /\ o.dict = none) \/
      (T = "dict" /\ ((∃ kvs, H p = some (.dK kvs)) \/ ∃ kvs, H p = some (.dT kvs))) \/ (T = "set" /\ ∃ S n, H p = some (.set S n))
  | _ => False
theorem vv9 {pins:List (Addr×Obj)} {σ:St} {H:Hp} {s:Shared} {T:String} {x:V} {v:Value} (I:Inv X pins σ H s) (r:RelV x v) (ty:tyV X.K T x H) :
  s.TypeIs v T/\∀ a,v=.ref a->∃ ob,s.heap.get? a=some ob/\ob.dict=none:=by
 cases x with
 | str z =>
  obtain ⟨t,rfl⟩:=r
  cases (show T="str" from ty)
  exact ⟨typeIs_str s z t,fun _ e=>nomatch e⟩
 | int i =>
  obtain ⟨t,rfl⟩:=r
  cases (show T="int" from ty)
  exact ⟨typeIs_int s i t,fun _ e=>nomatch e⟩
 | ref p =>
  cases r
  rcases ty with ⟨rfl,xs,hq⟩ | ⟨rfl,o,hk,hc,hd⟩ | ⟨rfl,hk⟩ | ⟨rfl,S,n,hk⟩
  ·obtain ⟨its,_,pl,_⟩:=I.list hq
   refine ⟨pl.isList.typeIs,fun a e=>?_⟩
   cases e
   obtain ⟨o,n,e,c,hd,_⟩:=pl
   exact ⟨o,e,hd⟩
  ·refine ⟨⟨o,I.kIn p o hk,hc⟩,fun a e=>?_⟩
   cases e
   exact ⟨o,I.kIn _ o hk,hd⟩
  ·have z:∃ o,s.heap.get? p=some o/\o.ExactDict:=by
    rcases hk with ⟨kvs,hk⟩ | ⟨kvs,hk⟩
    ·obtain ⟨_,_,_,_,o,_,_,e,ex,_⟩:=I.hok p _ hk
     exact ⟨o,e,ex⟩
    ·obtain ⟨_,_,_,_,o,_,_,e,ex,_⟩:=I.hok p _ hk
     exact ⟨o,e,ex⟩
   obtain ⟨o,e,ex⟩:=z
   refine ⟨⟨o,e,ex.1⟩,fun a e2=>?_⟩
   cases e2
   exact ⟨o,e,ex.2.1⟩
  ·obtain ⟨o,_,_,_,e,ex,_⟩:=I.hok p _ hk
   refine ⟨⟨o,e,ex.1⟩,fun a e2=>?_⟩
   cases e2
   exact ⟨o,e,ex.2.1⟩
 | _=>exact False.elim ty
abbrev tBM (K:PySem.W.Frag) (T:String) (r:V->List V->Hp->VK->Prop) (to:TE) (t:TA):TE:=fun σ H Q=>to σ H fun x H1=>tyV K T x H1/\t σ H1 fun xs H2=>r x xs H2 Q
variable {o e:Expr} {es:List Expr} {to:TE} {t:TA} {name:Str} {apos cpos:Pos} {T id:String} {r:V->List V->Hp->VK->Prop}
theorem wjh (pa:PlainAttrs T) (slot:Slot T name id) (hty:typeOf (.builtin id)=pure (.type "method_descriptor")) (hm:MtR X id r) (ho:PE X o to) (ha:PA X (e :: es) t)
  (hbase:attributeBase o name X.env (eval o X.env)=eval o X.env:=by rfl)
  (hfew:((backTo cpos (starEach (e :: es) X.env)).all (fun x=>!x.1) && (backToKw cpos (keywordEach [] X.env)).all (fun x=>x.1.isSome)
   && decide ((e :: es).length + ([]:List Keyword).length + (if ([]:List Keyword).isEmpty then 0 else 1) < 30))=true:=by rfl)
  (hline:(apos.endLine == cpos.line)=true:=by rfl) (hs:starEach (e :: es) X.env=(false,eval e X.env) :: starEach es X.env:=by rfl) (hplain:(backTo cpos (starEach es X.env)).any (·.1)=false:=by rfl) :
  PE X (.Call (.Attribute o name apos) (e :: es) [] cpos) (tBM X.K T r to t):=by
 intro pins s σ H Q I h
 refine wpAny_Call_method_late hbase hfew hline rfl (thn (ho pins s σ H _ I h) fun v s1 ⟨x,H1,I1,r1,ty,q1⟩=>?_)
 obtain ⟨h1,h2⟩:=vv9 I1 r1 ty
 refine ⟨T,id,pa,slot,hty,h1,h2,?_⟩
 have hA:=ha cpos pins s1 σ H1 _ I1 q1
 rw [hs] at hA ⊢
 refine Calls.callWith_builtin (by show (false || (backTo cpos (starEach es X.env)).any (·.1))=false;rw [hplain]<;>rfl) (Calls.evalArgs_plain ?_)
 exact thn hA fun us s2 ⟨vs,H2,I2,r2,q2⟩=>hm pins s2 σ H2 x vs v us Q I2 r1 r2 q2
end
end L2
namespace L2
open PySem PySem.Spec PyProof.Rows
def MtM (X:Cx) (id:String) (r:V->List V->Hp->VK->Prop):Prop :=
 ∀ (pins:List (Addr×Obj)) (s:Shared) (σ:St) (H:Hp) (x:V) (xs:List V) (v:Value) (us:List Value) (Q:VK),Inv X pins σ H s->RelV x v->Vals xs us->r x xs H Q ->
  wpAny (model X.prog X.w) X.A (call (.builtin id) (v :: us)) (EP X pins σ Q) X.xe s
theorem Vals.one:∀ {x:V} {us:List Value},Vals [x] us->∃ u,us=[u]/\RelV x u
 | _,_,.cons r .nil=>⟨_,rfl,r⟩
theorem Vals.rep {xs:List V} {us:List Value} (h:Vals xs us):∀ k:Nat,Vals (List.replicate k xs).flatten (List.replicate k us).flatten
 | 0=>.nil
 | k + 1=>by
  rw [List.replicate_succ,List.replicate_succ,List.flatten_cons,List.flatten_cons]
  exact Vals.append h (Vals.rep h k)
theorem kjy (its:List Value):∀ (k:Nat) (acc:List Value),
  List.foldl (fun x1 x2=>x1++x2) acc.toArray (List.replicate k its.toArray)=(acc++(List.replicate k its).flatten).toArray
 | 0,acc=>by simp
 | k + 1,acc=>by
  have e:acc.toArray++its.toArray=(acc++its).toArray:=by simp
  have e2:(acc++its)++(List.replicate k its).flatten=acc++(List.replicate (k + 1) its).flatten:=by
   rw [List.replicate_succ,List.flatten_cons,List.append_assoc]
  rw [<- e2,<- kjy its k (acc++its),<- e,List.replicate_succ,List.foldl_cons]
section
variable {X:Cx} {pins:List (Addr×Obj)} {σ:St} {H:Hp} {s:Shared} {l b:Addr} {xs ys zs:List V}
theorem Inv.lset {its its':List Value} {n:Nat} {f:Array Value->Array Value} {t':Nat} (I:Inv X pins σ H s) (hH:H l=some (.lst xs))
  (e:s.heap.get? l=some { cls:=.type "list",data:=.seq its.toArray n }) (hf:f its.toArray=its'.toArray) (hv:Vals ys its') (hz:ys.length<=sizeLine) :
  Inv X pins σ (upd H l (.lst ys)) { s with heap:=s.heap.update l (Obj.mapSeq f),toks:=t' }:=by
 have q:=PySem.IsL.update e f
 rw [hf] at q
 refine I.write (x:=l) (e:=l) (by rw [hH];exact trivial) (.inl rfl) (fun b' u hb hu=>(Heap.get?_update_other s.heap (Obj.mapSeq f) (Ne.symm hb)).trans hu) ⟨_,q⟩ ?_
 exact ⟨hz,its',_,hv,q⟩
theorem Inv.lnew {its:List Value} {t':Nat} (I:Inv X pins σ H s) (hv:Vals ys its) (hz:ys.length<=sizeLine) :
  Inv X pins σ (upd H s.heap.objs.size (.lst ys)) { s with heap:=s.heap.push { cls:=.type "list",data:=.seq its.toArray },toks:=t' } :=
 I.laid (fun _ _ q=>Heap.get?_push_of_some _ q) (Nat.le_refl _) ⟨hz,its,0,hv,Heap.get?_push_size _ rfl⟩
theorem Inv.fresh (I:Inv X pins σ H s):H s.heap.objs.size=none:=I.hok.fresh (Nat.le_refl _)
theorem Inv.lstM (I:Inv X pins σ H s) (hH:H l=some (.lst xs)):xs.length<=sizeLine/\∃ (its:List Value) (n:Nat),Vals xs its/\xs.length=its.length/\s.heap.get? l=some { cls:=.type "list",data:=.seq its.toArray n }:=by
 obtain ⟨z,its,n,r,e⟩:=I.hok l _ hH
 exact ⟨z,its,n,r,r.length,e⟩
theorem qxk {n:Nat} (h:n<=sizeLine):Builtin.List.listTooLong n=false:=by
 unfold Builtin.List.listTooLong
 exact decide_eq_false (by omega)
end
section
variable {X:Cx}
def kx1:V->List V->Hp->VK->Prop:=fun x vs H Q=>∃ l xs y,x=.ref l/\vs=[y]/\H l=some (.lst xs)/\xs.length < sizeLine/\Q .non (upd H l (.lst (xs++[y])))
theorem jki:MtM X "list.append" kx1:=by
 intro pins s σ H x vs v us Q I rx rv h
 obtain ⟨l,xs,y,rfl,rfl,hH,hz,q⟩:=h
 cases rx
 obtain ⟨u,rfl,ru⟩:=rv.one
 obtain ⟨z,its,n,r,hl,e⟩:=I.lstM hH
 refine call_meets F.slot_list_append ⟨_,e,rfl⟩ F.entry_list_append (F.args_list_append_2 _ _) (PySem.list_append l its.toArray n u (by rw [List.size_toArray];omega)) ⟨e,?_⟩
 refine ⟨.non,_,I.lset (its':=its++[u]) hH e (by simp) (r.append (.cons ru .nil)) ?_,rfl,q⟩
 rw [List.length_append,List.length_singleton]
 omega
def vza:R2:=fun x y H Q=>∃ l k xs,x=.ref l/\y=.int k/\H l=some (.lst xs)/\-(2 ^ 63)<=k/\k < 2 ^ 63/\xs.length * k.toNat<=sizeLine /\
 ∀ p,H p=none->Q (.ref p) (upd H p (.lst (List.replicate k.toNat xs).flatten))
theorem qqw {α:Type} (xs:List α) (k:Nat):(List.replicate k xs).flatten.length=k * xs.length:=by
 induction k with
 | zero=>simp
 | succ k ih=>rw [List.replicate_succ,List.flatten_cons,List.length_append,ih,Nat.succ_mul,Nat.add_comm]
end
end L2
namespace Att
open PySem PySem.W PySem.Calls PyProof.Rows
theorem kjs {P:Params} {h:Heap}:∀ (ns:List Int) (vs:List Value),WellAll P h vs (ns.map WData.int)->IntsAre vs ns:=by
 intro ns
 induction ns with
 | nil =>
  intro vs w
  rw [List.map_nil] at w
  cases w
  exact .nil
 | cons n ns ih =>
  intro vs w
  rw [List.map_cons] at w
  cases w with
  | cons a b =>
   cases a
   exact .cons _ _ (ih _ b)
theorem script_of {l : OpenLaw} {n : Nat} (hn : l.most = some n) {P : Params} {h : Heap} {args : List WData} {vals : List Value}
    (hpre : l.row.toRowW.claim.pre args = true) (hwl : WellAll P h vals args) :
    ∃ a vs ns, vals = [Value.ref a] /\ args = [WData.list (ns.map WData.int)] /\ h.get? a = some { cls := .type "list", data := .seq vs.toArray } /\ IntsAre vs ns /\ ns.length <= n := by
  have hsh : WShape.hasAll [] args [.list .int] = true := (pre_splitW hpre).1
  have hc : l.pre.holds [] { args := args } = true := (pre_splitW hpre).2
  obtain ⟨d, r, rfl, h1, h2⟩ := hasAllW_cons hsh
  obtain rfl := hasAllW_nil h2
  obtain ⟨xs, rfl, h3⟩ := hasW_list h1
  obtain ⟨ns, rfl⟩ := items_int h3
  have hlen : ns.length <= n := by
    unfold OpenLaw.pre at hc
    have h4 : (WTm.not (.lt (.lit (.int (n : Int))) (.len (.arg 0)))).holds [] { args := [.list (ns.map .int)] } = true := by
      have h4 := (holds_andW hc).1
      rw [hn] at h4
      exact h4
    have h5 := condW_of h4 (w_not (w_lt w_lit (w_len_list (w_arg rfl))))
    rw [List.length_map] at h5
    refine Nat.le_of_not_lt fun q => ?_
    have q' : (n : Int) < ((ns.length : Nat) : Int) := by omega
    first
      | (rw [decide_eq_true q'] at h5; exact absurd h5 (by decide))
      | (simp at h5; omega)
  cases hwl with
  | cons w1 w2 =>
    cases w2
    cases w1 with
    | list ho hall => exact ⟨_, _, ns, rfl, rfl, ho, kjs ns _ hall, hlen⟩
theorem post_true (l:OpenLaw) (args:List WData):l.row.toRowW.claim.post args (.bool true) args=true :=
 postW_of (r:=l.row.toRowW) (X:=(true == true))
  (show WShape.has [] (.bool true) .bool=true by first | rfl | decide | simp [WShape.has,WShape.arms,WShape.armsAll])
  (show (WTm.eq .res (.lit (.bool true))).value [] { args:=args,res:=some (.bool true),after:=args }=some (.bool (true == true)) from w_eq_bool (w_res rfl) w_lit) rfl
end Att
namespace L2
open PySem PySem.Spec PyProof.Rows
def wkd (H:Hp):Prop:=∀ b,H b=none\/∃ o xs,H b=some (.frz o (.lst xs))
end L2
namespace L2
open PySem PySem.Spec PyProof.Rows
def jjm (s:Stmt):Arguments:=match s with
 | .FunctionDef _ a _ _ _ _ _ _ _ _=>a
 | _=>{ posonlyargs:=[],args:=[],vararg:=none,kwonlyargs:=[],kw_defaults:=[],kwarg:=none,defaults:=[] }
def jjl (s:Stmt):List Stmt:=match s with
 | .FunctionDef _ _ b _ _ _ _ _ _ _=>b
 | _=>[]
def jj4 (s:Stmt):Scope:=match s with
 | .FunctionDef _ _ _ _ _ _ sc _ _ _=>sc
 | _=>{ kind:=.function,names:=[],isGenerator:=false,isCoroutine:=false }
structure Fun (K:PySem.W.Frag) (x qual:Str) (st:Stmt) (f:Addr) (fd:FuncData):Prop where
 ex:∃ (oc:Value) (od:Option Addr) (kV doc pm:Value) (an:Option Addr) (cdv ct:Value) (osl:Array (Option Value)),
  fd=PySem.W.fnOf x qual (jjm st) (jjl st) (jj4 st) .none kV doc pm an cdv ct/\K.lookup f=some ⟨oc,od,.func fd,osl⟩/\PySem.W.codeIn K cdv qual=true
 kp:PySem.W.keepIn K (.ref f)=true
section
variable {P:Program} {w:World} {K:PySem.W.Frag} {mg:Str->Option Value} {base:Heap}
theorem Fun.binds {x qual:Str} {st:Stmt} {f:Addr} {fd:FuncData} {ps:List Str} (F:Fun K x qual st f fd)
  (h:∀ (kV doc pm:Value) (an:Option Addr) (cdv ct:Value) (us:List Value),us.length=ps.length->bindArgs (PySem.W.fnOf x qual (jjm st) (jjl st) (jj4 st) .none kV doc pm an cdv ct) ⟨us,[]⟩=pure (ps.zip us)):Binds K fd ps []:=by
 obtain ⟨oc,od,kV,doc,pm,an,cdv,ct,osl,rfl,lk,hcd⟩:=F.ex
 exact .all (h kV doc pm an cdv ct)
theorem jkm {x qual:Str} {st:Stmt} {f:Addr} {oc:Value} {od an:Option Addr} {osl:Array (Option Value)} {kV doc pm cdv ct:Value} (l:K.lookup f=some ⟨oc,od,.func (PySem.W.fnOf x qual (jjm st) (jjl st) (jj4 st) .none kV doc pm an cdv ct),osl⟩)
  (c:PySem.W.codeIn K cdv qual=true) (k:PySem.W.keepIn K (.ref f)=true):Fun K x qual st f (PySem.W.fnOf x qual (jjm st) (jjl st) (jj4 st) .none kV doc pm an cdv ct):=⟨⟨oc,od,kV,doc,pm,an,cdv,ct,osl,rfl,l,c⟩,k⟩
end
section
variable {X:Cx}
theorem pv (i:Nat) {x:Str} {pos:Pos} (hN:X.N[i]?=some x:=by rfl) (hv:Vis X.env.scope x:=by first | exact Or.inl rfl | exact Or.inr (Or.inl rfl) | exact Or.inr (Or.inr rfl)) (hd:(x == ("__debug__":Str))=false:=by decide)
  (hcd:(x == ("__classdict__":Str))=false:=by decide):PE X (.Name x pos) (qzc i):=vwr hN hv hd hcd
end
def jw1 (H H':Hp):Prop:=∀ b o,H b=some o->H' b=some o
end L2
namespace L2
open PySem PySem.Spec PyProof.Rows
section
variable {κ:Type} [DecidableEq κ]
theorem KV.length {kvs:List (κ×V)} {vs:List (κ×Value)} (r:KV kvs vs):kvs.length=vs.length:=Paired.length r
end
section
variable {P:Program} {w:World} {H:Hp} {h:Heap} {a:Addr}
theorem wj2 {u:HO} (ok:HOk P w H h) (e:Rd H a u):ObjOk P w H h a u:=e.ok ok
theorem wk2 {kvs:List (Key×V)} (ok:HOk P w H h) (e:Rd H a (.dK kvs)):kvs.length<=sizeLine/\(a == sysModules)=false/\∃ vs,KV kvs vs/\h.DictOf (kqr P w) a vs :=
 show ObjOk P w H h a (.dK kvs) from wj2 ok e
end
section
variable {X:Cx} {pins:List (Addr×Obj)} {σ:St} {H:Hp} {s:Shared} {a:Addr} {y v:V} {u r:Value} {o:Option V} {A:Around} {E:Value->Shared->Prop}
theorem Inv.big (I:Inv X pins σ H s):sysModules < s.heap.objs.size:=by
 have h:mainGlobals < s.heap.objs.size:=(I.mod.glob.keeps I.bk).lt
 exact Nat.lt_trans (by decide) h
theorem qvw {h':Heap} {t':Nat} {ob:HO} (I:Inv X pins σ H s) (mu:Mut (H a)) (hs:Heap.SameBut a s.heap h') (he:∃ q,h'.get? a=some q) (new:ObjOk X.prog X.w (upd H a ob) h' a ob) :
  Inv X pins σ (upd H a ob) { s with heap:=h',toks:=t' } :=
 I.write (x:=a) (e:=a) mu (.inl rfl) (fun b q hb z=>(hs.2 b hb).trans z) he new
end
section
variable {X:Cx} {pins:List (Addr×Obj)} {σ:St} {H:Hp} {s:Shared} {a:Addr} {kvs:List (Key×V)} {k:Key} {u:Value} {A:Around} {E:Value->Shared->Prop}
theorem wk4 {Q:Value->Shared->Prop} (I:Inv X pins σ H s) (e:Rd H a (.dK kvs)) (h:∀ t s',Inv X pins σ H s'->Q (.int kvs.length t) s'):wpAny (model X.prog X.w) A (call (.builtin "len") [.ref a]) Q E s:=by
 obtain ⟨z,hd,vs,rel,dd⟩:=wk2 I.hok e
 refine call_len_dict hd dd (by rw [<- rel.length];rw [sizeLine_eq] at z;omega) ?_
 rw [<- rel.length]
 exact h _ _ (I.tok _)
end
def qzd:List (TE×TE)->St->Hp->(List (V×V)->Hp->Prop)->Prop
 | [],_,H,Q=>Q [] H
 | (tk,tv) :: r,σ,H,Q=>tk σ H fun x H1=>tv σ H1 fun y H2=>qzd r σ H2 fun ps H3=>Q ((x,y) :: ps) H3
abbrev VV:List (V×V)->List (Value×Value)->Prop:=Paired fun p q=>RelV p.1 q.1/\RelV p.2 q.2
def PPs (X:Cx) (pos:Pos) (keys:List (Option Expr)) (values:List Expr) (trs:List (TE×TE)):Prop :=
 ∀ (pins:List (Addr×Obj)) (s:Shared) (σ:St) (H:Hp) (Q:List (V×V)->Hp->Prop),Inv X pins σ H s->qzd trs σ H Q ->
  wpAny (model X.prog X.w) X.A (evalPairs (pairTrees keys values X.env pos)) (fun vs s'=>∃ ps H',Inv X pins σ H' s'/\VV ps vs/\Q ps H') X.xe s
theorem vke {X:Cx} {pos:Pos}:PPs X pos [] [] []:=fun pins s σ H Q I h=>pairTrees_nil_walk ⟨[],H,I,.nil,h⟩
theorem qxa {X:Cx} {pos:Pos} {k v:Expr} {ks:List (Option Expr)} {vs:List Expr} {tk tv:TE} {trs:List (TE×TE)} (hk:PE X k tk) (hv:PE X v tv) (hr:PPs X pos ks vs trs) :
  PPs X pos (some k :: ks) (v :: vs) ((tk,tv) :: trs):=fun pins s σ H Q I h =>
 pairTrees_cons_walk (thn (hk pins s σ H _ I h) fun u s1 ⟨x,H1,I1,rx,q1⟩=>thn (hv pins s1 σ H1 _ I1 q1) fun w2 s2 ⟨y,H2,I2,ry,q2⟩ =>
  thn (hr pins s2 σ H2 _ I2 q2) fun ws s3 ⟨ps,H3,I3,rel,q3⟩=>⟨(x,y) :: ps,H3,I3,.cons ⟨rx,ry⟩ rel,q3⟩)
structure M2 (X:Cx) (o:Expr) (m:Str) (apos:Pos) (e f:Expr) (cpos:Pos):Prop where
 base:attributeBase o m X.env (eval o X.env)=eval o X.env
 few:((backTo cpos (starEach [e,f] X.env)).all (fun x=>!x.1) && (backToKw cpos (keywordEach [] X.env)).all (fun x=>x.1.isSome)
  && decide (([e,f]:List Expr).length + ([]:List Keyword).length + (if ([]:List Keyword).isEmpty then 0 else 1) < 30))=true
 line:(apos.endLine == cpos.line)=true
 trees:backTo cpos (starEach [e,f] X.env)=[(false,eval e X.env),(false,eval f X.env)]
end L2
namespace L2
open PySem PySem.Spec PyProof.Rows
section
variable {X:Cx}
theorem qw3:CallR X (.builtin "len") (fun xs H Q=>∃ a kvs,xs=[V.ref a]/\H a=some (.dK kvs)/\Q (.int kvs.length) H):=by
 intro pins s σ H xs us Q I r h
 obtain ⟨a,kvs,rfl,ha,q⟩:=h
 obtain ⟨u,rfl,ru⟩:=jzt r
 cases ru
 exact wk4 I (.inl ha) fun t s' I'=>⟨.int kvs.length,H,I',⟨t,rfl⟩,q⟩
end
end L2
set_option maxHeartbeats 4000000
namespace L3
open PySem PySem.Spec PyProof.Rows L2
abbrev qv1 (ifs:List Expr) (env:Env):Sem Bool :=
 forIn ifs true fun c r=>if r=true then do let ok <- isTrue c env (eval c env);pure (ForInStep.yield ok) else pure (ForInStep.yield r)
theorem jwy (env : Env) : ∀ (l : List (Str × NameKind)) (cs : List (Str × Addr)), (∀ y ∈ l, y.2 = .free -> ∃ c, env.cells.lookup y.1 = some c) ->
    (∀ x c, cs.lookup x = some c -> env.cells.lookup x = some c) ->
    ∃ cl, (forIn l cs (fun (x : Str × NameKind) (r : List (Str × Addr)) => if (x.2 == NameKind.free) = true then do let a <- cellOf env x.1; pure (ForInStep.yield ((x.1, a) :: r)) else pure (ForInStep.yield r)) : Sem (List (Str × Addr))) = pure cl /\
      (∀ x c, cl.lookup x = some c -> env.cells.lookup x = some c) /\ (∀ x c, cs.lookup x = some c -> ∃ c', cl.lookup x = some c') /\ ∀ y ∈ l, y.2 = .free -> ∃ c, cl.lookup y.1 = some c
  | [], cs, _, hs => ⟨cs, rfl, hs, fun x c h => ⟨c, h⟩, fun _ h => nomatch h⟩
  | (n, k) :: r, cs, hl, hs => by
    by_cases hk : k = .free
    · subst hk
      obtain ⟨c, hc⟩ := hl (n, .free) List.mem_cons_self rfl
      have hs' : ∀ x d, ((n, c) :: cs).lookup x = some d -> env.cells.lookup x = some d := fun x d h => by
        rw [List.lookup_cons] at h
        cases hx : x == n with
        | true =>
          rw [hx] at h
          have e : x = n := by simpa using hx
          have e2 : c = d := by simpa using h
          subst e; subst e2
          exact hc
        | false => rw [hx] at h; exact hs x d h
      obtain ⟨cl, e, a, b, d⟩ := jwy env r ((n, c) :: cs) (fun y hy => hl y (lc9 _ hy)) hs'
      refine ⟨cl, ?_, a, fun x c' h => ?_, fun y hy hf => ?_⟩
      · rw [List.forIn_cons]
        have q : cellOf env n = pure c := by unfold cellOf; rw [hc]
        simp only [beq_self_eq_true, if_true, q, pure_bind]
        exact e
      · cases hx : x == n with
        | true => exact b x c (by rw [List.lookup_cons, hx])
        | false => exact b x c' (by rw [List.lookup_cons, hx]; exact h)
      · rcases List.mem_cons.mp hy with z | z
        · subst z
          exact b n c (by rw [List.lookup_cons]; simp)
        · exact d y z hf
    · obtain ⟨cl, e, a, b, d⟩ := jwy env r cs (fun y hy => hl y (lc9 _ hy)) hs
      refine ⟨cl, ?_, a, b, fun y hy hf => ?_⟩
      · rw [List.forIn_cons]
        have q : (k == NameKind.free) = false := by simpa using hk
        simp only [q, Bool.false_eq_true, if_false, pure_bind]
        exact e
      · rcases List.mem_cons.mp hy with z | z
        · subst z
          exact absurd hf hk
        · exact d y z hf
theorem kq7 {scope:Scope} {env:Env} (h:∀ y∈scope.names,y.2=.free->∃ c,env.cells.lookup y.1=some c) :
  ∃ cl,closureFor scope env=pure cl/\(∀ x c,cl.lookup x=some c->env.cells.lookup x=some c)/\∀ y∈scope.names,y.2=.free->∃ c,cl.lookup y.1=some c:=by
 obtain ⟨cl,e,a,_,d⟩:=jwy env scope.names [] h (fun x c h=>nomatch h)
 refine ⟨cl,?_,a,d⟩
 unfold closureFor
 have e':=congrArg (fun t:Sem (List (Str×Addr))=>t >>= pure) e
 simpa using e'
def lcX (X:Cx) (scope:Scope) (N:List Str) (cl:List (Str×Addr)) (C:Addr) (s0:Shared) (H0:Hp) (fp:List Addr):Cx :=
 { X with N:=N,s₀:=s0,H₀:=H0,env:=compEnvC scope cl C X.env,outer:=X.stack,ex:=fp,fn:=fun _=>false,pn:=[],xe:=fun _ _=>False }
def qv2 (k:Nat) (R:List Nat) (σ:L2.St):L2.St:=List.replicate k none++R.map fun j=>(σ[j]?).join
structure LcOk (X:Cx) (scope:Scope) (N:List Str) (k:Nat) (R:List Nat):Prop where
 kind:scope.kind=.function
 nocell:∀ y∈scope.names,y.2≠.cell
 names:∀ y∈scope.names,y.2=.local->scope.names.lookup y.1=some .local
 caps:∀ y∈scope.names,y.2=.free->X.env.kindOf y.1=some .cell\/X.env.kindOf y.1=some .free
 len:N.length=k + R.length
 outs:∀ i j x,R[i]?=some j->N[k + i]?=some x->X.N[j]?=some x/\scope.names.lookup x=some .free
def qjn (XN:List Str) (sc scope:Scope) (N:List Str) (k:Nat) (R:List Nat):Bool :=
 scope.names.all (fun y=>y.2 != .cell) && scope.names.all (fun y=>y.2 != .local || scope.names.lookup y.1 == some .local) &&
 scope.names.all (fun y=>y.2 != .free || (sc.names.lookup y.1 == some .cell || sc.names.lookup y.1 == some .free)) &&
 (N.length == k + R.length) && (R.zip (N.drop k)).all (fun p=>XN[p.1]? == some p.2 && scope.names.lookup p.2 == some .free)
theorem kzm {X:Cx} {scope:Scope} {N:List Str} {k:Nat} {R:List Nat} (hk:scope.kind=.function) (h:qjn X.N X.env.scope scope N k R=true):LcOk X scope N k R:=by
 unfold qjn at h
 simp only [Bool.and_eq_true,List.all_eq_true,bne_iff_ne,Bool.or_eq_true,beq_iff_eq] at h
 obtain ⟨⟨⟨⟨h1,h2⟩,h3⟩,h4⟩,h5⟩:=h
 refine ⟨hk,fun y hy=>h1 y hy,fun y hy e=>(h2 y hy).resolve_left (fun z=>z e),fun y hy e=>(h3 y hy).resolve_left (fun z=>z e),h4,fun i j x e1 e2=>?_⟩
 have m:(j,x)∈R.zip (N.drop k):=by
  refine List.mem_of_getElem? (i:=i) ?_
  rw [List.getElem?_zip_eq_some]
  exact ⟨e1,by rw [List.getElem?_drop];exact e2⟩
 exact h5 (j,x) m
theorem jqj {env : Env} {x : Str} {q : NameKind} : ∀ {names : List (Str × NameKind)}, (names.map fun (n, k) => if (k == NameKind.free && env.scope.kind == .function && env.kindOf n == some .cell) then (n, NameKind.cell) else (n, k)).lookup x = some q ->
    (x, q) ∈ names \/ (q = .cell /\ (x, NameKind.free) ∈ names)
  | [], h => nomatch h
  | (n, k) :: r, h => by
    have h : List.lookup x ((if (k == NameKind.free && env.scope.kind == .function && env.kindOf n == some .cell) = true then (n, NameKind.cell) else (n, k)) :: (r.map fun (n, k) => if (k == NameKind.free && env.scope.kind == .function && env.kindOf n == some .cell) then (n, NameKind.cell) else (n, k))) = some q := h
    by_cases hc : (k == NameKind.free && env.scope.kind == .function && env.kindOf n == some .cell) = true
    · rw [if_pos hc, List.lookup_cons] at h
      cases hx : x == n with
      | true =>
        rw [hx] at h
        have e : x = n := by simpa using hx
        have e2 : NameKind.cell = q := by simpa using h
        subst e
        simp only [Bool.and_eq_true, beq_iff_eq] at hc
        obtain ⟨⟨e3, _⟩, _⟩ := hc
        subst e3
        exact .inr ⟨e2.symm, List.mem_cons_self⟩
      | false =>
        rw [hx] at h
        rcases jqj (names := r) h with z | ⟨z, y⟩
        · exact .inl (lc9 _ z)
        · exact .inr ⟨z, lc9 _ y⟩
    · rw [if_neg hc, List.lookup_cons] at h
      cases hx : x == n with
      | true =>
        rw [hx] at h
        have e : x = n := by simpa using hx
        have e2 : k = q := by simpa using h
        subst e; subst e2
        exact .inl List.mem_cons_self
      | false =>
        rw [hx] at h
        rcases jqj (names := r) h with z | ⟨z, y⟩
        · exact .inl (lc9 _ z)
        · exact .inr ⟨z, lc9 _ y⟩
section
variable {X:Cx} {pins:List (Addr×Obj)} {σ:L2.St} {H:Hp} {s:Shared}
theorem vxd {scope:Scope} {N:List Str} {k:Nat} {R:List Nat} {cl:List (Str×Addr)} {C:Addr} (sc:LcOk X scope N k R) (hfree:∀ y∈scope.names,y.2=.free->∃ c,cl.lookup y.1=some c)
  {x:Str} (h:(compEnvC scope cl C X.env).kindOf x=some .cell\/(compEnvC scope cl C X.env).kindOf x=some .free):∃ c,cl.lookup x=some c:=by
 rcases h with h | h
 ·rcases jqj (env:=X.env) (names:=scope.names) h with z | ⟨_,z⟩
  ·exact absurd rfl (sc.nocell _ z)
  ·exact hfree _ z rfl
 ·rcases jqj (env:=X.env) (names:=scope.names) h with z | ⟨z,_⟩
  ·exact hfree _ z rfl
  ·cases z
theorem vxe {scope:Scope} {N:List Str} {k:Nat} {R:List Nat} {cl:List (Str×Addr)} {C:Addr} {fp:List Addr} (I:Inv X pins σ H s) (sc:LcOk X scope N k R) (hf:∀ b∈fp,kqb X pins H b) (ho:∀ b∈fp,∃ o,s.heap.get? b=some o)
  (hC:s.heap.objs.size<=C) (hcl:∀ x c,cl.lookup x=some c->X.env.cells.lookup x=some c) (hfree:∀ y∈scope.names,y.2=.free->∃ c,cl.lookup y.1=some c):(lcX X scope N cl C s H fp).Ok where
 mod:=I.ok.mod
 kind:=sc.kind
 glob:=I.ok.glob
 blt:=I.ok.blt
 above:=hC
 inj:=fun x y c h1 h2=>I.ok.inj x y c (hcl _ _ h1) (hcl _ _ h2)
 has:=fun x h=>vxd sc hfree h
 cab:=fun x c h=>by cases h
 hd:=I.ok.hd
 frames:=I.ok.frames
 stk:=.inl rfl
 exf:=fun b hb=>by
  obtain ⟨o,e⟩:=ho b hb
  exact ⟨Nat.ne_of_lt (Nat.lt_of_lt_of_le (Heap.lt_size e) hC),fun x c h=>(hf b hb).2.2.2.2.1 x c (hcl x c h)⟩
 bs:=fun b o e=>I.bs b o e
 bsz:=Nat.le_trans I.ok.bsz I.sz
 noex:=fun b o e hb=>by
  rcases (hf b hb).2.2.2.1 with z | z
  ·exact I.ok.noex b o e z
  ·exact absurd (Nat.lt_of_lt_of_le (Heap.lt_size e) (Nat.le_trans I.ok.bsz z)) (Nat.lt_irrefl _)
 exfs:=fun b hb hs=>by
  rcases List.mem_cons.mp (I.stkSub b hs) with z | z
  ·exact (hf b hb).2.1 z
  ·exact (hf b hb).2.2.1 z
 funs:=I.stack
 frf:=I.stkFree
theorem vvo (I:Inv X pins σ H s) {a:Addr} (h:s.heap.objs.size<=a):a∉frs X.stack:=fun z=>by
 rcases List.mem_cons.mp (I.stkSub a z) with e | e
 ·subst e
  exact absurd (Nat.lt_of_lt_of_le I.lt h) (Nat.lt_irrefl _)
 ·exact I.nofs h e
theorem vq2 {scope:Scope} {N:List Str} {k:Nat} {R:List Nat} {cl:List (Str×Addr)} {C D:Addr} {fp:List Addr} {h1:Heap} {t:Nat} {m:Str->Option Value} {oD:Obj} (I:Inv X pins σ H s) (sc:LcOk X scope N k R)
  (hf:∀ b∈fp,kqb X pins H b) (ho:∀ b∈fp,∃ o,s.heap.get? b=some o)
  (hC:s.heap.objs.size<=C) (hD:s.heap.objs.size<=D) (hDC:D≠C) (hcl:∀ x c,cl.lookup x=some c->X.env.cells.lookup x=some c) (hfree:∀ y∈scope.names,y.2=.free->∃ c,cl.lookup y.1=some c)
  (old:∀ b o,s.heap.get? b=some o->h1.get? b=some o) (hn:h1.Ns C m) (eD:h1.get? D=some oD) (dD:∀ v,oD.data≠.cell v) :
  Inv (lcX X scope N cl C s H fp) [(D,oD)] (qv2 k R σ) H { s with heap:=h1,toks:=t } where
 ok:=vxe I sc hf ho hC hcl hfree
 os:=rfl
 bare:=I.bare
 base:=Un.kept old
 loc:=⟨m,hn,fun i x v e1 e2 vis=>by
  obtain ⟨mX,hnX,hl⟩:=I.loc
  unfold qv2 at e2
  by_cases hi:i < k
  ·rw [List.getElem?_append_left (by rw [List.length_replicate];exact hi),List.getElem?_replicate,if_pos hi] at e2
   cases e2
  ·have hk:k<=i:=Nat.le_of_not_lt hi
   rw [List.getElem?_append_right (by rw [List.length_replicate];exact hk),List.length_replicate,List.getElem?_map] at e2
   cases er:R[i - k]? with
   | none=>rw [er] at e2;cases e2
   | some j =>
    rw [er] at e2
    have ej:(σ[j]?).join=some v:=by simpa using e2
    have ej':σ[j]?=some (some v):=by
     cases q:σ[j]? with
     | none=>rw [q] at ej;cases ej
     | some z=>rw [q] at ej;cases z with
      | none=>cases ej
      | some z=>rw [show z=v by simpa using ej]
    obtain ⟨o1,o2⟩:=sc.outs (i - k) j x er (by rw [show k + (i - k)=i by omega];exact e1)
    have cap:=sc.caps (x,.free) (PySem.mem_of_lookup o2) rfl
    have visX:Vis X.env.scope x:=cap.elim (fun z=>.inr (.inl z)) fun z=>.inr (.inr z)
    obtain ⟨u,ru,q⟩:=hl j x v o1 ej' visX
    refine ⟨u,ru,?_⟩
    rcases q with ⟨q,_⟩ | ⟨_,c,ec,hc⟩
    ·rcases cap with z | z
     ·rw [z] at q;cases q
     ·rw [z] at q;cases q
    ·obtain ⟨c',ec'⟩:=hfree (x,.free) (PySem.mem_of_lookup o2) rfl
     have e:c'=c:=oq9 ((hcl x c' ec').symm.trans ec)
     subst e
     refine .inr ⟨?_,c',ec',?_⟩
     ·rcases vis with z | z | z
      ·rcases jqj (env:=X.env) (names:=scope.names) z with y | ⟨y,_⟩
       ·have y':=sc.names _ y rfl
        rw [o2] at y';cases y'
       ·cases y
      ·exact .inl z
      ·exact .inr z
     ·obtain ⟨o,h1,h2⟩:=hc
      exact ⟨o,old _ _ h1,h2⟩⟩
 cell:=fun x c h=>by
  obtain ⟨v,o,h1,h2⟩:=I.cell x c (hcl x c h)
  exact ⟨v,o,old _ _ h1,h2⟩
 free:=I.hok.fresh hC
 freeC:=fun x c h=>I.freeC x c (hcl x c h)
 pin:=fun p hp=>by
  have e:p=(D,oD):=by
   have hp:p∈([]++[(D,oD)]:List (Addr×Obj)):=hp
   simpa using hp
  subst e
  exact ⟨eD,I.hok.fresh hD,hDC,vvo I hD,dD⟩
 hok:=I.hok.kept old
 len:=by
  show (qv2 k R σ).length=N.length
  unfold qv2
  rw [sc.len,List.length_append,List.length_replicate,List.length_map]
theorem kw9 {a:Addr} {o:HO} (I:Inv X pins σ H s) (hn:H a=none) (hL:a≠X.env.locals) (h1:a∈X.ex\/X.s₀.heap.objs.size<=a) (h2:∀ x c,X.env.cells.lookup x=some c->c≠a) (h3:∀ p∈X.pn++pins,p.1≠a)
  (new:ObjOk X.prog X.w (upd H a o) s.heap a o):Inv X pins σ (upd H a o) s:=by
 have hok:HOk X.prog X.w (upd H a o) s.heap:=fun b u e=>by
  by_cases hb:b=a
  ·subst hb;rw [jkd] at e;cases e;exact new
  ·rw [jjw hb] at e
   exact (I.hok b u e).stay (fun _ _ _ q=>q) (fun c q=>by rw [jjw (jjz q hn)];exact q) fun c xs q=>by rw [jjw (jjz q hn)];exact q
 have na:∀ b:Addr,b∉[a]->b≠a:=fun b hb z=>hb (by rw [z];exact List.mem_singleton.mpr rfl)
 exact I.step (h':=s.heap) (H':=upd H a o) (g':=s.gens) (t':=s.toks) (d':=s.drawn) (ch:=[a])
  (fun b hb=>by rw [List.mem_singleton.mp hb];exact ⟨h1,hL,h2,h3⟩) (fun b o _ _ _ e _=>e) (fun b o _ _ _ e _=>⟨o.slots,e⟩) (fun b o hb _ q=>by rw [jjw (na b hb)];exact q)
  (fun b o _ e=>⟨o,e⟩) (fun b xs q=>by rw [jjw (jjz q hn)];exact q) (fun b o u q=>by rw [jjw (jjz q hn)];exact q) (fun b ps q=>⟨#[],by rw [jjw (jjz q hn),q];simp⟩)
  (fun m hm=>hm) hok I.bare
end
def PTs (X:Cx) (ifs:List Expr) (t:TT):Prop :=
 ∀ (pins:List (Addr×Obj)) (s:Shared) (σ:L2.St) (H:Hp) (Q:Bool->Hp->Prop),Inv X pins σ H s->t σ H Q->wpAny (model X.prog X.w) X.A (qv1 ifs X.env) (TP X pins σ Q) X.xe s
abbrev tYes:TT:=fun _ H Q=>Q true H
theorem vk6 {X:Cx}:PTs X [] tYes:=fun _ _ _ H _ I h=>wpAny_tests_nil ⟨H,I,h⟩
theorem vk5 {X:Cx} {c:Expr} {t:TT} (hc:PT X c t):PTs X [c] t:=fun pins s σ H Q I h=>wpAny_tests_one (hc pins s σ H Q I h)
def LcW (g:TG) (tt:TT) (te:TE) (Q:VK) (J:It) (W:Nat->Nat->List V->L2.St->Hp->Prop):Prop:=∀ i m ys σ H,W i m ys σ H ->
 (J.stop i H/\ys.length<=sizeLine/\∀ p,H p=none->Q (.ref p) (upd H p (.lst ys))) \/
 (J.go i H/\∀ x H1,J.yld i H x H1->g x σ H1 fun σ2 H2=>∃ (Ny:VK) (Nn:Hp->Prop),(∀ y H4,Ny y H4->ys.length<=sizeLine/\∃ m',m' < m/\W (i + 1) m' (ys++[y]) σ2 H4) /\
  (∀ H4,Nn H4->∃ m',m' < m/\W (i + 1) m' ys σ2 H4)/\tt σ2 H2 fun b H3=>if b=true then te σ2 H3 Ny else Nn H3)
abbrev tLC (wi:TI) (g:TG) (tt:TT) (te:TE) (k:Nat) (R:List Nat):TE:=fun σ H Q=>wi σ H fun J H1 =>
 ∃ W:Nat->Nat->List V->L2.St->Hp->Prop,(∃ m,W 0 m [] (qv2 k R σ) H1)/\LcW g tt te Q J W
abbrev vv2 (its:List Value) (n:Nat):Obj:={ cls:=.type "list",data:=.seq its.toArray n }
end L3
namespace L3
open PySem PySem.Spec PyProof.Rows L2
section
variable {X:Cx}
theorem op_mulI:OpR X (binaryOp .Mult) (rI IntMulOk fun i j=>.int (i * j)):=opI fun _ _ _ _ _ _ _ hc q=>mul_int q hc
def vz5 (_i j:Int):Prop:=0 < j/\j.natAbs.log2 < 9000
theorem kzh:OpR X (binaryOp .FloorDiv) (rI vz5 fun i j=>.int (i / j)):=opI fun i j _ _ _ _ _ hc q=>by
 have h1:(0:Int) < j:=hc.1
 exact floordiv_int (by omega) (by rw [Int.fdiv_eq_ediv_of_nonneg i (by omega)];exact q) (.inl (PyProof.noPylong_of_log2 hc.2))
def kinds:List String:=["NoneType","bool","int","str","list","tuple","dict"]
def vxq (T U:String):Bool:=T == U || (T == "bool" && U == "int")
theorem kxg {K:PySem.W.Frag} {T U:String} (hT:T∈kinds) (hU:U∈kinds.tail):PySem.W.kitOne K (.type T) (.type U)=some (vxq T U):=by
 simp only [kinds,List.tail_cons,List.mem_cons,List.not_mem_nil,or_false] at hT hU
 rcases hT with rfl | rfl | rfl | rfl | rfl | rfl | rfl<;>rcases hU with rfl | rfl | rfl | rfl | rfl | rfl<;>with_unfolding_all rfl
def wkn (K:PySem.W.Frag):List V->Hp->VK->Prop:=fun xs H Q=>∃ x T U,xs=[x,.ty U]/\TyOf K H x (.type T)/\T∈kinds/\U∈kinds.tail/\Q (.bl (vxq T U)) H
theorem qz3:CallR X (.builtin "isinstance") (wkn X.K):=by
 intro pins s σ H xs us Q I r h
 obtain ⟨x,T,U,rfl,ty,hT,hU,q⟩:=h
 obtain ⟨u,w',rfl,r1,r2⟩:=qkc r
 cases (show w'=Value.type U from r2)
 exact qva I r1 ty (kxg hT hU) fun tk=>⟨.bl _,H,I.tok _,rfl,q⟩
def Its (x:Str):It:=⟨fun i _=>i < x.cps.size,fun i H v H'=>H'=H/\∃ c,x.cps[i]?=some c/\v=.str ⟨#[c]⟩,fun i _=>i=x.cps.size⟩
theorem kxy {P:Program} {w:World} {K:PySem.W.Frag} {tg:Expr} {x:Str} {t:Tok} {it:Addr} {ty:String}
  (W:∀ A':Around,A'.handled=none->Walks P w A' it [it] [it] x.cps.size (SignAt x) (fun i h=>h.IsStrIter it ty x t i))
  (hself:∀ (A:Around) (i:Nat) (s:Shared) (Q:Value->Shared->Prop) (E:Value->Shared->Prop),s.heap.IsStrIter it ty x t i->Q (.ref it) s->wpAny (model P w) A (pyIter (.ref it)) Q E s)
  (hty:["enumerate","zip","dict_itemiterator","dict_reverseitemiterator","odict_iterator","itertools.zip_longest","itertools.pairwise"].contains ty=false) :
  Turn P w K tg (Its x) [it] it (fun i h=>h.IsStrIter it ty x t i) where
 mem:=by simp
 obj:=fun i h st b hb=>by
  have e:b=it:=by simpa using hb
  subst e
  obtain ⟨o,e,c,d⟩:=st
  exact ⟨o,e,fun v z=>by rw [d] at z;cases z⟩
 keep:=fun i h h' st k=>by
  obtain ⟨o,e,r⟩:=st
  exact ⟨o,k it (by simp) o e,r⟩
 item:=by
  intro X hP hw hK hc i pins s σ H E I hf st hg
  subst hP hw hK
  obtain ⟨f0,f1,f2,f3,f4,f5⟩:=hf it (by simp)
  refine (W X.A (I.ok.hd hc)).item i s _ _ hg st fun v h' tk hv st' kk=>?_
  obtain ⟨c,u,hcc,rfl⟩:=hv
  have I1:Inv X pins σ H { s with heap:=h',toks:=tk }:=I.turned (fun b o hb e=>kk b o (by simpa using hb) e) f0 f1 f3 f4 f5
  obtain ⟨o,e,c1,d⟩:=id st'
  exact ⟨_,rfl,qxy (s:={ s with heap:=h',toks:=tk }) e c1 d hty ⟨.str ⟨#[c]⟩,H,I1,⟨u,rfl⟩,⟨rfl,c,hcc,rfl⟩,st',fun b hb=>(hf b hb).1⟩⟩
 done:=by
  intro X hP hw hK hc i pins s σ H E I hf st hg
  subst hP hw hK
  obtain ⟨f0,f1,f2,f3,f4,f5⟩:=hf it (by simp)
  have hg':i=x.cps.size:=hg
  subst hg'
  exact (W X.A (I.ok.hd hc)).done s _ _ st fun h' tk kk=>⟨rfl,I.turned (fun b o hb e=>kk b o (by simpa using hb) e) f0 f1 f3 f4 f5⟩
 self:=fun A i s Q E st hQ=>hself A i s Q E st hQ
def wkh:V->Option Int->Option Int->Hp->VK->Prop:=fun x lo hi H Q=>∃ z,x=.str z/\z.length<=sizeLine/\Q (.str (Txt.slice z lo hi)) H
theorem vvq:SlR X wkh:=by
 intro pins s σ H x v vl vu lo hi sl Q I rx hs pl pu h
 obtain ⟨z,rfl,hz,q⟩:=h
 obtain ⟨t,rfl⟩:=rx
 refine ⟨"str",_,F.slot_str_getitem.lookup,typeIs_str _ _ _,?_⟩
 have fin:∀ (t':Tok) (k:Nat),EP X pins σ Q (.str (Txt.slice z lo hi) t') { s with toks:=k }:=fun t' k=>⟨.str _,H,I.tok k,⟨t',rfl⟩,q⟩
 have hle:(Txt.slice z lo hi).length<=sizeLine:=Nat.le_trans (Txt.slice_le z _ _) hz
 cases pl with
 | none=>cases pu with
  | none=>exact wpAny_getItem_str_slice (l:=none) (u:=none) (st:=none) hs rfl (post_val_or_str ⟨hle,fin⟩)
  | int j tj=>exact wpAny_getItem_str_slice (l:=none) (u:=some (j,tj)) (st:=none) hs rfl (post_val_or_str ⟨hle,fin⟩)
 | int i ti=>cases pu with
  | none=>exact wpAny_getItem_str_slice (l:=some (i,ti)) (u:=none) (st:=none) hs rfl (post_val_or_str ⟨hle,fin⟩)
  | int j tj=>exact wpAny_getItem_str_slice (l:=some (i,ti)) (u:=some (j,tj)) (st:=none) hs rfl (post_val_or_str ⟨hle,fin⟩)
def vvw:R2:=fun x y H Q=>∃ z n,x=.str z/\y=.int n/\(z.length<=1024/\n<=1024/\-1024<=n)/\Q (.str (Txt.mul z n)) H
theorem vks:OpR X (binaryOp .Mult) vvw:=by
 intro pins s σ H x y v u Q I rx ry h
 obtain ⟨z,n,rfl,rfl,⟨h1,h2,h3⟩,q⟩:=h
 obtain ⟨t,rfl⟩:=rx
 obtain ⟨t',rfl⟩:=ry
 exact SB.mul (mulOk_of 1024 1024 h1 h2 (by omega) (by decide) (by decide)) fun t' k=>⟨.str _,H,I.tok k,⟨t',rfl⟩,q⟩
def qze (K:PySem.W.Frag):V->Option Int->Option Int->Hp->VK->Prop:=fun x lo hi H Q=>wki K x lo hi H Q\/wkg K x lo hi H Q\/wkh x lo hi H Q
theorem vzx (K:PySem.W.Frag) (hK:X.K=K:=by rfl):SlR X (qze K):=by subst hK;exact sl_list.or (sl_tup.or vvq)
def qkw (K:PySem.W.Frag):List V->Hp->VK->Prop:=fun xs H Q=>(∃ p ys,xs=[.ref p]/\(SqL K H p ys\/SqT K H p ys)/\Q (.int ys.length) H)\/(∃ z,xs=[.str z]/\z.length<=sizeLine/\Q (.int z.length) H)\/(∃ a kvs,xs=[V.ref a]/\H a=some (.dK kvs)/\Q (.int kvs.length) H)
theorem jq4 (K:PySem.W.Frag) (hK:X.K=K:=by rfl):CallR X (.builtin "len") (qkw K):=by subst hK;exact call_len_seq.or (call_len_str.or qw3)
theorem qw6:CallR X (.type "int") (fun xs H Q=>(∃ i,xs=[.int i]/\Q (.int i) H)\/∃ k,xs=[.bl k]/\Q (.int (if k then 1 else 0)) H):=qw5
theorem jvx (K:PySem.W.Frag) {o e:Expr} {es:List Expr} {T:String} {name:Str} {id:String} {r:V->List V->Hp->VK->Prop} {to:TE} {t:TA} {apos cpos:Pos}
  (pa:PlainAttrs T) (slot:Slot T name id) (hty:typeOf (.builtin id)=pure (.type "method_descriptor")) (hm:MtR X id r) (ho:PE X o to) (ha:PA X (e :: es) t)
  (hbase:attributeBase o name X.env (eval o X.env)=eval o X.env:=by rfl)
  (hfew:((backTo cpos (starEach (e :: es) X.env)).all (fun x=>!x.1) && (backToKw cpos (keywordEach [] X.env)).all (fun x=>x.1.isSome)
   && decide ((e :: es).length + ([]:List Keyword).length + (if ([]:List Keyword).isEmpty then 0 else 1) < 30))=true:=by rfl)
  (hline:(apos.endLine == cpos.line)=true:=by rfl) (hs:starEach (e :: es) X.env=(false,eval e X.env) :: starEach es X.env:=by rfl) (hplain:(backTo cpos (starEach es X.env)).any (·.1)=false:=by rfl) (hK:X.K=K:=by rfl) :
  PE X (.Call (.Attribute o name apos) (e :: es) [] cpos) (tBM K T r to t):=by subst hK;exact wjh pa slot hty hm ho ha hbase hfew hline hs hplain
theorem jqu:bootBuiltins "len"=some (.builtin "len"):=by decide +kernel
theorem jzb:bootBuiltins "isinstance"=some (.builtin "isinstance"):=by decide +kernel
theorem qw8:bootBuiltins "sorted"=some (.builtin "sorted"):=by decide +kernel
theorem vj5:bootBuiltins "int"=some (.type "int"):=by decide +kernel
theorem vqv:bootBuiltins "bool"=some (.type "bool"):=by decide +kernel
theorem jx0:bootBuiltins "list"=some (.type "list"):=by decide +kernel
theorem jwk:bootBuiltins "tuple"=some (.type "tuple"):=by decide +kernel
end
end L3
namespace L3
open PySem PySem.Spec PyProof.Rows L2
theorem qj6:∀ {ns:List Int} {m:Nat},PySem.W.WData.weightAll (ns.map PySem.W.WData.int)<=m->∀ n∈ns,Builtin.Int.intBits n<=m
 | [],_,_,_,h=>nomatch h
 | a :: r,m,h,n,hn=>by
  have h':(if a == 0 then 0 else a.natAbs.log2 + 1) + 1 + PySem.W.WData.weightAll (r.map PySem.W.WData.int)<=m:=h
  rcases List.mem_cons.mp hn with z | z
  ·subst z
   have e:Builtin.Int.intBits n=(if n == 0 then 0 else n.natAbs.log2 + 1):=rfl
   rw [e]
   omega
  ·exact qj6 (m:=m) (by omega) n z
theorem kxq {ns:List Int} (h:PySem.W.WData.layableAll [PySem.W.WData.list (ns.map PySem.W.WData.int)]=true):∀ n∈ns,Builtin.Int.intBits n<=1048576:=by
 have h1:(PySem.W.WData.list (ns.map PySem.W.WData.int)).layable=true:=(PySem.W.layW_cons h).1
 unfold PySem.W.WData.layable at h1
 simp only [Bool.and_eq_true,decide_eq_true_eq] at h1
 have h2:PySem.W.WData.weightAll (ns.map PySem.W.WData.int)<=2 ^ 20:=h1.2
 exact qj6 (by simpa using h2)
end L3
namespace L3
open PySem PySem.Spec PyProof.Rows L2
inductive D where
 | non | bl (b:Bool) | int (i:Int) | str (z:Str) | lst (xs:List D) | tup (xs:List D)
section
variable {X:Cx} {pins:List (Addr×Obj)} {σ:L2.St} {H:Hp} {s:Shared}
theorem in1_units (A:Around):A.in1.units<=A.units + 1:=by
 first | exact Nat.le_refl _ | (show A.units + 1<=A.units + 1;exact Nat.le_refl _) | (unfold Around.in1;simp)
end
end L3
namespace L3
open PySem PySem.Spec PyProof.Rows L2
section
variable {X:Cx}
def qkv (K:PySem.W.Frag):List V->Hp->VK->Prop:=fun xs H Q=>∃ p ys,xs=[.ref p]/\(SqL K H p ys\/SqT K H p ys)/\∀ l,H l=none->Q (.ref l) (upd H l (.lst ys))
theorem jz9 (K:PySem.W.Frag) (hK:X.K=K:=by rfl):CallR X (.type "list") (qkv K):=by subst hK;exact kwl
end
end L3
namespace L3
open PySem PySem.Spec PyProof.Rows L2
section
variable {X:Cx} {pins:List (Addr×Obj)} {σ:L2.St} {H:Hp} {s:Shared}
theorem kjr {t':Nat} {h':Heap} (fp:List Addr) (I:Inv X pins σ H s) (k:∀ b o,b∉fp->s.heap.get? b=some o->h'.get? b=some o) (hf:∀ b∈fp,kqb X pins H b):Inv X pins σ H { s with heap:=h',toks:=t' }:=by
 have nit:∀ b u,H b=some u->b∉fp:=fun b u e z=>by rw [(hf b z).1] at e;cases e
 refine I.step (g':=s.gens) (d':=s.drawn) (ch:=fp) (fun b hb=>?_) (fun b o _ _ hc e _=>k b o hc e) (fun b o _ _ hc e _=>⟨o.slots,k b o hc e⟩) (fun _ _ _ _ n=>n)
  (fun b o hc e=>⟨o,k b o hc e⟩) (fun _ _ e=>e) (fun _ _ _ e=>e) (fun b ps e=>⟨#[],by rw [e];simp⟩) (fun m hm=>?_) (fun b u e=>?_) I.bare
 ·obtain ⟨_,f1,_,f3,f4,f5⟩:=hf b hb
  exact ⟨f3,f1,f4,f5⟩
 ·obtain ⟨o,es,ep,ho,r⟩:=hm
  exact ⟨o,es,ep,k _ o (fun z=>(hf _ z).2.1 rfl) ho,r⟩
 ·refine (I.hok b u e).stay (fun c v hc q=>k c v ?_ q) (fun _ q=>q) fun _ _ q=>q
  rcases hc with z | z
  ·rw [z];exact nit b u e
  ·exact nit c _ z
end
end L3
namespace L3
open PySem PySem.Spec PyProof.Rows L2
section
variable {X:Cx}
def qkx:List V->Hp->VK->Prop:=fun xs H Q=>(∃ i,xs=[.int i]/\Q (.int i) H)\/(∃ k,xs=[.bl k]/\Q (.int (if k then 1 else 0)) H)\/∃ (x:Str) (n:Int),xs=[.str x]/\PySem.intText? x=some n/\x.length<=640/\Q (.int n) H
theorem kwn:CallR X (.type "int") qkx:=by
 intro pins s σ H xs us Q I r h
 rcases h with h | h | ⟨x,n,rfl,hx,hl,q⟩
 ·exact qw6 pins s σ H xs us Q I r (.inl h)
 ·exact qw6 pins s σ H xs us Q I r (.inr h)
 ·obtain ⟨u,rfl,t,rfl⟩:=jzt r
  exact PySem.W.KIN.call_text hx hl ⟨.int n,H,I.tok _,⟨_,rfl⟩,q⟩
end
end L3
namespace L2
open PySem PySem.Spec PyProof.Rows
section
variable {P:Program} {w:World} {H H':Hp} {h h':Heap} {a:Addr} {o:HO}
theorem ObjOk.obj (x:ObjOk P w H h a o):∃ u,h.get? a=some u:=by
 cases o with
 | lst xs=>obtain ⟨_,_,_,_,e⟩:=x;exact ⟨_,e⟩
 | tup xs=>obtain ⟨_,_,_,p⟩:=x;obtain ⟨u,e,_⟩:=p;exact ⟨u,e⟩
 | dK kvs=>obtain ⟨_,_,_,_,o,_,_,e,_⟩:=x;exact ⟨_,e⟩
 | dT kvs=>obtain ⟨_,_,_,_,o,_,_,e,_⟩:=x;exact ⟨_,e⟩
 | set S n=>obtain ⟨o,_,_,_,e,_⟩:=x;exact ⟨_,e⟩
 | ins C dx fs=>obtain ⟨_,_,_,e,_⟩:=x;exact ⟨_,e⟩
 | own y=>obtain ⟨_,e⟩:=x;exact ⟨_,e⟩
 | xd fs=>obtain ⟨_,⟨_,_,_,e,_⟩,_⟩:=x;exact ⟨_,e⟩
 | rng lo hi=>obtain ⟨_,_,_,e⟩:=x;exact ⟨_,e⟩
 | frz ob u=>obtain ⟨e,_⟩:=x;exact ⟨_,e⟩
 | tbl ps=>exact ⟨_,x⟩
 | met f y=>exact ⟨_,x⟩
 | ext φ=>obtain ⟨_,⟨_,e⟩,_⟩:=x;exact ⟨_,e⟩
end
section
variable {X:Cx} {pins:List (Addr×Obj)} {σ:List (Option V)} {H H':Hp} {s:Shared} {h':Heap}
theorem Inv.stepN {g':Array GenState} {t':Nat} {d':Drawn} {ch:List Addr} (I:Inv X pins σ H s)
  (hch:∀ b∈ch,(b∈X.ex\/X.s₀.heap.get? b=none)/\b≠X.env.locals/\(∀ x c,X.env.cells.lookup x=some c->c≠b)/\∀ p∈X.pn++pins,p.1≠b)
  (keep:∀ b o,b≠X.env.locals->b∉X.fs->b∉ch->s.heap.get? b=some o->H b=none->h'.get? b=some o)
  (slot:∀ b o,b≠X.env.locals->b∈X.fs->b∉ch->s.heap.get? b=some o->H b=none->∃ sl,h'.get? b=some { o with slots:=sl }) (free:∀ b o,b∉ch->s.heap.get? b=some o->H b=none->H' b=none)
  (there:∀ b o,b∉ch->s.heap.get? b=some o->∃ o',h'.get? b=some o')
  (tups:∀ b xs,H b=some (.tup xs)->H' b=some (.tup xs)) (frzs:∀ b o u,H b=some (.frz o u)->H' b=some (.frz o u)) (tbls:∀ b ps,H b=some (.tbl ps)->∃ more,H' b=some (.tbl (ps++more)))
  (ns:∀ m,s.heap.Ns X.env.locals m->h'.Ns X.env.locals m) (hok:HOk X.prog X.w H' h') (hg:AllBare g') :
  Inv X pins σ H' { s with heap:=h',gens:=g',drawn:=d',toks:=t' }:=by
 have neL:∀ b o,X.s₀.heap.get? b=some o->b≠X.env.locals:=fun b o e=>Nat.ne_of_lt (Nat.lt_of_lt_of_le (Heap.lt_size e) I.ok.above)
 have neC:∀ b o,X.s₀.heap.get? b=some o->b∉X.ex->b∉ch:=fun b o e hx hb=>by
  rcases (hch b hb).1 with z | z
  ·exact hx z
  ·rw [z] at e;cases e
 have cellK:∀ x c,X.env.cells.lookup x=some c->∀ v,s.heap.IsCell c v->h'.IsCell c v:=fun x c e v ⟨o,ho,hd⟩=>by
  have nch:c∉ch:=fun z=>(hch c z).2.2.1 x c e rfl
  by_cases hc:c∈X.fs
  ·obtain ⟨sl,q⟩:=slot c o (I.cne x c e) hc nch ho (I.freeC x c e)
   exact ⟨_,q,hd⟩
  ·exact ⟨o,keep c o (I.cne x c e) hc nch ho (I.freeC x c e),hd⟩
 refine ⟨I.ok,I.os,hg,⟨fun b o e n hb hx=>?_,fun b o e n hb hx=>?_,fun b o e n hx=>?_,fun b o e hx=>?_,fun b xs e=>tups b xs (I.base.tups b xs e),fun b o xs e=>frzs b o xs (I.base.frzs b o xs e),fun b ps e=>?_⟩,?_,fun x c e=>?_,?_,fun x c e=>?_,fun p hp=>?_,hok,I.len⟩
 ·exact keep b o (neL b o e) hb (neC b o e hx) (I.base.keep b o e n hb hx) (I.base.free b o e n hx)
 ·obtain ⟨sl,e1⟩:=I.base.slot b o e n hb hx
  obtain ⟨sl',e2⟩:=slot b _ (neL b o e) hb (neC b o e hx) e1 (I.base.free b o e n hx)
  exact ⟨sl',e2⟩
 ·obtain ⟨o',e1⟩:=I.base.there b o e hx
  exact free b o' (neC b o e hx) e1 (I.base.free b o e n hx)
 ·obtain ⟨o',e1⟩:=I.base.there b o e hx
  exact there b o' (neC b o e hx) e1
 ·obtain ⟨m1,e1⟩:=I.base.tbls b ps e
  obtain ⟨m2,e2⟩:=tbls b _ e1
  exact ⟨m1++m2,by rw [e2,Array.append_assoc]⟩
 ·obtain ⟨m,hn,hl⟩:=I.loc
  refine ⟨m,ns m hn,fun i x v e1 e2 e3=>?_⟩
  obtain ⟨u,r,l⟩:=hl i x v e1 e2 e3
  refine ⟨u,r,?_⟩
  rcases l with l | ⟨k,c,e,z⟩
  ·exact .inl l
  ·exact .inr ⟨k,c,e,cellK x c e _ z⟩
 ·obtain ⟨v,z⟩:=I.cell x c e
  exact ⟨v,cellK x c e v z⟩
 ·obtain ⟨m,⟨o,_,_,ho,_⟩,_⟩:=I.loc
  exact free _ o (fun z=>(hch _ z).2.1 rfl) ho I.free
 ·obtain ⟨v,o,ho,hd⟩:=I.cell x c e
  exact free c o (fun z=>(hch c z).2.2.1 x c e rfl) ho (I.freeC x c e)
 ·obtain ⟨e,n,ne,nf,d⟩:=I.pin p hp
  have nch:p.1∉ch:=fun z=>(hch p.1 z).2.2.2 p hp rfl
  exact ⟨keep p.1 p.2 ne nf nch e n,free p.1 p.2 nch e n,ne,nf,d⟩
theorem Inv.callN {g':Array GenState} {t':Nat} {d':Drawn} {ch:List Addr} (I:Inv X pins σ H s) (u:Un (frs X.stack) ch H H' s.heap h') (hok:HOk X.prog X.w H' h') (hg:AllBare g')
  (hch:∀ b∈ch,(b∈X.ex\/X.s₀.heap.get? b=none)/\b≠X.env.locals/\(∀ x c,X.env.cells.lookup x=some c->c≠b)/\∀ p∈X.pn++pins,p.1≠b) :
  Inv X pins σ H' { s with heap:=h',gens:=g',drawn:=d',toks:=t' }:=by
 obtain ⟨m,⟨o,es,ep,ho,r⟩,_⟩:=id I.loc
 obtain ⟨sl,hL⟩:=u.any ho I.free fun z=>(hch _ z).2.1 rfl
 exact I.stepN (ch:=ch) hch (fun b o hL hb hc e n=>u.keep b o e n (fun z=>(List.mem_cons.mp (I.stkSub b z)).elim hL hb) hc) (fun b o _ _ hc e n=>u.any e n hc) (fun b o hc e n=>u.free b o e n hc) (fun b o hc e=>u.there b o e hc) u.tups u.frzs u.tbls (fun m' hm=>by
  obtain ⟨o',es',ep',ho',r'⟩:=hm
  rw [ho] at ho';cases ho'
  exact ⟨_,es',ep',hL,r'⟩) hok hg
end
end L2
namespace L3
open PySem PySem.Spec PyProof.Rows L2
theorem kjn {e:Value} {env env0:Env} (h:env.frame=env0.frame):noteFrame e env=noteFrame e env0:=by
 unfold noteFrame PySem.frameOf
 rw [h]
structure Fl0 (h:Heap) (x:Addr) (C:Value) (vs:Array Value):Prop where
 ob:h.get? x=some { cls:=C,data:=.fields vs }
 sz:1 < vs.size
structure FlT (h:Heap) (x T:Addr) (C:Value) (fl:Value):Prop where
 ex:∃ vs,h.get? x=some { cls:=C,data:=.fields vs }/\vs[1]?=some (.ref T)
 tb:∃ oT ts,h.get? T=some oT/\oT.data=.fields ts/\ts[3]?=some fl
 ne:T≠x
structure Chg (fs ch:List Addr) (h h':Heap):Prop where
 keep:∀ b o,h.get? b=some o->b∉fs->b∉ch->h'.get? b=some o
 slot:∀ b o,h.get? b=some o->b∉ch->∃ sl,h'.get? b=some { cls:=o.cls,dict:=o.dict,data:=o.data,slots:=sl }
 size:h.objs.size<=h'.objs.size
theorem Chg.trans {fs ch ch':List Addr} {h h1 h2:Heap} (a:Chg fs ch h h1) (b:Chg fs ch' h1 h2) (hc:∀ x∈ch',x∈ch\/h.get? x=none):Chg fs ch h h2 where
 keep:=fun x o e h1 h2=>b.keep x o (a.keep x o e h1 h2) h1 fun z=>(hc x z).elim h2 fun q=>by rw [q] at e;cases e
 slot:=fun x o e hn=>by
  obtain ⟨sl,e1⟩:=a.slot x o e hn
  obtain ⟨sl2,e2⟩:=b.slot x _ e1 fun z=>(hc x z).elim hn fun q=>by rw [q] at e;cases e
  exact ⟨sl2,e2⟩
 size:=Nat.le_trans a.size b.size
theorem Chg.mono {fs ch ch':List Addr} {h h1:Heap} (a:Chg fs ch h h1) (hc:∀ x∈ch,x∈ch'):Chg fs ch' h h1:=⟨fun b o e h1 h2=>a.keep b o e h1 fun z=>h2 (hc b z),fun b o e h2=>a.slot b o e fun z=>h2 (hc b z),a.size⟩
theorem Chg.of_upd {fs : List Addr} {h : Heap} {a : Addr} {f : Obj -> Obj} : Chg fs [a] h (h.update a f) :=
  ⟨fun b o e _ hn => by rw [Heap.get?_update_ne _ _ _ _ (fun z => hn (List.mem_singleton.mpr z))]; exact e,
   fun b o e hn => ⟨o.slots, by rw [Heap.get?_update_ne _ _ _ _ (fun z => hn (List.mem_singleton.mpr z))]; exact e⟩, by rw [Heap.size_update]; exact Nat.le_refl _⟩
theorem Chg.of_push {fs:List Addr} {h:Heap} {o:Obj}:Chg fs [] h (h.push o) :=
 ⟨fun b o e _ _=>Heap.get?_push_of_some _ e,fun b o e _=>⟨o.slots,Heap.get?_push_of_some _ e⟩,by rw [Heap.size_push];omega⟩
theorem Chg.of_slots {fs:List Addr} {h h':Heap} (s:Heap.SlotsOnly fs h h'):Chg fs [] h h' :=
 ⟨fun b o e hn _=>(s.2.1 b hn).trans e,fun b o e _=>s.2.2 b o e,by rw [s.1];exact Nat.le_refl _⟩
theorem Chg.refl {fs ch:List Addr} {h:Heap}:Chg fs ch h h:=⟨fun _ _ e _ _=>e,fun b o e _=>⟨o.slots,e⟩,Nat.le_refl _⟩
section
variable {M:Model} {A:Around} {E:Value->Shared->Prop} {s:Shared} {base:Heap} {env:Env} {outer:List Env} {L x T:Addr} {C fl:Value}
theorem kwi {head:Value} {hadNext:Bool} {vs:Array Value} {Q:Unit->Shared->Prop} (hA:A.frames=some (env :: outer)) (hF:s.heap.FunFrames base (env :: outer)) (hL:env.frame=some L) (ho:Fl0 s.heap x C vs)
  (h:∀ h' T',Chg (frs (env :: outer)) [x] s.heap h'->s.heap.objs.size<=T'->FlT h' x T' C (rawInt ↑L)->Q () { s with heap:=h' }) :
  wpAny M A (do
   let a <- PySem.frameOf env
   let pl <- entryPlaceOf L hadNext
   let b <- EntryCells.newEntry head a Value.none (rawInt ↑L) Value.none pl
   setField (Value.ref x) 1 b) Q E s:=by
 refine wpAny_bind (wpAny_frameOf_fun hA hF hL fun h1 s1=>?_)
 have hx:x∉frs (env :: outer):=fun z=>by
  obtain ⟨_,o,e,hn⟩:=hF.mem z
  rw [ho.ob] at e
  cases e
  exact hn _ rfl
 have o1:h1.get? x=some { cls:=C,data:=.fields vs }:=(s1.2.1 x hx).trans ho.ob
 have fin:∀ pl:List Value,IsPlace pl->wpAny M A (do
   let b <- EntryCells.newEntry head (Value.ref L) Value.none (rawInt ↑L) Value.none pl
   setField (Value.ref x) 1 b) Q E { s with heap:=h1 }:=fun pl hpl=>by
  refine wpAny_bind ?_
  unfold EntryCells.newEntry newFields
  have har:([head,Value.ref L,Value.none,rawInt ↑L,Value.none]++if pl.isEmpty=true then List.replicate 6 Value.none else pl).toArray[3]?=some (rawInt ↑L):=by simp
  have hsz:([head,Value.ref L,Value.none,rawInt ↑L,Value.none]++if pl.isEmpty=true then List.replicate 6 Value.none else pl).toArray.size<=sizeLine + 2:=by
   rcases hpl with rfl | ⟨_,_,_,_,_,_,_,rfl⟩<;>simp<;>decide
  generalize ([head,Value.ref L,Value.none,rawInt ↑L,Value.none]++if pl.isEmpty=true then List.replicate 6 Value.none else pl).toArray=ar at har hsz
  refine wpAny_newObj_type ?_ hsz
  have o2:(h1.push { cls:=.type "traceback",data:=.fields ar }).get? x=some { cls:=C,data:=.fields vs }:=Heap.get?_push_of_some _ o1
  refine wpAny_setField (s:={ s with heap:=h1.push _ }) o2 rfl ho.sz ?_
  have hne:h1.objs.size≠x:=fun e=>absurd (Heap.lt_size o1) (by rw [<- e];exact Nat.lt_irrefl _)
  have o3:((h1.push { cls:=.type "traceback",data:=.fields ar }).update x (Obj.mapFields fun y=>y.setIfInBounds 1 (.ref h1.objs.size))).get? h1.objs.size=some { cls:=.type "traceback",data:=.fields ar }:=by
   rw [Heap.get?_update_ne _ _ _ _ hne]
   exact Heap.get?_push_size _ rfl
  refine h _ h1.objs.size (((Chg.of_slots s1).mono (fun _ z=>nomatch z)).trans ((Chg.of_push.mono fun _ z=>nomatch z).trans (ch:=[x]) Chg.of_upd fun y hy=>.inl hy) fun y hy=>.inl hy) (by rw [s1.1];exact Nat.le_refl _) ⟨⟨vs.setIfInBounds 1 (.ref h1.objs.size),?_,Array.getElem?_setIfInBounds_self_of_lt ho.sz⟩,⟨_,_,o3,rfl,har⟩,hne⟩
  exact Heap.get?_update_self _ o2 rfl
 exact wpAny_bind (wpAny_entryPlaceOf fun pl hpl=>fin pl hpl)
theorem wjm {vs:Array Value} {Q:Unit->Shared->Prop} (hA:A.frames=some (env :: outer)) (hF:s.heap.FunFrames base (env :: outer)) (hL:env.frame=some L) (ho:Fl0 s.heap x C vs) (hv:vs[1]?=some .none)
  (h:∀ h' T',Chg (frs (env :: outer)) [x] s.heap h'->s.heap.objs.size<=T'->FlT h' x T' C (rawInt ↑L)->Q () { s with heap:=h' }):wpAny M A (noteFrame (.ref x) env) Q E s:=by
 unfold noteFrame
 rw [hL]
 refine wpAny_bind (wpAny_field ho.ob rfl hv ?_)
 exact kwi (hadNext:=false) hA hF hL ho h
theorem upd3 {T:Addr} {oT:Obj} {ts:Array Value} {v:Value} {h:Heap} (e:h.get? T=some oT) (ed:oT.data=.fields ts) (h3:3 < ts.size) :
  ∃ o' ts',(h.update T (Obj.mapFields fun y=>y.setIfInBounds 3 v)).get? T=some o'/\o'.data=.fields ts'/\ts'[3]?=some v:=by
 obtain ⟨c,d,dt,sl⟩:=oT
 cases (show dt=.fields ts from ed)
 exact ⟨_,ts.setIfInBounds 3 v,Heap.get?_update_self _ e rfl,rfl,Array.getElem?_setIfInBounds_self_of_lt h3⟩
theorem wjl {Q:Unit->Shared->Prop} (hA:A.frames=some (env :: outer)) (hF:s.heap.FunFrames base (env :: outer)) (hL:env.frame=some L) (f:FlT s.heap x T C fl)
  (h:∀ h' T',Chg (frs (env :: outer)) [x,T] s.heap h'->(s.heap.objs.size<=T'\/T'=T)->FlT h' x T' C (rawInt ↑L)->Q () { s with heap:=h' }):wpAny M A (noteFrame (.ref x) env) Q E s:=by
 obtain ⟨⟨vs,e1,v1⟩,⟨oT,ts,e2,d2,v2⟩,hne⟩:=f
 have h3:3 < ts.size:=by
  rw [Array.getElem?_eq_some_iff] at v2
  exact v2.1
 have h1:1 < vs.size:=by
  rw [Array.getElem?_eq_some_iff] at v1
  exact v1.1
 unfold noteFrame
 rw [hL]
 refine wpAny_bind (wpAny_field e1 rfl v1 ?_)
 show wpAny M A (if ((Value.ref T != Value.none)=true) then _ else _) Q E s
 rw [if_pos (show (Value.ref T != Value.none)=true from rfl)]
 refine wpAny_bind (wpAny_field e2 d2 v2 ?_)
 by_cases hf:(fl == rawInt ↑L)=true
 ·rw [if_pos hf]
  have e:fl=rawInt ↑L:=eq_of_beq hf
  subst e
  exact wpAny_pure (h s.heap T Chg.refl (.inr rfl) ⟨⟨vs,e1,v1⟩,⟨oT,ts,e2,d2,v2⟩,hne⟩)
 ·rw [if_neg hf]
  refine wpAny_bind (wpAny_setField e2 d2 h3 ?_)
  have c1:Chg (frs (env :: outer)) [x,T] s.heap (s.heap.update T (Obj.mapFields fun y=>y.setIfInBounds 3 Value.none)):=Chg.of_upd.mono fun y hy=>by
   rw [List.mem_singleton.mp hy];simp
  have e1':(s.heap.update T (Obj.mapFields fun y=>y.setIfInBounds 3 Value.none)).get? x=some { cls:=C,data:=.fields vs }:=by
   rw [Heap.get?_update_ne _ _ _ _ hne.symm];exact e1
  have hF':(s.heap.update T (Obj.mapFields fun y=>y.setIfInBounds 3 Value.none)).FunFrames base (env :: outer):=by
   refine hF.of_keeps fun b o e hn=>⟨o,?_,rfl⟩
   rw [Heap.get?_update_ne _ _ _ _ fun z=>?_]
   ·exact e
   ·rw [z,e2] at e
    cases e
    exact hn _ d2
  refine kwi (s:={ s with heap:=s.heap.update T _ }) (hadNext:=true) hA hF' hL ⟨e1',h1⟩ fun h' T' c2 hs f'=>?_
  refine h h' T' (c1.trans (c2.mono (ch':=[x,T]) fun y hy=>by rw [List.mem_singleton.mp hy];simp) fun y hy=>.inl hy) (.inl ?_) f'
  rw [Heap.size_update] at hs
  exact hs
theorem vxw {Q:Unit->Shared->Prop} {fr:Option Addr} (f:FlT s.heap x T C fl) (h:∀ h',Chg (frs outer) [x,T] s.heap h'->FlT h' x T C (fr.elim Value.none fun f=>rawInt ↑f)->Q () { s with heap:=h' }):wpAny M A (setFlight (.ref x) fr) Q E s:=by
 obtain ⟨⟨vs,e1,v1⟩,⟨oT,ts,e2,d2,v2⟩,hne⟩:=f
 have h3:3 < ts.size:=by
  rw [Array.getElem?_eq_some_iff] at v2
  exact v2.1
 unfold setFlight
 refine wpAny_bind (wpAny_field e1 rfl v1 ?_)
 rw [if_pos (show (Value.ref T != Value.none)=true from rfl)]
 refine wpAny_setField e2 d2 h3 (h _ (Chg.of_upd.mono fun y hy=>by rw [List.mem_singleton.mp hy];simp) ⟨⟨vs,?_,v1⟩,upd3 e2 d2 h3,hne⟩)
 rw [Heap.get?_update_ne _ _ _ _ hne.symm]
 exact e1
end
end L3
namespace L3
open PySem PySem.Spec PyProof.Rows L2
theorem qz6:plainId "BaseException.__getattribute__"=true:=by decide +kernel
theorem vqu:builtinKind "BaseException.__getattribute__"=some .slot:=by decide +kernel
theorem qz5:splitId "BaseException.__getattribute__"=some ("BaseException","__getattribute__"):=by decide +kernel
structure XCls (K:PySem.W.Frag) (C:Addr):Prop where
 ga:PySem.W.findIn K (.ref C) "__getattribute__"=some (some (.builtin "BaseException.__getattribute__"))
 gt:PySem.W.findIn K (.ref C) "__getattr__"=some none
 fo:PySem.W.findObj K C none "__class__"=some (.bind (.builtin "getset_descriptor.__get__") (.builtin "object.__class__"))
 ob:PySem.W.mroIn K C (.type "object")=some true
 bx:PySem.W.mroIn K C (.type "BaseException")=some true
 cl:(PySem.W.clsIn K C).isSome=true
section
variable {P:Program} {w:World} {A:Around} {E:Value->Shared->Prop} {s:Shared} {K:PySem.W.Frag} {x C:Addr} {ox:Obj}
theorem Lk {α:Type} {M:Model} {A:Around} {E:Value->Shared->Prop} {s:Shared} {t:Sem α} {r:α} {Q:α->Shared->Prop} (l:PySem.W.Looks M s.heap t r) (q:Q r s):wpAny M A t Q E s:=l A Q E s (fun _ _ e=>e) q
theorem qz8 {nm:Value} {Q:Unit->Shared->Prop} (KI:K.In s.heap) (X:XCls K C) (at_:PySem.W.InstAt s.heap x ox C none) (q:Q () s) :
  wpAny (model P w) A (checkBuiltinCall "BaseException.__getattribute__" { pos:=[.ref x,nm] }) Q E s:=by
 rw [checkBuiltinCall.eq_1,vqu,qz5]
 refine wpAny_bind ?_
 unfold isInstance
 refine wpAny_bind (Lk at_.type (Lk (PySem.W.looks_mroIn KI X.bx) ?_))
 rw [if_neg (by decide)]
 have h:=F.args_bexc_ga (.ref x) nm
 unfold argsOk at h
 show wpAny _ A (match Manifest.signature? "BaseException.__getattribute__" with | some sig=>Bind.checkArgs "BaseException.__getattribute__" sig { pos:=[.ref x,nm] } | x=>pure ()) Q E s
 cases hs:Manifest.signature? "BaseException.__getattribute__" with
 | none=>exact wpAny_pure q
 | some sig =>
  rw [hs] at h
  have h:Bind.checkArgs "BaseException.__getattribute__" sig { pos:=[.ref x,nm] }=pure ():=h
  show wpAny _ A (Bind.checkArgs "BaseException.__getattribute__" sig { pos:=[.ref x,nm] }) Q E s
  rw [h]
  exact wpAny_pure q
theorem wk7:(Value.builtin "BaseException.__getattribute__" == Value.builtin "object.__getattribute__")=false:=by decide
theorem qz7 {Q:Option Value->Shared->Prop} (KI:K.In s.heap) (X:XCls K C) (at_:PySem.W.InstAt s.heap x ox C none) (q:Q (some (.ref C)) { s with toks:=s.toks + 1 }) :
  wpAny (model P w) A (getAttr? (.ref x) "__class__") Q E s:=by
 unfold getAttr?
 refine wpAny_bind (wpAny_mkText ?_)
 unfold getAttrBy?
 refine wpAny_bind (wpAny_attempt ?_)
 unfold getAttrBy
 refine wpAny_holding (wpAny_bind (Lk (s:={ s with toks:=s.toks + 1 }) at_.type (wpAny_bind (Lk (s:={ s with toks:=s.toks + 1 }) (PySem.W.looks_findIn KI X.ga) ?_))))
 dsimp only
 rw [if_neg (by rw [wk7,Bool.and_false];decide)]
 unfold getAttrByItsOwn
 refine wpAny_bind (Lk (s:={ s with toks:=s.toks + 1 }) (PySem.W.looks_hook (K:=K) KI (r:=none) X.gt) ?_)
 refine wpAny_bind (wpAny_attempt (wpAny_holding ?_))
 unfold callGetattribute
 rw [if_neg (by decide)]
 unfold boundAndCalled
 rw [F.excAttr_ValueError.ga.bind]
 refine wpAny_bind (wpAny_pure ?_)
 refine wpAny_call (codeAny_call_builtin qz6 F.entry_bexc_ga (qz8 (s:={ s with toks:=s.toks + 1 }) KI X at_ ?_))
 unfold Builtin.«object.__getattribute__»
 have hsl:slotArgs "__getattribute__" 1 { pos:=[.ref x]++[.str "__class__" s.toks] }=pure (.ref x,[.str "__class__" s.toks]):=rfl
 rw [hsl]
 refine wpAny_bind (wpAny_pure ?_)
 show wpAny _ A.in1 (Builtin.ObjectAttr.attrName (.str "__class__" s.toks) >>= _) _ _ _
 refine wpAny_bind (wpAny_pure ?_)
 refine wpAny_bind (Lk (s:={ s with toks:=s.toks + 1 }) at_.type ?_)
 refine wpAny_bind (Lk (s:={ s with toks:=s.toks + 1 }) (PySem.W.looks_find KI at_ X.fo) ?_)
 show wpAny _ A.in1 (Builtin.ObjectAttr.bindTo (.builtin "getset_descriptor.__get__") (.builtin "object.__class__") (.ref x) (.ref C)) _ _ _
 unfold Builtin.ObjectAttr.bindTo
 refine wpAny_bind (wpAny_holding (wpAny_call (PySem.W.class_get (s:={ s with toks:=s.toks + 1 }) KI at_ X.ob ?_)))
 refine wpAny_pure ?_
 exact wpAny_pure (wpAny_pure q)
theorem qvx {h:Heap} (KI:K.In h) (X:XCls K C):∃ o cd,h.get? C=some o/\o.data=.cls cd:=by
 have c:=X.cl
 unfold PySem.W.clsIn at c
 split at c
 ·rename_i e
  exact ⟨_,_,KI _ _ e,rfl⟩
 ·cases c
theorem kzn (X:XCls K C):PySem.W.KitX K (.ref x) (.ref C) (fun h=>∃ ox,PySem.W.InstAt h x ox C none) where
 ty:=fun M h KI ⟨ox,a⟩=>a.type
 it:=fun M h KI _=>by
  obtain ⟨o,cd,e,d⟩:=qvx KI X
  intro A Q E s hk q
  unfold isType
  refine wpAny_bind (PySem.W.Looks.ld e A _ _ s hk ?_)
  rw [d]
  exact wpAny_pure q
 ne:=fun h tp dd its n sl KI e=>by
  obtain ⟨o,cd,e',d⟩:=qvx KI X
  by_cases z:C=tp
  ·subst z
   rw [e'] at e
   cases e
   cases d
  ·simpa using z
 ca:=fun KI ⟨ox,a⟩ q=>qz7 KI X a q
end
end L3
namespace L3
open PySem PySem.Spec PyProof.Rows L2
def FpX (X:Cx) (pins:List (Addr×Obj)) (H:Hp) (b:Addr):Prop :=
 H b=none/\b≠X.env.locals/\b∉X.fs/\(b∈X.ex\/X.s₀.heap.get? b=none)/\(∀ x c,X.env.cells.lookup x=some c->c≠b)/\∀ p∈X.pn++pins,p.1≠b
section
variable {X:Cx} {pins:List (Addr×Obj)} {σ:L2.St} {H:Hp} {s:Shared}
theorem qxu {P:Program} {w:World} {H:Hp} {h:Heap} {b:Addr} (k:HOk P w H h) (e:h.get? b=none):H b=none:=by
 cases q:H b with
 | none=>rfl
 | some u =>
  obtain ⟨o,z⟩:=(k b u q).obj
  rw [e] at z
  cases z
theorem fpX {H':Hp} {b:Addr} (I:Inv X pins σ H s) (hb:s.heap.get? b=none) (hn:H' b=none):FpX X pins H' b:=by
 refine ⟨hn,fun z=>?_,fun z=>?_,?_,fun x c e z=>?_,fun p hp z=>?_⟩
 ·obtain ⟨m,⟨o,_,_,ho,_⟩,_⟩:=I.loc
  rw [<- z,hb] at ho
  cases ho
 ·obtain ⟨_,o,e,_⟩:=I.ok.funs.mem z
  by_cases hx:b∈X.ex
  ·exact I.ok.exfs b hx z
  ·obtain ⟨o',e'⟩:=I.base.there b o e hx
   rw [hb] at e'
   cases e'
 ·by_cases hx:b∈X.ex
  ·exact .inl hx
  ·cases e:X.s₀.heap.get? b with
   | none=>exact .inr rfl
   | some o =>
    obtain ⟨o',e'⟩:=I.base.there b o e hx
    rw [hb] at e'
    cases e'
 ·obtain ⟨v,o,ho,_⟩:=I.cell x c e
  rw [z,hb] at ho
  cases ho
 ·have:=(I.pin p hp).1
  rw [z,hb] at this
  cases this
theorem FpX.of {b:Addr} (h:kqb X pins H b):FpX X pins H b:=⟨h.1,h.2.1,h.2.2.1,h.2.2.2.1.imp id fun z=>Heap.get?_none_of_le z,h.2.2.2.2⟩
theorem kxh {h':Heap} {ch:List Addr} (I:Inv X pins σ H s) (c:Chg (frs X.stack) ch s.heap h') (hf:∀ b∈ch,FpX X pins H b):Inv X pins σ H { s with heap:=h' }:=by
 refine I.callN (g':=s.gens) (t':=s.toks) (d':=s.drawn) (ch:=ch) ⟨fun b o e _ h1 h2=>c.keep b o e h1 h2,fun b o e _ _ h2=>c.slot b o e h2,fun _ _ _ n _=>n,fun b o e h2=>?_,fun _ _ e=>e,fun _ _ _ e=>e,fun _ _ e=>⟨#[],by rw [e];simp⟩⟩ (fun b u e=>?_) I.bare fun b hb=>?_
 ·obtain ⟨sl,q⟩:=c.slot b o e h2
  exact ⟨_,q⟩
 ·have no:∀ d v,H d=some v->d∉frs X.stack/\d∉ch:=fun d v e=>⟨fun z=>(by rw [I.stkFree d z] at e;cases e),fun z=>(by rw [(hf d z).1] at e;cases e)⟩
  refine (I.hok b u e).stay (fun d v hc q=>?_) (fun _ q=>q) fun _ _ q=>q
  rcases hc with z | z
  ·rw [z] at q ⊢
   exact c.keep b v q (no b u e).1 (no b u e).2
  ·exact c.keep d v q (no d _ z).1 (no d _ z).2
 ·obtain ⟨_,f1,_,f3,f4,f5⟩:=hf b hb
  exact ⟨f3,f1,f4,f5⟩
end
structure Fx (X:Cx) (pins:List (Addr×Obj)) (H:Hp) (h:Heap) (x:Addr) (C:Value):Prop where
 fp:FpX X pins H x
 st:(∃ vs,Fl0 h x C vs/\vs[1]?=some .none)\/∃ T fl,FlT h x T C fl/\FpX X pins H T
structure Xt (X:Cx) (pins:List (Addr×Obj)) (σ:L2.St) (H:Hp) (x T:Addr) (C fl:Value) (s:Shared):Prop where
 inv:Inv X pins σ H s
 fx:FpX X pins H x
 fT:FpX X pins H T
 f:FlT s.heap x T C fl
theorem Xt.to {X:Cx} {pins:List (Addr×Obj)} {σ:L2.St} {H:Hp} {x T:Addr} {C fl:Value} {s:Shared} (h:Xt X pins σ H x T C fl s):Fx X pins H s.heap x C:=⟨h.fx,.inr ⟨T,fl,h.f,h.fT⟩⟩
def Xo (X:Cx) (E:XK) (e:Value) (s:Shared):Prop:=∃ pins σ H x C,e=.ref x/\Inv X pins σ H s/\Fx X pins H s.heap x C/\E C none H
def qk7 (X:Cx) (E:XK):Prop:=∀ pins σ H s x C,Inv X pins σ H s->Fx X pins H s.heap x C->E C none H->X.xe (.ref x) s
abbrev Cx.ex' (X:Cx) (E:XK):Cx:=X.wish (Xo X E)
theorem jj6 {X:Cx} {E:XK}:qk7 (Cx.ex' X E) E:=fun pins σ H s x C I f q=>⟨pins,σ,H,x,C,rfl,I.unwish,⟨f.fp,f.st⟩,q⟩
def qk2 (X:Cx):Prop:=∃ env0 out,X.stack=env0 :: out/\X.env.frame=env0.frame
section
variable {X:Cx} {pins:List (Addr×Obj)} {σ:L2.St} {H:Hp} {s:Shared} {M:Model} {E':Value->Shared->Prop} {x T:Addr} {C fl:Value}
theorem kw2 {A:Around} {Q:Unit->Shared->Prop} (top:qk2 X) (hA:A.frames=X.A.frames) (I:Inv X pins σ H s) (f:Fx X pins H s.heap x C) (h:∀ L T s',X.env.frame=some L->Xt X pins σ H x T C (rawInt ↑L) s'->Q () s') :
  wpAny M A (noteFrame (.ref x) X.env) Q E' s:=by
 obtain ⟨env0,out,e1,e2⟩:=top
 have hF:=I.stack
 have hfr:A.frames=some (env0 :: out):=by rw [hA,I.ok.frames,e1]
 rw [e1] at hF
 obtain ⟨_,⟨L,o,hL,_⟩,_⟩:=id hF
 rw [kjn e2]
 have hL':X.env.frame=some L:=e2.trans hL
 rcases f.st with ⟨vs,f0,hv⟩ | ⟨T,fl,fT,pT⟩
 ·refine wjm hfr hF hL f0 hv fun h' T' c hs fl'=>h L T' _ hL' ⟨?_,f.fp,fpX I (Heap.get?_none_of_le hs) (I.hok.fresh hs),fl'⟩
  rw [<- e1] at c
  exact kxh I c fun b hb=>by rw [List.mem_singleton.mp hb];exact f.fp
 ·refine wjl hfr hF hL fT fun h' T' c hs fl'=>?_
  rw [<- e1] at c
  refine h L T' _ hL' ⟨kxh I c fun b hb=>?_,f.fp,?_,fl'⟩
  ·simp only [List.mem_cons,List.not_mem_nil,or_false] at hb
   rcases hb with rfl | rfl
   ·exact f.fp
   ·exact pT
  ·rcases hs with hs | hs
   ·exact fpX I (Heap.get?_none_of_le hs) (I.hok.fresh hs)
   ·rw [hs];exact pT
theorem jwj {A:Around} {Q:Unit->Shared->Prop} {fr:Option Addr} (t:Xt X pins σ H x T C fl s) (h:∀ s',Xt X pins σ H x T C (fr.elim Value.none fun f=>rawInt ↑f) s'->Q () s'):wpAny M A (setFlight (.ref x) fr) Q E' s:=by
 refine vxw (outer:=X.stack) t.f fun h' c fl'=>h _ ⟨kxh t.inv c fun b hb=>?_,t.fx,t.fT,fl'⟩
 simp only [List.mem_cons,List.not_mem_nil,or_false] at hb
 rcases hb with rfl | rfl
 ·exact t.fx
 ·exact t.fT
theorem vwy {α:Type} {A:Around} {what:String} {cenv:Env} {Q:α->Shared->Prop} (t:Xt X pins σ H x T C fl s) (h:∀ s' fl',Xt X pins σ H x T C fl' s'->E' (.ref x) s'):wpAny M A (PySem.passOn what (.ref x) cenv:Sem α) Q E' s:=by
 unfold PySem.passOn
 obtain ⟨vs,e1,v1⟩:=t.f.ex
 refine wpAny_bind (wpAny_field e1 rfl v1 ?_)
 rw [if_neg (show ¬ (Value.ref T == Value.none)=true by intro z;cases z)]
 refine wpAny_bind (jwj t fun s' t'=>?_)
 exact wpAny_throw (h s' _ t')
theorem jxw {E:XK} (top:qk2 X):PassesOwn M X.A X.env (Xo X E):=by
 rintro e s' ⟨pins,σ,H,x,C,rfl,I,f,q⟩
 unfold notedBy
 refine kw2 top rfl I f fun L T s1 _ t=>?_
 unfold cameBackBy
 obtain ⟨vs,e1,v1⟩:=t.f.ex
 refine wpAny_bind (wpAny_field e1 rfl v1 ?_)
 rw [if_neg (show ¬ (Value.ref T == Value.none)=true by intro z;cases z)]
 exact jwj t fun s2 t2=>⟨pins,σ,H,x,C,rfl,t2.inv,t2.to,q⟩
end
def CXE (P:Program) (w:World):CXT:=fun outer H s E e s'=>∃ x T C fl H',e=.ref x/\s'.os=s.os/\AllBare s'.gens/\Un (frs outer) [] H H' s.heap s'.heap/\HOk P w H' s'.heap /\
 s.heap.get? x=none/\s.heap.get? T=none/\H' x=none/\H' T=none/\FlT s'.heap x T C fl/\E C none H'
theorem wji {X:Cx} {E:XK} (g:qk7 X E):qwf (CXE X.prog X.w) X E:=by
 rintro pins σ H s e s' I ⟨x,T,C,fl,H',rfl,os,bare,un,hok,hx,hT,nx,nT,f,q⟩
 refine g pins σ H' s' x C (I.call' os un hok bare fun b hb=>nomatch hb) ⟨fpX I hx nx,.inr ⟨T,fl,f,fpX I hT nT⟩⟩ q
theorem vjj {CX:CXT} {P:Program} {w:World} {K:PySem.W.Frag} {mg:Str->Option Value} {base:Heap} {N:List Str} {qual:Str} {scope:Scope} {f:Addr} {cd:Value} {A:Around} {outer:List Env} {s:Shared} {H:Hp} {E:XK} :
  qk2 (qk6 CX P w K mg base N qual scope f cd A outer s H E):=⟨_,_,rfl,rfl⟩
theorem qqy {P:Program} {w:World} {K:PySem.W.Frag} {mg:Str->Option Value} {base:Heap} {N:List Str} {qual:Str} {scope:Scope} {f:Addr} {cd:Value} {A:Around} {outer:List Env} {s:Shared} {H:Hp} {E:XK} {e:Value} {s':Shared}
  (h:Xo (qk6 (CXE P w) P w K mg base N qual scope f cd A outer s H E) E e s'):(qk6 (CXE P w) P w K mg base N qual scope f cd A outer s H E).xe e s':=by
 obtain ⟨pins,σ,H',x,C,rfl,I,fx,q⟩:=h
 show wpAny (model P w) _ (leaving _ (.ref x)) _ _ s'
 unfold leaving
 refine wpAny_bind (kw2 (X:=qk6 (CXE P w) P w K mg base N qual scope f cd A outer s H E) vjj rfl I fx fun L T s1 _ t=>?_)
 refine jwj t fun s2 t2=>?_
 have ge:∀ b,FpX (qk6 (CXE P w) P w K mg base N qual scope f cd A outer s H E) pins H' b->s.heap.get? b=none:=fun b hb=>hb.2.2.2.1.elim (fun z=>nomatch z) fun z=>z
 exact ⟨x,T,C,_,H',rfl,t2.inv.os,t2.inv.bare,t2.inv.base,t2.inv.hok,ge x t2.fx,ge T t2.fT,t2.fx.1,t2.fT.1,t2.f,q⟩
section
variable {P:Program} {w:World} {K:PySem.W.Frag} {mg:Str->Option Value} {base:Heap}
theorem jk0 {x qual:Str} {st:Stmt} {f:Addr} {fd:FuncData} {N ps:List Str} {k:Nat} {sp:Sp} (F:Fun K x qual st f fd) (S:FnScope N ps (jj4 st)) (len:∀ vs H Q E,sp vs H Q E->vs.length=ps.length)
  (hbody:∀ (cdv:Value) (A:Around) (outer:List Env) (s:Shared) (H:Hp) (vs:List V) (Q:VK) (E:XK),Room k (A.deeper (envOfC qual (jj4 st) s.heap.objs.size f cdv))->sp vs H Q E ->
   ∃ t,PSs (Cx.ex' (qk6 (CXE P w) P w K mg base N qual (jj4 st) f cdv A outer s H E) E) (jjl st) t/\t { nx:=fun _ H'=>Q .non H',rt:=Q } (L2.start N vs) H):FnOk P w K mg base (CXE P w) (k + 1) f fd ps sp:=by
 obtain ⟨oc,od,kV,doc,pm,an,cdv,ct,osl,rfl,lk,hcd⟩:=F.ex
 refine wjy lk hcd S len fun A outer s H vs Q E hr hsp=>?_
 obtain ⟨t,h,q⟩:=hbody cdv A outer s H vs Q E hr hsp
 exact ⟨t,fun pins s' σ H' D I hw=>wpAny_mono (h pins s' σ H' D (I.wish _) hw) (fun f s'' z=>z.unwish) fun e s'' z=>qqy z,q⟩
def jqm (P:Program) (w:World) (K:PySem.W.Frag) (mg:Str->Option Value) (base:Heap) (k:Nat) (x:Str) (ps:List Str) (sp:Sp):Prop :=
 ∃ (f:Addr) (fd:FuncData),FnOk P w K mg base (CXE P w) k f fd ps sp/\Binds K fd ps []/\PySem.W.keepIn K (.ref f)=true/\mg x=some (.ref f)
end
section
variable {X:Cx} {x:Str} {p pos:Pos} {e:Expr} {es:List Expr} {t:TA} {ps:List Str} {sp:Sp} {k:Nat} {v:V} {E:XK}
theorem qzm (D:jqm X.prog X.w X.K X.mg X.base k x ps sp) (hr:Room k X.A) (g:qk7 X E) (ha:PA X (e :: es) t) (hg:Gl X x:=by rfl) (hdb:(x == ("__debug__":Str))=false:=by decide)
  (he:starEach (e :: es) X.env=(false,eval e X.env) :: starEach es X.env:=by rfl) (hpl:(backTo pos (starEach es X.env)).any (·.1)=false:=by rfl) :
  PE X (.Call (.Name x p) (e :: es) [] pos) (qwr sp [] E t):=by
 obtain ⟨f,fd,F,b,kp,m⟩:=D
 exact vkn F hr hg m kp b .nil (wji g) ha hdb he hpl
end
end L3
namespace L3
open PySem PySem.Spec PyProof.Rows L2
abbrev lcE (X:Cx) (scope:Scope) (N:List Str) (cl:List (Str×Addr)) (C:Addr) (s0:Shared) (H0:Hp) (fp:List Addr) (EX:XK):Cx:=Cx.ex' (lcX X scope N cl C s0 H0 fp) EX
section
variable {prog:Program} {w:World} {A:Around} {R:Result->Shared->Prop} {s:Shared}
theorem vq4 {elt target iter:Expr} {ifs:List Expr} {scope:Scope} {pos:Pos} {it acc:Value} {env:Env} (Ex:Value->Shared->Prop) (I:Nat->Shared->Prop)
  (turn:∀ n s,I n s->wpAny (model prog w) A (pyNext it) (fun r s1=>match r with
   | none=>R (.ok .next) s1
   | some v=>wpAny (model prog w) A (letOwnedTupleGo target it v) (fun _ s2=>wpAny (model prog w) A (assign target env v) (fun _ s3 =>
     wpAny (model prog w) A (qv1 ifs env) (fun ok s4 =>
      if ok=true then
       wpAny (model prog w) A (eval elt env) (fun x s5=>wpAny (model prog w) A (call (.builtin "list.append") [acc,x]) (fun _ s6=>∃ m,m < n/\I m s6) Ex s5) Ex s4
      else ∃ m,m < n/\I m s4) Ex s3) Ex s2) Ex s1) Ex s)
  (hx:∀ e s,Ex e s->notedBy (model prog w) A env (fun e s'=>R (.error e) s') e s) (n:Nat) (h:I n s):codeAny (model prog w) A (.compLoop (.ListComp elt [⟨target,iter,ifs,0⟩] scope pos) 0 it acc env) R s:=by
 refine codeAny_loop rfl I (fun n s hI=>?_) n h
 show wpAny _ A ((compTurn (.ListComp elt [⟨target,iter,ifs,0⟩] scope pos) 0 it acc env).onRaise _) _ _ s
 refine wpAny_noted ?_
 rw [compTurn_list]
 refine wpAny_mono (E:=Ex) (wpAny_bind (wpAny_standAt (wpAny_bind (thn (turn n s hI) fun r s1 h1=>?_)))) (fun _ _ q=>q) (fun e s q=>?_)
 rotate_left
 ·exact hx e s q
 cases r with
 | none=>exact wpAny_pure h1
 | some v =>
  refine wpAny_bind (thn h1 fun _ s2 h2=>?_)
  refine wpAny_bind (thn h2 fun _ s3 h3=>?_)
  refine wpAny_bind (thn h3 fun ok s4 h4=>?_)
  cases ok with
  | false=>exact wpAny_pure ⟨rfl,h4⟩
  | true=>exact wpAny_bind (wpAny_bind (thn h4 fun x s5 h5=>wpAny_bind (thn h5 fun _ s6 h6=>wpAny_pure (wpAny_pure ⟨rfl,h6⟩))))
end
section
variable {X:Cx} {tg iter elt:Expr} {ifs:List Expr} {scope:Scope} {N:List Str} {k:Nat} {R:List Nat} {g:TG} {tt:TT} {te:TE} {pos:Pos}
theorem qzv {EX:XK} {pins pins':List (Addr×Obj)} {σ σ':L2.St} {H2 H':Hp} {s2 s':Shared} {fp:List Addr} {cl:List (Str×Addr)} {C x T:Addr} {Cc fl:Value} {Q:Value->Shared->Prop} {acc:Value} {use:Option (Value->Sem Unit)} (gx:qk7 X EX)
  (I2:Inv X pins σ H2 s2) (f2:∀ b∈fp,kqb X pins H2 b) (hC:s2.heap.objs.size<=C) (t:Xt (lcX X scope N cl C s2 H2 fp) pins' σ' H' x T Cc fl s') (q:EX Cc none H') :
  compPost (model X.prog X.w) X.A X.xe use Q acc C (.error (.ref x)) s':=by
 obtain ⟨m,hn,_⟩:=t.inv.loc
 refine ⟨m,hn,fun h' sb cenv _=>?_⟩
 have J1:Inv X pins σ H' s':=I2.call' t.inv.os t.inv.base t.inv.hok t.inv.bare fun b hb=>⟨(f2 b hb).2.2.2.1,(f2 b hb).2.1,(f2 b hb).2.2.2.2.1,(f2 b hb).2.2.2.2.2⟩
 have fC:kqb X pins H' C:=I2.fpOk hC t.inv.free
 have J2:Inv X pins σ H' { s' with heap:=h',toks:=s'.toks }:=J1.turned (it:=C) (fun b o hb e=>(sb.2 b hb).trans e) fC.1 fC.2.1 fC.2.2.2.1 fC.2.2.2.2.1 fC.2.2.2.2.2
 have fp':∀ b,FpX (lcX X scope N cl C s2 H2 fp) pins' H' b->FpX X pins H' b:=fun b hb=>by
  rcases hb.2.2.2.1 with z | z
  ·exact ⟨hb.1,(FpX.of (f2 b z)).2⟩
  ·exact fpX I2 z hb.1
 have nx:x≠C:=t.fx.2.1
 have nT:T≠C:=t.fT.2.1
 have f:FlT h' x T Cc fl:=by
  obtain ⟨⟨vs,e1,v1⟩,⟨oT,ts,e2,d2,v2⟩,hne⟩:=t.f
  exact ⟨⟨vs,(sb.2 x nx).trans e1,v1⟩,⟨oT,ts,(sb.2 T nT).trans e2,d2,v2⟩,hne⟩
 refine vwy (X:=X) (pins:=pins) (σ:=σ) (H:=H') (s:={ s' with heap:=h' }) ⟨J2,fp' x t.fx,fp' T t.fT,f⟩ fun s3 fl' t3=>gx pins σ H' s3 x Cc t3.inv t3.to q
theorem kw6 {EX:XK} {pins:List (Addr×Obj)} {σ:L2.St} {H2:Hp} {s2:Shared} {it:Addr} {fp:List Addr} {tn:Nat->Heap->Prop} {J:It} {Q:VK} {W:Nat->Nat->List V->L2.St->Hp->Prop} {cl:List (Str×Addr)} {E:Value->Shared->Prop}
  {RR:Value->Addr->Result->Shared->Prop} (hc:X.calm=true) (top:qk2 X) (sc:LcOk X scope N k R)
  (hcl:∀ x c,cl.lookup x=some c->X.env.cells.lookup x=some c) (hfree:∀ y∈scope.names,y.2=.free->∃ c,cl.lookup y.1=some c)
  (hg:∀ C s0 H0 fp,PG (lcE X scope N cl C s0 H0 fp EX) tg g) (ht:∀ C s0 H0 fp,PTs (lcE X scope N cl C s0 H0 fp EX) ifs tt) (he:∀ C s0 H0 fp,PE (lcE X scope N cl C s0 H0 fp EX) elt te)
  (I2:Inv X pins σ H2 s2) (T:Turn X.prog X.w X.K tg J fp it tn) (st2:tn 0 s2.heap) (f2:∀ b∈fp,kqb X pins H2 b) (w0:∃ m,W 0 m [] (qv2 k R σ) H2) (turn:LcW g tt te Q J W)
  (hRR:∀ D C oC m ys H' s',Inv X (pins++[(C,oC)]) σ (upd H' D (.lst ys)) s'->s'.heap.get? C=some oC->s'.heap.Ns C m->kqb X pins (upd H' D (.lst ys)) C->Q (.ref D) (upd H' D (.lst ys))->RR (.ref D) C (.ok .next) s')
  (hER:∀ D C s' pins' σ' H' x T Cc fl,s2.heap.objs.size<=C->Xt (lcX X scope N cl C s2 H2 fp) pins' σ' H' x T Cc fl s'->EX Cc none H'->RR (.ref D) C (.error (.ref x)) s') :
  wpAny (model X.prog X.w) X.A (newList []) (fun acc s3=>wpAny (model X.prog X.w) X.A (newFunctionEnv scope X.env.globals cl [] X.env.qual none .none (some X.env)) (fun cenv s4 =>
   codeAny (model X.prog X.w) X.A (.compStart (.ListComp elt [⟨tg,iter,ifs,0⟩] scope pos) 0 (.ref it) acc { cenv with scope:=relabel scope X.env }) (RR acc cenv.locals) s4) E s3) E s2:=by
 have obj2:∀ b∈fp,∃ o,s2.heap.get? b=some o:=fun b hb=>let ⟨o,e,_⟩:=T.obj 0 _ st2 b hb;⟨o,e⟩
 refine wpAny_newObj_type (wpAny_newFunctionEnv sc.nocell (by intro y hy;simp at hy) (fun h1 hn1 sb1=>?_) sc.kind)
 dsimp only at hn1 sb1 ⊢
 generalize eH:s2.heap.push { cls:=.type "list",dict:=none,data:=.seq ([]:List Value).toArray }=Hx at hn1 sb1 ⊢
 have eC:Hx.objs.size=s2.heap.objs.size + 1:=by rw [<- eH,Heap.size_push]
 generalize eD:s2.heap.objs.size=D at eC
 generalize eC':Hx.objs.size=C at hn1 sb1 eC ⊢
 have hDC:D≠C:=by omega
 have hC:s2.heap.objs.size<=C:=by omega
 have hD:s2.heap.objs.size<=D:=by omega
 have old:∀ b o,s2.heap.get? b=some o->h1.get? b=some o:=fun b o e=>by
  exact sb1.extBut b o (Nat.ne_of_lt (Nat.lt_of_lt_of_le (Heap.lt_size e) hC)) (Heap.get?_push_of_some _ (eH▸Heap.get?_push_of_some _ e))
 have accD:h1.get? D=some (vv2 [] 0):=by
  refine sb1.extBut _ _ hDC (Heap.get?_push_of_some _ ?_)
  rw [<- eH,<- eD]
  exact Heap.get?_push_size _ rfl
 have below:∀ b∈fp,b≠D/\b≠C:=fun b hb=>by
  obtain ⟨o,e⟩:=obj2 b hb
  exact ⟨Nat.ne_of_lt (Nat.lt_of_lt_of_le (Heap.lt_size e) hD),Nat.ne_of_lt (Nat.lt_of_lt_of_le (Heap.lt_size e) hC)⟩
 have stat:∀ {H':Hp} {oD:Obj},(∀ b∈fp,H' b=none)->∀ b∈fp,kqb (lcE X scope N cl C s2 H2 fp EX) [(D,oD)] H' b:=fun {H' oD} hn b hb=>by
  obtain ⟨_,f1,f3,f4,f5,f6⟩:=f2 b hb
  refine ⟨hn b hb,(below b hb).2,fun z=>?_,.inl hb,fun x c h=>f5 x c (hcl x c h),fun p hp=>?_⟩
  ·rcases List.mem_cons.mp (I2.stkSub b z) with y | y
   ·exact f1 y
   ·exact f3 y
  ·have e:p=(D,oD):=by
    have hp:p∈([]++[(D,oD)]:List (Addr×Obj)):=hp
    simpa using hp
   rw [e]
   exact (below b hb).1.symm
 have loop:∀ s3:Shared,s3={ s2 with heap:=h1,toks:=s2.toks + ([]:List (Str×Value)).length } ->
   codeAny (model X.prog X.w) X.A (.compLoop (.ListComp elt [⟨tg,iter,ifs,0⟩] scope pos) 0 (.ref it) (.ref D) (compEnvC scope cl C X.env)) (RR (.ref D) C) s3:=by
  rintro s3 rfl
  obtain ⟨m0,w0⟩:=w0
  have hxx:∀ e s,Xo (lcX X scope N cl C s2 H2 fp) EX e s->notedBy (model X.prog X.w) X.A (compEnvC scope cl C X.env) (fun e s'=>RR (.ref D) C (.error e) s') e s:=by
   rintro e s ⟨pins',σ',H',x,Cc,rfl,I',f',q'⟩
   have top':qk2 (lcX X scope N cl C s2 H2 fp):=top
   exact kw2 (X:=lcX X scope N cl C s2 H2 fp) top' rfl I' f' fun L T s1 _ t=>hER D C s1 pins' σ' H' x T Cc _ hC t q'
  refine vq4 (Xo (lcX X scope N cl C s2 H2 fp) EX) (fun n s'=>∃ i ys its nn σ' H',Inv (lcE X scope N cl C s2 H2 fp EX) [(D,vv2 its nn)] σ' H' s'/\Vals ys its/\tn i s'.heap/\(∀ b∈fp,H' b=none)/\W i n ys σ' H') ?_ hxx m0
   ⟨0,[],[],0,_,H2,(vq2 I2 sc f2 obj2 hC hD hDC hcl hfree old hn1 accD (fun v z=>by cases z)).wish _,.nil,T.keep _ _ _ st2 (fun b hb o e=>old b o e),fun b hb=>(f2 b hb).1,w0⟩
  rintro n s3 ⟨i,ys,its,nn,σ3,H3,I3,rv,st3,fr3,w3⟩
  rcases turn i n ys σ3 H3 w3 with ⟨stop,hz,qn⟩ | ⟨go,step⟩
  ·refine thn (T.done (lcE X scope N cl C s2 H2 fp EX) rfl rfl rfl hc i _ s3 σ3 H3 _ I3 (stat fr3) st3 stop) fun r s4 ⟨hr,I4⟩=>?_
   subst hr
   show RR (.ref D) C (.ok .next) s4
   have hD4:=I4.pin (D,vv2 its nn) (by show _∈([]++[(D,vv2 its nn)]:List (Addr×Obj));simp)
   have J1:Inv X pins σ H3 s4:=I2.call' I4.os I4.base I4.hok I4.bare fun b hb=>⟨(f2 b hb).2.2.2.1,(f2 b hb).2.1,(f2 b hb).2.2.2.2.1,(f2 b hb).2.2.2.2.2⟩
   have fD:kqb X pins H3 D:=I2.fpOk hD hD4.2.1
   have fC:kqb X pins H3 C:=I2.fpOk hC I4.free
   have J2:Inv X pins σ (upd H3 D (.lst ys)) s4:=kw9 J1 hD4.2.1 fD.2.1 fD.2.2.2.1 fD.2.2.2.2.1 fD.2.2.2.2.2 ⟨hz,its,nn,rv,hD4.1⟩
   obtain ⟨mC,nC,_⟩:=I4.loc
   obtain ⟨oC,es,ep,hoC,hdC,hrest⟩:=id nC
   have fC':kqb X pins (upd H3 D (.lst ys)) C:=⟨by rw [jjw hDC.symm];exact fC.1,fC.2⟩
   refine hRR D C oC mC ys H3 s4 (J2.pins_of fun p hp=>?_) hoC nC fC' (qn D hD4.2.1)
   rcases List.mem_append.mp hp with z | z
   ·exact J2.pin p (lr9 _ z)
   ·rw [List.mem_singleton.mp z]
    exact ⟨hoC,fC'.1,fC'.2.1,fC'.2.2.1,fun v y=>by rw [hdC] at y;cases y⟩
  ·refine thn (T.item (lcE X scope N cl C s2 H2 fp EX) rfl rfl rfl hc i _ s3 σ3 H3 _ I3 (stat fr3) st3 go) fun r s4 ⟨u,hr,h4⟩=>?_
   subst hr
   refine thn h4 fun _ s5 ⟨x,H5,I5,r5,y5,st5,fr5⟩=>?_
   have I5':=I5.pinned (stat fr5) (T.obj _ _ st5)
   have still:∀ {σ':L2.St} {H':Hp} {s':Shared} {pl:List (Addr×Obj)},Inv (lcE X scope N cl C s2 H2 fp EX) (pl++jxt fp s5.heap) σ' H' s'->tn (i + 1) s'.heap/\∀ b∈fp,H' b=none:=fun {σ' H' s' pl} I'=>by
    have q:∀ b∈fp,∀ o,s5.heap.get? b=some o->s'.heap.get? b=some o/\H' b=none:=fun b hb o e=>by
     obtain ⟨a1,a2,_⟩:=I'.pin (b,o) (lr9 _ (lr9 _ (jzj hb e)))
     exact ⟨a1,a2⟩
    refine ⟨T.keep _ _ _ st5 fun b hb o e=>(q b hb o e).1,fun b hb=>?_⟩
    obtain ⟨o,e,_⟩:=T.obj _ _ st5 b hb
    exact (q b hb o e).2
   refine thn (hg C s2 H2 fp _ s5 σ3 H5 x u _ I5' r5 (step x H5 y5)) fun _ s6 ⟨σ6,H6,I6,Ny,Nn,hNy,hNn,q6⟩=>?_
   refine thn (ht C s2 H2 fp _ s6 σ6 H6 _ I6 q6) fun ok s7 ⟨H7,I7,q7⟩=>?_
   cases ok with
   | false =>
    obtain ⟨m',hm,w7⟩:=hNn _ q7
    exact ⟨m',hm,i + 1,ys,its,nn,σ6,H7,I7.unpinned,rv,(still I7).1,(still I7).2,w7⟩
   | true =>
    refine thn (he C s2 H2 fp _ s7 σ6 H7 _ I7 q7) fun u8 s8 ⟨y,H8,I8,r8,q8⟩=>?_
    obtain ⟨hz,m',hm,w8⟩:=hNy _ _ q8
    have pD:=I8.pin (D,vv2 its nn) (lr9 _ (ll9 _ (List.mem_singleton.mpr rfl)))
    have hlen:=rv.length
    refine append_at (hsz:=by rw [List.size_toArray];omega) pD.1 fun h9 sb9 e9=>?_
    have I8a:Inv (lcE X scope N cl C s2 H2 fp EX) ([]++jxt fp s5.heap) σ6 H8 s8:=I8.pins_of fun p hp=>I8.pin p (lr9 _ (lr9 _ hp))
    have I9:Inv (lcE X scope N cl C s2 H2 fp EX) ([]++jxt fp s5.heap) σ6 H8 { s8 with heap:=h9,toks:=s8.toks }:=I8a.turned (it:=D) (fun b o hb e=>(sb9.2 b hb).trans e) pD.2.1 hDC (.inr hD)
     (fun x c h z=>by
      obtain ⟨v,q⟩:=I2.cell x c (hcl x c h)
      exact absurd (Nat.lt_of_lt_of_le q.lt (by rw [z];exact hD)) (Nat.lt_irrefl _))
     (fun p hp z=>by
      have hp:p∈([]++([]++jxt fp s5.heap):List (Addr×Obj)):=hp
      have hp:p∈jxt fp s5.heap:=by simpa using hp
      exact (below p.1 (kw1 hp).1).1 z)
    have e9':h9.get? D=some (vv2 (its++[u8]) (nn + 1)):=by rw [e9];simp [List.push_toArray]
    refine ⟨m',hm,i + 1,ys++[y],its++[u8],nn + 1,σ6,H8,I9.pins_of fun p hp=>?_,rv.append (.cons r8 .nil),(still I9).1,(still I9).2,w8⟩
    rw [List.mem_singleton.mp hp]
    exact ⟨e9',pD.2.1,pD.2.2.1,pD.2.2.2.1,fun v z=>by cases z⟩
 exact codeAny_compStart_list (loop _ rfl) (T.self _ 0 _ _ _ (T.keep _ _ _ st2 fun b hb o e=>old b o e) (loop _ rfl))
theorem vwv {EX:XK} {wi:TI} (N:List Str) (k:Nat) (R:List Nat) (hi:PI X tg iter wi)
  (hg:∀ cl C s0 H0 fp,PG (lcE X scope N cl C s0 H0 fp EX) tg g) (ht:∀ cl C s0 H0 fp,PTs (lcE X scope N cl C s0 H0 fp EX) ifs tt) (he:∀ cl C s0 H0 fp,PE (lcE X scope N cl C s0 H0 fp EX) elt te)
  (gx:qk7 X EX) (top:qk2 X) (hc:X.calm=true:=by rfl) (hk:scope.kind=.function:=by rfl) (hsc:qjn X.N X.env.scope scope N k R=true:=by rfl) (hs:∀ x,foldedSetIterable iter X.env x=pure x:=by intro _;rfl) :
  PE X (.ListComp elt [⟨tg,iter,ifs,0⟩] scope pos) (tLC wi g tt te k R):=by
 intro pins s σ H Q I h
 have sc:=kzm hk hsc
 obtain ⟨cl,hclos,hcl,hfree⟩:=kq7 (scope:=scope) (env:=X.env) fun y hy e=>I.ok.has y.1 (sc.caps y hy e)
 rw [eval_ListComp]
 refine wpAny_comprehension_free (use:=none) rfl hs hclos sc.kind sc.names (thn (hi pins s σ H _ I h) fun v s1 h1=>thn h1 fun itv s2 h2=>?_)
 obtain ⟨it,fp,tn,J,H2,e,I2,T,st2,f2,W,w0,turn⟩:=h2
 subst e
 refine kw6 (EX:=EX) (RR:=fun acc C=>compPost (model X.prog X.w) X.A X.xe none (EP X pins σ Q) acc C) hc top sc hcl hfree (hg cl) (ht cl) (he cl) I2 T st2 f2 w0 turn ?_ ?_
 rotate_left
 ·intro D C s' pins' σ' H' x T Cc fl hC t q
  exact qzv gx I2 f2 hC t q
 intro D C oC m ys H' s' I' _ nC fC q
 exact ⟨m,nC,fun h' sb=>⟨.ref D,_,I'.unpinned.turned (it:=C) (t':=s'.toks) (fun b o hb e=>(sb.2 b hb).trans e) fC.1 fC.2.1 fC.2.2.2.1 fC.2.2.2.2.1 fC.2.2.2.2.2,rfl,q⟩⟩
end
end L3
namespace L3
open PySem PySem.Spec PyProof.Rows L2
abbrev bmV:List Value:=[.type "ValueError",.type "Exception",.type "BaseException",.type "object"]
structure ECls (K:PySem.W.Frag) (mg:Str->Option Value) (x:Str) (C:Addr):Prop where
 bd:mg x=some (.ref C)
 ec:PySem.W.excIn K C bmV "ValueError.__new__"=true
 xc:XCls K C
theorem vko {K:PySem.W.Frag} {h:Heap} {C:Addr} {bmB:List Value} {newId:String} (KI:K.In h) (e:PySem.W.excIn K C bmB newId=true) :
  ∃ bm N nm q bs hdct sn sub ab col dd k0 k1 k2 k3 k5 mN,h.get? C=some (excClassObj nm q C N bs bm hdct sn sub ab col dd k0 k1 k2 k3 k5 newId)/\h.Ns N mN/\mN "__init__"=none/\OwnTail h bmB bm:=by
 unfold PySem.W.excIn at e
 split at e
 ·rename_i dict cd sl hl
  split at e
  ·rename_i bm C' k0 k1 k2 k3 n k5 hm hs
   simp only [Bool.and_eq_true,beq_iff_eq,Bool.not_eq_true'] at e
   obtain ⟨⟨⟨⟨⟨e1,e2⟩,e3⟩,e4⟩,e5⟩,e6⟩:=e
   subst e1 e2
   have g:=KI _ _ hl
   obtain ⟨nm,bs,mro,ns,qn,hd,hdel,sn,sub,ab,col⟩:=cd
   dsimp only at hm e3 e5 e6
   subst hm e3
   have hsl:sl=#[k0,k1,k2,k3,some (Value.builtin n),k5]:=by
    apply Array.toList_inj.mp
    rw [hs]
   subst hsl
   exact ⟨_,ns,nm,qn,bs,hd,hdel,sn,sub,ab,dict,k0,k1,k2,k3,k5,h.nsMap ns,g,Heap.Ns.of_isNs (PySem.W.isNs_of_in KI e5),PySem.W.nsMap_none_of_in KI e5 e6,PySem.W.tail_of_in KI e4⟩
  ·cases e
 ·cases e
section
variable {X:Cx} {x:Str} {np cpos pos:Pos} {e:Expr} {es:List Expr} {ta:TA} {C:Addr} {E:XK}
abbrev vvi (E:XK) (C:Addr) (ta:TA):TS:=fun _ σ H=>ta σ H fun vs H1=>vs.length<=sizeLine/\E (.ref C) none H1
theorem qx9 (c:ECls X.K X.mg x C) (g:qk7 X E) (ha:PA X (e :: es) ta) (hg:Gl X x:=by rfl) (hc:X.calm=true:=by rfl) (hdb:(x == ("__debug__":Str))=false:=by decide)
  (he:starEach (e :: es) X.env=(false,eval e X.env) :: starEach es X.env:=by rfl) (hpl:((backTo cpos (starEach (e :: es) X.env)).any (·.1))=false:=by rfl) :
  PS X (.Raise (some (.Call (.Name x np) (e :: es) [] cpos)) none pos) (vvi E C ta):=by
 intro pins s σ H D I h
 obtain ⟨bm,N,nm,q,bs,hdct,sn,sub,ab,col,dd,k0,k1,k2,k3,k5,mN,o1,o2,o3,o4⟩:=vko I.ok.mod.kin c.ec
 refine wpAny_Raise_call_subT (nm:=nm) (q:=q) (C:=C) (N:=N) (bs:=bs) (bm:=bm) (hdct:=hdct) (sn:=sn) (sub:=sub) (ab:=ab) (col:=col) (dd:=dd) (k0:=k0) (k1:=k1) (k2:=k2) (k3:=k3) (k5:=k5) (bmB:=bmV) F.excBase_ValueError (o4.hasType (X:="BaseException") rfl) (I.ok.hd hc) hpl o3 (jxd I hg c.bd ⟨rfl,?_⟩ hdb)
 obtain ⟨y0,r0,hpos⟩:∃ y r,backTo cpos (starEach (e :: es) X.env)=(false,y) :: r:=by rw [he];exact ⟨_,_,rfl⟩
 have hsp:=ha cpos pins s σ H _ I h
 rw [hpos] at hsp ⊢
 refine Calls.evalArgs_plain (thn hsp fun us s2 ⟨vs,H1,I1,r1,q1⟩=>⟨rfl,by rw [<- r1.length];exact q1.1,I1.bk _ _ o1,?_,?_,fun h' ea made=>?_⟩)
 ·obtain ⟨o,es',ep,ho,r⟩:=o2
  exact ⟨o,es',ep,I1.bk _ _ ho,r⟩
 ·exact o4.keeps fun b o e=>I1.bk b o e
 ·obtain ⟨t,m1,m2,m3⟩:=made.there
  have J:Inv X pins σ H1 { s2 with heap:=h',toks:=s2.toks }:=I1.kept made.keeps
  exact g pins σ H1 _ ea (.ref C) J ⟨fpX I1 made.new (qxu I1.hok made.new),.inl ⟨_,⟨m1,by show (1:Nat) < 6;decide⟩,rfl⟩⟩ q1.2
def XX (X:Cx) (pins:List (Addr×Obj)) (σ:L2.St) (E:XK) (e:Value) (s:Shared):Prop:=∃ H x C,e=.ref x/\Inv X pins σ H s/\Fx X pins H s.heap x C/\E C none H
def PSX (X:Cx) (st:Stmt) (t:XK->TS):Prop:=∀ (E:XK) (pins:List (Addr×Obj)) (s:Shared) (σ:L2.St) (H:Hp) (D:Ends),Inv X pins σ H s->t E D σ H->wpAny (model X.prog X.w) X.A (exec st X.env) (SP X pins D) (XX X pins σ E) s
def PEX (X:Cx) (ex:Expr) (t:XK->TE):Prop:=∀ (E:XK) (pins:List (Addr×Obj)) (s:Shared) (σ:L2.St) (H:Hp) (Q:VK),Inv X pins σ H s->t E σ H Q->wpAny (model X.prog X.w) X.A (eval ex X.env) (EP X pins σ Q) (XX X pins σ E) s
theorem qxc {k:Nat} {ps:List Str} {sp:Sp} (D:jqm X.prog X.w X.K X.mg X.base k x ps sp) (hr:Room k X.A) (ha:PA X.nox (e :: es) ta) (hg:Gl X x:=by rfl) (hdb:(x == ("__debug__":Str))=false:=by decide)
  (he:starEach (e :: es) X.env=(false,eval e X.env) :: starEach es X.env:=by rfl) (hpl:(backTo pos (starEach es X.env)).any (·.1)=false:=by rfl) :
  PEX X (.Call (.Name x np) (e :: es) [] pos) (fun E=>qwr sp [] E ta):=by
 obtain ⟨f,fd,F,hb,kp,m⟩:=D
 intro E pins s σ H Q I h
 refine wpAny_Call_Name_kw (jxd I hg m ?_ hdb)
 refine PySem.W.callWith_K (h₀:=X.base) I.ok.mod.kin kp (wpAny_mono (ha pos pins s σ H _ (I.wish _) h) (fun us s1 ⟨vs,H1,I1,r,q⟩=>⟨I1.kIn,?_⟩) fun _ _ z=>z.elim) he hpl
 have I1:=I1.unwish
 have q:sp (vs++[]) H1 Q E:=q
 have hl:us.length=ps.length:=by
  rw [<- r.length]
  have:=F.len _ _ _ _ q
  rwa [List.append_nil] at this
 refine wpAny_call (codeAny_mono (F.run X.A X.stack s1 H1 ⟨us,[]⟩ us vs Q E hr I1.env0 (by have:=hb s1 us I1.kIn (by rw [List.append_nil];exact hl);rwa [List.append_nil] at this) r (by rwa [List.append_nil] at q)) fun rr s' hq=>?_)
 cases rr with
 | error e =>
  obtain ⟨x,T,C,fl,H',rfl,os,bare,un,hok,hx,hT,nx,nT,f,q⟩:=hq
  exact ⟨H',x,C,rfl,I1.call' os un hok bare (fun b hb=>nomatch hb),⟨fpX I1 hx nx,.inr ⟨T,fl,f,fpX I1 hT nT⟩⟩,q⟩
 | ok fl =>
  cases fl with
  | ret u=>exact I1.after hq
  | next=>exact False.elim hq
  | brk=>exact False.elim hq
  | cont=>exact False.elim hq
theorem qx6 {ex:Expr} {t:XK->TE} (h:PEX X ex t) (hs:swapsWith ex none pos.line X.env=pure false:=by rfl):PSX X (.Expr ex pos) (fun E=>vvk (t E)):=by
 intro E pins s σ H D I hw
 exact wpAny_Expr_any (thn (h E pins s σ H _ I hw) fun v s1 ⟨x,H1,I1,r1,q1⟩=>⟨σ,H1,I1,q1⟩) I.quiet hs
theorem vk8 {i:Nat} {y:Str} {ex:Expr} {t:XK->TE} {pos':Pos} (hN:X.N.Nodup) (hi:X.N[i]?=some y) (hx:Loc X.env.scope y) (h:PEX X ex t) (hs:swapsWith ex (some (.Name y pos')) pos.line X.env=pure false:=by rfl) (hf:X.fn y=true\/X.env.scope.names.lookup y=some .local:=by first | exact .inl rfl | exact .inr rfl | assumption) :
  PSX X (.Assign [.Name y pos'] ex pos) (fun E=>vzr (t E) (qvk i)):=by
 intro E pins s σ H D I hw
 refine wpAny_Assign_Name (thn (h E pins s σ H _ I hw) fun v s1 ⟨z,H1,I1,r1,q1⟩=>?_) hs
 exact jx2 I1 hN hi hx r1 (fun s2 I2=>⟨_,H1,I2,q1⟩) hf
end
section
variable {X:Cx} {pins:List (Addr×Obj)} {σ:L2.St} {H:Hp} {s:Shared} {x:Addr} {ox:Obj}
theorem qvc {σ':L2.St} {h':Heap} {t':Nat} {m':Str->Option Value} (I:Inv X pins σ H s) (hs:Heap.SameBut X.env.locals s.heap h') (hn':h'.Ns X.env.locals m') (hl:σ'.length=X.N.length)
  (hv:∀ (j:Nat) (y:Str) (v:V),X.N[j]?=some y->σ'[j]?=some (some v)->Vis X.env.scope y->∃ u,RelV v u/\wkx X.env h' m' y u):Inv X pins σ' H { s with heap:=h',toks:=t' }:=by
 have nL:∀ b o,X.s₀.heap.get? b=some o->b≠X.env.locals:=fun b o e=>Nat.ne_of_lt (Nat.lt_of_lt_of_le (Heap.lt_size e) I.ok.above)
 refine ⟨I.ok,I.os,I.bare,⟨fun b o e n hb hx=>?_,fun b o e n hb hx=>?_,I.base.free,fun b o e hx=>?_,I.base.tups,I.base.frzs,I.base.tbls⟩,⟨m',hn',hv⟩,fun y c e=>?_,I.free,I.freeC,fun p hp=>?_,fun b ob e=>?_,hl⟩
 ·exact (hs.2 b (nL b o e)).trans (I.base.keep b o e n hb hx)
 ·obtain ⟨sl,e1⟩:=I.base.slot b o e n hb hx
  exact ⟨sl,(hs.2 b (nL b o e)).trans e1⟩
 ·obtain ⟨o',e1⟩:=I.base.there b o e hx
  exact ⟨o',(hs.2 b (nL b o e)).trans e1⟩
 ·obtain ⟨w',z⟩:=I.cell y c e
  exact ⟨w',z.sameBut hs (I.cne y c e)⟩
 ·obtain ⟨e,n,ne,nf,d⟩:=I.pin p hp
  exact ⟨(hs.2 p.1 ne).trans e,n,ne,nf,d⟩
 ·refine (I.hok b ob e).stay (fun c w' hc q=>(hs.2 c ?_).trans q) (fun _ q=>q) fun _ _ q=>q
  rintro rfl
  rcases hc with rfl | hc
  ·rw [I.free] at e;cases e
  ·rw [I.free] at hc;cases hc
theorem jxz {M:Model} {A:Around} {E:Value->Shared->Prop} {n:Str} {i:Nat} {pos:Pos} {Q:Unit->Shared->Prop} (I:Inv X pins σ H s) (hN:X.N.Nodup) (hi:X.N[i]?=some n) (hk:X.env.scope.names.lookup n=some .local)
  (h:∀ s',Inv X pins (σ.set i none) H s'->Q () s'):wpAny M A (do bindName X.env n Value.none;unbindBehindTheSuite X.env n pos) Q E s:=by
 refine wpAny_bind (wpAny_bindName (jx2 I hN hi (.inl hk) (v:=.non) (u:=.none) rfl (fun s1 I1=>?_) (.inr hk)))
 have hiσ:i < σ.length:=by rw [I.len];exact (List.getElem?_eq_some_iff.mp hi).1
 obtain ⟨m,hn,hl⟩:=id I1.loc
 obtain ⟨u,ru,lk⟩:=hl i n .non hi (List.getElem?_set_self hiσ) (.inl hk)
 have hm:m n=some u:=by
  rcases lk with ⟨_,z⟩ | ⟨z,_⟩
  ·exact z
  ·rcases z with z | z
   ·have z:X.env.scope.names.lookup n=some .cell:=z
    rw [hk] at z;cases z
   ·have z:X.env.scope.names.lookup n=some .free:=z
    rw [hk] at z;cases z
 have hcls:(X.env.scope.kind == .class || (X.env.scope.kind == .module && X.env.locals != X.env.globals))=false:=by rw [I.ok.kind];rfl
 unfold unbindBehindTheSuite
 refine wpAny_onRaise (wpAny_unbindName_local hk hn hm hcls fun h' u' hn' sb=>h _ ?_)
 refine qvc (t':=s1.toks) I1 sb hn' (by rw [List.length_set];exact I.len) fun j y v e1 e2 e3=>?_
 by_cases hj:j=i
 ·subst hj
  rw [List.getElem?_set_self hiσ] at e2
  cases e2
 ·rw [List.getElem?_set_ne (Ne.symm hj)] at e2
  obtain ⟨u2,r2,l2⟩:=hl j y v e1 (by rw [List.getElem?_set_ne (Ne.symm hj)];exact e2) e3
  refine ⟨u2,r2,?_⟩
  rcases l2 with ⟨k,e⟩ | ⟨k,c,e,z⟩
  ·refine .inl ⟨k,?_⟩
   have:y≠n:=fun e=>hj (kqq hN e1 (e▸hi))
   simp [this,e]
  ·exact .inr ⟨k,c,e,z.sameBut sb (I.cne y c e)⟩
end
structure ExAt (K:PySem.W.Frag) (x:Addr) (ox:Obj) (C:Addr):Prop where
 cls:ox.cls=.ref C
 no:PySem.W.notCls ox=true
 di:ox.dict=none
 xc:XCls K C
theorem jxv {X:Cx} {x:Str} {pos:Pos} {C:Addr} (h:X.mg x=some (.ref C)) (hg:Gl X x:=by rfl) (hd:(x == ("__debug__":Str))=false:=by decide):PE X (.Name x pos) (tC (.ref C)):=vkk hg h (v:=.ref C) rfl hd
end L3
noncomputable section
namespace Q
open PySem
inductive D where
 | non | bl (b:Bool) | int (i:Int) | str (z:Str) | tup (xs:List D) | lst (xs:List D) | dct (kvs:List (D×D)) | obj (c:Str) (fs:List (Str×D))
instance:DecidableEq D:=fun a b=>Classical.propDecidable (a=b)
instance:Inhabited D:=⟨.non⟩
mutual
def D.pure:D->Bool
 | .tup xs=>D.pures xs
 | .lst _=>false
 | .dct _=>false
 | .obj _ _=>false
 | _=>true
def D.pures:List D->Bool
 | []=>true
 | a :: x=>D.pure a && D.pures x
end
theorem D.pures_all:∀ xs:List D,D.pures xs=xs.all D.pure
 | []=>by simp [D.pures]
 | a :: x=>by rw [D.pures,List.all_cons,D.pures_all x]
@[simp] theorem D.pures_map {α:Type} (f:α->D) (xs:List α) (h:∀ x∈xs,(f x).pure=true):D.pures (xs.map f)=true:=by
 rw [D.pures_all,List.all_eq_true]
 intro d hd
 obtain ⟨x,hx,rfl⟩:=List.mem_map.mp hd
 exact h x hx
mutual
def peq:D->D->Bool
 | .non,.non=>true
 | .bl a,.bl b=>a == b
 | .bl a,.int b=>(if a then 1 else 0) == b
 | .int a,.bl b=>a == (if b then 1 else 0)
 | .int a,.int b=>a == b
 | .str a,.str b=>a == b
 | .lst as,.lst bs=>peqs as bs
 | .tup as,.tup bs=>peqs as bs
 | _,_=>false
def peqs:List D->List D->Bool
 | [],[]=>true
 | a :: as,b :: bs=>peq a b && peqs as bs
 | _,_=>false
end
mutual
def D.flat:Nat->D->Bool
 | 0,.tup _=>false
 | 0,.lst _=>false
 | n + 1,.tup xs=>D.flats n xs
 | n + 1,.lst xs=>D.flats n xs
 | _,.dct _=>false
 | _,.obj _ _=>false
 | _,_=>true
def D.flats:Nat->List D->Bool
 | _,[]=>true
 | n,a :: x=>D.flat n a && D.flats n x
end
mutual
def jvf:Nat->D->Bool
 | _,.non=>true
 | _,.int _=>true
 | n + 1,.tup xs=>keyDs n xs
 | _,_=>false
def keyDs:Nat->List D->Bool
 | _,[]=>true
 | n,a :: x=>jvf n a && keyDs n x
end
def unm : List (D × D) -> Bool
  | (.str _, _) :: _ => false
  | _ => true
inductive Own where
 | no | rt | dp
 deriving DecidableEq
abbrev Sd:=Own×D
abbrev En:=List (Option Sd)
inductive Res (α:Type) where
 | ok (E:En) (a:α)
 | exc (E:En) (c:Str)
abbrev Ev (α:Type):=En->Option (Res α)
abbrev Ex:=Ev Sd
def bnd {α β:Type} (m:Option (Res α)) (f:En->α->Option (Res β)):Option (Res β) :=
 match m with
 | some (.ok E a)=>f E a
 | some (.exc E c)=>some (.exc E c)
 | none=>none
@[simp] theorem wkv {α β:Type} (E:En) (a:α) (f:En->α->Option (Res β)):bnd (some (.ok E a)) f=f E a:=rfl
@[simp] theorem wk8 {α β:Type} (E:En) (c:Str) (f:En->α->Option (Res β)):bnd (some (.exc E c)) f=some (.exc E c):=rfl
@[simp] theorem vzi {α β:Type} (f:En->α->Option (Res β)):bnd none f=none:=rfl
def val {α:Type} (E:En) (x:Option α):Option (Res α):=x.map (Res.ok E)
@[simp] theorem vz6 {α:Type} (E:En) (x:α):val E (some x)=some (.ok E x):=rfl
@[simp] theorem vz7 {α:Type} (E:En):val E (none:Option α)=none:=rfl
def cC (d:D):Ex:=fun E=>some (.ok E (.dp,d))
def cV (i:Nat):Ex:=fun E=>match E[i]? with
 | some (some (_,d))=>some (.ok (E.set i (some (.no,d))) (.no,d))
 | _=>none
def cMv (i:Nat):Ex:=fun E=>match E[i]? with
 | some (some x)=>some (.ok (E.set i none) x)
 | _=>none
def vV (i:Nat):Ex:=fun E=>match E[i]? with
 | some (some x)=>some (.ok E x)
 | _=>none
def vE (c:Ex):Ex:=fun E=>bnd (c E) fun E x=>some (.ok E (.no,x.2))
def cH (v:Ex):Ex:=fun E=>bnd (v E) fun E x=>if x.1=.no then some (.ok E (.no,x.2)) else if x.2.pure then some (.ok E (.dp,x.2)) else none
def cF1 (f:Sd->Option Sd) (a:Ex):Ex:=fun E=>bnd (a E) fun E x=>val E (f x)
def cF2 (f:Sd->Sd->Option Sd) (a b:Ex):Ex:=fun E=>bnd (a E) fun E x=>bnd (b E) fun E y=>val E (f x y)
def pu1 (f:D->Option D):Sd->Option Sd:=fun x=>(f x.2).map fun d=>(.dp,d)
def pu2 (f:D->D->Option D):Sd->Sd->Option Sd:=fun x y=>(f x.2 y.2).map fun d=>(.dp,d)
def wkt:D->List D
 | .lst xs=>xs
 | .tup xs=>xs
 | .dct kvs=>kvs.map (·.2)
 | _=>[]
def jqz (x:Sd):Bool:=x.1 != .dp || D.pures (wkt x.2)
def sub:Own->Own
 | .dp=>.dp
 | _=>.no
def ixN (n:Nat) (i:Int):Option Nat:=if 0<=i then (if i < n then some i.toNat else none) else if -(n:Int)<=i then some (i + n).toNat else none
def ixD:D->D->Option D
 | .lst xs,.int i=>(ixN xs.length i).bind fun j=>xs[j]?
 | .tup xs,.int i=>(ixN xs.length i).bind fun j=>xs[j]?
 | .str z,.int i=>(ixN z.cps.size i).bind fun j=>(z.cps.toList[j]?).map fun c=>.str ⟨#[c]⟩
 | .dct kvs,k=>(kvs.find? fun e=>decide (e.1=k)).map (·.2)
 | _,_=>none
def big:Nat:=16777216
def i2 (f:Int->Int->Option Int):D->D->Option D
 | .int a,.int b=>(f a b).map .int
 | _,_=>none
def c2 (f:Int->Int->Bool):D->D->Option D
 | .int a,.int b=>some (.bl (f a b))
 | _,_=>none
def kwy (a:Int):Bool:=decide (-(2 ^ 64) < a) && decide (a < 2 ^ 64)
def jk7:Sd->Sd->Option Sd:=fun x y=>match x.2,y.2 with
 | .int a,.int b=>some (.dp,.int (a + b))
 | .str a,.str b=>if a.cps.size + b.cps.size<=big then some (.dp,.str (a++b)) else none
 | .lst a,.lst b=>if a.length + b.length<=big/\jqz x/\jqz y then some (.rt,.lst (a++b)) else none
 | .tup a,.tup b=>if a.length + b.length<=big/\jqz x/\jqz y then some (.no,.tup (a++b)) else none
 | _,_=>none
def jzy (a b:Int):Bool:=kwy a || kwy b || (decide (a.natAbs.log2 < 2000000) && decide (b.natAbs.log2 < 2000000))
def qju:Sd->Sd->Option Sd:=fun x y=>match x.2,y.2 with
 | .int a,.int b=>if jzy a b then some (.dp,.int (a * b)) else none
 | .lst a,.int k=>if -(2 ^ 63)<=k/\k < 2 ^ 63/\a.length * k.toNat<=big/\jqz x then some (.rt,.lst (List.replicate k.toNat a).flatten) else none
 | .str z,.int n=>if (z.cps.size<=1024/\n<=1024/\-1024<=n)/\(Txt.mul z n).cps.size<=big then some (.dp,.str (Txt.mul z n)) else none
 | _,_=>none
def fSub:D->D->Option D:=i2 fun a b=>some (a - b)
def qk5:D->D->Option D:=i2 fun a b=>if 0 < b/\b.natAbs.log2 < 9000 then some (a / b) else none
def jvg:D->D->Option D:=i2 fun a b=>if 0 < b then some (a % b) else none
def vj0:D->D->Option D:=i2 fun a b=>if 0<=b/\b<=1000000/\a.natAbs < 2 ^ 64 then some (a ^ b.toNat) else none
def fEq:D->D->Option D:=fun a b=>if a.flat 40 && b.flat 40 then some (.bl (peq a b)) else none
def fNe:D->D->Option D:=fun a b=>if a.flat 40 && b.flat 40 then some (.bl (!peq a b)) else none
def isNon:D->Bool
 | .non=>true
 | _=>false
def fLt:D->D->Option D:=c2 fun a b=>decide (a < b)
def fLe:D->D->Option D:=c2 fun a b=>decide (a<=b)
def fGt:D->D->Option D:=c2 fun a b=>decide (b < a)
def fGe:D->D->Option D:=c2 fun a b=>decide (b<=a)
def wk1 (a b:Str):Bool:=!(Builtin.Str.occurrences b a 0 b.length 1).isEmpty
def fIn:D->D->Option D:=fun x y=>match y with
 | .lst ys=>if x.flat 30 && D.flats 30 ys then some (.bl (ys.any fun z=>peq z x)) else none
 | .tup ys=>if x.flat 30 && D.flats 30 ys then some (.bl (ys.any fun z=>peq z x)) else none
 | .str b=>(match x with
  | .str a=>some (.bl (wk1 a b))
  | _=>none)
 | .dct kvs=>some (.bl (kvs.any fun e=>decide (e.1=x)))
 | _=>none
def kwe:D->D->Option D:=fun x y=>(fIn x y).bind fun d=>match d with
 | .bl k=>some (.bl (!k))
 | _=>none
def jwq:D->Option D
 | .lst xs=>some (.int xs.length)
 | .tup xs=>some (.int xs.length)
 | .str z=>some (.int z.length)
 | _=>none
def kind:D->String
 | .non=>"NoneType"
 | .bl _=>"bool"
 | .int _=>"int"
 | .str _=>"str"
 | .tup _=>"tuple"
 | .lst _=>"list"
 | .dct _=>"dict"
 | .obj _ _=>""
def isaK (t u:String):Bool:=t == u || (t == "bool" && u == "int")
def vxx (u:String):D->Option D:=fun d=>match d with
 | .obj _ _=>none
 | .dct _=>none
 | _=>some (.bl (isaK (kind d) u))
def fIsNon:D->Option D:=fun d=>some (.bl (isNon d))
def fNotNon:D->Option D:=fun d=>some (.bl (!isNon d))
abbrev Ts:=Ev Bool
def truth:D->Option Bool
 | .bl b=>some b
 | .non=>some false
 | .int i=>some (i != 0)
 | .str z=>some (z.cps.size != 0)
 | .lst xs=>some (!xs.isEmpty)
 | .tup xs=>some (!xs.isEmpty)
 | .dct xs=>some (!xs.isEmpty)
 | .obj _ _=>none
def tE (c:Ex):Ts:=fun E=>bnd (c E) fun E x=>val E (truth x.2)
def tAnd (a b:Ts):Ts:=fun E=>bnd (a E) fun E x=>if x then b E else some (.ok E false)
def tOr (a b:Ts):Ts:=fun E=>bnd (a E) fun E x=>if x then some (.ok E true) else b E
def tNot (a:Ts):Ts:=fun E=>bnd (a E) fun E x=>some (.ok E (!x))
def tYes:Ts:=fun E=>some (.ok E true)
def cIf (t:Ts) (a b:Ex):Ex:=fun E=>bnd (t E) fun E x=>if x then a E else b E
def vqt (a b:Ex):Ex:=fun E=>bnd (a E) fun E x=>match x.2 with
 | .bl true=>b E
 | .bl false=>some (.ok E (.dp,.bl false))
 | _=>none
def cOr (a b:Ex):Ex:=fun E=>bnd (a E) fun E x=>match x.2 with
 | .bl true=>some (.ok E (.dp,.bl true))
 | .bl false=>b E
 | _=>none
def fInQ:D->D->Option D:=fun x y=>match y with
 | .dct _=>none
 | _=>fIn x y
def jq8:D->D->Option D:=fun x y=>match y with
 | .dct _=>none
 | _=>kwe x y
def f2First (f:D->Option D):Sd->Sd->Option Sd:=fun x y=>if isNon y.2 then (f x.2).map fun d=>(.dp,d) else none
def jwb:D->D->Option D:=fun x y=>match x with
 | .dct _=>none
 | _=>ixD x y
def jjf (a b:Ex):Ex:=fun E=>bnd (a E) fun E x=>bnd (b E) fun E y=>val E ((jwb x.2 y.2).map fun d=>(sub x.1,d))
def truthQ:D->Option Bool:=fun d=>match d with
 | .dct _=>none
 | _=>truth d
def tEQ (c:Ex):Ts:=fun E=>bnd (c E) fun E x=>val E (truthQ x.2)
def jv0:List Ex->Ev (List Sd)
 | [],E=>some (.ok E [])
 | c :: cs,E=>bnd (c E) fun E x=>bnd (jv0 cs E) fun E xs=>some (.ok E (x :: xs))
def jws (x:Sd):Bool:=x.1 == .dp || x.2.pure
def jvb (o:Own) (cs:List Ex):Ex:=fun E=>bnd (jv0 cs E) fun E xs=>if o=.dp then (if xs.all jws then some (.ok E (.dp,.lst (xs.map (·.2)))) else none) else some (.ok E (.rt,.lst (xs.map (·.2))))
def jwc (o:Own) (cs:List Ex):Ex:=fun E=>bnd (jv0 cs E) fun E xs=>if o=.dp then (if xs.all jws then some (.ok E (.dp,.tup (xs.map (·.2)))) else none) else some (.ok E (.no,.tup (xs.map (·.2))))
inductive Fl where
 | nx (E:En) | rt (E:En) (x:Sd) | ct (E:En) | bk (E:En) | xc (E:En) (c:Str)
abbrev Sm:=En->Option Fl
def ofE {α:Type} (m:Option (Res α)) (f:En->α->Option Fl):Option Fl :=
 match m with
 | some (.ok E a)=>f E a
 | some (.exc E c)=>some (.xc E c)
 | none=>none
@[simp] theorem wks {α:Type} (E:En) (a:α) (f:En->α->Option Fl):ofE (some (.ok E a)) f=f E a:=rfl
@[simp] theorem wjk {α:Type} (E:En) (c:Str) (f:En->α->Option Fl):ofE (some (.exc E c)) f=some (.xc E c):=rfl
@[simp] theorem vzd {α:Type} (f:En->α->Option Fl):ofE none f=none:=rfl
def jji (a b:Sm):Sm:=fun E=>match a E with
 | some (.nx E)=>b E
 | r=>r
def jqv:Sm:=fun E=>some (.nx E)
def vjs:Sm:=fun E=>some (.ct E)
def jjq (i:Nat) (c:Ex):Sm:=fun E=>ofE (c E) fun E x=>some (.nx (E.set i (some x)))
def qx0 (c:Ex):Sm:=fun E=>ofE (c E) fun E _=>some (.nx E)
def jkz (c:Ex):Sm:=fun E=>ofE (c E) fun E x=>some (.rt E x)
def sRetN:Sm:=fun E=>some (.rt E (.dp,.non))
def sIf (t:Ts) (a b:Sm):Sm:=fun E=>ofE (t E) fun E x=>if x then a E else b E
inductive Tg where
 | n (i:Nat) | t (ts:List Nat)
def setAll:List Nat->List D->En->Option En
 | [],[],E=>some E
 | i :: is,d :: ds,E=>setAll is ds (E.set i (some (.no,d)))
 | _,_,_=>none
def Tg.put:Tg->D->En->Option En
 | .n i,d,E=>some (E.set i (some (.no,d)))
 | .t is,.tup ds,E=>setAll is ds E
 | .t is,.lst ds,E=>setAll is ds E
 | .t _,_,_=>none
def vjr (is:List Nat) (c:Ex):Sm:=fun E=>ofE (c E) fun E x=>(Tg.put (.t is) x.2 E).map .nx
def qwk (tg:Tg) (b:Sm):List D->En->Option Fl
 | [],E=>some (.nx E)
 | d :: ds,E=>match tg.put d E with
  | none=>none
  | some E=>match b E with
   | some (.nx E)=>qwk tg b ds E
   | some (.ct E)=>qwk tg b ds E
   | some (.bk E)=>some (.nx E)
   | r=>r
def jzn (it:Ev (List D)) (tg:Tg) (b:Sm):Sm:=fun E=>ofE (it E) fun E ds=>qwk tg b ds E
def sWhile (t:Ts) (b:Sm) (E:En):Option Fl :=
 match t E with
 | some (.ok E true)=>(match b E with
  | some (.nx E)=>sWhile t b E
  | some (.ct E)=>sWhile t b E
  | some (.bk E)=>some (.nx E)
  | r=>r)
 | some (.ok E false)=>some (.nx E)
 | some (.exc E c)=>some (.xc E c)
 | none=>none
partial_fixpoint
def whN (t:Ts) (b:Sm):Nat->En->Option Fl
 | 0,_=>none
 | n + 1,E=>match t E with
  | some (.ok E true)=>(match b E with
   | some (.nx E)=>whN t b n E
   | some (.ct E)=>whN t b n E
   | some (.bk E)=>some (.nx E)
   | r=>r)
  | some (.ok E false)=>some (.nx E)
  | some (.exc E c)=>some (.xc E c)
  | none=>none
theorem vje {t:Ts} {b:Sm}:∀ {E:En} {r:Fl},sWhile t b E=some r->∃ n,whN t b n E=some r:=by
 intro E r
 refine sWhile.partial_correctness t b (fun E r=>∃ n,whN t b n E=some r) ?_ E r
 intro f ih E r h
 cases ht:t E with
 | none=>rw [ht] at h;cases h
 | some q =>
  cases q with
  | exc E1 c=>rw [ht] at h;exact ⟨1,by simp only [whN,ht];exact h⟩
  | ok E1 k =>
   rw [ht] at h
   cases k with
   | false=>exact ⟨1,by simp only [whN,ht];exact h⟩
   | true =>
    dsimp only at h
    cases hb:b E1 with
    | none=>rw [hb] at h;cases h
    | some g =>
     rw [hb] at h
     cases g with
     | nx E2=>obtain ⟨n,hn⟩:=ih _ _ h;exact ⟨n + 1,by simp only [whN,ht,hb];exact hn⟩
     | ct E2=>obtain ⟨n,hn⟩:=ih _ _ h;exact ⟨n + 1,by simp only [whN,ht,hb];exact hn⟩
     | bk E2=>exact ⟨1,by simp only [whN,ht,hb];exact h⟩
     | rt E2 x=>exact ⟨1,by simp only [whN,ht,hb];exact h⟩
     | xc E2 c=>exact ⟨1,by simp only [whN,ht,hb];exact h⟩
def at' {α:Type} (L:List (Option α)) (j:Nat):Option α:=(L[j]?).join
def clr {α:Type}:List Nat->List (Option α)->List (Option α)
 | [],L=>L
 | j :: R,L=>clr R (L.set j none)
def back {α:Type}:List Nat->List (Option α)->List (Option α)->List (Option α)
 | j :: R,q :: B,L=>back R B (L.set j q)
 | _,_,L=>L
def vq5 (k:Nat) (R:List Nat) (E:En):En:=List.replicate k none++R.map (at' E)
def kkq (k:Nat) (R:List Nat) (B E:En):En:=back R (B.drop k) (clr R E)
def lcL (tg:Tg) (t:Ts) (c:Ex):List D->En->List Sd->Option (Res (List Sd))
 | [],B,acc=>some (.ok B acc)
 | d :: ds,B,acc=>match tg.put d B with
  | none=>none
  | some B=>bnd (t B) fun B x=>if x then bnd (c B) fun B y=>lcL tg t c ds B (acc++[y]) else lcL tg t c ds B acc
def mkL (o:Own) (E:En) (xs:List Sd):Option (Res Sd) :=
 if o=.dp then (if xs.all jws then some (.ok E (.dp,.lst (xs.map (·.2)))) else none) else some (.ok E (.rt,.lst (xs.map (·.2))))
def cLC (o:Own) (k:Nat) (R:List Nat) (it:Ev (List D)) (tg:Tg) (t:Ts) (c:Ex):Ex:=fun E=>bnd (it E) fun E ds =>
 match lcL tg t c ds (vq5 k R E) [] with
 | some (.ok B xs)=>mkL o (kkq k R B E) xs
 | some (.exc B e)=>some (.exc (kkq k R B E) e)
 | none=>none
def vq9:Option (Option Sd)->Bool
 | some (some (_,.lst _))=>true
 | _=>false
def jqw (f:List D->D->Option (List D)) (i:Nat) (c:Ex):Sm:=fun E=>if vq9 E[i]? then ofE (c E) fun E x=>match E[i]? with
 | some (some (o,.lst xs))=>if o=.no then none else (match f xs x.2 with
  | some ys=>some (.nx (E.set i (some (if o=.dp/\jws x then .dp else .rt,.lst ys))))
  | none=>none)
 | _=>none
 else none
def jz1:List D->D->Option (List D):=fun xs d=>if xs.length < big then some (xs++[d]) else none
def qwm:D->Option D
 | .int i=>some (.int i)
 | .bl k=>some (.int (if k then 1 else 0))
 | .str z=>if z.length<=640 then (PySem.intText? z).map .int else none
 | _=>none
def jzz:Sd->Option Sd:=fun x=>match x.2 with
 | .lst xs=>if jqz x then some (.rt,.lst xs) else none
 | .tup xs=>if jqz x then some (.rt,.lst xs) else none
 | _=>none
def jvt:Sd->Option Sd:=fun x=>match x.2 with
 | .lst xs=>if jqz x then some (.no,.tup xs) else none
 | .tup xs=>if jqz x then some (.no,.tup xs) else none
 | _=>none
def seqOf:D->Option (List D)
 | .lst xs=>some xs
 | .tup xs=>some xs
 | .str z=>if z.cps.size<=big then some (z.cps.toList.map fun c=>.str ⟨#[c]⟩) else none
 | _=>none
def itS (c:Ex):Ev (List D):=fun E=>bnd (c E) fun E x=>val E (seqOf x.2)
def jka (i:Int):Bool:=decide (-(2 ^ 62)<=i) && decide (i < 2 ^ 62)
def jjh (lo hi:Int):List D:=(List.range (hi - lo).toNat).map fun (k:Nat)=>.int (lo + (k:Int))
def jzd (c:Ex):Ev (List D):=fun E=>bnd (c E) fun E x=>match x.2 with
 | .int j=>if jka j/\j.toNat<=big then some (.ok E (jjh 0 j)) else none
 | _=>none
def vze (c d:Ex):Ev (List D):=fun E=>bnd (c E) fun E x=>bnd (d E) fun E y=>match x.2,y.2 with
 | .int i,.int j=>if jka i/\jka j/\(j - i).toNat<=big then some (.ok E (jjh i j)) else none
 | _,_=>none
def vj4 (c:Ex):Ex:=fun E=>bnd (c E) fun E x=>match x.2 with
 | .int j=>if jka j/\j.toNat<=big then some (.ok E (.rt,.lst (jjh 0 j))) else none
 | _=>none
abbrev Fn:=List Sd->Option (Res Sd)
def fn (n:Nat) (b:Sm):Fn:=fun xs=>match b (xs.map some++List.replicate (n - xs.length) none) with
 | some (.rt E x)=>some (.ok E x)
 | some (.nx E)=>some (.ok E (.dp,.non))
 | some (.xc E c)=>some (.exc E c)
 | _=>none
def letAll (xs:List Sd):List Sd:=xs.map fun x=>(.no,x.2)
def jjv (f:Fn) (cs:List Ex):Ex:=fun E=>bnd (jv0 cs E) fun E xs=>match f (letAll xs) with
 | some (.ok _ y)=>some (.ok E y)
 | some (.exc _ c)=>some (.exc E c)
 | none=>none
end Q
namespace Q
open PySem PySem.Spec PyProof.Rows L2 L3
mutual
def kqv:D->Int
 | .int i=>hashInt i
 | .tup xs=>reduceHash (Builtin.Tuple.tupleHashOf (hashDs xs))
 | _=>4238894112
def hashDs:List D->List Int
 | []=>[]
 | a :: x=>kqv a :: hashDs x
end
def Kd:Type:={ d:D // jvf 6 d=true }
instance:DecidableEq Kd:=fun a b=>Classical.propDecidable (a=b)
abbrev Ent:=Kd×Addr×Value
def jxk (a:Addr) (es:List Ent) (ep:Nat):HO:=.ext fun h=>∃ o ds,h.get? a=some o/\o.ExactDict/\o.data=.dict ds ep/\ds.toList=es.map fun x=>(⟨kqv x.1.1,.ref x.2.1,x.2.2⟩:DictEntry)
mutual
def PuR (K:PySem.W.Frag) (H:Hp):D->V->Prop
 | .non,v=>v=.non
 | .int i,v=>v=.int i
 | .tup ds,v=>∃ a xs,v=.ref a/\SqT K H a xs/\PuRs K H ds xs
 | _,_=>False
def PuRs (K:PySem.W.Frag) (H:Hp):List D->List V->Prop
 | [],xs=>xs=[]
 | d :: ds,xs=>∃ x r,xs=x :: r/\PuR K H d x/\PuRs K H ds r
end
def DcN (K:PySem.W.Frag) (H:Hp) (a:Addr) (ks:List D) (vs:List V):Prop:=∃ (es:List Ent) (ep:Nat),H a=some (jxk a es ep)/\(a == sysModules)=false/\es.length<=sizeLine/\(es.map (·.1)).Nodup/\ks=es.map (·.1.1)/\(∀ x∈es,PuR K H x.1.1 (.ref x.2.1))/\Vals vs (es.map (·.2.2))
def DcI (H:Hp) (a:Addr) (ks:List D) (vs:List V):Prop:=∃ (kv:List (Int×V)) (m:Str),H a=some (.dK (kv.map fun p=>(Sum.inl p.1,p.2)))/\ks=.str m :: kv.map (fun p=>D.int p.1)/\vs=.non :: kv.map (·.2)
def DcA (K:PySem.W.Frag) (H:Hp) (a:Addr) (ks:List D) (vs:List V):Prop:=DcN K H a ks vs\/DcI H a ks vs
theorem DcA.un {K:PySem.W.Frag} {H:Hp} {a:Addr} {kvs:List (D×D)} {vs:List V} (h:DcA K H a (kvs.map (·.1)) vs) (hu:unm kvs=true):DcN K H a (kvs.map (·.1)) vs:=by
 rcases h with h | ⟨kv,m,_,h,_⟩
 ·exact h
 ·cases kvs with
  | nil=>cases h
  | cons p r =>
   obtain ⟨k,d⟩:=p
   rw [List.map_cons] at h
   injection h with h1 _
   have h1:k=.str m:=h1
   subst h1
   cases hu
def wkw (K:PySem.W.Frag) (a:Addr) (xs:List V):Prop:=∃ (its:Array Value) (n:Nat),K.lookup a=some { cls:=.type "list",data:=.seq its n }/\its.size<=sizeLine/\Vals xs its.toList
def vzk (K:PySem.W.Frag) (H:Hp) (a:Addr) (xs:List V):Prop:=(∃ o,H a=some (.frz o (.lst xs)))\/wkw K a xs
def LsR (K:PySem.W.Frag) (H:Hp) (a:Addr) (xs:List V):Prop:=Rd H a (.lst xs)\/wkw K a xs
theorem LsR.of {K:PySem.W.Frag} {H:Hp} {a:Addr} {xs:List V} (h:vzk K H a xs):LsR K H a xs:=h.imp .inr id
theorem LsR.sq {K:PySem.W.Frag} {H:Hp} {a:Addr} {xs:List V} (h:LsR K H a xs):SqL K H a xs:=by
 rcases h with h | ⟨its,n,h1,h2,h3⟩
 ·exact .inl h
 ·exact .inr ⟨_,its,n,h1,rfl,rfl,rfl,h2,h3⟩
theorem LsR.is {X:Cx} {pins:List (Addr×Obj)} {σ:L2.St} {H:Hp} {s:Shared} {a:Addr} {xs:List V} (I:L2.Inv X pins σ H s) (h:LsR X.K H a xs):xs.length<=sizeLine/\∃ (its:List Value) (n:Nat),Vals xs its/\s.heap.get? a=some { cls:=.type "list",data:=.seq its.toArray n }:=by
 rcases h with h | ⟨its,n,h1,h2,h3⟩
 ·obtain ⟨z,its,n,r,e⟩:=h.ok I.hok
  exact ⟨z,its,n,r,e⟩
 ·have hl:=h3.length
  simp only [Array.length_toList] at hl
  exact ⟨by omega,its.toList,n,h3,by simpa using I.kIn a _ h1⟩
def ExD (K:PySem.W.Frag) (H:Hp) (c:Str) (v:V):Prop:=∃ x o C,v=.ref x/\H x=some (.frz o (.ext fun _=>True))/\ExAt K x o C/\PySem.W.nsIn K mainGlobals c=some (some (.ref C))
mutual
def RepL (K:PySem.W.Frag) (H:Hp) (g:Bool):D->V->List Addr->Prop
 | .non,v,as=>v=.non/\as=[]
 | .bl b,v,as=>v=.bl b/\as=[]
 | .int i,v,as=>v=.int i/\as=[]
 | .str z,v,as=>v=.str z/\as=[]/\z.length<=sizeLine
 | .tup ds,v,as=>∃ a xs,v=.ref a/\SqT K H a xs/\RepA K H g ds xs as
 | .lst ds,v,as=>∃ a xs bs,v=.ref a/\RepA K H g ds xs bs/\((H a=some (.lst xs)/\as=a :: bs)\/(g=true/\vzk K H a xs/\as=bs))
 | .dct kvs,v,as=>∃ a xs bs,v=.ref a/\RepP K H g kvs xs bs/\DcA K H a (kvs.map (·.1)) xs/\as=a :: bs
 | .obj c _,v,as=>as=[]/\ExD K H c v
def RepA (K:PySem.W.Frag) (H:Hp) (g:Bool):List D->List V->List Addr->Prop
 | [],xs,as=>xs=[]/\as=[]
 | d :: ds,xs,as=>∃ x r bs cs,xs=x :: r/\as=bs++cs/\RepL K H g d x bs/\RepA K H g ds r cs
def RepP (K:PySem.W.Frag) (H:Hp) (g:Bool):List (D×D)->List V->List Addr->Prop
 | [],xs,as=>xs=[]/\as=[]
 | (_,d) :: ds,xs,as=>∃ x r bs cs,xs=x :: r/\as=bs++cs/\RepL K H g d x bs/\RepP K H g ds r cs
end
def RepR (K:PySem.W.Frag) (H:Hp):D->V->List Addr->Prop
 | .lst ds,v,as=>∃ a xs bs,v=.ref a/\RepA K H true ds xs bs/\H a=some (.lst xs)/\as=a :: bs
 | .dct kvs,v,as=>∃ a xs bs,v=.ref a/\RepP K H true kvs xs bs/\DcA K H a (kvs.map (·.1)) xs/\as=a :: bs
 | _,_,_=>False
def RepO (K:PySem.W.Frag) (H:Hp):Own->D->V->List Addr->Prop
 | .no=>RepL K H true
 | .rt=>RepR K H
 | .dp=>RepL K H false
section
variable {K:PySem.W.Frag} {H H':Hp}
def Kp (H H':Hp) (as:List Addr):Prop:=(∀ a xs,H a=some (.tup xs)->H' a=some (.tup xs))/\(∀ a o u,H a=some (.frz o u)->H' a=some (.frz o u))/\∀ a∈as,∀ ob,H a=some ob->H' a=some ob
theorem Kp.left {as bs:List Addr} (k:Kp H H' (as++bs)):Kp H H' as:=⟨k.1,k.2.1,fun a ha=>k.2.2 a (ll9 _ ha)⟩
theorem Kp.right {as bs:List Addr} (k:Kp H H' (as++bs)):Kp H H' bs:=⟨k.1,k.2.1,fun a ha=>k.2.2 a (lr9 _ ha)⟩
theorem Kp.tail {a:Addr} {bs:List Addr} (k:Kp H H' (a :: bs)):Kp H H' bs:=⟨k.1,k.2.1,fun b hb=>k.2.2 b (lc9 _ hb)⟩
theorem Kp.tupT {as:List Addr} {a:Addr} {xs:List V} (k:Kp H H' as) (h:SqT K H a xs):SqT K H' a xs:=by
 rcases h with (h | ⟨o,h⟩) | h
 ·exact .inl (.inl (k.1 a xs h))
 ·exact .inl (.inr ⟨o,k.2.1 a o _ h⟩)
 ·exact .inr h
theorem Kp.frzL {as:List Addr} {a:Addr} {xs:List V} (k:Kp H H' as) (h:vzk K H a xs):vzk K H' a xs:=by
 rcases h with ⟨o,h⟩ | h
 ·exact .inl ⟨o,k.2.1 a o _ h⟩
 ·exact .inr h
mutual
theorem PuR.kp {as:List Addr} (k:Kp H H' as):∀ {d:D} {v:V},PuR K H d v->PuR K H' d v
 | .non,_,h=>by unfold PuR at h ⊢;exact h
 | .int _,_,h=>by unfold PuR at h ⊢;exact h
 | .tup ds,_,h=>by
  unfold PuR at h ⊢
  obtain ⟨a,xs,e,s,r⟩:=h
  exact ⟨a,xs,e,k.tupT s,PuRs.kp k r⟩
 | .bl _,_,h=>by unfold PuR at h;exact h.elim
 | .str _,_,h=>by unfold PuR at h;exact h.elim
 | .lst _,_,h=>by unfold PuR at h;exact h.elim
 | .dct _,_,h=>by unfold PuR at h;exact h.elim
 | .obj _ _,_,h=>by unfold PuR at h;exact h.elim
theorem PuRs.kp {as:List Addr} (k:Kp H H' as):∀ {ds:List D} {xs:List V},PuRs K H ds xs->PuRs K H' ds xs
 | [],_,h=>by unfold PuRs at h ⊢;exact h
 | d :: ds,_,h=>by
  unfold PuRs at h ⊢
  obtain ⟨x,r,e,h1,h2⟩:=h
  exact ⟨x,r,e,PuR.kp k h1,PuRs.kp k h2⟩
end
theorem Kp.dcn {a:Addr} {bs:List Addr} {ks:List D} {vs:List V} (k:Kp H H' (a :: bs)) (h:DcN K H a ks vs):DcN K H' a ks vs:=by
 obtain ⟨es,ep,e,h1,h2,h3,h4,h5,h6⟩:=h
 exact ⟨es,ep,k.2.2 a List.mem_cons_self _ e,h1,h2,h3,h4,fun x hx=>PuR.kp k (h5 x hx),h6⟩
theorem Kp.dca {a:Addr} {bs:List Addr} {ks:List D} {vs:List V} (k:Kp H H' (a :: bs)) (h:DcA K H a ks vs):DcA K H' a ks vs:=by
 rcases h with h | ⟨kv,m,e,h⟩
 ·exact .inl (k.dcn h)
 ·exact .inr ⟨kv,m,k.2.2 a List.mem_cons_self _ e,h⟩
theorem Kp.of_same {as:List Addr} (s:jw1 H H'):Kp H H' as:=⟨fun a xs h=>s a _ h,fun a o u h=>s a _ h,fun a _ ob h=>s a ob h⟩
mutual
theorem RepL.kp {g:Bool}:∀ {d:D} {v:V} {as:List Addr},RepL K H g d v as->Kp H H' as->RepL K H' g d v as
 | .non,_,_,h,_=>by unfold RepL at h ⊢;exact h
 | .bl _,_,_,h,_=>by unfold RepL at h ⊢;exact h
 | .int _,_,_,h,_=>by unfold RepL at h ⊢;exact h
 | .str _,_,_,h,_=>by unfold RepL at h ⊢;exact h
 | .tup ds,_,_,h,k=>by
  unfold RepL at h ⊢
  obtain ⟨a,xs,e,s,r⟩:=h
  exact ⟨a,xs,e,k.tupT s,RepA.kp r k⟩
 | .lst ds,_,_,h,k=>by
  unfold RepL at h ⊢
  obtain ⟨a,xs,bs,e,r,q⟩:=h
  refine ⟨a,xs,bs,e,?_,?_⟩
  ·rcases q with ⟨_,rfl⟩ | ⟨_,_,rfl⟩
   ·exact RepA.kp r k.tail
   ·exact RepA.kp r k
  ·rcases q with ⟨h1,rfl⟩ | ⟨hg,h1,rfl⟩
   ·exact .inl ⟨k.2.2 a List.mem_cons_self _ h1,rfl⟩
   ·exact .inr ⟨hg,k.frzL h1,rfl⟩
 | .dct kvs,_,_,h,k=>by
  unfold RepL at h ⊢
  obtain ⟨a,xs,bs,e,r,q,rfl⟩:=h
  exact ⟨a,xs,bs,e,RepP.kp r k.tail,k.dca q,rfl⟩
 | .obj _ _,_,_,h,k=>by
  unfold RepL at h ⊢
  obtain ⟨e,x,o,C,h1,h2,h3⟩:=h
  exact ⟨e,x,o,C,h1,k.2.1 _ _ _ h2,h3⟩
theorem RepA.kp {g:Bool}:∀ {ds:List D} {xs:List V} {as:List Addr},RepA K H g ds xs as->Kp H H' as->RepA K H' g ds xs as
 | [],_,_,h,_=>by unfold RepA at h ⊢;exact h
 | d :: ds,_,_,h,k=>by
  unfold RepA at h ⊢
  obtain ⟨x,r,bs,cs,e1,rfl,h1,h2⟩:=h
  exact ⟨x,r,bs,cs,e1,rfl,RepL.kp h1 k.left,RepA.kp h2 k.right⟩
theorem RepP.kp {g : Bool} : ∀ {ds : List (D × D)} {xs : List V} {as : List Addr}, RepP K H g ds xs as -> Kp H H' as -> RepP K H' g ds xs as
  | [], _, _, h, _ => by unfold RepP at h ⊢; exact h
  | (q, d) :: ds, _, _, h, k => by
    unfold RepP at h ⊢
    obtain ⟨x, r, bs, cs, e1, rfl, h1, h2⟩ := h
    exact ⟨x, r, bs, cs, e1, rfl, RepL.kp h1 k.left, RepP.kp h2 k.right⟩
end
mutual
theorem RepL.wk:∀ {d:D} {v:V} {as:List Addr},RepL K H false d v as->RepL K H true d v as
 | .non,_,_,h=>by unfold RepL at h ⊢;exact h
 | .bl _,_,_,h=>by unfold RepL at h ⊢;exact h
 | .int _,_,_,h=>by unfold RepL at h ⊢;exact h
 | .str _,_,_,h=>by unfold RepL at h ⊢;exact h
 | .tup ds,_,_,h=>by
  unfold RepL at h ⊢
  obtain ⟨a,xs,e,s,r⟩:=h
  exact ⟨a,xs,e,s,RepA.wk r⟩
 | .lst ds,_,_,h=>by
  unfold RepL at h ⊢
  obtain ⟨a,xs,bs,e,r,q⟩:=h
  refine ⟨a,xs,bs,e,RepA.wk r,?_⟩
  rcases q with q | ⟨z,_⟩
  ·exact .inl q
  ·cases z
 | .dct kvs,_,_,h=>by
  unfold RepL at h ⊢
  obtain ⟨a,xs,bs,e,r,q,z⟩:=h
  exact ⟨a,xs,bs,e,RepP.wk r,q,z⟩
 | .obj _ _,_,_,h=>by unfold RepL at h ⊢;exact h
theorem RepA.wk:∀ {ds:List D} {xs:List V} {as:List Addr},RepA K H false ds xs as->RepA K H true ds xs as
 | [],_,_,h=>by unfold RepA at h ⊢;exact h
 | d :: ds,_,_,h=>by
  unfold RepA at h ⊢
  obtain ⟨x,r,bs,cs,e1,e2,h1,h2⟩:=h
  exact ⟨x,r,bs,cs,e1,e2,RepL.wk h1,RepA.wk h2⟩
theorem RepP.wk : ∀ {ds : List (D × D)} {xs : List V} {as : List Addr}, RepP K H false ds xs as -> RepP K H true ds xs as
  | [], _, _, h => by unfold RepP at h ⊢; exact h
  | (q, d) :: ds, _, _, h => by
    unfold RepP at h ⊢
    obtain ⟨x, r, bs, cs, e1, e2, h1, h2⟩ := h
    exact ⟨x, r, bs, cs, e1, e2, RepL.wk h1, RepP.wk h2⟩
end
mutual
theorem RepL.al {g:Bool}:∀ {d:D} {v:V} {as:List Addr},RepL K H g d v as->∀ a∈as,(∃ xs,H a=some (.lst xs))\/(∃ φ,H a=some (.ext φ))\/∃ kvs,H a=some (.dK kvs)
 | .non,_,_,h=>by unfold RepL at h;rw [h.2];exact fun _ z=>nomatch z
 | .bl _,_,_,h=>by unfold RepL at h;rw [h.2];exact fun _ z=>nomatch z
 | .int _,_,_,h=>by unfold RepL at h;rw [h.2];exact fun _ z=>nomatch z
 | .str _,_,_,h=>by unfold RepL at h;rw [h.2.1];exact fun _ z=>nomatch z
 | .tup ds,_,_,h=>by
  unfold RepL at h
  obtain ⟨a,xs,e,s,r⟩:=h
  exact RepA.al r
 | .lst ds,_,_,h=>by
  unfold RepL at h
  obtain ⟨a,xs,bs,e,r,q⟩:=h
  rcases q with ⟨h1,rfl⟩ | ⟨_,_,rfl⟩
  ·intro b hb
   rcases List.mem_cons.mp hb with rfl | hb
   ·exact .inl ⟨_,h1⟩
   ·exact RepA.al r b hb
  ·exact RepA.al r
 | .dct kvs,_,_,h=>by
  unfold RepL at h
  obtain ⟨a,xs,bs,e,r,q,rfl⟩:=h
  intro b hb
  rcases List.mem_cons.mp hb with rfl | hb
  ·rcases q with ⟨es,ep,q,_⟩ | ⟨kv,m,q,_⟩
   ·exact .inr (.inl ⟨_,q⟩)
   ·exact .inr (.inr ⟨_,q⟩)
  ·exact RepP.al r b hb
 | .obj _ _,_,_,h=>by unfold RepL at h;rw [h.1];exact fun _ z=>nomatch z
theorem RepA.al {g:Bool}:∀ {ds:List D} {xs:List V} {as:List Addr},RepA K H g ds xs as->∀ a∈as,(∃ xs,H a=some (.lst xs))\/(∃ φ,H a=some (.ext φ))\/∃ kvs,H a=some (.dK kvs)
 | [],_,_,h=>by unfold RepA at h;rw [h.2];exact fun _ z=>nomatch z
 | d :: ds,_,_,h=>by
  unfold RepA at h
  obtain ⟨x,r,bs,cs,e1,rfl,h1,h2⟩:=h
  intro a ha
  rcases List.mem_append.mp ha with ha | ha
  ·exact RepL.al h1 a ha
  ·exact RepA.al h2 a ha
theorem RepP.al {g : Bool} : ∀ {ds : List (D × D)} {xs : List V} {as : List Addr}, RepP K H g ds xs as -> ∀ a ∈ as, (∃ xs, H a = some (.lst xs)) \/ (∃ φ, H a = some (.ext φ)) \/ ∃ kvs, H a = some (.dK kvs)
  | [], _, _, h => by unfold RepP at h; rw [h.2]; exact fun _ z => nomatch z
  | (_, d) :: ds, _, _, h => by
    unfold RepP at h
    obtain ⟨x, r, bs, cs, e1, rfl, h1, h2⟩ := h
    intro a ha
    rcases List.mem_append.mp ha with ha | ha
    · exact RepL.al h1 a ha
    · exact RepP.al h2 a ha
end
mutual
theorem RepL.pu {g g':Bool}:∀ {d:D} {v:V} {as:List Addr},RepL K H g d v as->d.pure=true->as=[]/\RepL K H g' d v []
 | .non,_,_,h,_=>by unfold RepL at h ⊢;exact ⟨h.2,h.1,rfl⟩
 | .bl _,_,_,h,_=>by unfold RepL at h ⊢;exact ⟨h.2,h.1,rfl⟩
 | .int _,_,_,h,_=>by unfold RepL at h ⊢;exact ⟨h.2,h.1,rfl⟩
 | .str _,_,_,h,_=>by unfold RepL at h ⊢;exact ⟨h.2.1,h.1,rfl,h.2.2⟩
 | .tup ds,_,_,h,p=>by
  unfold RepL at h ⊢
  obtain ⟨a,xs,e,s,r⟩:=h
  obtain ⟨z,r'⟩:=RepA.pu (g':=g') r (by unfold D.pure at p;exact p)
  exact ⟨z,a,xs,e,s,r'⟩
 | .lst ds,_,_,h,p=>by unfold D.pure at p;cases p
 | .dct ds,_,_,h,p=>by unfold D.pure at p;cases p
 | .obj _ _,_,_,h,p=>by unfold D.pure at p;cases p
theorem RepA.pu {g g':Bool}:∀ {ds:List D} {xs:List V} {as:List Addr},RepA K H g ds xs as->D.pures ds=true->as=[]/\RepA K H g' ds xs []
 | [],_,_,h,_=>by unfold RepA at h ⊢;exact ⟨h.2,h.1,rfl⟩
 | d :: ds,_,_,h,p=>by
  unfold RepA at h ⊢
  unfold D.pures at p
  rw [Bool.and_eq_true] at p
  obtain ⟨x,r,bs,cs,e1,rfl,h1,h2⟩:=h
  obtain ⟨rfl,q1⟩:=RepL.pu (g':=g') h1 p.1
  obtain ⟨rfl,q2⟩:=RepA.pu (g':=g') h2 p.2
  exact ⟨rfl,x,r,[],[],e1,rfl,q1,q2⟩
end
theorem RepR.wk:∀ {d:D} {v:V} {as:List Addr},RepR K H d v as->RepL K H true d v as
 | .lst ds,_,_,h=>by
  obtain ⟨a,xs,bs,e,r,q,z⟩:=h
  unfold RepL
  exact ⟨a,xs,bs,e,r,.inl ⟨q,z⟩⟩
 | .dct kvs,_,_,h=>by
  obtain ⟨a,xs,bs,e,r,q,z⟩:=h
  unfold RepL
  exact ⟨a,xs,bs,e,r,q,z⟩
theorem RepR.kp:∀ {d:D} {v:V} {as:List Addr},RepR K H d v as->Kp H H' as->RepR K H' d v as
 | .lst ds,_,_,h,k=>by
  obtain ⟨a,xs,bs,e,r,q,rfl⟩:=h
  exact ⟨a,xs,bs,e,r.kp k.tail,k.2.2 a List.mem_cons_self _ q,rfl⟩
 | .dct kvs,_,_,h,k=>by
  obtain ⟨a,xs,bs,e,r,q,rfl⟩:=h
  exact ⟨a,xs,bs,e,r.kp k.tail,k.dca q,rfl⟩
theorem RepO.wk:∀ {o:Own} {d:D} {v:V} {as:List Addr},RepO K H o d v as->RepL K H true d v as
 | .no,_,_,_,h=>h
 | .rt,_,_,_,h=>RepR.wk h
 | .dp,_,_,_,h=>RepL.wk h
theorem RepO.kp:∀ {o:Own} {d:D} {v:V} {as:List Addr},RepO K H o d v as->Kp H H' as->RepO K H' o d v as
 | .no,_,_,_,h,k=>RepL.kp h k
 | .rt,_,_,_,h,k=>RepR.kp h k
 | .dp,_,_,_,h,k=>RepL.kp h k
end
structure Sl where
 o:Own
 d:D
 v:V
 as:List Addr
def Sl.own (x:Sl):List Addr:=match x.o with
 | .no=>[]
 | .rt=>x.as.take 1
 | .dp=>x.as
def Sl.frz (x:Sl):List Addr:=match x.o with
 | .no=>x.as
 | .rt=>x.as.drop 1
 | .dp=>[]
theorem Sl.parts (x:Sl):x.own++x.frz=x.as:=by
 unfold Sl.own Sl.frz
 cases x.o with
 | no=>rfl
 | rt=>exact List.take_append_drop 1 x.as
 | dp=>exact List.append_nil _
theorem Sl.own_as {x:Sl} {a:Addr} (h:a∈x.own):a∈x.as:=by rw [<- x.parts];exact ll9 _ h
theorem Sl.frz_as {x:Sl} {a:Addr} (h:a∈x.frz):a∈x.as:=by rw [<- x.parts];exact lr9 _ h
theorem Sl.as_of {x:Sl} {a:Addr} (h:a∈x.as):a∈x.own\/a∈x.frz:=by rw [<- x.parts] at h;exact List.mem_append.mp h
def Sl.let (x:Sl):Sl:={ x with o:=.no }
abbrev Ls:=List (Option Sl)
def jjb (L:Ls):List Addr:=L.flatMap fun x=>x.elim [] Sl.own
def jjk (L:Ls):List Addr:=L.flatMap fun x=>x.elim [] Sl.frz
@[simp] theorem vwz:jjb []=[]:=rfl
@[simp] theorem vv4:jjk []=[]:=rfl
@[simp] theorem jj7 (x:Sl) (L:Ls):jjb (some x :: L)=x.own++jjb L:=by simp [jjb]
@[simp] theorem jjg (x:Sl) (L:Ls):jjk (some x :: L)=x.frz++jjk L:=by simp [jjk]
@[simp] theorem qji (L:Ls):jjb (none :: L)=jjb L:=by simp [jjb]
@[simp] theorem kxl (L:Ls):jjk (none :: L)=jjk L:=by simp [jjk]
@[simp] theorem jj5 (L T:Ls):jjb (L++T)=jjb L++jjb T:=by simp [jjb]
@[simp] theorem jja (L T:Ls):jjk (L++T)=jjk L++jjk T:=by simp [jjk]
theorem mem_owned {L:Ls} {a:Addr}:a∈jjb L↔∃ x,some x∈L/\a∈x.own:=by
 unfold jjb
 rw [List.mem_flatMap]
 constructor
 ·rintro ⟨y,hy,h⟩
  cases y with
  | none=>exact nomatch h
  | some x=>exact ⟨x,hy,h⟩
 ·rintro ⟨x,hx,h⟩
  exact ⟨some x,hx,h⟩
theorem mem_frozen {L:Ls} {a:Addr}:a∈jjk L↔∃ x,some x∈L/\a∈x.frz:=by
 unfold jjk
 rw [List.mem_flatMap]
 constructor
 ·rintro ⟨y,hy,h⟩
  cases y with
  | none=>exact nomatch h
  | some x=>exact ⟨x,hy,h⟩
 ·rintro ⟨x,hx,h⟩
  exact ⟨some x,hx,h⟩
def Sl.ok (K:PySem.W.Frag) (H:Hp) (x:Sl):Prop:=RepO K H x.o x.d x.v x.as
theorem Sl.ok.al {K:PySem.W.Frag} {H:Hp} {x:Sl} (h:x.ok K H):∀ a∈x.as,(∃ xs,H a=some (.lst xs))\/(∃ φ,H a=some (.ext φ))\/∃ kvs,H a=some (.dK kvs):=(RepO.wk h).al
theorem Sl.ok.some {K:PySem.W.Frag} {H:Hp} {x:Sl} (h:x.ok K H) {a:Addr} (ha:a∈x.as):H a≠none:=fun z=>by
 rcases h.al a ha with ⟨xs,e⟩ | ⟨xs,e⟩ | ⟨xs,e⟩<;>(rw [z] at e;cases e)
structure World (K:PySem.W.Frag) (H:Hp) (L:Ls):Prop where
 ok:∀ x,some x∈L->x.ok K H
 nd:(jjb L).Nodup
 ds:∀ a∈jjb L,a∉jjk L
structure Step (H:Hp) (L:Ls) (H':Hp) (L':Ls):Prop where
 keep:∀ a ob,H a=some ob->a∉jjb L->H' a=some ob
 own:∀ a∈jjb L',a∈jjb L\/H a=none
 frz:∀ a∈jjk L',a∈jjk L\/a∈jjb L\/H a=none
section
variable {K:PySem.W.Frag} {H H1 H2 H':Hp} {L L1 L2' L' T:Ls} {x y:Sl}
theorem World.own_al (w:World K H L) {a:Addr} (h:a∈jjb L):(∃ xs,H a=some (.lst xs))\/(∃ φ,H a=some (.ext φ))\/∃ kvs,H a=some (.dK kvs):=by
 obtain ⟨x,hx,ha⟩:=mem_owned.mp h
 exact (w.ok x hx).al a (Sl.own_as ha)
theorem World.own_some (w:World K H L) {a:Addr} (h:a∈jjb L):H a≠none:=by
 obtain ⟨x,hx,ha⟩:=mem_owned.mp h
 exact (w.ok x hx).some (Sl.own_as ha)
theorem World.frz_some (w:World K H L) {a:Addr} (h:a∈jjk L):H a≠none:=by
 obtain ⟨x,hx,ha⟩:=mem_frozen.mp h
 exact (w.ok x hx).some (Sl.frz_as ha)
theorem Step.refl:Step H L H L:=⟨fun _ _ h _=>h,fun _ h=>.inl h,fun _ h=>.inl h⟩
theorem Step.trans (a:Step H L H1 L1) (b:Step H1 L1 H2 L2'):Step H L H2 L2' where
 keep:=fun c ob h hn=>b.keep c ob (a.keep c ob h hn) fun z=>(a.own c z).elim hn fun e=>by rw [h] at e;cases e
 own:=fun c hc=>by
  rcases b.own c hc with z | z
  ·exact a.own c z
  ·by_cases h:c∈jjb L
   ·exact .inl h
   ·refine .inr ?_
    cases e:H c with
    | none=>rfl
    | some ob=>rw [a.keep c ob e h] at z;cases z
 frz:=fun c hc=>by
  rcases b.frz c hc with z | z | z
  ·exact a.frz c z
  ·exact .inr (a.own c z)
  ·by_cases h:c∈jjb L
   ·exact .inr (.inl h)
   ·refine .inr (.inr ?_)
    cases e:H c with
    | none=>rfl
    | some ob=>rw [a.keep c ob e h] at z;cases z
theorem Step.kp (a:Step H L H' L') (w:World K H L) {as:List Addr} (h:∀ b∈as,b∉jjb L):Kp H H' as:=by
 have no:∀ b ob,H b=some ob->(∀ xs,ob≠.lst xs)->(∀ φ,ob≠.ext φ)->(∀ kvs,ob≠.dK kvs)->H' b=some ob:=fun b ob e h1 h2 h3=>a.keep b ob e fun z=>by
  rcases w.own_al z with ⟨xs,q⟩ | ⟨es,q⟩ | ⟨es,q⟩
  ·rw [e] at q;cases q;exact h1 _ rfl
  ·rw [e] at q;cases q;exact h2 _ rfl
  ·rw [e] at q;cases q;exact h3 _ rfl
 exact ⟨fun b xs e=>no b _ e (fun _ z=>(nomatch z)) (fun _ z=>(nomatch z)) (fun _ z=>(nomatch z)),fun b o u e=>no b _ e (fun _ z=>(nomatch z)) (fun _ z=>(nomatch z)) (fun _ z=>(nomatch z)),fun b hb ob e=>a.keep b ob e (h b hb)⟩
theorem Step.frame (a:Step H L H' L') (w:World K H (L++T)) (w':World K H' L') (wL:World K H L):World K H' (L'++T):=by
 have nd:=w.nd
 rw [jj5,List.nodup_append] at nd
 have dis:∀ b∈jjb L,b∉jjb T:=fun b hb hT=>nd.2.2 b hb b hT rfl
 have okT:∀ x,some x∈T->x.ok K H:=fun x hx=>w.ok x (lr9 _ hx)
 have nT:∀ x,some x∈T->∀ b∈x.as,b∉jjb L:=fun x hx b hb hL=>by
  rcases Sl.as_of hb with z | z
  ·exact dis b hL (mem_owned.mpr ⟨x,hx,z⟩)
  ·refine w.ds b (by rw [jj5];exact ll9 _ hL) ?_
   rw [jja]
   exact lr9 _ (mem_frozen.mpr ⟨x,hx,z⟩)
 refine ⟨fun x hx=>?_,?_,fun b hb=>?_⟩
 ·rcases List.mem_append.mp hx with hx | hx
  ·exact w'.ok x hx
  ·exact (okT x hx).kp (a.kp wL (nT x hx))
 ·rw [jj5,List.nodup_append]
  refine ⟨w'.nd,nd.2.1,fun b hb c hc e=>?_⟩
  subst e
  obtain ⟨x,hx,hbx⟩:=mem_owned.mp hc
  rcases a.own b hb with z | z
  ·exact dis b z hc
  ·exact (okT x hx).some (Sl.own_as hbx) z
 ·rw [jj5] at hb
  rw [jja]
  intro hf
  rcases List.mem_append.mp hb with hb | hb
  ·rcases List.mem_append.mp hf with hf | hf
   ·exact w'.ds b hb hf
   ·obtain ⟨x,hx,hbx⟩:=mem_frozen.mp hf
    rcases a.own b hb with z | z
    ·exact nT x hx b (Sl.frz_as hbx) z
    ·exact (okT x hx).some (Sl.frz_as hbx) z
  ·rcases List.mem_append.mp hf with hf | hf
   ·obtain ⟨x,hx,hbx⟩:=mem_owned.mp hb
    rcases a.frz b hf with z | z | z
    ·exact w.ds b (by rw [jj5];exact lr9 _ hb) (by rw [jja];exact ll9 _ z)
    ·exact dis b z hb
    ·exact (okT x hx).some (Sl.own_as hbx) z
   ·exact w.ds b (by rw [jj5];exact lr9 _ hb) (by rw [jja];exact lr9 _ hf)
theorem World.left (w:World K H (L++T)):World K H L:=by
 have nd:=w.nd
 rw [jj5,List.nodup_append] at nd
 exact ⟨fun x hx=>w.ok x (ll9 _ hx),nd.1,fun a ha hf=>w.ds a (by rw [jj5];exact ll9 _ ha) (by rw [jja];exact ll9 _ hf)⟩
theorem World.right (w:World K H (L++T)):World K H T:=by
 have nd:=w.nd
 rw [jj5,List.nodup_append] at nd
 exact ⟨fun x hx=>w.ok x (lr9 _ hx),nd.2.1,fun a ha hf=>w.ds a (by rw [jj5];exact lr9 _ ha) (by rw [jja];exact lr9 _ hf)⟩
theorem World.comm (w:World K H (L++T)):World K H (T++L):=by
 refine ⟨fun x hx=>w.ok x ?_,?_,fun a ha hf=>w.ds a ?_ ?_⟩
 ·rcases List.mem_append.mp hx with h | h
  ·exact lr9 _ h
  ·exact ll9 _ h
 ·have nd:=w.nd
  rw [jj5,List.nodup_append] at nd ⊢
  exact ⟨nd.2.1,nd.1,fun a ha b hb e=>nd.2.2 b hb a ha e.symm⟩
 ·rw [jj5] at ha ⊢
  rcases List.mem_append.mp ha with h | h
  ·exact lr9 _ h
  ·exact ll9 _ h
 ·rw [jja] at hf ⊢
  rcases List.mem_append.mp hf with h | h
  ·exact lr9 _ h
  ·exact ll9 _ h
theorem World.tail {q:Option Sl} (w:World K H (q :: L)):World K H L:=World.right (L:=[q]) w
theorem World.head (w:World K H (some x :: L)):x.ok K H:=w.ok x List.mem_cons_self
theorem World.apart (w:World K H (some x :: L)):∀ a∈x.as,a∉jjb L:=fun a ha hL=>by
 rcases Sl.as_of ha with z | z
 ·have nd:=w.nd
  rw [jj7,List.nodup_append] at nd
  exact nd.2.2 a z a hL rfl
 ·exact w.ds a (by rw [jj7];exact lr9 _ hL) (by rw [jjg];exact ll9 _ z)
theorem World.cons (w:World K H L) (h:x.ok K H) (n:x.own.Nodup) (h1:∀ a∈x.own,a∉jjb L) (h2:∀ a∈x.own,a∉jjk L) (h3:∀ a∈x.frz,a∉jjb L) (h4:∀ a∈x.own,a∉x.frz):World K H (some x :: L):=by
 refine ⟨fun y hy=>?_,?_,fun a ha hf=>?_⟩
 ·rcases List.mem_cons.mp hy with z | z
  ·cases z;exact h
  ·exact w.ok y z
 ·rw [jj7,List.nodup_append]
  exact ⟨n,w.nd,fun a ha b hb e=>by subst e;exact h1 a ha hb⟩
 ·rw [jj7] at ha
  rw [jjg] at hf
  rcases List.mem_append.mp ha with ha | ha
  ·rcases List.mem_append.mp hf with hf | hf
   ·exact h4 a ha hf
   ·exact h2 a ha hf
  ·rcases List.mem_append.mp hf with hf | hf
   ·exact h3 a hf ha
   ·exact w.ds a ha hf
theorem World.consNo (w:World K H L) (h:x.ok K H) (ho:x.o=.no) (h3:∀ a∈x.as,a∉jjb L):World K H (some x :: L):=by
 have e1:x.own=[]:=by unfold Sl.own;rw [ho]
 have e2:x.frz=x.as:=by unfold Sl.frz;rw [ho]
 exact w.cons h (by rw [e1];exact List.nodup_nil) (by rw [e1];exact fun _ z=>nomatch z) (by rw [e1];exact fun _ z=>nomatch z) (by rw [e2];exact h3) (by rw [e1];exact fun _ z=>nomatch z)
theorem World.consPu (w:World K H L) (h:x.ok K H) (e:x.as=[]):World K H (some x :: L):=by
 have e1:∀ a,a∉x.own:=fun a ha=>by have:=Sl.own_as ha;rw [e] at this;exact nomatch this
 have e2:∀ a,a∉x.frz:=fun a ha=>by have:=Sl.frz_as ha;rw [e] at this;exact nomatch this
 have e3:x.own=[]:=List.eq_nil_iff_forall_not_mem.mpr e1
 exact w.cons h (by rw [e3];exact List.nodup_nil) (fun a z=>absurd z (e1 a)) (fun a z=>absurd z (e1 a)) (fun a z=>absurd z (e2 a)) (fun a z=>absurd z (e1 a))
theorem jvy {L:Ls} {i:Nat} {q:Option Sl} (h:some y∈L.set i q):q=some y\/some y∈L:=by
 rcases List.mem_or_eq_of_mem_set h with z | z
 ·exact .inr z
 ·exact .inl z.symm
theorem jqe {i:Nat} {a:Addr} (h:a∈jjb (L.set i (some x))):a∈x.own\/a∈jjb L:=by
 obtain ⟨y,hy,ha⟩:=mem_owned.mp h
 rcases jvy hy with z | z
 ·cases z;exact .inl ha
 ·exact .inr (mem_owned.mpr ⟨y,z,ha⟩)
theorem jqk {i:Nat} {a:Addr} (h:a∈jjk (L.set i (some x))):a∈x.frz\/a∈jjk L:=by
 obtain ⟨y,hy,ha⟩:=mem_frozen.mp h
 rcases jvy hy with z | z
 ·cases z;exact .inl ha
 ·exact .inr (mem_frozen.mpr ⟨y,z,ha⟩)
theorem jvs:∀ {L:Ls} {i:Nat},(x.own++jjb L).Nodup->(jjb (L.set i (some x))).Nodup
 | [],_,h=>by simp
 | q :: L,0,h=>by
  rw [List.set_cons_zero,jj7]
  have e:jjb (q :: L)=q.elim [] Sl.own++jjb L:=by simp [jjb]
  rw [e,List.nodup_append] at h
  obtain ⟨h1,h2,h3⟩:=h
  rw [List.nodup_append] at h2 ⊢
  exact ⟨h1,h2.2.1,fun a ha b hb=>h3 a ha b (lr9 _ hb)⟩
 | q :: L,i + 1,h=>by
  rw [List.set_cons_succ]
  have e:∀ M:Ls,jjb (q :: M)=q.elim [] Sl.own++jjb M:=fun M=>by simp [jjb]
  rw [e] at h ⊢
  rw [List.nodup_append] at h
  obtain ⟨h1,h2,h3⟩:=h
  rw [List.nodup_append] at h2
  rw [List.nodup_append]
  refine ⟨h2.1,jvs (by rw [List.nodup_append];exact ⟨h1,h2.2.1,fun a ha b hb=>h3 a ha b (lr9 _ hb)⟩),fun a ha b hb e=>?_⟩
  subst e
  rcases jqe hb with z | z
  ·exact h3 a z a (ll9 _ ha) rfl
  ·exact h2.2.2 a ha a z rfl
theorem World.set {i:Nat} (w:World K H (some x :: L)):World K H (L.set i (some x)):=by
 refine ⟨fun y hy=>?_,jvs (by have:=w.nd;rwa [jj7] at this),fun a ha hf=>?_⟩
 ·rcases jvy hy with z | z
  ·cases z;exact w.head
  ·exact w.ok y (lc9 _ z)
 ·refine w.ds a ?_ ?_
  ·rw [jj7];exact List.mem_append.mpr (jqe ha)
  ·rw [jjg];exact List.mem_append.mpr (jqk hf)
theorem Step.set {i:Nat}:Step H (some x :: L) H (L.set i (some x)) where
 keep:=fun _ _ h _=>h
 own:=fun a ha=>.inl (by rw [jj7];exact List.mem_append.mpr (jqe ha))
 frz:=fun a ha=>.inl (by rw [jjg];exact List.mem_append.mpr (jqk ha))
theorem Step.drop {q:Option Sl}:Step H (q :: L) H L where
 keep:=fun _ _ h _=>h
 own:=fun a ha=>.inl (by rw [show (q :: L:Ls)=[q]++L from rfl,jj5];exact lr9 _ ha)
 frz:=fun a ha=>.inl (by rw [show (q :: L:Ls)=[q]++L from rfl,jja];exact lr9 _ ha)
theorem jkr {i:Nat} (h:L[i]?=some (some x)):some x∈L:=List.mem_of_getElem? h
theorem kjq (x:Sl):x.let.own=[]/\x.let.frz=x.as/\x.let.as=x.as:=⟨rfl,rfl,rfl⟩
theorem kvr {i:Nat} {a:Addr} (h:a∈jjb (L.set i (some x.let))):a∈jjb L:=by
 rcases jqe h with z | z
 ·exact nomatch z
 ·exact z
theorem kxf:∀ {L:Ls} {i:Nat},(jjb L).Nodup->(∀ a∈jjb L,a∉jjk L)->L[i]?=some (some x)->∀ a∈x.as,a∉jjb (L.set i (some x.let))
 | [],_,_,_,h,_,_=>by simp at h
 | q :: L,0,nd,ds,h,a,ha=>by
  have e:q=some x:=by simpa using h
  subst e
  rw [List.set_cons_zero,jj7]
  intro hm
  have hm:a∈jjb L:=by simpa [kjq] using hm
  rcases Sl.as_of ha with z | z
  ·rw [jj7,List.nodup_append] at nd
   exact nd.2.2 a z a hm rfl
  ·exact ds a (by rw [jj7];exact lr9 _ hm) (by rw [jjg];exact ll9 _ z)
 | q :: L,i + 1,nd,ds,h,a,ha=>by
  have h:L[i]?=some (some x):=by simpa using h
  rw [List.set_cons_succ]
  have e:∀ M:Ls,jjb (q :: M)=q.elim [] Sl.own++jjb M:=fun M=>by simp [jjb]
  have f:jjk (q :: L)=q.elim [] Sl.frz++jjk L:=by simp [jjk]
  rw [e]
  intro hm
  rw [e,List.nodup_append] at nd
  rcases List.mem_append.mp hm with hm | hm
  ·rcases Sl.as_of ha with z | z
   ·exact nd.2.2 a hm a (mem_owned.mpr ⟨x,jkr h,z⟩) rfl
   ·exact ds a (by rw [e];exact ll9 _ hm) (by rw [f];exact lr9 _ (mem_frozen.mpr ⟨x,jkr h,z⟩))
  ·exact kxf (L:=L) nd.2.1 (fun b hb hf=>ds b (by rw [e];exact lr9 _ hb) (by rw [f];exact lr9 _ hf)) h a ha hm
theorem jzq (h:x.ok K H):x.let.ok K H:=RepO.wk h
theorem World.let {i:Nat} (w:World K H L) (h:L[i]?=some (some x)):World K H (L.set i (some x.let)):=by
 have out:=kxf w.nd w.ds h
 refine ⟨fun y hy=>?_,jvs (by rw [(kjq x).1];exact w.nd),fun a ha hf=>?_⟩
 ·rcases jvy hy with z | z
  ·cases z;exact jzq (w.ok x (jkr h))
  ·exact w.ok y z
 ·rcases jqk hf with z | z
  ·exact out a z ha
  ·exact w.ds a (kvr ha) z
theorem World.read {i:Nat} (w:World K H L) (h:L[i]?=some (some x)):World K H (some x.let :: L.set i (some x.let)) :=
 (w.let h).consNo (jzq (w.ok x (jkr h))) rfl (kxf (x:=x) w.nd w.ds h)
theorem Step.read {i:Nat} (h:L[i]?=some (some x)):Step H L H (some x.let :: L.set i (some x.let)) where
 keep:=fun _ _ h _=>h
 own:=fun a ha=>.inl (by rw [jj7,(kjq x).1] at ha;exact kvr ha)
 frz:=fun a ha=>by
  have hx:=jkr h
  have q:∀ a∈x.as,a∈jjk L\/a∈jjb L\/H a=none:=fun a ha=>by
   rcases Sl.as_of ha with z | z
   ·exact .inr (.inl (mem_owned.mpr ⟨x,hx,z⟩))
   ·exact .inl (mem_frozen.mpr ⟨x,hx,z⟩)
  rw [jjg] at ha
  rcases List.mem_append.mp ha with z | z
  ·exact q a z
  ·rcases jqk z with z | z
   ·exact q a z
   ·exact .inl z
end
inductive Mt:En->L2.St->Ls->Prop
 | nil:Mt [] [] []
 | un {E:En} {σ:L2.St} {L:Ls} {y:Option V}:Mt E σ L->Mt (none :: E) (y :: σ) (none :: L)
 | cons {E:En} {σ:L2.St} {L:Ls} {x:Sl}:Mt E σ L->Mt (some (x.o,x.d) :: E) (some x.v :: σ) (some x :: L)
theorem Mt.get:∀ {E:En} {σ:L2.St} {L:Ls} {i:Nat} {o:Own} {d:D},Mt E σ L->E[i]?=some (some (o,d))->∃ x,L[i]?=some (some x)/\x.o=o/\x.d=d/\σ[i]?=some (some x.v)
 | _,_,_,_,_,_,.nil,h=>by simp at h
 | _,_,_,0,_,_,.un _,h=>by simp at h
 | _,_,_,i + 1,_,_,.un m,h=>by simpa using m.get (i:=i) (by simpa using h)
 | _,_,_,0,_,_,.cons (x:=x) m,h=>by
  simp only [List.getElem?_cons_zero,Option.some.injEq,Prod.mk.injEq] at h
  exact ⟨x,by simp,h.1,h.2,by simp⟩
 | _,_,_,i + 1,_,_,.cons m,h=>by simpa using m.get (i:=i) (by simpa using h)
theorem Mt.set {x:Sl}:∀ {E:En} {σ:L2.St} {L:Ls} (i:Nat),Mt E σ L->Mt (E.set i (some (x.o,x.d))) (σ.set i (some x.v)) (L.set i (some x))
 | _,_,_,_,.nil=>.nil
 | _,_,_,0,.un m=>.cons m
 | _,_,_,i + 1,.un m=>.un (m.set i)
 | _,_,_,0,.cons m=>.cons m
 | _,_,_,i + 1,.cons m=>.cons (m.set i)
theorem Mt.let {x:Sl}:∀ {E:En} {σ:L2.St} {L:Ls} {i:Nat},Mt E σ L->L[i]?=some (some x)->Mt (E.set i (some (.no,x.d))) σ (L.set i (some x.let))
 | _,_,_,_,.nil,h=>by simp at h
 | _,_,_,0,.un m,h=>by simp at h
 | _,_,_,i + 1,.un m,h=>.un (m.let (i:=i) (by simpa using h))
 | _,_,_,0,.cons (x:=y) m,h=>by
  have e:y=x:=by simpa using h
  subst e
  exact .cons (x:=y.let) m
 | _,_,_,i + 1,.cons m,h=>.cons (m.let (i:=i) (by simpa using h))
theorem Mt.len:∀ {E:En} {σ:L2.St} {L:Ls},Mt E σ L->E.length=σ.length/\L.length=σ.length
 | _,_,_,.nil=>⟨rfl,rfl⟩
 | _,_,_,.un m=>by simp [m.len]
 | _,_,_,.cons m=>by simp [m.len]
end Q
namespace Q
open PySem PySem.Spec PyProof.Rows L2 L3
def sls (L:Ls):List Sl:=L.filterMap id
theorem jqy (L:Ls):jjb L=(sls L).flatMap Sl.own:=by
 induction L with
 | nil=>rfl
 | cons q L ih =>
  cases q with
  | none=>rw [qji,ih];rfl
  | some x=>rw [jj7,ih];rfl
theorem jqt (L:Ls):jjk L=(sls L).flatMap Sl.frz:=by
 induction L with
 | nil=>rfl
 | cons q L ih =>
  cases q with
  | none=>rw [kxl,ih];rfl
  | some x=>rw [jjg,ih];rfl
theorem mem_sls {L:Ls} {x:Sl}:x∈sls L↔some x∈L:=by simp [sls]
@[simp] theorem jwt (L T:Ls):sls (L++T)=sls L++sls T:=by simp [sls]
@[simp] theorem qwx (L:Ls):sls (none :: L)=sls L:=rfl
@[simp] theorem kz5 (x:Sl) (L:Ls):sls (some x :: L)=x :: sls L:=rfl
@[simp] theorem vzu:sls []=[]:=rfl
@[simp] theorem vzv (T:List Sl):sls (T.map some)=T:=by simp [sls]
@[simp] theorem vjo (k:Nat):sls (List.replicate k none)=[]:=by
 induction k with
 | zero=>rfl
 | succ k ih=>rw [List.replicate_succ,qwx,ih]
theorem jvq {α β:Type} (f:α->List β) {l l':List α} (h:l.Sublist l'):(l.flatMap f).Sublist (l'.flatMap f):=by
 induction h with
 | slnil=>exact List.Sublist.refl _
 | cons a _ ih=>rw [List.flatMap_cons];exact List.Sublist.trans ih (List.sublist_append_right _ _)
 | cons_cons a _ ih=>rw [List.flatMap_cons,List.flatMap_cons];exact List.Sublist.append (List.Sublist.refl _) ih
section
variable {K:PySem.W.Frag} {H H':Hp} {L L' M M':Ls}
theorem World.same (w:World K H L) (p:(sls L).Perm (sls L')):World K H L':=by
 have po:(jjb L).Perm (jjb L'):=by rw [jqy,jqy];exact p.flatMap_right _
 have pf:(jjk L).Perm (jjk L'):=by rw [jqt,jqt];exact p.flatMap_right _
 exact ⟨fun x hx=>w.ok x (mem_sls.mp (p.mem_iff.mpr (mem_sls.mpr hx))),po.nodup_iff.mp w.nd,fun a ha hf=>w.ds a (po.mem_iff.mpr ha) (pf.mem_iff.mpr hf)⟩
theorem Step.same (s:Step H L H' L') (p:(sls L).Perm (sls M)) (p':(sls L').Perm (sls M')):Step H M H' M':=by
 have po:(jjb L).Perm (jjb M):=by rw [jqy,jqy];exact p.flatMap_right _
 have pf:(jjk L).Perm (jjk M):=by rw [jqt,jqt];exact p.flatMap_right _
 have po':(jjb L').Perm (jjb M'):=by rw [jqy,jqy];exact p'.flatMap_right _
 have pf':(jjk L').Perm (jjk M'):=by rw [jqt,jqt];exact p'.flatMap_right _
 exact ⟨fun a ob h hn=>s.keep a ob h fun z=>hn (po.mem_iff.mp z),fun a ha=>(s.own a (po'.mem_iff.mpr ha)).imp (fun z=>po.mem_iff.mp z) id,
  fun a ha=>(s.frz a (pf'.mem_iff.mpr ha)).imp (fun z=>pf.mem_iff.mp z) fun z=>z.imp (fun z=>po.mem_iff.mp z) id⟩
theorem World.sub (w:World K H L) (p:(sls L').Sublist (sls L)):World K H L':=by
 refine ⟨fun x hx=>w.ok x (mem_sls.mp (p.subset (mem_sls.mpr hx))),?_,fun a ha hf=>w.ds a ?_ ?_⟩
 ·have:=w.nd
  rw [jqy] at this ⊢
  exact (jvq _ p).nodup this
 ·rw [jqy] at ha ⊢;exact (jvq _ p).subset ha
 ·rw [jqt] at hf ⊢;exact (jvq _ p).subset hf
theorem Step.sub (s:Step H L H' L') (p:(sls M).Sublist (sls L')):Step H L H' M:=by
 refine ⟨s.keep,fun a ha=>s.own a ?_,fun a ha=>s.frz a ?_⟩
 ·rw [jqy] at ha ⊢;exact (jvq _ p).subset ha
 ·rw [jqt] at ha ⊢;exact (jvq _ p).subset ha
end
theorem jxo:∀ {L:Ls} {j:Nat},(sls (at' L j :: L.set j none)).Perm (sls L)
 | [],j=>by simp [at',sls]
 | q :: L,0=>by
  cases q with
  | none=>simp [at',sls]
  | some x=>simp [at',sls]
 | q :: L,j + 1=>by
  have ih:=jxo (L:=L) (j:=j)
  have e:at' (q :: L) (j + 1)=at' L j:=by simp [at']
  rw [e,List.set_cons_succ]
  have e2:∀ (a b:Option Sl) (M:Ls),(sls (a :: b :: M)).Perm (sls (b :: a :: M)):=fun a b M=>by
   cases a<;>cases b<;>simp [sls]
   exact List.Perm.swap ..
  refine (e2 _ _ _).trans ?_
  cases q with
  | none=>simpa [sls] using ih
  | some y=>simpa [sls] using ih
theorem qj2:∀ {R:List Nat} {L:Ls},R.Nodup->(sls (R.map (at' L)++clr R L)).Perm (sls L)
 | [],L,_=>by simp [clr]
 | j :: R,L,h=>by
  rw [List.nodup_cons] at h
  have e:R.map (at' L)=R.map (at' (L.set j none)):=by
   apply List.map_congr_left
   intro i hi
   have:j≠i:=fun e=>h.1 (e▸hi)
   unfold at'
   rw [List.getElem?_set_ne this]
  rw [List.map_cons,List.cons_append,clr,e]
  have ih:=qj2 (R:=R) (L:=L.set j none) h.2
  refine List.Perm.trans ?_ (jxo (L:=L) (j:=j))
  cases hq:at' L j with
  | none=>simpa [sls] using ih
  | some x=>simpa [sls] using ih
theorem qvy {α:Type}:∀ {R:List Nat} {L:List (Option α)},(clr R L).length=L.length
 | [],_=>rfl
 | j :: R,L=>by rw [clr,qvy,List.length_set]
theorem qvz {α:Type}:∀ {R:List Nat} {L:List (Option α)} {j:Nat},j∈R->at' (clr R L) j=none
 | [],_,_,h=>by cases h
 | i :: R,L,j,h=>by
  rw [clr]
  by_cases hR:j∈R
  ·exact qvz hR
  ·have e:j=i:=by simpa [hR] using h
   subst e
   have gen:∀ {R:List Nat} {M:List (Option α)},j∉R->at' (clr R M) j=at' M j:=by
    intro R
    induction R with
    | nil=>intro M _;rfl
    | cons r R ih =>
     intro M h
     rw [List.mem_cons,not_or] at h
     rw [clr,ih h.2]
     unfold at'
     rw [List.getElem?_set_ne (Ne.symm h.1)]
   rw [gen hR]
   unfold at'
   by_cases hl:j < L.length
   ·rw [List.getElem?_set_self hl];rfl
   ·rw [List.set_eq_of_length_le (by omega),List.getElem?_eq_none (by omega)];rfl
theorem kwt:∀ {R:List Nat} {B L:Ls},R.Nodup->(∀ j∈R,at' L j=none)->(∀ j∈R,j < L.length)->B.length=R.length->(sls (back R B L)).Perm (sls (B++L))
 | [],B,L,_,_,_,hl=>by
  have:B=[]:=by simpa using hl
  subst this
  simp [back]
 | j :: R,[],L,_,_,_,hl=>by simp at hl
 | j :: R,q :: B,L,hn,hz,hr,hl=>by
  rw [List.nodup_cons] at hn
  rw [back]
  have hj:=hr j List.mem_cons_self
  have ih:=kwt (R:=R) (B:=B) (L:=L.set j q) hn.2 (fun i hi=>by
   have:j≠i:=fun e=>hn.1 (e▸hi)
   unfold at'
   rw [List.getElem?_set_ne this]
   exact hz i (lc9 _ hi)) (fun i hi=>by rw [List.length_set];exact hr i (lc9 _ hi)) (by simpa using hl)
  refine ih.trans ?_
  have sp:∀ {M:Ls} {i:Nat},at' M i=none->i < M.length->(sls (M.set i q)).Perm (sls (q :: M)):=by
   intro M
   induction M with
   | nil=>intro i _ h;simp at h
   | cons r M ihM =>
    intro i h1 h2
    cases i with
    | zero =>
     have:r=none:=by simpa [at'] using h1
     subst this
     cases q<;>simp [sls]
    | succ i =>
     have:=ihM (i:=i) (by simpa [at'] using h1) (by simpa using h2)
     rw [List.set_cons_succ]
     cases r with
     | none=>cases q<;>simpa [sls] using this
     | some y =>
      cases q with
      | none=>simpa [sls] using this
      | some x =>
       simp only [kz5] at this ⊢
       exact (this.cons y).trans (List.Perm.swap ..)
  rw [jwt,List.cons_append]
  have h1:=sp (hz j List.mem_cons_self) hj
  have h2:(sls B++sls (L.set j q)).Perm (sls B++sls (q :: L)):=h1.append_left _
  refine h2.trans ?_
  cases q with
  | none=>simp
  | some x =>
   simp only [kz5,jwt]
   exact List.perm_middle
end Q
namespace Q
open PySem PySem.Spec PyProof.Rows L2 L3
section
variable {K:PySem.W.Frag} {H H1 H2 H':Hp} {L L1 L' T:Ls} {x y:Sl}
theorem jvn (p:L.Perm L'):(jjb L).Perm (jjb L'):=p.flatMap_right _
theorem jxe (p:L.Perm L'):(jjk L).Perm (jjk L'):=p.flatMap_right _
theorem World.perm (w:World K H L) (p:L.Perm L'):World K H L' :=
 ⟨fun x hx=>w.ok x (p.mem_iff.mpr hx),(jvn p).nodup_iff.mp w.nd,fun a ha hf=>w.ds a ((jvn p).mem_iff.mpr ha) ((jxe p).mem_iff.mpr hf)⟩
theorem Step.perm (s : Step H L H' L') {M M' : Ls} (p : L.Perm M) (p' : L'.Perm M') : Step H M H' M' :=
  ⟨fun a ob h hn => s.keep a ob h fun z => hn ((jvn p).mem_iff.mp z),
   fun a ha => (s.own a ((jvn p').mem_iff.mpr ha)).imp (fun z => (jvn p).mem_iff.mp z) id,
   fun a ha => (s.frz a ((jxe p').mem_iff.mpr ha)).imp (fun z => (jxe p).mem_iff.mp z) fun z => z.imp (fun z => (jvn p).mem_iff.mp z) id⟩
theorem Step.frm (s:Step H L H' L'):Step H (L++T) H' (L'++T) where
 keep:=fun a ob h hn=>s.keep a ob h fun z=>hn (by rw [jj5];exact ll9 _ z)
 own:=fun a ha=>by
  rw [jj5] at ha ⊢
  rcases List.mem_append.mp ha with z | z
  ·exact (s.own a z).imp (ll9 _) id
  ·exact .inl (lr9 _ z)
 frz:=fun a ha=>by
  rw [jja] at ha ⊢
  rw [jj5]
  rcases List.mem_append.mp ha with z | z
  ·exact (s.frz a z).imp (ll9 _) fun z=>z.imp (ll9 _) id
  ·exact .inl (lr9 _ z)
theorem vzg (w:World K H (T++L)) (s:Step H L H' L') (w':World K H' L'):World K H' (T++L')/\Step H (T++L) H' (T++L'):=by
 have w1:World K H (L++T):=w.comm
 exact ⟨(s.frame w1 w' w1.left).comm,s.frm.perm List.perm_append_comm List.perm_append_comm⟩
end
theorem ex8 {α β γ:Type} {P:Prop} {a b c d e:α->β->γ->Prop} (h:∃ x y z,a x y z/\b x y z/\c x y z/\d x y z/\e x y z) (f:∀ x y z,a x y z->b x y z->c x y z->d x y z->e x y z->P):P :=
 h.elim fun x h=>h.elim fun y h=>h.elim fun z h=>f x y z h.1 h.2.1 h.2.2.1 h.2.2.2.1 h.2.2.2.2
theorem ex7 {α β γ:Type} {P:Prop} {a b c d:α->β->γ->Prop} (h:∃ x y z,a x y z/\b x y z/\c x y z/\d x y z) (f:∀ x y z,a x y z->b x y z->c x y z->d x y z->P):P :=
 h.elim fun x h=>h.elim fun y h=>h.elim fun z h=>f x y z h.1 h.2.1 h.2.2.1 h.2.2.2
theorem jky {X:Cx} {e:Expr} {t t':TE} (h:PE X e t) (w:∀ σ H Q,t' σ H Q->t σ H Q):PE X e t':=fun pins s σ H Q I q=>h pins s σ H Q I (w σ H Q q)
theorem qq6 {X:Cx} {e:Expr} {t t':TT} (h:PT X e t) (w:∀ σ H Q,t' σ H Q->t σ H Q):PT X e t':=fun pins s σ H Q I q=>h pins s σ H Q I (w σ H Q q)
theorem jwn {X:Cx} {e:Stmt} {t t':TS} (h:PS X e t) (w:∀ D σ H,t' D σ H->t D σ H):PS X e t':=fun pins s σ H D I q=>h pins s σ H D I (w D σ H q)
theorem qq7 {X:Cx} {e:List Stmt} {t t':TS} (h:PSs X e t) (w:∀ D σ H,t' D σ H->t D σ H):PSs X e t':=fun pins s σ H D I q=>h pins s σ H D I (w D σ H q)
structure Fx0 where
 K:PySem.W.Frag
 mg:Str->Option Value
 EX:XK
def Xc {α:Type} (Z:Fx0) (σ:L2.St) (H:Hp) (L:Ls) (r:Res α):Prop:=∀ E' c,r=.exc E' c->∀ C L' H',Z.mg c=some (.ref C)->Mt E' σ L'->World Z.K H' L'->Step H L H' L'->Z.EX (.ref C) none H'
theorem Xc.step {α:Type} {Z:Fx0} {σ:L2.St} {H H1:Hp} {L L1:Ls} {r:Res α} (x:Xc Z σ H L r) (s:Step H L H1 L1):Xc Z σ H1 L1 r:=fun E' c e C L' H' hm m w s'=>x E' c e C L' H' hm m w (s.trans s')
theorem Xc.map {α β:Type} {Z:Fx0} {σ:L2.St} {H:Hp} {L:Ls} {r:Res α} {E':En} {c:Str} (x:Xc Z σ H L r) (e:r=.exc E' c):Xc Z σ H L (.exc E' c:Res β):=fun E1 c1 e1=>by
 injection e1 with h1 h2
 subst h1 h2
 exact x _ _ e
def tQ (Z:Fx0) (q:Bool) (c:Ex):TE:=fun σ H Q=>∃ E L r,Mt E σ L/\World Z.K H L/\c E=some r/\Xc Z σ H L r /\
 ∀ E' a,r=.ok E' a->∀ (x:Sl) L' H',x.o=a.1->x.d=a.2->Mt E' σ L'->World Z.K H' (some x :: L')->Step H L H' (some x :: L')->(q=true->jw1 H H'/\∀ b∈x.own,H b=none)->Q x.v H'
def Src (H:Hp) (L:Ls) (as:List Addr):Prop:=∀ b∈as,b∈jjk L\/b∈jjb L\/H b=none
theorem Src.back {H H1:Hp} {L L1:Ls} {as:List Addr} (h:Src H1 L1 as) (s:Step H L H1 L1):Src H L as:=fun b hb=>by
 rcases h b hb with z | z | z
 ·exact s.frz b z
 ·exact .inr (s.own b z)
 ·by_cases ho:b∈jjb L
  ·exact .inr (.inl ho)
  ·refine .inr (.inr ?_)
   cases e:H b with
   | none=>rfl
   | some ob=>rw [s.keep b ob e ho] at z;cases z
def tV (Z:Fx0) (q:Bool) (c:Ex):TE:=fun σ H Q=>∃ E L r,Mt E σ L/\World Z.K H L/\c E=some r/\Xc Z σ H L r /\
 ∀ E' a,r=.ok E' a->∀ (x:Sl) L' H',x.o=a.1->x.d=a.2->Mt E' σ L'->World Z.K H' L'->x.ok Z.K H'->(∀ b∈x.frz,b∉jjb L')->Src H L x.as->Step H L H' L'->(q=true->jw1 H H')->Q x.v H'
def QE (X:Cx) (Z:Fx0) (q:Bool) (c:Ex) (e:Expr):Prop:=PE X e (tQ Z q c)
def QV (X:Cx) (Z:Fx0) (q:Bool) (c:Ex) (e:Expr):Prop:=PE X e (tV Z q c)
section
variable {X:Cx} {Z:Fx0} {q qa qb:Bool} {a b c:Ex} {e ea eb:Expr} {pos:Pos} {α:Type} {σ:L2.St} {H:Hp} {L:Ls} {E:En}
theorem jkc {β:Type} {m:Option (Res α)} {F:En->α->Option (Res β)} {r:Res β} (h:bnd m F=some r):(∃ E1 x,m=some (.ok E1 x)/\F E1 x=some r)\/∃ E1 c,m=some (.exc E1 c)/\r=.exc E1 c:=by
 cases m with
 | none=>cases h
 | some q =>
  cases q with
  | ok E1 x=>exact .inl ⟨E1,x,rfl,h⟩
  | exc E1 c=>exact .inr ⟨E1,c,rfl,(oq9 h).symm⟩
theorem kx2 {F:En->Sd->Option (Res α)} {r:Res α} {G:VK} (m:Mt E σ L) (w:World Z.K H L) (h:bnd (a E) F=some r) (xc:Xc Z σ H L r)
  (k:∀ E1 s,F E1 s=some r->∀ (x:Sl) L1 H1,x.o=s.1->x.d=s.2->Mt E1 σ L1->World Z.K H1 (some x :: L1)->Step H L H1 (some x :: L1)->(q=true->jw1 H H1/\∀ b∈x.own,H b=none)->G x.v H1):tQ Z q a σ H G:=by
 rcases jkc h with ⟨E1,s,h1,h2⟩ | ⟨E1,c,h1,h2⟩
 ·exact ⟨E,L,_,m,w,h1,(fun _ _ z=>by cases z),fun E' s' z x L' H' e1 e2 m' w' st sm=>by
   injection z with z1 z2
   subst z1 z2
   exact k _ _ h2 x L' H' e1 e2 m' w' st sm⟩
 ·exact ⟨E,L,_,m,w,h1,xc.map h2,fun E' s' z=>by cases z⟩
theorem jwd {F:En->Sd->Option (Res α)} {r:Res α} {G:VK} (m:Mt E σ L) (w:World Z.K H L) (h:bnd (a E) F=some r) (xc:Xc Z σ H L r)
  (k:∀ E1 s,F E1 s=some r->∀ (x:Sl) L1 H1,x.o=s.1->x.d=s.2->Mt E1 σ L1->World Z.K H1 L1->x.ok Z.K H1->(∀ b∈x.frz,b∉jjb L1)->Src H L x.as->Step H L H1 L1->(q=true->jw1 H H1)->G x.v H1):tV Z q a σ H G:=by
 rcases jkc h with ⟨E1,s,h1,h2⟩ | ⟨E1,c,h1,h2⟩
 ·exact ⟨E,L,_,m,w,h1,(fun _ _ z=>by cases z),fun E' s' z x L' H' e1 e2 m' w' ok fr sr st sm=>by
   injection z with z1 z2
   subst z1 z2
   exact k _ _ h2 x L' H' e1 e2 m' w' ok fr sr st sm⟩
 ·exact ⟨E,L,_,m,w,h1,xc.map h2,fun E' s' z=>by cases z⟩
theorem jw5 {x:Sl} {K:PySem.W.Frag} {H1 H2:Hp} {L1 L2':Ls} (ok:x.ok K H1) (fr:∀ b∈x.frz,b∉jjb L1) (st:Step H1 L1 H2 L2') (sm:jw1 H1 H2):x.ok K H2/\∀ b∈x.frz,b∉jjb L2' :=
 ⟨RepO.kp ok (Kp.of_same sm),fun b hb ho=>(st.own b ho).elim (fr b hb) fun z=>ok.some (Sl.frz_as hb) z⟩
theorem jwe {x:Option α} {r:Res α} (h:val E x=some r):∃ y,x=some y/\r=.ok E y:=by
 cases x with
 | none=>cases h
 | some y=>exact ⟨y,rfl,(oq9 h).symm⟩
theorem QE.weak (h:QE X Z true c e):QE X Z q c e:=jky h fun σ H Q h_z=>ex8 h_z fun E L r m w hc xc k=>⟨E,L,r,m,w,hc,xc,fun E' s z x L' H' e1 e2 m' w' st sm=>k E' s z x L' H' e1 e2 m' w' st fun _=>sm rfl⟩
theorem kj0 {x:Sl} {H1:Hp} {L1:Ls} (st:Step H L H1 (some x :: L1)):Src H L x.as:=fun b hb=>by
 rcases Sl.as_of hb with z | z
 ·exact .inr (st.own b (by rw [jj7];exact ll9 _ z))
 ·exact st.frz b (by rw [jjg];exact ll9 _ z)
theorem jj8 (h:QE X Z q c e):QV X Z q (vE c) e:=jky h fun σ H Q h_z=>ex8 h_z fun E L r m w hc xc k =>
 kx2 m w hc xc fun E1 s h1 x L1 H1 e1 e2 m1 w1 st sm=>by
  cases oq9 h1
  exact k _ _ rfl x.let L1 H1 rfl e2 m1 w1.tail (jzq w1.head) (fun b hb=>w1.apart b hb) (kj0 (x:=x) st) (st.trans Step.drop) fun hq=>(sm hq).1
theorem jxl {x:Sl} {H1:Hp} {L1:Ls} (st:Step H L H1 L1) (sr:Src H L x.as) (ho:x.own=[]):Step H L H1 (some x :: L1) where
 keep:=st.keep
 own:=fun b hb=>by rw [jj7,ho] at hb;exact st.own b hb
 frz:=fun b hb=>by
  rw [jjg] at hb
  rcases List.mem_append.mp hb with z | z
  ·exact sr b (Sl.frz_as z)
  ·exact st.frz b z
theorem qqf {x:Sl} (h:x.o=.no):x.own=[]:=by unfold Sl.own;rw [h]
theorem kwb {x:Sl} (h:x.o=.no):x.frz=x.as:=by unfold Sl.frz;rw [h]
theorem vkp {x:Sl} (h:x.as=[]):x.own=[]:=List.eq_nil_iff_forall_not_mem.mpr fun a ha=>by have:=Sl.own_as ha;rw [h] at this;exact nomatch this
theorem jwf (h:QV X Z q c e):QE X Z q (cH c) e:=jky h fun σ H Q h_z=>ex8 h_z fun E L r m w hc xc k =>
 jwd m w hc xc fun E1 s h1 x L1 H1 e1 e2 m1 w1 ok fr sr st sm=>by
  by_cases ho:s.1=.no
  ·rw [if_pos ho] at h1
   cases oq9 h1
   have eo:x.o=.no:=e1.trans ho
   exact k _ _ rfl x L1 H1 eo e2 m1 (w1.consNo ok eo fun b hb=>fr b (by rw [kwb eo];exact hb)) (jxl st sr (qqf eo)) fun hq=>⟨sm hq,by rw [qqf eo];exact fun _ z=>(nomatch z)⟩
  ·rw [if_neg ho] at h1
   by_cases hp:s.2.pure=true
   ·rw [if_pos hp] at h1
    cases oq9 h1
    obtain ⟨z,rp⟩:=RepL.pu (g':=false) (RepO.wk ok) (by rw [e2];exact hp)
    exact k _ _ rfl ⟨.dp,x.d,x.v,[]⟩ L1 H1 rfl e2 m1 (w1.consPu rp rfl) (jxl (x:=⟨.dp,x.d,x.v,[]⟩) st (fun b hb=>nomatch hb) rfl) fun hq=>⟨sm hq,fun _ z=>(nomatch z)⟩
   ·rw [if_neg hp] at h1;cases h1
theorem q_C {d:D} {v:V} (h:PE X e (tC v)) (hr:∀ H,RepL Z.K H false d v []):QE X Z true (cC d) e:=jky h fun σ H Q h_z=>ex8 h_z fun E L r m w hc xc k=>by
 cases oq9 hc
 exact k _ _ rfl ⟨.dp,d,v,[]⟩ L H rfl rfl m (w.consPu (hr H) rfl) (jxl (x:=⟨.dp,d,v,[]⟩) Step.refl (fun b hb=>nomatch hb) rfl) fun _=>⟨fun _ _ z=>z,fun _ z=>(nomatch z)⟩
theorem q_V {i:Nat} (h:PE X e (qzc i)):QE X Z true (cV i) e:=jky h fun σ H Q h_z=>ex8 h_z fun E L r m w hc xc k=>by
 unfold cV at hc
 split at hc
 ·rename_i o d hE
  cases oq9 hc
  obtain ⟨x,h1,h2,h3,h4⟩:=m.get hE
  refine ⟨x.v,h4,k _ _ rfl x.let _ H rfl h3 ?_ (w.read h1) (Step.read h1) fun _=>⟨fun _ _ z=>z,fun _ z=>(nomatch z)⟩⟩
  have:=m.let h1
  rwa [h3] at this
 ·cases hc
theorem qqm:∀ {E:En} {σ:L2.St} {L:Ls} (j:Nat),Mt E σ L->Mt (E.set j none) σ (L.set j none):=by
 intro E σ L j m
 induction m generalizing j with
 | nil=>exact .nil
 | un m ih=>cases j with
  | zero=>exact .un m
  | succ j=>exact .un (ih j)
 | cons m ih=>cases j with
  | zero=>exact .un m
  | succ j=>exact .cons (ih j)
theorem jxu {x:Sl}:∀ {L:Ls} {i:Nat},L[i]?=some (some x)->(none :: L).Perm (some x :: L.set i none)
 | [],_,h=>by simp at h
 | q :: L,0,h=>by
  have e:q=some x:=by simpa using h
  subst e
  exact List.Perm.swap ..
 | q :: L,i + 1,h=>by
  have:=jxu (L:=L) (i:=i) (by simpa using h)
  rw [List.set_cons_succ]
  exact (List.Perm.swap ..).trans ((this.cons q).trans (List.Perm.swap ..))
theorem wj6 {i:Nat} (h:PE X e (qzc i)):QE X Z false (cMv i) e:=jky h fun σ H Q h_z=>ex8 h_z fun E L r m w hc xc k=>by
 unfold cMv at hc
 split at hc
 ·rename_i s hE
  cases oq9 hc
  obtain ⟨o,d⟩:=s
  obtain ⟨x,h1,h2,h3,h4⟩:=m.get hE
  have wn:World Z.K H (none :: L):=⟨fun y hy=>w.ok y (by simpa using hy),by simpa using w.nd,by simpa using w.ds⟩
  have sn:Step H L H (none :: L):=⟨fun _ _ z _=>z,fun a z=>.inl (by simpa using z),fun a z=>.inl (by simpa using z)⟩
  exact ⟨x.v,h4,k _ _ rfl x _ H h2 h3 (qqm i m) (wn.perm (jxu h1)) (sn.trans (Step.refl.perm (List.Perm.refl _) (jxu h1))) fun z=>(nomatch z)⟩
 ·cases hc
theorem jjc {i:Nat} (h:PE X e (qzc i)):QV X Z true (vV i) e:=jky h fun σ H Q h_z=>ex8 h_z fun E L r m w hc xc k=>by
 unfold vV at hc
 split at hc
 ·rename_i s hE
  cases oq9 hc
  obtain ⟨o,d⟩:=s
  obtain ⟨x,h1,h2,h3,h4⟩:=m.get hE
  have hx:=jkr h1
  refine ⟨x.v,h4,k _ _ rfl x L H h2 h3 m w (w.ok x hx) (fun b hb ho=>w.ds b ho (mem_frozen.mpr ⟨x,hx,hb⟩)) (fun b hb=>?_) Step.refl fun _=>fun _ _ z=>z⟩
  rcases Sl.as_of hb with z | z
  ·exact .inr (.inl (mem_owned.mpr ⟨x,hx,z⟩))
  ·exact .inl (mem_frozen.mpr ⟨x,hx,z⟩)
 ·cases hc
structure Out (K:PySem.W.Frag) (H H':Hp) (z:Sl) (fr:List Addr):Prop where
 same:jw1 H H'
 ok:z.ok K H'
 new:∀ b∈z.own,H b=none
 nd:z.own.Nodup
 fr:∀ b∈z.frz,b∈fr
def Ad1 (K:PySem.W.Frag) (r:V->Hp->VK->Prop) (f:Sd->Option Sd):Prop:=∀ (H:Hp) (x:Sl) (s:Sd) (Q:VK),x.ok K H->f (x.o,x.d)=some s->(∀ (z:Sl) H',z.o=s.1->z.d=s.2->Out K H H' z x.frz->Q z.v H')->r x.v H Q
def Ad2 (K:PySem.W.Frag) (r:R2) (f:Sd->Sd->Option Sd):Prop:=∀ (H:Hp) (x y:Sl) (s:Sd) (Q:VK),x.ok K H->y.ok K H->f (x.o,x.d) (y.o,y.d)=some s->(∀ (z:Sl) H',z.o=s.1->z.d=s.2->Out K H H' z (x.frz++y.frz)->Q z.v H')->r x.v y.v H Q
theorem jxx {K:PySem.W.Frag} {H H':Hp} {d:D} {v:V} {fr:List Addr} (s:jw1 H H') (r:RepL K H' false d v []):Out K H H' ⟨.dp,d,v,[]⟩ fr:=⟨s,r,fun _ h=>(nomatch h),List.nodup_nil,fun _ h=>(nomatch h)⟩
theorem jks {H:Hp}:jw1 H H:=fun _ _ z=>z
theorem jjd {H H1 H2:Hp} (a:jw1 H H1) (b:jw1 H1 H2):jw1 H H2:=fun c ob h=>b c ob (a c ob h)
theorem jvc {z:Sl} {fr:List Addr} {H1 H2:Hp} {L1:Ls} (w:World Z.K H1 L1) (st:Step H L H1 L1) (o:Out Z.K H1 H2 z fr) (ap:∀ b∈fr,b∉jjb L1) (al:∀ b∈fr,H1 b≠none) (sr:Src H L fr) :
  World Z.K H2 (some z :: L1)/\Step H L H2 (some z :: L1):=by
 have w2:World Z.K H2 L1:=⟨fun x hx=>RepO.kp (w.ok x hx) (Kp.of_same o.same),w.nd,w.ds⟩
 refine ⟨w2.cons o.ok o.nd (fun b hb ho=>w.own_some ho (o.new b hb)) (fun b hb hf=>w.frz_some hf (o.new b hb)) (fun b hb=>ap b (o.fr b hb)) (fun b hb hf=>al b (o.fr b hf) (o.new b hb)),?_⟩
 refine ⟨fun b ob h hn=>o.same b ob (st.keep b ob h hn),fun b hb=>?_,fun b hb=>?_⟩
 ·rw [jj7] at hb
  rcases List.mem_append.mp hb with z | z
  ·by_cases ho:b∈jjb L
   ·exact .inl ho
   ·refine .inr ?_
    cases e:H b with
    | none=>rfl
    | some ob=>have:=o.new b z;rw [st.keep b ob e ho] at this;cases this
  ·exact st.own b z
 ·rw [jjg] at hb
  rcases List.mem_append.mp hb with z | z
  ·exact sr b (o.fr b z)
  ·exact st.frz b z
theorem jxm {as bs:List Addr} (h:Src H L as) (hb:∀ b∈bs,b∈as):Src H L bs:=fun b z=>h b (hb b z)
theorem vjn {as bs:List Addr} (h:Src H L as) (h':Src H L bs):Src H L (as++bs):=fun b z=>(List.mem_append.mp z).elim (h b) (h' b)
theorem jkv {H H1:Hp} {b:Addr} (s:jw1 H H1) (h:H1 b=none):H b=none:=by
 cases e:H b with
 | none=>rfl
 | some ob=>rw [s b ob e] at h;cases h
theorem kj8 {r:V->Hp->VK->Prop} {f:Sd->Option Sd} (ad:Ad1 Z.K r f) {Q:VK} (h:tQ Z q (cF1 f a) σ H Q):tUn r (tV Z q a) σ H Q:=by
 obtain ⟨E,L,R,m,w,hc,xc,k⟩:=h
 refine jwd m w hc xc fun E1 s h1 x L1 H1 e1 e2 m1 w1 ok fr sr st sm=>?_
 obtain ⟨z,hz,rfl⟩:=jwe h1
 refine ad H1 x z Q ok (by rw [e1,e2];exact hz) fun y H' ho hd o=>?_
 obtain ⟨w3,st3⟩:=jvc w1 st o fr (fun b hb=>ok.some (Sl.frz_as hb)) (jxm sr fun b hb=>Sl.frz_as hb)
 exact k _ _ rfl y L1 H' ho hd m1 w3 st3 fun hq=>⟨jjd (sm hq) o.same,fun b hb=>jkv (sm hq) (o.new b hb)⟩
theorem kv4 {r:R2} {f:Sd->Sd->Option Sd} (ad:Ad2 Z.K r f) {Q:VK} (h:tQ Z qa (cF2 f a b) σ H Q):tOp r (tV Z qa a) (tV Z true b) σ H Q:=by
 obtain ⟨E,L,R,m,w,hc,xc,k⟩:=h
 refine jwd m w hc xc fun E1 s h1 x L1 H1 e1 e2 m1 w1 ok fr sr st sm=>?_
 refine jwd m1 w1 h1 (xc.step st) fun E2 s2 h2 y L2 H2 e3 e4 m2 w2 ok2 fr2 sr2 st2 sm2=>?_
 obtain ⟨z,hz,rfl⟩:=jwe h2
 have kx:=jw5 ok fr st2 (sm2 rfl)
 refine ad H2 x y z Q kx.1 ok2 (by rw [e1,e2,e3,e4];exact hz) fun y' H' ho hd o=>?_
 obtain ⟨w3,st3⟩:=jvc w2 (st.trans st2) o (fun b hb=>(List.mem_append.mp hb).elim (kx.2 b) (fr2 b)) (fun b hb=>(List.mem_append.mp hb).elim (fun z=>kx.1.some (Sl.frz_as z)) fun z=>ok2.some (Sl.frz_as z))
  (vjn (jxm sr fun b hb=>Sl.frz_as hb) (jxm (sr2.back st) fun b hb=>Sl.frz_as hb))
 exact k _ _ rfl y' L2 H' ho hd m2 w3 st3 fun hq=>⟨jjd (sm hq) (jjd (sm2 rfl) o.same),fun b hb=>jkv (jjd (sm hq) (sm2 rfl)) (o.new b hb)⟩
theorem jkq {op:Operator} {r:R2} {f:Sd->Sd->Option Sd} (ho:OpR X (binaryOp op) r) (ad:Ad2 Z.K r f) (ha:QV X Z qa a ea) (hb:QV X Z true b eb):QE X Z qa (cF2 f a b) (.BinOp ea op eb pos) :=
 jky (wjf ho ha hb) fun σ H Q h=>kv4 ad h
theorem jxr {op:CmpOp} {r:R2} {f:Sd->Sd->Option Sd} (ho:OpR X (compareOp op) r) (ad:Ad2 Z.K r f) (ha:QV X Z qa a ea) (hb:QV X Z true b eb) (hm:behindInMarks op eb=false):QE X Z qa (cF2 f a b) (.Compare ea [op] [eb] pos) :=
 jky (vkm ho ha hb hm) fun σ H Q h=>kv4 ad h
theorem RepA.get {K:PySem.W.Frag} {H:Hp} {g:Bool}:∀ {ds:List D} {xs:List V} {as:List Addr} {i:Nat} {d:D},RepA K H g ds xs as->ds[i]?=some d->∃ v bs,xs[i]?=some v/\RepL K H g d v bs/\∀ b∈bs,b∈as
 | [],_,_,_,_,_,e=>by simp at e
 | d :: ds,_,_,i,d',h,e=>by
  unfold RepA at h
  obtain ⟨x,r,bs,cs,rfl,rfl,h1,h2⟩:=h
  cases i with
  | zero =>
   have e:d=d':=by simpa using e
   subst e
   exact ⟨x,bs,by simp,h1,fun b hb=>ll9 _ hb⟩
  | succ i =>
   obtain ⟨v,bs',e1,e2,e3⟩:=RepA.get (i:=i) h2 (by simpa using e)
   exact ⟨v,bs',by simpa using e1,e2,fun b hb=>lr9 _ (e3 b hb)⟩
theorem RepA.len {K:PySem.W.Frag} {H:Hp} {g:Bool}:∀ {ds:List D} {xs:List V} {as:List Addr},RepA K H g ds xs as->ds.length=xs.length
 | [],_,_,h=>by unfold RepA at h;rw [h.1];rfl
 | d :: ds,_,_,h=>by
  unfold RepA at h
  obtain ⟨x,r,bs,cs,rfl,rfl,h1,h2⟩:=h
  simp [RepA.len h2]
theorem items {K:PySem.W.Frag} {H:Hp} {x:Sl} {ds:List D} (ok:x.ok K H) (h:x.d=.lst ds\/x.d=.tup ds):∃ a xs bs,x.v=.ref a/\((x.d=.lst ds/\LsR K H a xs)\/(x.d=.tup ds/\SqT K H a xs))/\RepA K H (x.o != .dp) ds xs bs/\(∀ b∈bs,b∈x.as)/\(x.o≠.dp->∀ b∈bs,b∈x.frz):=by
 obtain ⟨o,d,v,as⟩:=x
 dsimp only at h
 rcases h with rfl | rfl
 ·cases o with
  | no =>
   have ok:RepL K H true (.lst ds) v as:=ok
   unfold RepL at ok
   obtain ⟨a,xs,bs,rfl,r,q⟩:=ok
   rcases q with ⟨q,rfl⟩ | ⟨_,q,rfl⟩
   ·exact ⟨a,xs,bs,rfl,.inl ⟨rfl,.inl (.inl q)⟩,r,fun b hb=>lc9 _ hb,fun _ b hb=>lc9 _ hb⟩
   ·exact ⟨a,xs,as,rfl,.inl ⟨rfl,.of q⟩,r,fun b hb=>hb,fun _ b hb=>hb⟩
  | rt =>
   obtain ⟨a,xs,bs,rfl,r,q,rfl⟩:=(show RepR K H (.lst ds) v as from ok)
   exact ⟨a,xs,bs,rfl,.inl ⟨rfl,.inl (.inl q)⟩,r,fun b hb=>lc9 _ hb,fun _ b hb=>by simpa [Sl.frz] using hb⟩
  | dp =>
   have ok:RepL K H false (.lst ds) v as:=ok
   unfold RepL at ok
   obtain ⟨a,xs,bs,rfl,r,q⟩:=ok
   rcases q with ⟨q,rfl⟩ | ⟨z,_⟩
   ·exact ⟨a,xs,bs,rfl,.inl ⟨rfl,.inl (.inl q)⟩,r,fun b hb=>lc9 _ hb,fun z=>absurd rfl z⟩
   ·cases z
 ·cases o with
  | no =>
   have ok:RepL K H true (.tup ds) v as:=ok
   unfold RepL at ok
   obtain ⟨a,xs,rfl,q,r⟩:=ok
   exact ⟨a,xs,as,rfl,.inr ⟨rfl,q⟩,r,fun b hb=>hb,fun _ b hb=>hb⟩
  | rt=>exact (show RepR K H (.tup ds) v as from ok).elim
  | dp =>
   have ok:RepL K H false (.tup ds) v as:=ok
   unfold RepL at ok
   obtain ⟨a,xs,rfl,q,r⟩:=ok
   exact ⟨a,xs,as,rfl,.inr ⟨rfl,q⟩,r,fun b hb=>hb,fun z=>absurd rfl z⟩
theorem jk5 {K:PySem.W.Frag} {H:Hp} {x:Sl} {ds:List D} (ok:x.ok K H) (h:x.d=.lst ds\/x.d=.tup ds) (hl:jqz (x.o,x.d)=true):∃ a xs bs,x.v=.ref a/\((x.d=.lst ds/\LsR K H a xs)\/(x.d=.tup ds/\SqT K H a xs))/\RepA K H true ds xs bs/\(∀ b∈bs,b∈x.frz):=by
 obtain ⟨a,xs,bs,e,q,r,h1,h2⟩:=items ok h
 by_cases ho:x.o=.dp
 ·have hp:D.pures ds=true:=by
   unfold jqz at hl
   rw [show (x.o,x.d).1=Own.dp from ho] at hl
   have:wkt x.d=ds:=by rcases h with h | h<;>rw [h]<;>rfl
   simpa [this] using hl
  obtain ⟨rfl,r'⟩:=RepA.pu (g':=true) r hp
  exact ⟨a,xs,[],e,q,r',fun _ z=>nomatch z⟩
 ·have:(x.o != Own.dp)=true:=by simpa using ho
  rw [this] at r
  exact ⟨a,xs,bs,e,q,r,h2 ho⟩
end
end Q
namespace Q
open PySem PySem.Spec PyProof.Rows L2 L3
section
variable {K:PySem.W.Frag} {H:Hp} {x y:Sl}
theorem jqh {i:Int} (ok:x.ok K H) (h:x.d=.int i):x.v=.int i:=by
 have:=RepO.wk ok
 rw [h] at this
 unfold RepL at this
 exact this.1
theorem kxc {i:Bool} (ok:x.ok K H) (h:x.d=.bl i):x.v=.bl i:=by
 have:=RepO.wk ok
 rw [h] at this
 unfold RepL at this
 exact this.1
theorem qzp (ok:x.ok K H) (h:x.d=.non):x.v=.non:=by
 have:=RepO.wk ok
 rw [h] at this
 unfold RepL at this
 exact this.1
theorem jwp {z:Str} (ok:x.ok K H) (h:x.d=.str z):x.v=.str z/\z.length<=sizeLine:=by
 have:=RepO.wk ok
 rw [h] at this
 unfold RepL at this
 exact ⟨this.1,this.2.2⟩
theorem jj2 {i:Int} {g:Bool}:RepL K H g (.int i) (.int i) []:=by unfold RepL;exact ⟨rfl,rfl⟩
theorem kvk {i:Bool} {g:Bool}:RepL K H g (.bl i) (.bl i) []:=by unfold RepL;exact ⟨rfl,rfl⟩
theorem jk4 {g:Bool}:RepL K H g .non .non []:=by unfold RepL;exact ⟨rfl,rfl⟩
theorem jqn {z:Str} {g:Bool} (h:z.length<=sizeLine):RepL K H g (.str z) (.str z) []:=by unfold RepL;exact ⟨rfl,rfl,h⟩
theorem vkr {i:Int} {fr:List Addr}:Out K H H ⟨.dp,.int i,.int i,[]⟩ fr:=jxx jks jj2
theorem qk3 {i:Bool} {fr:List Addr}:Out K H H ⟨.dp,.bl i,.bl i,[]⟩ fr:=jxx jks kvk
theorem wjj {z:Str} {fr:List Addr} (h:z.length<=sizeLine):Out K H H ⟨.dp,.str z,.str z,[]⟩ fr:=jxx jks (jqn h)
theorem vv0 {C:Int->Int->Prop} {g:Int->Int->Int} {f:Int->Int->Option Int} (h:∀ i j k,f i j=some k->C i j/\k=g i j):Ad2 K (rI C fun i j=>.int (g i j)) (pu2 (i2 f)):=by
 intro H x y s Q ox oy hf k
 unfold pu2 i2 at hf
 dsimp only at hf
 split at hf
 ·rename_i i j e1 e2
  cases hk:f i j with
  | none=>rw [hk] at hf;cases hf
  | some n =>
   rw [hk] at hf
   cases oq9 hf
   obtain ⟨hc,rfl⟩:=h i j n hk
   exact ⟨i,j,jqh ox e1,jqh oy e2,hc,k ⟨.dp,.int (g i j),.int (g i j),[]⟩ H rfl rfl vkr⟩
 ·cases hf
theorem qk1 {g:Int->Int->Bool}:Ad2 K (rI0 fun i j=>.bl (g i j)) (pu2 (c2 g)):=by
 intro H x y s Q ox oy hf k
 unfold pu2 c2 at hf
 dsimp only at hf
 split at hf
 ·rename_i i j e1 e2
  cases oq9 hf
  exact ⟨i,j,jqh ox e1,jqh oy e2,k ⟨.dp,.bl (g i j),.bl (g i j),[]⟩ H rfl rfl qk3⟩
 ·cases hf
theorem vjc:Ad2 K (rI vz5 fun i j=>.int (i / j)) (pu2 qk5):=vv0 fun i j k h=>by
 split at h
 ·rename_i c;exact ⟨c,(oq9 h).symm⟩
 ·cases h
theorem jvi:Ad2 K (rI (fun _ j=>0 < j) fun i j=>.int (i % j)) (pu2 jvg):=vv0 fun i j k h=>by
 split at h
 ·rename_i c;exact ⟨c,(oq9 h).symm⟩
 ·cases h
theorem vj9:Ad2 K (rI wky fun i j=>.int (i ^ j.toNat)) (pu2 vj0):=vv0 fun i j k h=>by
 split at h
 ·rename_i c;exact ⟨c,(oq9 h).symm⟩
 ·cases h
end
def vw1 (K:PySem.W.Frag):R2:=fun x y H Q=>∃ l b xs zs,x=.ref l/\y=.ref b/\LsR K H l xs/\LsR K H b zs/\xs.length + zs.length<=sizeLine/\∀ p,H p=none->Q (.ref p) (upd H p (.lst (xs++zs)))
theorem op_catL {X:Cx}:OpR X (binaryOp .Add) (vw1 X.K):=by
 intro pins s σ H x y v u Q I rx ry h
 obtain ⟨l,b,xs,zs,rfl,rfl,hH,hB,hz,q⟩:=h
 cases rx
 cases ry
 obtain ⟨z,its,n,r,e⟩:=hH.is I
 obtain ⟨z2,its2,n2,r2,e2⟩:=hB.is I
 have hl:=r.length
 have hl2:=r2.length
 refine PySem.P.add_list e e2 ?_ (by rw [List.size_toArray,List.size_toArray];omega)
 have ea:its.toArray++its2.toArray=(its++its2).toArray:=by simp
 rw [ea]
 exact ⟨.ref _,_,I.lnew (t':=s.toks) (r.append r2) (by rw [List.length_append];omega),rfl,q _ I.fresh⟩
def vw2 (K:PySem.W.Frag):R2:=fun x y H Q=>∃ a b ys,x=.ref a/\y=.ref b/\SqT K H a []/\SqT K H b ys/\Q (.ref b) H
theorem op_catE {X:Cx}:OpR X (binaryOp .Add) (vw2 X.K):=by
 intro pins s σ H x y v u Q I rx ry h
 obtain ⟨a,b,ys,rfl,rfl,ha,hb,q⟩:=h
 cases rx
 cases ry
 obtain ⟨its,r1,p1,_⟩:=I.tuple ha
 obtain ⟨its2,r2,p2,_⟩:=I.tuple hb
 obtain ⟨⟨cls,dd,data,sl⟩,ho,hc,n,hd⟩:=id p1
 obtain ⟨⟨cls2,dd2,data2,sl2⟩,ho2,hc2,n2,hd2⟩:=id p2
 simp only at hc hd hc2 hd2
 subst hc hd hc2 hd2
 have e:its=[]:=r1.nil_iff.mpr rfl
 subst e
 exact concat_meets ⟨_,ho,rfl⟩ ⟨_,ho2,rfl⟩ noFill_tuple_add seq_tuple_add PySem.F.slot_tuple_add PySem.F.entry_tuple_add (PySem.F.args_tuple_add_2 _ _)
   (tuple_addW0 a b [].toArray its2.toArray n n2 dd dd2 sl sl2 (by simp)) ⟨ho,ho2,⟨.ref b,H,I,rfl,q⟩⟩
def vw3 (K:PySem.W.Frag):R2:=fun x y H Q=>rI0 (fun i j=>.int (i + j)) x y H Q\/(∃ i j,x=.str i/\y=.str j/\i.length + j.length<=sizeLine/\Q (.str (i++j)) H)\/vw1 K x y H Q\/vw2 K x y H Q\/vw0 K x y H Q
theorem jjs {X:Cx} {K:PySem.W.Frag} (hK:X.K=K):OpR X (binaryOp .Add) (vw3 K):=by subst hK;exact op_add.or (op_add_str.or (op_catL.or (op_catE.or vkt)))
theorem RepA.app {K:PySem.W.Frag} {H:Hp} {g:Bool} {ds':List D} {xs':List V} {bs':List Addr} (h':RepA K H g ds' xs' bs'):∀ {ds:List D} {xs:List V} {as:List Addr},RepA K H g ds xs as->RepA K H g (ds++ds') (xs++xs') (as++bs')
 | [],_,_,h=>by unfold RepA at h;rw [h.1,h.2];exact h'
 | d :: ds,_,_,h=>by
  unfold RepA at h
  obtain ⟨x,r,bs,cs,rfl,rfl,h1,h2⟩:=h
  rw [List.cons_append]
  unfold RepA
  exact ⟨x,r++xs',bs,cs++bs',rfl,by rw [List.append_assoc],h1,RepA.app h' h2⟩
theorem jk6 {H:Hp} {p:Addr} {o:HO} (h:H p=none):jw1 H (upd H p o):=fun b u q=>by rw [jjw (jjz q h)];exact q
theorem jwg {K:PySem.W.Frag} {H:Hp} {p:Addr} {ds:List D} {xs:List V} {bs fr:List Addr} (hp:H p=none) (r:RepA K H true ds xs bs) (hb:∀ b∈bs,b∈fr):Out K H (upd H p (.lst xs)) ⟨.rt,.lst ds,.ref p,p :: bs⟩ fr:=by
 refine ⟨jk6 hp,⟨p,xs,bs,rfl,r.kp (Kp.of_same (jk6 hp)),jkd,rfl⟩,fun b hb=>?_,?_,fun b hb'=>hb b (by simpa [Sl.frz] using hb')⟩
 ·have:b=p:=by simpa [Sl.own] using hb
  rw [this];exact hp
 ·simp [Sl.own]
theorem kjj {K:PySem.W.Frag} {H:Hp} {p:Addr} {ds:List D} {xs:List V} {bs fr:List Addr} (hp:H p=none) (r:RepA K H true ds xs bs) (hb:∀ b∈bs,b∈fr):Out K H (upd H p (.tup xs)) ⟨.no,.tup ds,.ref p,bs⟩ fr:=by
 refine ⟨jk6 hp,?_,fun b hb=>(nomatch hb),List.nodup_nil,fun b hb'=>hb b hb'⟩
 show RepL K _ true (.tup ds) (.ref p) bs
 unfold RepL
 exact ⟨p,xs,rfl,SqT.of jkd,r.kp (Kp.of_same (jk6 hp))⟩
theorem jju {K:PySem.W.Frag}:Ad2 K (vw3 K) jk7:=by
 intro H x y s Q ox oy hf k
 unfold jk7 at hf
 dsimp only at hf
 split at hf
 ·rename_i i j e1 e2
  cases oq9 hf
  exact .inl ⟨i,j,jqh ox e1,jqh oy e2,k ⟨.dp,.int _,.int _,[]⟩ H rfl rfl vkr⟩
 ·rename_i i j e1 e2
  split at hf
  ·rename_i hl
   cases oq9 hf
   have hl':(i++j).length<=sizeLine:=by rw [strLen_append];exact hl
   exact .inr (.inl ⟨i,j,(jwp ox e1).1,(jwp oy e2).1,hl,k ⟨.dp,.str _,.str _,[]⟩ H rfl rfl (wjj hl')⟩)
  ·cases hf
 ·rename_i i j e1 e2
  split at hf
  ·rename_i hl
   cases oq9 hf
   obtain ⟨a,xs,bs,e3,q3,r3,h3⟩:=jk5 ox (.inl e1) hl.2.1
   obtain ⟨b,ys,cs,e4,q4,r4,h4⟩:=jk5 oy (.inl e2) hl.2.2
   have q3:LsR K H a xs:=by rcases q3 with ⟨_,z⟩ | ⟨z,_⟩;exact z;rw [e1] at z;cases z
   have q4:LsR K H b ys:=by rcases q4 with ⟨_,z⟩ | ⟨z,_⟩;exact z;rw [e2] at z;cases z
   refine .inr (.inr (.inl ⟨a,b,xs,ys,e3,e4,q3,q4,by rw [<- r3.len,<- r4.len];exact hl.1,fun p hp=>?_⟩))
   exact k ⟨.rt,.lst (i++j),.ref p,p :: (bs++cs)⟩ _ rfl rfl (jwg hp (r4.app r3) fun b hb=>(List.mem_append.mp hb).elim (fun z=>ll9 _ (h3 b z)) fun z=>lr9 _ (h4 b z))
  ·cases hf
 ·rename_i i j e1 e2
  split at hf
  ·rename_i hl
   cases oq9 hf
   obtain ⟨a,xs,bs,e3,q3,r3,h3⟩:=jk5 ox (.inr e1) hl.2.1
   obtain ⟨b,ys,cs,e4,q4,r4,h4⟩:=jk5 oy (.inr e2) hl.2.2
   have q3:SqT K H a xs:=by rcases q3 with ⟨z,_⟩ | ⟨_,z⟩;rw [e1] at z;cases z;exact z
   have q4:SqT K H b ys:=by rcases q4 with ⟨z,_⟩ | ⟨_,z⟩;rw [e2] at z;cases z;exact z
   have ap:=r4.app r3
   have hfr:∀ b∈bs++cs,b∈x.frz++y.frz:=fun b hb=>(List.mem_append.mp hb).elim (fun z=>ll9 _ (h3 b z)) fun z=>lr9 _ (h4 b z)
   have same:∀ c zs,zs=xs++ys->SqT K H c zs->Q (.ref c) H:=fun c zs e hq=>by
    refine k ⟨.no,.tup (i++j),.ref c,bs++cs⟩ H rfl rfl ⟨jks,?_,fun b hb=>(nomatch hb),List.nodup_nil,hfr⟩
    show RepL K H true (.tup (i++j)) (.ref c) (bs++cs)
    unfold RepL
    exact ⟨c,zs,rfl,hq,by rw [e];exact ap⟩
   by_cases hx:xs=[]
   ·subst hx
    exact .inr (.inr (.inr (.inl ⟨a,b,ys,e3,e4,q3,q4,same b ys rfl q4⟩)))
   ·refine .inr (.inr (.inr (.inr ⟨a,b,xs,ys,e3,e4,q3,q4,hx,by rw [<- r3.len,<- r4.len];exact hl.1,fun hy=>?_,fun hy p hp=>?_⟩)))
    ·exact same a xs (by rw [hy,List.append_nil]) q3
    ·exact k ⟨.no,.tup (i++j),.ref p,bs++cs⟩ _ rfl rfl (kjj hp ap hfr)
  ·cases hf
 ·cases hf
end Q
namespace Q
open PySem PySem.Spec PyProof.Rows L2 L3
def tT (Z:Fx0) (q:Bool) (c:Ts):TT:=fun σ H Q=>∃ E L r,Mt E σ L/\World Z.K H L/\c E=some r/\Xc Z σ H L r /\
 ∀ E' k,r=.ok E' k->∀ L' H',Mt E' σ L'->World Z.K H' L'->Step H L H' L'->(q=true->jw1 H H')->Q k H'
def QT (X:Cx) (Z:Fx0) (q:Bool) (c:Ts) (e:Expr):Prop:=PT X e (tT Z q c)
def QW (X:Cx) (Z:Fx0) (q:Bool) (c:Ts) (e:Expr):Prop:=PW X e (tT Z q c)
section
variable {X:Cx} {Z:Fx0} {q qa qb:Bool} {a b c:Ex} {u v:Ts} {e ea eb:Expr} {es:List Expr} {pos:Pos} {α β:Type} {σ:L2.St} {H:Hp} {L:Ls} {E:En}
theorem qzj {e:Expr} {t t':TT} (h:PW X e t) (w:∀ σ H Q,t' σ H Q->t σ H Q):PW X e t':=fun wh pins s σ H Q I q=>h wh pins s σ H Q I (w σ H Q q)
theorem qwp {F:En->Bool->Option (Res α)} {r:Res α} {G:Bool->Hp->Prop} (m:Mt E σ L) (w:World Z.K H L) (h:bnd (u E) F=some r) (xc:Xc Z σ H L r)
  (k:∀ E1 s,F E1 s=some r->∀ L1 H1,Mt E1 σ L1->World Z.K H1 L1->Step H L H1 L1->(q=true->jw1 H H1)->G s H1):tT Z q u σ H G:=by
 rcases jkc h with ⟨E1,s,h1,h2⟩ | ⟨E1,c,h1,h2⟩
 ·exact ⟨E,L,_,m,w,h1,(fun _ _ z=>by cases z),fun E' s' z L' H' m' w' st sm=>by
   injection z with z1 z2
   subst z1 z2
   exact k _ _ h2 L' H' m' w' st sm⟩
 ·exact ⟨E,L,_,m,w,h1,xc.map h2,fun E' s' z=>by cases z⟩
theorem kqj (ha:QT X Z q u ea):QW X Z q u (.BoolOp .And [ea] pos):=vk3 ha
theorem qq0 (ha:QT X Z q u ea):QW X Z q u (.BoolOp .Or [ea] pos):=vwg ha
theorem kzd (ha:QT X Z q u ea) (hb:QW X Z q v (.BoolOp .And (eb :: es) pos)):QW X Z q (Q.tAnd u v) (.BoolOp .And (ea :: eb :: es) pos) :=
 qzj (vwh ha hb) fun σ H Q h_z=>ex8 h_z fun E L r m w hc xc k=>qwp m w hc xc fun E1 s h1 L1 H1 m1 w1 st sm=>by
  cases s with
  | true =>
   rw [if_pos rfl] at h1 ⊢
   exact ⟨E1,L1,r,m1,w1,h1,xc.step st,fun E' k' z L' H' m' w' st' sm'=>k E' k' z L' H' m' w' (st.trans st') fun hq=>jjd (sm hq) (sm' hq)⟩
  | false =>
   rw [if_neg (by decide)] at h1 ⊢
   cases oq9 h1
   exact k _ _ rfl L1 H1 m1 w1 st sm
theorem qx3 (ha:QT X Z q u ea) (hb:QW X Z q v (.BoolOp .Or (eb :: es) pos)):QW X Z q (Q.tOr u v) (.BoolOp .Or (ea :: eb :: es) pos) :=
 qzj (wj9 ha hb) fun σ H Q h_z=>ex8 h_z fun E L r m w hc xc k=>qwp m w hc xc fun E1 s h1 L1 H1 m1 w1 st sm=>by
  cases s with
  | false =>
   rw [if_neg (by decide)] at h1 ⊢
   exact ⟨E1,L1,r,m1,w1,h1,xc.step st,fun E' k' z L' H' m' w' st' sm'=>k E' k' z L' H' m' w' (st.trans st') fun hq=>jjd (sm hq) (sm' hq)⟩
  | true =>
   rw [if_pos rfl] at h1 ⊢
   cases oq9 h1
   exact k _ _ rfl L1 H1 m1 w1 st sm
theorem QW.pt (h:QW X Z q u e):QT X Z q u e:=PW.pt h
theorem vw6 (ha:QT X Z q u ea):QT X Z q (Q.tNot u) (.UnaryOp .Not ea pos) :=
 qq6 (vwi ha) fun σ H Q h_z=>ex8 h_z fun E L r m w hc xc k=>qwp m w hc xc fun E1 s h1 L1 H1 m1 w1 st sm=>by
  cases oq9 h1
  exact k _ _ rfl L1 H1 m1 w1 st sm
theorem jke {op:CmpOp} {r:R2} {f:Sd->Sd->Option Sd} (ho:OpR X (compareOp op) r) (ad:Ad2 Z.K r f) (ha:QV X Z qa a ea) (hb:QV X Z true b eb) (hm:behindInMarks op eb=false) (hf:∀ x y s,f x y=some s->∃ k,s.2=.bl k):QT X Z qa (Q.tE (cF2 f a b)) (.Compare ea [op] [eb] pos) :=
 qq6 (vk7 ho ha hb hm) fun σ H Q h_z=>ex8 h_z fun E L r m w hc xc k=>by
  refine kv4 ad ?_
  have hc':bnd (cF2 f a b E) (fun E x=>val E (truth x.2))=some r:=hc
  rcases jkc hc' with ⟨E1,s,h1,h2⟩ | ⟨E1,c,h1,h2⟩
  ·refine ⟨E,L,_,m,w,h1,(fun _ _ z=>by cases z),fun E' s' z x L' H' e1 e2 m' w' st sm=>?_⟩
   injection z with z1 z2
   subst z1 z2
   obtain ⟨kk,hk⟩:∃ k,s.2=.bl k:=by
    unfold cF2 at h1
    rcases jkc h1 with ⟨E2,s2,h3,h4⟩ | ⟨_,_,_,z⟩
    ·rcases jkc h4 with ⟨E3,s3,h5,h6⟩ | ⟨_,_,_,z⟩
     ·obtain ⟨y,hy,z⟩:=jwe h6
      cases z
      exact hf _ _ _ hy
     ·cases z
    ·cases z
   rw [hk] at h2
   cases oq9 h2
   exact ⟨kk,kxc w'.head (e2.trans hk),k _ _ rfl L' H' m' w'.tail (st.trans Step.drop) fun hq=>(sm hq).1⟩
  ·exact ⟨E,L,_,m,w,h1,xc.map h2,fun E' s' z=>by cases z⟩
end
def Pn (pn:List Nat) (σ σ':L2.St):Prop:=∀ p∈pn,σ'[p]?=σ[p]?
theorem Pn.refl {pn:List Nat} {σ:L2.St}:Pn pn σ σ:=fun _ _=>rfl
theorem Pn.trans {pn:List Nat} {σ σ1 σ2:L2.St} (a:Pn pn σ σ1) (b:Pn pn σ1 σ2):Pn pn σ σ2:=fun p hp=>(b p hp).trans (a p hp)
theorem Pn.set {pn:List Nat} {σ σ1:L2.St} {i:Nat} {y:Option V} (a:Pn pn σ σ1) (h:i∉pn):Pn pn σ (σ1.set i y):=fun p hp=>by
 have:i≠p:=fun e=>h (e▸hp)
 rw [List.getElem?_set_ne this]
 exact a p hp
def FlP (Z:Fx0) (pn:List Nat) (D:Ends) (σ:L2.St) (H:Hp) (L:Ls):Fl->Prop
 | .nx E'=>∀ σ' L' H',Pn pn σ σ'->Mt E' σ' L'->World Z.K H' L'->Step H L H' L'->D.nx σ' H'
 | .ct E'=>∀ σ' L' H',Pn pn σ σ'->Mt E' σ' L'->World Z.K H' L'->Step H L H' L'->D.ct σ' H'
 | .bk E'=>∀ σ' L' H',Pn pn σ σ'->Mt E' σ' L'->World Z.K H' L'->Step H L H' L'->D.bk σ' H'
 | .rt E' a=>∀ (x:Sl) σ' L' H',x.o=a.1->x.d=a.2->Pn pn σ σ'->Mt E' σ' L'->World Z.K H' (some x :: L')->Step H L H' (some x :: L')->D.rt x.v H'
 | .xc E' c=>∀ C σ' L' H',Z.mg c=some (.ref C)->Pn pn σ σ'->Mt E' σ' L'->World Z.K H' L'->Step H L H' L'->Z.EX (.ref C) none H'
theorem FlP.step {Z:Fx0} {pn:List Nat} {D:Ends} {σ σ1:L2.St} {H H1:Hp} {L L1:Ls} {r:Fl} (k:FlP Z pn D σ H L r) (s:Step H L H1 L1) (p:Pn pn σ σ1):FlP Z pn D σ1 H1 L1 r:=by
 cases r with
 | nx E'=>exact fun σ' L' H' p' m w s'=>k σ' L' H' (p.trans p') m w (s.trans s')
 | ct E'=>exact fun σ' L' H' p' m w s'=>k σ' L' H' (p.trans p') m w (s.trans s')
 | bk E'=>exact fun σ' L' H' p' m w s'=>k σ' L' H' (p.trans p') m w (s.trans s')
 | rt E' a=>exact fun x σ' L' H' e1 e2 p' m w s'=>k x σ' L' H' e1 e2 (p.trans p') m w (s.trans s')
 | xc E' c=>exact fun C σ' L' H' hm p' m w s'=>k C σ' L' H' hm (p.trans p') m w (s.trans s')
theorem FlP.xc {α:Type} {Z:Fx0} {pn:List Nat} {D:Ends} {σ:L2.St} {H:Hp} {L:Ls} {E':En} {c:Str} (k:FlP Z pn D σ H L (.xc E' c)):Xc Z σ H L (.exc E' c:Res α):=fun E1 c1 e C L' H' hm m w s=>by
 injection e with h1 h2
 subst h1 h2
 exact k C σ L' H' hm Pn.refl m w s
def tS (Z:Fx0) (pn:List Nat) (c:Sm):TS:=fun D σ H=>∃ E L r,Mt E σ L/\World Z.K H L/\c E=some r/\FlP Z pn D σ H L r
def QS (X:Cx) (Z:Fx0) (pn:List Nat) (c:Sm) (st:Stmt):Prop:=PS X st (tS Z pn c)
def QSs (X:Cx) (Z:Fx0) (pn:List Nat) (c:Sm) (st:List Stmt):Prop:=PSs X st (tS Z pn c)
section
variable {X:Cx} {Z:Fx0} {pn:List Nat} {q qa qb:Bool} {a b c:Ex} {u v:Ts} {A B:Sm} {e ea eb:Expr} {st:Stmt} {ss tt:List Stmt} {pos:Pos} {α:Type} {σ:L2.St} {H:Hp} {L:Ls} {E:En} {D:Ends}
theorem jww {m:Option (Res α)} {F:En->α->Option Fl} {r:Fl} (h:ofE m F=some r):(∃ E1 x,m=some (.ok E1 x)/\F E1 x=some r)\/∃ E1 c,m=some (.exc E1 c)/\r=.xc E1 c:=by
 cases m with
 | none=>cases h
 | some q =>
  cases q with
  | ok E1 x=>exact .inl ⟨E1,x,rfl,h⟩
  | exc E1 c=>exact .inr ⟨E1,c,rfl,(oq9 h).symm⟩
theorem qkr {F:En->Sd->Option Fl} {r:Fl} {G:VK} (m:Mt E σ L) (w:World Z.K H L) (h:ofE (a E) F=some r) (k:FlP Z pn D σ H L r)
  (g:∀ E1 s,F E1 s=some r->∀ (x:Sl) L1 H1,x.o=s.1->x.d=s.2->Mt E1 σ L1->World Z.K H1 (some x :: L1)->Step H L H1 (some x :: L1)->(q=true->jw1 H H1/\∀ b∈x.own,H b=none)->G x.v H1):tQ Z q a σ H G:=by
 rcases jww h with ⟨E1,s,h1,h2⟩ | ⟨E1,c,h1,rfl⟩
 ·exact ⟨E,L,_,m,w,h1,(fun _ _ z=>by cases z),fun E' s' z x L' H' e1 e2 m' w' st sm=>by
   injection z with z1 z2
   subst z1 z2
   exact g _ _ h2 x L' H' e1 e2 m' w' st sm⟩
 ·exact ⟨E,L,_,m,w,h1,k.xc,fun E' s' z=>by cases z⟩
theorem vvp {F:En->Bool->Option Fl} {r:Fl} {G:Bool->Hp->Prop} (m:Mt E σ L) (w:World Z.K H L) (h:ofE (u E) F=some r) (k:FlP Z pn D σ H L r)
  (g:∀ E1 s,F E1 s=some r->∀ L1 H1,Mt E1 σ L1->World Z.K H1 L1->Step H L H1 L1->G s H1):tT Z q u σ H G:=by
 rcases jww h with ⟨E1,s,h1,h2⟩ | ⟨E1,c,h1,rfl⟩
 ·exact ⟨E,L,_,m,w,h1,(fun _ _ z=>by cases z),fun E' s' z L' H' m' w' st sm=>by
   injection z with z1 z2
   subst z1 z2
   exact g _ _ h2 L' H' m' w' st⟩
 ·exact ⟨E,L,_,m,w,h1,k.xc,fun E' s' z=>by cases z⟩
theorem jwu:QSs X Z pn jqv []:=qq7 vka fun D σ H h_z=>ex7 h_z fun E L r m w hc k=>by
 cases oq9 hc
 exact k σ L H Pn.refl m w Step.refl
theorem jje (h1:QS X Z pn A st) (h2:QSs X Z pn B ss):QSs X Z pn (jji A B) (st :: ss):=qq7 (qx7 h1 h2) fun D σ H h_z=>ex7 h_z fun E L r m w hc k=>by
 unfold jji at hc
 cases ha:A E with
 | none=>rw [ha] at hc;cases hc
 | some f =>
  rw [ha] at hc
  cases f with
  | nx E1=>exact ⟨E,L,_,m,w,ha,fun σ' L' H' p m' w' s=>⟨E1,L',r,m',w',hc,k.step s p⟩⟩
  | ct E1=>cases oq9 hc;exact ⟨E,L,_,m,w,ha,k⟩
  | bk E1=>cases oq9 hc;exact ⟨E,L,_,m,w,ha,k⟩
  | rt E1 x=>cases oq9 hc;exact ⟨E,L,_,m,w,ha,k⟩
  | xc E1 x=>cases oq9 hc;exact ⟨E,L,_,m,w,ha,k⟩
theorem jjp (h1:QS X Z pn A st):QSs X Z pn A [st]:=vk9 h1
theorem vwe:QS X Z pn vjs (.Continue pos):=jwn kx4 fun D σ H h_z=>ex7 h_z fun E L r m w hc k=>by
 cases oq9 hc
 exact k σ L H Pn.refl m w Step.refl
theorem jku (h:QE X Z q a ea):QS X Z pn (jkz a) (.Return (some ea) pos):=jwn (vwk h) fun D σ H h_z=>ex7 h_z fun E L r m w hc k =>
 qkr m w hc k fun E1 s h1 x L1 H1 e1 e2 m1 w1 st _=>by
  cases oq9 h1
  exact k x σ L1 H1 e1 e2 Pn.refl m1 w1 st
theorem kv6 (hc:QT X Z q u e) (ha:QSs X Z pn A ss) (hb:QSs X Z pn B tt):QS X Z pn (sIf u A B) (.If e ss tt pos):=jwn (wja hc ha hb) fun D σ H h_z=>ex7 h_z fun E L r m w hc k =>
 vvp m w hc k fun E1 s h1 L1 H1 m1 w1 st=>by
  cases s with
  | true=>rw [if_pos rfl] at h1 ⊢;exact ⟨E1,L1,r,m1,w1,h1,k.step st Pn.refl⟩
  | false=>rw [if_neg (by decide)] at h1 ⊢;exact ⟨E1,L1,r,m1,w1,h1,k.step st Pn.refl⟩
theorem kjo {x:Sl} {i:Nat} {s:Sd} (m:Mt E σ L) (e1:x.o=s.1) (e2:x.d=s.2):Mt (E.set i (some s)) (σ.set i (some x.v)) (L.set i (some x)):=by
 have:=m.set (x:=x) i
 rw [e1,e2] at this
 exact this
theorem jjx {i:Nat} {y:Str} {pos':Pos} (hN:X.N.Nodup) (hi:X.N[i]?=some y) (hx:Loc X.env.scope y) (h:QE X Z q a ea) (hp:i∉pn:=by decide) (hs:swapsWith ea (some (.Name y pos')) pos.line X.env=pure false:=by rfl) (hf:X.fn y=true\/X.env.scope.names.lookup y=some .local:=by first | exact .inl rfl | exact .inr rfl | assumption) :
  QS X Z pn (jjq i a) (.Assign [.Name y pos'] ea pos):=jwn (vwj hN hi hx h hs hf) fun D σ H h_z=>ex7 h_z fun E L r m w hc k =>
 qkr m w hc k fun E1 s h1 x L1 H1 e1 e2 m1 w1 st _=>by
  cases oq9 h1
  exact k (σ.set i (some x.v)) (L1.set i (some x)) H1 (Pn.refl.set hp) (kjo m1 e1 e2) w1.set (st.trans Step.set)
theorem vwf {i:Nat} {y:Str} {pos':Pos} (hp:i∉pn) (h:PS X (.Assign [.Name y pos'] ea pos) (fun D σ H=>tQ Z q a σ H fun v H1=>D.nx (σ.set i (some v)) H1)) :
  QS X Z pn (jjq i a) (.Assign [.Name y pos'] ea pos):=jwn h fun D σ H h_z=>ex7 h_z fun E L r m w hc k =>
 qkr m w hc k fun E1 s h1 x L1 H1 e1 e2 m1 w1 st _=>by
  cases oq9 h1
  exact k (σ.set i (some x.v)) (L1.set i (some x)) H1 (Pn.refl.set hp) (kjo m1 e1 e2) w1.set (st.trans Step.set)
theorem qky (hp:PassesOwn (model X.prog X.w) X.A X.env X.xe) (hc:QT X Z q u e) (hb:QSs X Z pn B ss):QS X Z pn (sWhile u B) (.While e ss [] pos):=jwn (qx8 hp hc hb) fun D σ H h_z=>ex7 h_z fun E L r m w hr k=>by
 obtain ⟨n0,hn⟩:=vje hr
 refine ⟨fun n σ1 H1=>∃ E1 L1,Mt E1 σ1 L1/\World Z.K H1 L1/\whN u B n E1=some r/\Step H L H1 L1/\Pn pn σ σ1,⟨n0,E,L,m,w,hn,Step.refl,Pn.refl⟩,?_⟩
 rintro n σ1 H1 ⟨E1,L1,m1,w1,h1,st1,p1⟩
 cases n with
 | zero=>cases h1
 | succ n =>
  have k1:=k.step st1 p1
  unfold whN at h1
  cases ht:u E1 with
  | none=>rw [ht] at h1;cases h1
  | some f =>
   rw [ht] at h1
   cases f with
   | exc E2 c =>
    cases oq9 h1
    exact ⟨E1,L1,_,m1,w1,ht,k1.xc,fun E' s' z=>by cases z⟩
   | ok E2 kk =>
    refine ⟨E1,L1,_,m1,w1,ht,(fun _ _ z=>by cases z),fun E' s' z L' H' m' w' st sm=>?_⟩
    injection z with z1 z2
    subst z1 z2
    cases kk with
    | false =>
     rw [if_neg (by decide)]
     cases oq9 h1
     exact k1 σ1 L' H' Pn.refl m' w' st
    | true =>
     rw [if_pos rfl]
     dsimp only at h1
     refine ⟨fun σ2 H2=>∃ E2 L2,Mt E2 σ2 L2/\World Z.K H2 L2/\whN u B n E2=some r/\Step H L H2 L2/\Pn pn σ σ2,fun σ2 H2 h2=>⟨n,by omega,h2⟩,?_⟩
     cases hB:B E2 with
     | none=>rw [hB] at h1;cases h1
     | some g =>
      rw [hB] at h1
      have k2:=k1.step st Pn.refl
      refine ⟨E2,L',g,m',w',hB,?_⟩
      cases g with
      | nx E3=>exact fun σ3 L3 H3 p3 m3 w3 s3=>⟨E3,L3,m3,w3,h1,st1.trans (st.trans s3),p1.trans p3⟩
      | ct E3=>exact fun σ3 L3 H3 p3 m3 w3 s3=>⟨E3,L3,m3,w3,h1,st1.trans (st.trans s3),p1.trans p3⟩
      | bk E3=>cases oq9 h1;exact k2
      | rt E3 x=>cases oq9 h1;exact k2
      | xc E3 c=>cases oq9 h1;exact k2
end
end Q
namespace Q
open PySem PySem.Spec PyProof.Rows L2 L3
structure Walks (K:PySem.W.Frag) (J:It) (T:List Sl) (ds:List D):Prop where
 no:∀ t∈T,t.o=.no
 go:∀ i H,(∀ t∈T,t.ok K H)->i < ds.length->J.go i H
 stop:∀ H,(∀ t∈T,t.ok K H)->J.stop ds.length H
 yld:∀ i H v H' d,(∀ t∈T,t.ok K H)->J.yld i H v H'->ds[i]?=some d->∃ z:Sl,z.o=.no/\z.d=d/\z.v=v/\jw1 H H'/\z.ok K H'/\∀ b∈z.as,∃ t∈T,b∈t.as
def tI (Z:Fx0) (q:Bool) (it:Ev (List D)):TI:=fun σ H R=>∃ E L r,Mt E σ L/\World Z.K H L/\it E=some r/\Xc Z σ H L r /\
 ∀ E' ds,r=.ok E' ds->∀ J T L' H',Mt E' σ L'->World Z.K H' (L'++T.map some)->Step H L H' (L'++T.map some)->ds.length<=sizeLine->(q=true->jw1 H H')->Walks Z.K J T ds->R J H'
def QI (X:Cx) (Z:Fx0) (q:Bool) (tg:Expr) (it:Ev (List D)) (e:Expr):Prop:=PI X tg e (tI Z q it)
def wke (K:PySem.W.Frag) (H0:Hp) (T:List Sl) (H:Hp):Prop:=(∀ t∈T,t.ok K H)/\∀ t∈T,Kp H0 H t.as
structure WalksD (K:PySem.W.Frag) (H0:Hp) (J:It) (T:List Sl) (ds:List D):Prop where
 no:∀ t∈T,t.o=.no
 go:∀ i H,wke K H0 T H->i < ds.length->J.go i H
 stop:∀ H,wke K H0 T H->J.stop ds.length H
 yld:∀ i H v H' d,wke K H0 T H->J.yld i H v H'->ds[i]?=some d->∃ z:Sl,z.o=.no/\z.d=d/\z.v=v/\jw1 H H'/\z.ok K H'/\∀ b∈z.as,∃ t∈T,b∈t.as
theorem Walks.D {K:PySem.W.Frag} {H0:Hp} {J:It} {T:List Sl} {ds:List D} (h:Walks K J T ds):WalksD K H0 J T ds:=⟨h.no,fun i H o=>h.go i H o.1,fun H o=>h.stop H o.1,fun i H v H' d o=>h.yld i H v H' d o.1⟩
def tID (Z:Fx0) (q:Bool) (it:Ev (List D)):TI:=fun σ H R=>∃ E L r,Mt E σ L/\World Z.K H L/\it E=some r/\Xc Z σ H L r /\
 ∀ E' ds,r=.ok E' ds->∀ J T L' H',Mt E' σ L'->World Z.K H' (L'++T.map some)->Step H L H' (L'++T.map some)->ds.length<=sizeLine->(q=true->jw1 H H')->WalksD Z.K H' J T ds->R J H'
def QID (X:Cx) (Z:Fx0) (q:Bool) (tg:Expr) (it:Ev (List D)) (e:Expr):Prop:=PI X tg e (tID Z q it)
theorem QI.D {X:Cx} {Z:Fx0} {q:Bool} {tg:Expr} {it:Ev (List D)} {e:Expr} (h:QI X Z q tg it e):QID X Z q tg it e:=fun pins s σ H R I hz=>h pins s σ H R I (by
 obtain ⟨E,L,r,m,w,e,x,k⟩:=hz
 exact ⟨E,L,r,m,w,e,x,fun E' ds z J T L' H' m' w' st hl sm wk=>k E' ds z J T L' H' m' w' st hl sm wk.D⟩)
structure WalksS (K:PySem.W.Frag) (q:Bool) (H0:Hp) (J:It) (T:List Sl) (ds:List D):Prop where
 no:∀ t∈T,t.o=.no
 go:∀ i H,(∀ t∈T,t.ok K H)->(q=true->jw1 H0 H)->i < ds.length->J.go i H
 stop:∀ H,(∀ t∈T,t.ok K H)->(q=true->jw1 H0 H)->J.stop ds.length H
 yld:∀ i H v H' d,(∀ t∈T,t.ok K H)->(q=true->jw1 H0 H)->J.yld i H v H'->ds[i]?=some d->∃ z:Sl,z.o=.no/\z.d=d/\z.v=v/\jw1 H H'/\z.ok K H'/\∀ b∈z.as,∃ t∈T,b∈t.as
theorem vjf {K:PySem.W.Frag} {q:Bool} {H0:Hp} {J:It} {T:List Sl} {ds:List D} (h:Walks K J T ds):WalksS K q H0 J T ds:=⟨h.no,fun i H o _=>h.go i H o,fun H o _=>h.stop H o,fun i H v H' d o _=>h.yld i H v H' d o⟩
def tIS (Z:Fx0) (q:Bool) (it:Ev (List D)):TI:=fun σ H R=>∃ E L r,Mt E σ L/\World Z.K H L/\it E=some r/\Xc Z σ H L r /\
 ∀ E' ds,r=.ok E' ds->∀ J T L' H',Mt E' σ L'->World Z.K H' (L'++T.map some)->Step H L H' (L'++T.map some)->ds.length<=sizeLine->(q=true->jw1 H H')->WalksS Z.K q H J T ds->R J H'
def QIS (X:Cx) (Z:Fx0) (q:Bool) (tg:Expr) (it:Ev (List D)) (e:Expr):Prop:=PI X tg e (tIS Z q it)
theorem wkp {X:Cx} {Z:Fx0} {q:Bool} {tg:Expr} {it:Ev (List D)} {e:Expr} (h:QI X Z q tg it e):QIS X Z q tg it e:=fun pins s σ H R I hz=>h pins s σ H R I (by
 obtain ⟨E,L,r,m,w,e,x,k⟩:=hz
 exact ⟨E,L,r,m,w,e,x,fun E' ds z J T L' H' m' w' st hl sm wk=>k E' ds z J T L' H' m' w' st hl sm (vjf wk)⟩)
def tG (Z:Fx0) (pn:List Nat) (tg:Tg):TG:=fun v σ H Q=>∃ (E:En) (L:Ls) (z:Sl) (E':En),Mt E σ L/\World Z.K H (some z :: L)/\z.o=.no/\z.v=v/\tg.put z.d E=some E' /\
 ∀ σ' L',Pn pn σ σ'->Mt E' σ' L'->World Z.K H L'->Step H (some z :: L) H L'->Q σ' H
def QG (X:Cx) (Z:Fx0) (pn:List Nat) (tg:Tg) (e:Expr):Prop:=PG X e (tG Z pn tg)
section
variable {X:Cx} {Z:Fx0} {pn:List Nat} {e:Expr} {σ:L2.St} {H:Hp} {L:Ls} {E:En}
theorem qzl {t t':TG} (h:PG X e t) (w:∀ v σ H Q,t' v σ H Q->t v σ H Q):PG X e t':=fun pins s σ H x v Q I r q=>h pins s σ H x v Q I r (w x σ H Q q)
theorem kkj {i:Nat} (h:PG X e (qvk i)) (hp:i∉pn:=by decide):QG X Z pn (.n i) e:=qzl h fun v σ H Q ⟨E,L,z,E',m,w,ho,hv,hput,k⟩=>by
 cases oq9 hput
 rw [<- hv]
 exact k (σ.set i (some z.v)) (L.set i (some z)) (Pn.refl.set hp) (kjo m ho rfl) w.set Step.set
def gNs:List Nat->TGs
 | []=>wku
 | i :: is=>vxu (qvk i) (gNs is)
theorem qvj {Q:L2.St->Hp->Prop} {M:Ls} {σ0:L2.St}:∀ {is:List Nat} {ds:List D} {xs:List V} {bs:List Addr} {E:En} {L:Ls} {σ:L2.St} {E':En},Mt E σ L->World Z.K H L->RepA Z.K H true ds xs bs->(∀ b∈bs,b∉jjb L)->(∀ b∈bs,b∈jjk M)->Step H M H L->Pn pn σ0 σ ->
  setAll is ds E=some E'->(∀ i∈is,i∉pn)->(∀ σ' L',Pn pn σ0 σ'->Mt E' σ' L'->World Z.K H L'->Step H M H L'->Q σ' H)->gNs is xs σ H Q
 | [],[],xs,bs,E,L,σ,E',m,w,r,_,_,st,p,e,_,k=>by
  cases oq9 e
  unfold RepA at r
  exact ⟨r.1,k σ L p m w st⟩
 | [],_ :: _,_,_,_,_,_,_,_,_,_,_,_,_,_,e,_,_=>by cases e
 | _ :: _,[],_,_,_,_,_,_,_,_,_,_,_,_,_,e,_,_=>by cases e
 | i :: is,d :: ds,xs,bs,E,L,σ,E',m,w,r,hb,hf,st,p,e,hi,k=>by
  unfold RepA at r
  obtain ⟨x,rr,cs,es,rfl,rfl,h1,h2⟩:=r
  have w1:World Z.K H (some ⟨.no,d,x,cs⟩ :: L):=w.consNo (x:=⟨.no,d,x,cs⟩) h1 rfl fun b hb'=>hb b (ll9 _ hb')
  have s1:Step H M H (L.set i (some ⟨.no,d,x,cs⟩)):=by
   refine ⟨fun _ _ h _=>h,fun a ha=>?_,fun a ha=>?_⟩
   ·rcases jqe ha with z | z
    ·exact nomatch z
    ·exact st.own a z
   ·rcases jqk ha with z | z
    ·exact .inl (hf a (ll9 _ z))
    ·exact st.frz a z
  exact ⟨x,rr,rfl,qvj (is:=is) (kjo (x:=⟨.no,d,x,cs⟩) (s:=(.no,d)) m rfl rfl) w1.set h2 (fun b hb' ho=>by
   rcases jqe ho with z | z
   ·exact nomatch z
   ·exact hb b (lr9 _ hb') z) (fun b hb'=>hf b (lr9 _ hb')) s1 (p.set (hi i List.mem_cons_self)) e (fun j hj=>hi j (lc9 _ hj)) k⟩
theorem kkv:∀ {is:List Nat} {ds:List D} {E E':En},setAll is ds E=some E'->is.length=ds.length
 | [],[],_,_,_=>rfl
 | [],_ :: _,_,_,e=>by cases e
 | _ :: _,[],_,_,e=>by cases e
 | i :: is,d :: ds,E,E',e=>by rw [List.length_cons,List.length_cons,kkv (E:=E.set i (some (.no,d))) e]
def wjw (K:PySem.W.Frag) (n:Nat) (t:TGs):TG:=fun v σ H Q=>∃ a xs,v=.ref a/\(SqT K H a xs\/SqL K H a xs)/\xs.length=n/\t xs σ H Q
section
variable {prog:Program} {w:PySem.World} {A:Around} {E':Value->Shared->Prop}
theorem kwk {it t:Addr} {items:Array Value} (hne:t≠it):∀ (n i:Nat) (s:Shared) (Q:List Value->Shared->Prop),s.heap.IsListIter it t i->s.heap.IsList t items->i + n<=items.size ->
  (∀ h',h'.IsListIter it t (i + n)->Heap.SameBut it s.heap h'->Q ((items.toList.drop i).take n) { s with heap:=h' })->wpAny (model prog w) A (draw (.ref it) n) Q E' s
 | 0,i,s,Q,hit,_,_,hQ=>by
  show wpAny _ _ (pure []) Q E' s
  exact wpAny_pure (by simpa using hQ s.heap hit (Heap.SameBut.refl ..))
 | n + 1,i,s,Q,hit,ht,hle,hQ=>by
  have hlt:i < items.size:=by omega
  show wpAny _ _ (pyNext (.ref it) >>= _) Q E' s
  refine wpAny_bind (wpAny_pyNext_list_item hit ht (x:=items[i]) (by simp [hlt]) fun h₁ hit₁ hs₁=>?_)
  have ht₁:h₁.IsList t items:=by
   obtain ⟨o,ho,r⟩:=ht
   exact ⟨o,(hs₁.2 t hne).trans ho,r⟩
  refine wpAny_bind (wpAny_holding (kwk hne n (i + 1) _ _ hit₁ ht₁ (by omega) fun h₂ hit₂ hs₂=>wpAny_pure ?_))
  have hd:items.toList.drop i=items[i] :: items.toList.drop (i + 1):=by simp [List.drop_eq_getElem_cons,hlt]
  have:=hQ h₂ (by rw [show i + (n + 1)=i + 1 + n by omega];exact hit₂) (hs₁.trans hs₂)
  rw [hd,List.take_succ_cons] at this
  exact this
theorem jzu {s:Shared} {t:Addr} {items:Array Value} {Q:List Value->Shared->Prop} (hh:A.handled=none) (ht:s.heap.IsList t items)
  (hQ:∀ h',Heap.ExtBut s.heap.objs.size s.heap h'->Q items.toList { s with heap:=h' }):wpAny (model prog w) A (unpackItems (.ref t) items.size none) Q E' s:=by
 have hlt:t≠s.heap.objs.size:=by obtain ⟨o,ho,_⟩:=ht;exact Nat.ne_of_lt (Heap.lt_size ho)
 unfold unpackItems
 refine wpAny_bind ?_
 unfold notIterableAtAll
 refine wpAny_bind (wpAny_specialOf ht.typeIs slot_list_iter.lookup ?_)
 refine wpAny_pure ?_
 simp only [Bool.false_eq_true,if_false]
 refine wpAny_bind (wpAny_holding (wpAny_pyIter_list ht ?_))
 have ht0:∀ o:Obj,(s.heap.push o).IsList t items:=fun o=>by
  obtain ⟨ob,ho,r⟩:=ht
  exact ⟨ob,Heap.get?_push_of_some _ ho,r⟩
 refine wpAny_bind (wpAny_holding (kwk hlt items.size 0 _ _ ⟨_,Heap.get?_push_size _ rfl,rfl,rfl⟩ (ht0 _) (by omega) fun h₁ hit₁ hs₁=>?_))
 have hall:List.take items.size (List.drop 0 items.toList)=items.toList:=by
  rw [List.drop_zero];exact List.take_of_length_le (by simp)
 rw [hall]
 rw [if_neg (by simp)]
 have ht₁:h₁.IsList t items:=by
  obtain ⟨o,ho,r⟩:=ht0 _
  exact ⟨o,(hs₁.2 t hlt).trans ho,r⟩
 refine wpAny_bind (wpAny_holding (wpAny_pyNext_list_end hh hit₁ ht₁ (by simp) fun h₂ he₂=>?_))
 simp only [Option.isSome_none,Bool.false_eq_true,if_false]
 exact wpAny_pure (hQ h₂ fun b o hb e=>he₂ b o hb (hs₁.extBut b o hb (Heap.get?_push_of_some _ e)))
theorem jzm {s:Shared} {env:Env} {elts:List Expr} {x1} {pos:Pos} {t:Addr} {items:Array Value} {Q:Unit->Shared->Prop} (hh:A.handled=none) (ht:s.heap.IsList t items)
  (hn:(assignEach elts env).length=items.size) (hstar:(assignEach elts env).findIdx? (·.1)=none)
  (h:∀ h',Heap.ExtBut s.heap.objs.size s.heap h'->wpAny (model prog w) A (assignInOrder ((assignEach elts env).map (·.2)) items.toList) Q E' { s with heap:=h' }) :
  wpAny (model prog w) A (assign (.Tuple elts x1 pos) env (.ref t)) Q E' s:=by
 rw [assign_Tuple]
 refine wpAny_bind (wpAny_standAt ?_)
 unfold unpack
 rw [hn,hstar]
 exact wpAny_bind (wpAny_holding (jzu hh ht h))
end
theorem kvp (K:PySem.W.Frag) {es:List Expr} {k:Nat} {t:TGs} {n:Nat} {pos:Pos} (h:PGs X es t) (hc:X.calm=true:=by rfl) (hK:X.K=K:=by rfl)
  (hn:(assignEach es X.env).length=n:=by rfl) (hst:(assignEach es X.env).findIdx? (·.1)=none:=by rfl):PG X (.Tuple es k pos) (wjw K n t):=by
 subst hK
 intro pins s σ H v u Q I r hw
 obtain ⟨a,xs,e1,hq,hl,hw⟩:=hw
 subst e1
 cases r
 rcases hq with hq | hq
 ·obtain ⟨its,rv,ht,hz⟩:=I.tuple hq
  refine assign_Tuple_tuple (I.ok.hd hc) ht (by simp [hn,<- hl,rv.length]) hst fun h' hx=>?_
  have I1:L2.Inv X pins σ H { s with heap:=h' }:=I.kept (t':=s.toks) fun b o e=>hx b o (Nat.ne_of_lt (Heap.lt_size e)) e
  exact h pins _ σ H xs _ Q I1 (by simpa using rv) hw
 ·obtain ⟨its,rv,ht,hz⟩:=I.list hq
  refine jzm (I.ok.hd hc) ht.isList (by simp [hn,<- hl,rv.length]) hst fun h' hx=>?_
  have I1:L2.Inv X pins σ H { s with heap:=h' }:=I.kept (t':=s.toks) fun b o e=>hx b o (Nat.ne_of_lt (Heap.lt_size e)) e
  exact h pins _ σ H xs _ Q I1 (by simpa using rv) hw
theorem vwb {is:List Nat} (h:PG X e (wjw Z.K is.length (gNs is))) (hp:∀ i∈is,i∉pn:=by decide):QG X Z pn (.t is) e:=qzl h fun v σ H Q ⟨E,L,z,E',m,w,ho,hv,hput,k⟩=>by
 have fin:∀ ds:List D,(z.d=.lst ds\/z.d=.tup ds)->setAll is ds E=some E'->wjw Z.K is.length (gNs is) v σ H Q:=fun ds hd hput=>by
  obtain ⟨a,xs,bs,e1,q1,r,h1,h2⟩:=items w.head hd
  rw [ho] at r
  refine ⟨a,xs,hv.symm.trans e1,?_,by rw [kkv hput,r.len],qvj (M:=some z :: L) m w.tail r (fun b hb=>w.apart b (h1 b hb)) (fun b hb=>?_) Step.drop Pn.refl hput hp k⟩
  ·rcases q1 with ⟨_,z'⟩ | ⟨_,z'⟩
   ·exact .inr z'.sq
   ·exact .inl z'
  ·rw [jjg,kwb ho]
   exact ll9 _ (h1 b hb)
 cases hd:z.d with
 | tup ds=>rw [hd] at hput;exact fin ds (.inr hd) hput
 | lst ds=>rw [hd] at hput;exact fin ds (.inl hd) hput
 | _=>rw [hd] at hput;cases hput
theorem qkz {is:List Nat} {q:Bool} {c:Ex} {ea tg:Expr} {pos:Pos} (h:QE X Z q c ea) (hg:QG X Z pn (.t is) tg) (hs:swapsWithSole [tg] ea pos.line X.env=pure false:=by rfl) (hw:swappedStores [tg] ea X.env=pure none:=by rfl) (h1:(assignEach [tg] X.env).map (·.2)=[assign tg X.env]:=by rfl) :
  QS X Z pn (vjr is c) (.Assign [tg] ea pos):=jwn (vwm h hg hs hw h1) fun D σ H h_z=>ex7 h_z fun E L r m w hc k =>
 qkr m w (show ofE (c E) _=some r from hc) k fun E1 s h1 x L1 H1 e1 e2 m1 w1 st _=>by
  cases hp:Tg.put (.t is) s.2 E1 with
  | none=>rw [hp] at h1;cases h1
  | some E2 =>
   rw [hp] at h1
   cases oq9 h1
   have w2:World Z.K H1 (some x.let :: L1):=w1.tail.consNo (jzq w1.head) rfl fun b hb=>w1.apart b hb
   have s2:Step H L H1 (some x.let :: L1):=jxl (x:=x.let) (st.trans Step.drop) (kj0 (x:=x) st) rfl
   exact ⟨E1,L1,x.let,E2,m1,w2,rfl,rfl,by rw [show x.let.d=s.2 from e2];exact hp,fun σ' L' p m' w' s'=>k σ' L' H1 p m' w' (s2.trans s')⟩
end
section
variable {X:Cx} {Z:Fx0} {pn:List Nat} {q:Bool} {tg iter:Expr} {it:Ev (List D)} {t:Tg} {B:Sm} {ss:List Stmt} {pos:Pos} {σ:L2.St} {H:Hp} {L:Ls} {E:En}
theorem kq1 {K:PySem.W.Frag} {T:List Sl} {H1 H2:Hp} {L1:Ls} {z:Sl} (w:World K H1 (L1++T.map some)) (hT:∀ t∈T,t.o=.no) (sm:jw1 H1 H2) (ok:z.ok K H2) (ho:z.o=.no) (hz:∀ b∈z.as,∃ t∈T,b∈t.as) :
  World K H2 ((some z :: L1)++T.map some)/\Step H1 (L1++T.map some) H2 ((some z :: L1)++T.map some):=by
 have w2:World K H2 (L1++T.map some):=⟨fun x hx=>RepO.kp (w.ok x hx) (Kp.of_same sm),w.nd,w.ds⟩
 have hf:∀ b∈z.as,b∈jjk (L1++T.map some):=fun b hb=>by
  obtain ⟨t,ht,hbt⟩:=hz b hb
  rw [jja]
  exact lr9 _ (mem_frozen.mpr ⟨t,List.mem_map_of_mem ht,by rw [kwb (hT t ht)];exact hbt⟩)
 refine ⟨w2.consNo ok ho fun b hb hL=>w2.ds b hL (hf b hb),fun a ob h _=>sm a ob h,fun a ha=>?_,fun a ha=>?_⟩
 ·rw [List.cons_append,jj7,qqf ho] at ha
  exact .inl ha
 ·rw [List.cons_append,jjg,kwb ho] at ha
  rcases List.mem_append.mp ha with q | q
  ·exact .inl (hf a q)
  ·exact .inl q
theorem stay {K:PySem.W.Frag} {T L1 L2:Ls} {H1 H2:Hp} (w:World K H1 (L1++T)) (s:Step H1 L1 H2 L2) (w2:World K H2 L2):World K H2 (L2++T)/\Step H1 (L1++T) H2 (L2++T):=⟨s.frame w w2 w.left,s.frm⟩
theorem Step.dropT {T:Ls} {H1:Hp} {L1:Ls}:Step H1 (L1++T) H1 L1:=⟨fun _ _ h _=>h,fun a ha=>.inl (by rw [jj5];exact ll9 _ ha),fun a ha=>.inl (by rw [jja];exact ll9 _ ha)⟩
theorem Kp.trans {H H1 H2:Hp} {as:List Addr} (a:Kp H H1 as) (b:Kp H1 H2 as):Kp H H2 as:=⟨fun c xs e=>b.1 c xs (a.1 c xs e),fun c o u e=>b.2.1 c o u (a.2.1 c o u e),fun c hc ob e=>b.2.2 c hc ob (a.2.2 c hc ob e)⟩
theorem kzf {K:PySem.W.Frag} {H2 H3:Hp} {L2 L3:Ls} {T:List Sl} (w:World K H2 (L2++T.map some)) (hT:∀ t∈T,t.o=.no) (s:Step H2 L2 H3 L3) {H0:Hp} (h:∀ t∈T,Kp H0 H2 t.as):∀ t∈T,Kp H0 H3 t.as:=fun t ht =>
 (h t ht).trans (s.kp w.left fun b hb z=>w.ds b (by rw [jj5];exact ll9 _ z) (by
  rw [jja]
  exact lr9 _ (mem_frozen.mpr ⟨t,List.mem_map_of_mem ht,by rw [kwb (hT t ht)];exact hb⟩)))
theorem vwc (hp:PassesOwn (model X.prog X.w) X.A X.env X.xe) (hc:X.calm=true) (hi:QID X Z q tg it iter) (hg:QG X Z pn t tg) (hb:QSs X Z pn B ss) (hs:∀ x,foldedSetIterable iter X.env x=pure x:=by intro _;rfl):QS X Z pn (jzn it t B) (.For tg iter ss [] pos):=jwn (vwl hp hc hi hg hb hs) fun D σ H h_z=>ex7 h_z fun E L r m w hr k=>by
 have hr:ofE (it E) (fun E ds=>qwk t B ds E)=some r:=hr
 rcases jww hr with ⟨E1,ds,h1,h2⟩ | ⟨E1,c,h1,rfl⟩
 rotate_left
 ·exact ⟨E,L,_,m,w,h1,k.xc,fun E' s' z=>by cases z⟩
 refine ⟨E,L,_,m,w,h1,(fun _ _ z=>by cases z),fun E' ds' z J T L' H' m' w' st hz _ wk=>?_⟩
 injection z with z1 z2
 subst z1 z2
 have okT:∀ {H2:Hp} {L2:Ls},World Z.K H2 (L2++T.map some)->∀ t∈T,t.ok Z.K H2:=fun w2 t ht=>w2.ok t (lr9 _ (List.mem_map_of_mem ht))
 refine ⟨fun i n σ1 H1=>∃ E1 L1,Mt E1 σ1 L1/\World Z.K H1 (L1++T.map some)/\Step H L H1 (L1++T.map some)/\Pn pn σ σ1/\qwk t B (ds.drop i) E1=some r/\i<=ds.length/\n=ds.length - i/\∀ t∈T,Kp H' H1 t.as,⟨_,E1,L',m',w',st,Pn.refl,h2,Nat.zero_le _,rfl,fun _ _=>Kp.of_same jks⟩,?_⟩
 rintro i n σ1 H1 ⟨E1,L1,m1,w1,st1,p1,f1,hi,rfl,pins⟩
 by_cases hlt:i < ds.length
 ·have hd:ds.drop i=ds[i] :: ds.drop (i + 1):=List.drop_eq_getElem_cons hlt
  rw [hd] at f1
  unfold qwk at f1
  cases hput:t.put ds[i] E1 with
  | none=>rw [hput] at f1;cases f1
  | some E2 =>
   rw [hput] at f1
   dsimp only at f1
   refine .inr ⟨wk.go i H1 ⟨okT w1,pins⟩ hlt,fun σ2 H2=>∃ E2 L2,Mt E2 σ2 L2/\World Z.K H2 (L2++T.map some)/\Step H L H2 (L2++T.map some)/\Pn pn σ σ2/\qwk t B (ds.drop (i + 1)) E2=some r/\∀ t∈T,Kp H' H2 t.as,fun σ2 H2 ⟨E2,L2,a1,a2,a3,a4,a5,a6⟩=>⟨ds.length - (i + 1),by omega,E2,L2,a1,a2,a3,a4,a5,hlt,rfl,a6⟩,fun v H2 hy=>?_⟩
   obtain ⟨z,zo,zd,zv,sm,zok,zas⟩:=wk.yld i H1 v H2 ds[i] ⟨okT w1,pins⟩ hy (List.getElem?_eq_getElem hlt)
   obtain ⟨wz,sz⟩:=kq1 w1 wk.no sm zok zo zas
   refine ⟨E1,L1,z,E2,m1,wz.left,zo,zv,by rw [zd];exact hput,fun σ2 L2 p2 m2 w2 st2=>?_⟩
   obtain ⟨w3,st3⟩:=stay wz st2 w2
   have st4:Step H L H2 (L2++T.map some):=st1.trans (sz.trans st3)
   have pins2:∀ t∈T,Kp H' H2 t.as:=fun t ht=>(pins t ht).trans (Kp.of_same sm)
   cases hB:B E2 with
   | none=>rw [hB] at f1;cases f1
   | some g =>
    rw [hB] at f1
    refine ⟨E2,L2,g,m2,w2,hB,?_⟩
    have fin:∀ {g:Fl},g=r->(∀ σ',D.nx σ'=D.nx σ')->FlP Z pn D σ2 H2 (L2++T.map some) g:=fun e _=>e▸k.step st4 (p1.trans p2)
    cases g with
    | nx E3 =>
     intro σ3 L3 H3 p3 m3 w4 s3
     obtain ⟨w5,s5⟩:=stay w3 s3 w4
     exact ⟨E3,L3,m3,w5,st4.trans s5,(p1.trans p2).trans p3,f1,kzf w3 wk.no s3 pins2⟩
    | ct E3 =>
     intro σ3 L3 H3 p3 m3 w4 s3
     obtain ⟨w5,s5⟩:=stay w3 s3 w4
     exact ⟨E3,L3,m3,w5,st4.trans s5,(p1.trans p2).trans p3,f1,kzf w3 wk.no s3 pins2⟩
    | bk E3 =>
     have e:=oq9 f1
     subst e
     intro σ3 L3 H3 p3 m3 w4 s3
     exact k σ3 L3 H3 ((p1.trans p2).trans p3) m3 w4 ((st4.trans Step.dropT).trans s3)
    | rt E3 x =>
     have e:=oq9 f1
     subst e
     intro y σ3 L3 H3 e1 e2 p3 m3 w4 s3
     exact k y σ3 L3 H3 e1 e2 ((p1.trans p2).trans p3) m3 w4 ((st4.trans Step.dropT).trans s3)
    | xc E3 c =>
     have e:=oq9 f1
     subst e
     intro C σ3 L3 H3 hm p3 m3 w4 s3
     exact k C σ3 L3 H3 hm ((p1.trans p2).trans p3) m3 w4 ((st4.trans Step.dropT).trans s3)
 ·have e:i=ds.length:=by omega
  subst e
  rw [List.drop_length] at f1
  cases oq9 f1
  exact .inl ⟨wk.stop H1 ⟨okT w1,pins⟩,k σ1 L1 H1 p1 m1 w1.left (st1.trans Step.dropT)⟩
theorem jzw (hp:PassesOwn (model X.prog X.w) X.A X.env X.xe) (hc:X.calm=true) (hi:QI X Z q tg it iter) (hg:QG X Z pn t tg) (hb:QSs X Z pn B ss) (hs:∀ x,foldedSetIterable iter X.env x=pure x:=by intro _;rfl):QS X Z pn (jzn it t B) (.For tg iter ss [] pos):=vwc hp hc hi.D hg hb hs
end
end Q
namespace Q
open PySem PySem.Spec PyProof.Rows L2 L3
mutual
def jj9 (h:Heap):D->Value->Prop
 | .non,u=>u=.none
 | .bl b,u=>u=.bool b
 | .int i,u=>∃ t,u=.int i t
 | .str z,u=>∃ t,u=.str z t
 | .tup ds,u=>∃ a us,u=.ref a/\h.IsTuple a us.toArray/\CReps h ds us
 | .lst ds,u=>∃ a us,u=.ref a/\h.IsList a us.toArray/\CReps h ds us
 | .dct _,_=>False
 | .obj _ _,_=>False
def CReps (h:Heap):List D->List Value->Prop
 | [],us=>us=[]
 | d :: ds,us=>∃ u r,us=u :: r/\jj9 h d u/\CReps h ds r
end
theorem kzz {n:Nat} {k:List (D×D)}:D.flat n (.dct k)=false:=by cases n<;>simp [D.flat]
theorem kzy {n:Nat} {c:Str} {k:List (Str×D)}:D.flat n (.obj c k)=false:=by cases n<;>simp [D.flat]
section
variable {X:Cx} {pins:List (Addr×Obj)} {σ:L2.St} {H:Hp} {s:Shared}
mutual
theorem jxg (I:Inv X pins σ H s) {g:Bool}:∀ {n:Nat} {d:D} {v:V} {as:List Addr} {u:Value},RepL X.K H g d v as->d.flat n=true->RelV v u->jj9 s.heap d u
 | _,.non,_,_,_,h,_,r=>by
  unfold RepL at h;rw [h.1] at r;unfold jj9;exact r
 | _,.bl _,_,_,_,h,_,r=>by
  unfold RepL at h;rw [h.1] at r;unfold jj9;exact r
 | _,.int _,_,_,_,h,_,r=>by
  unfold RepL at h;rw [h.1] at r;unfold jj9;exact r
 | _,.str _,_,_,_,h,_,r=>by
  unfold RepL at h;rw [h.1] at r;unfold jj9;exact r
 | 0,.tup ds,_,_,_,h,f,r=>by unfold D.flat at f;cases f
 | n + 1,.tup ds,_,_,_,h,f,r=>by
  unfold RepL at h
  unfold D.flat at f
  obtain ⟨a,xs,rfl,q,ra⟩:=h
  cases r
  obtain ⟨its,rv,p,_⟩:=I.tuple q
  unfold jj9
  exact ⟨a,its,rfl,p,creps_of I ra f rv⟩
 | 0,.lst ds,_,_,_,h,f,r=>by unfold D.flat at f;cases f
 | n + 1,.lst ds,_,_,_,h,f,r=>by
  unfold RepL at h
  unfold D.flat at f
  obtain ⟨a,xs,bs,rfl,ra,q⟩:=h
  cases r
  have q':SqL X.K H a xs:=by
   rcases q with ⟨q,_⟩ | ⟨_,q,_⟩
   ·exact SqL.of q
   ·exact (LsR.of q).sq
  obtain ⟨its,rv,p,_⟩:=I.list q'
  unfold jj9
  exact ⟨a,its,rfl,p.isList,creps_of I ra f rv⟩
 | _,.dct _,_,_,_,h,f,r=>by rw [kzz] at f;cases f
 | _,.obj _ _,_,_,_,h,f,r=>by rw [kzy] at f;cases f
theorem creps_of (I:Inv X pins σ H s) {g:Bool}:∀ {n:Nat} {ds:List D} {xs:List V} {as:List Addr} {us:List Value},RepA X.K H g ds xs as->D.flats n ds=true->Vals xs us->CReps s.heap ds us
 | _,[],_,_,_,h,_,r=>by
  unfold RepA at h
  rw [h.1] at r
  cases r
  unfold CReps;rfl
 | n,d :: ds,_,_,_,h,f,r=>by
  unfold RepA at h
  unfold D.flats at f
  rw [Bool.and_eq_true] at f
  obtain ⟨x,rr,bs,cs,rfl,rfl,h1,h2⟩:=h
  cases r with
  | cons r1 r2 =>
   unfold CReps
   exact ⟨_,_,rfl,jxg I h1 f.1 r1,creps_of I h2 f.2 r2⟩
end
end
theorem CReps.len {h:Heap}:∀ {ds:List D} {us:List Value},CReps h ds us->ds.length=us.length
 | [],_,r=>by unfold CReps at r;rw [r];rfl
 | d :: ds,_,r=>by
  unfold CReps at r
  obtain ⟨u,rr,rfl,_,h2⟩:=r
  simp [CReps.len h2]
theorem CReps.get {h:Heap}:∀ {ds:List D} {us:List Value} {j:Nat} {d:D},CReps h ds us->ds[j]?=some d->∃ u,us[j]?=some u/\jj9 h d u
 | [],_,_,_,_,e=>by simp at e
 | d :: ds,_,j,d',r,e=>by
  unfold CReps at r
  obtain ⟨u,rr,rfl,h1,h2⟩:=r
  cases j with
  | zero =>
   have e:d=d':=by simpa using e
   subst e
   exact ⟨u,by simp,h1⟩
  | succ j =>
   obtain ⟨w,e1,e2⟩:=CReps.get (j:=j) h2 (by simpa using e)
   exact ⟨w,by simpa using e1,e2⟩
theorem vji {h:Heap} {a:Addr} {x y:Array Value} (p:h.IsTuple a x) (q:h.IsTuple a y):x=y:=by
 obtain ⟨o,h1,_,n,h2⟩:=p
 obtain ⟨o',h3,_,n',h4⟩:=q
 rw [h1] at h3;cases h3
 rw [h2] at h4
 injection h4
theorem vkz {h:Heap} {a:Addr} {x y:Array Value} (p:h.IsList a x) (q:h.IsList a y):x=y:=by
 obtain ⟨o,h1,_,n,h2⟩:=p
 obtain ⟨o',h3,_,n',h4⟩:=q
 rw [h1] at h3;cases h3
 rw [h2] at h4
 injection h4
theorem qqs {h:Heap} {a:Addr} {x y:Array Value} (p:h.IsList a x) (q:h.IsTuple a y):False:=by
 obtain ⟨o,h1,h2,_⟩:=p
 obtain ⟨o',h3,h4,_⟩:=q
 rw [h1] at h3;cases h3
 rw [h2] at h4
 exact absurd (Value.type.inj h4) (by decide)
mutual
theorem kj6 {h:Heap}:∀ {d d':D} {u:Value},jj9 h d u->jj9 h d' u->d=d'
 | .non,d',u,a,b=>by
  unfold jj9 at a;subst a
  cases d'<;>unfold jj9 at b<;>first | rfl | exact b.elim | (cases b;done) | (obtain ⟨_,b⟩:=b;cases b;done) | (obtain ⟨_,_,b,_⟩:=b;cases b)
 | .bl k,d',u,a,b=>by
  unfold jj9 at a;subst a
  cases d'<;>unfold jj9 at b<;>first | exact b.elim | (cases b;rfl) | (cases b;done) | (obtain ⟨_,b⟩:=b;cases b;done) | (obtain ⟨_,_,b,_⟩:=b;cases b)
 | .int k,d',u,a,b=>by
  unfold jj9 at a;obtain ⟨t,rfl⟩:=a
  cases d'<;>unfold jj9 at b<;>first | exact b.elim | (cases b;done) | (obtain ⟨_,b⟩:=b;cases b;rfl) | (obtain ⟨_,b⟩:=b;cases b;done) | (obtain ⟨_,_,b,_⟩:=b;cases b)
 | .str k,d',u,a,b=>by
  unfold jj9 at a;obtain ⟨t,rfl⟩:=a
  cases d'<;>unfold jj9 at b<;>first | exact b.elim | (cases b;done) | (obtain ⟨_,b⟩:=b;cases b;rfl) | (obtain ⟨_,b⟩:=b;cases b;done) | (obtain ⟨_,_,b,_⟩:=b;cases b)
 | .tup ds,d',u,a,b=>by
  unfold jj9 at a;obtain ⟨x,us,rfl,p,r⟩:=a
  cases d' with
  | tup es =>
   unfold jj9 at b
   obtain ⟨y,ws,e,p',r'⟩:=b
   cases e
   have e2:us=ws:=by simpa using vji p p'
   subst e2
   rw [creps_inj r r']
  | lst es =>
   unfold jj9 at b
   obtain ⟨y,ws,e,p',r'⟩:=b
   cases e
   exact (qqs p' p).elim
  | non=>unfold jj9 at b;cases b
  | bl k=>unfold jj9 at b;cases b
  | int k=>unfold jj9 at b;obtain ⟨_,b⟩:=b;cases b
  | str k=>unfold jj9 at b;obtain ⟨_,b⟩:=b;cases b
  | dct k=>unfold jj9 at b;exact b.elim
  | obj k l=>unfold jj9 at b;exact b.elim
 | .lst ds,d',u,a,b=>by
  unfold jj9 at a;obtain ⟨x,us,rfl,p,r⟩:=a
  cases d' with
  | lst es =>
   unfold jj9 at b
   obtain ⟨y,ws,e,p',r'⟩:=b
   cases e
   have e2:us=ws:=by simpa using vkz p p'
   subst e2
   rw [creps_inj r r']
  | tup es =>
   unfold jj9 at b
   obtain ⟨y,ws,e,p',r'⟩:=b
   cases e
   exact (qqs p p').elim
  | non=>unfold jj9 at b;cases b
  | bl k=>unfold jj9 at b;cases b
  | int k=>unfold jj9 at b;obtain ⟨_,b⟩:=b;cases b
  | str k=>unfold jj9 at b;obtain ⟨_,b⟩:=b;cases b
  | dct k=>unfold jj9 at b;exact b.elim
  | obj k l=>unfold jj9 at b;exact b.elim
 | .dct k,_,_,a,_=>by unfold jj9 at a;exact a.elim
 | .obj k l,_,_,a,_=>by unfold jj9 at a;exact a.elim
theorem creps_inj {h:Heap}:∀ {ds ds':List D} {us:List Value},CReps h ds us->CReps h ds' us->ds=ds'
 | [],ds',us,a,b=>by
  unfold CReps at a;subst a
  cases ds' with
  | nil=>rfl
  | cons d ds=>unfold CReps at b;obtain ⟨_,_,e,_⟩:=b;cases e
 | d :: ds,ds',us,a,b=>by
  unfold CReps at a;obtain ⟨u,r,rfl,h1,h2⟩:=a
  cases ds' with
  | nil=>unfold CReps at b;cases b
  | cons d' ds' =>
   unfold CReps at b
   obtain ⟨u',r',e,h3,h4⟩:=b
   cases e
   rw [kj6 h1 h3,creps_inj h2 h4]
end
mutual
theorem jx7:∀ {n:Nat} {d:D},d.flat n=true->peq d d=true
 | _,.non,_=>by unfold peq;rfl
 | _,.bl b,_=>by unfold peq;simp
 | _,.int b,_=>by unfold peq;simp
 | _,.str b,_=>by unfold peq;simp
 | 0,.tup ds,f=>by unfold D.flat at f;cases f
 | n + 1,.tup ds,f=>by unfold peq;unfold D.flat at f;exact peqs_refl f
 | 0,.lst ds,f=>by unfold D.flat at f;cases f
 | n + 1,.lst ds,f=>by unfold peq;unfold D.flat at f;exact peqs_refl f
 | _,.dct _,f=>by rw [kzz] at f;cases f
 | _,.obj _ _,f=>by rw [kzy] at f;cases f
theorem peqs_refl:∀ {n:Nat} {d:List D},D.flats n d=true->peqs d d=true
 | _,[],_=>by unfold peqs;rfl
 | n,d :: ds,f=>by
  unfold D.flats at f
  rw [Bool.and_eq_true] at f
  unfold peqs
  rw [jx7 f.1,peqs_refl f.2];rfl
end
theorem jz2 : ∀ {n : Nat} {ds : List D} {j : Nat} {d : D}, D.flats n ds = true -> ds[j]? = some d -> d.flat n = true
  | _, [], _, _, _, e => by simp at e
  | n, d :: ds, j, d', f, e => by
    unfold D.flats at f
    rw [Bool.and_eq_true] at f
    cases j with
    | zero => have e : d = d' := by simpa using e
              subst e; exact f.1
    | succ j => exact jz2 (j := j) f.2 (by simpa using e)
def pAt (as bs:List D) (j:Nat):Bool:=match as[j]?,bs[j]? with
 | some a,some b=>peq a b
 | _,_=>true
theorem jx6:∀ (as bs:List D),as.length=bs.length->(List.range as.length).all (pAt as bs)=peqs as bs
 | [],[],_=>by unfold peqs;rfl
 | a :: as,b :: bs,h=>by
  have ih:=jx6 as bs (by simpa using h)
  rw [List.length_cons,List.range_succ_eq_map,List.all_cons,List.all_map]
  unfold peqs
  rw [<- ih]
  rfl
 | [],_ :: _,h=>by simp at h
 | _ :: _,[],h=>by simp at h
theorem kj3:∀ (as bs:List D),as.length≠bs.length->peqs as bs=false
 | [],[],h=>by simp at h
 | a :: as,b :: bs,h=>by
  unfold peqs
  rw [kj3 as bs (by simpa using h),Bool.and_false]
 | [],_ :: _,_=>by unfold peqs;rfl
 | _ :: _,[],_=>by unfold peqs;rfl
theorem kxz (as bs:List D):((List.range (min as.length bs.length)).all (pAt as bs) && as.length == bs.length)=peqs as bs:=by
 by_cases e:as.length=bs.length
 ·rw [<- e,Nat.min_self,jx6 as bs e]
  simp [e]
 ·rw [kj3 as bs e]
  have:(as.length == bs.length)=false:=by simpa using e
  rw [this,Bool.and_false]
section
variable {s:Shared}
theorem kx7 {as bs:List D} {us ws:List Value} {A:Around} (ra:CReps s.heap as us) (rb:CReps s.heap bs ws)
  (h:∀ (j:Nat) (d d':D) (u w:Value),as[j]?=some d->bs[j]?=some d'->jj9 s.heap d u->jj9 s.heap d' w->SeqAt.EqAt A s u w (peq d d')) :
  ∀ j (h1:j < us.toArray.size) (h2:j < ws.toArray.size),SeqAt.EqAt A s us.toArray[j] ws.toArray[j] (pAt as bs j):=fun j h1 h2=>by
 have l1:=ra.len
 have l2:=rb.len
 simp only [List.size_toArray] at h1 h2
 have ha:j < as.length:=by omega
 have hb:j < bs.length:=by omega
 obtain ⟨u,eu,ru⟩:=ra.get (List.getElem?_eq_getElem ha)
 obtain ⟨w,ew,rw'⟩:=rb.get (List.getElem?_eq_getElem hb)
 have e1:us.toArray[j]=u:=by
  obtain ⟨_,q⟩:=List.getElem?_eq_some_iff.mp eu
  simpa using q
 have e2:ws.toArray[j]=w:=by
  obtain ⟨_,q⟩:=List.getElem?_eq_some_iff.mp ew
  simpa using q
 have e3:pAt as bs j=peq as[j] bs[j]:=by
  unfold pAt
  rw [List.getElem?_eq_getElem ha,List.getElem?_eq_getElem hb]
 rw [e1,e2,e3]
 exact h j _ _ u w (List.getElem?_eq_getElem ha) (List.getElem?_eq_getElem hb) ru rw'
theorem vvu {A:Around} {d d':D} {u w:Value} (hu:A.units < cLine) (r:jj9 s.heap d u) (r':jj9 s.heap d' w)
  (el:∀ (as bs:List D) (us ws:List Value),(d=.lst as\/d=.tup as)->(d'=.lst bs\/d'=.tup bs)->CReps s.heap as us->CReps s.heap bs ws->∀ j (h1:j < us.toArray.size) (h2:j < ws.toArray.size),SeqAt.EqAt A.in1 s us.toArray[j] ws.toArray[j] (pAt as bs j)) :
  SeqAt.RcAt A s u w (peq d d'):=by
 cases d with
 | dct k=>unfold jj9 at r;exact r.elim
 | obj k l=>unfold jj9 at r;exact r.elim
 | non =>
  unfold jj9 at r;subst r
  cases d' with
  | dct k=>unfold jj9 at r';exact r'.elim
  | obj k l=>unfold jj9 at r';exact r'.elim
  | non=>unfold jj9 at r';subst r';unfold peq;exact SeqAt.RcAt.none_none
  | bl b=>unfold jj9 at r';subst r';unfold peq;exact SeqAt.RcAt.none_bool _
  | int b=>unfold jj9 at r';obtain ⟨_,rfl⟩:=r';unfold peq;exact SeqAt.RcAt.none_int _ _
  | str b=>unfold jj9 at r';obtain ⟨_,rfl⟩:=r';unfold peq;exact SeqAt.RcAt.none_str _ _
  | lst b=>unfold jj9 at r';obtain ⟨_,_,rfl,p,_⟩:=r';unfold peq;exact SeqAt.RcAt.none_list p hu
  | tup b=>unfold jj9 at r';obtain ⟨_,_,rfl,p,_⟩:=r';unfold peq;exact SeqAt.RcAt.none_tuple p hu
 | bl a =>
  unfold jj9 at r;subst r
  cases d' with
  | dct k=>unfold jj9 at r';exact r'.elim
  | obj k l=>unfold jj9 at r';exact r'.elim
  | non=>unfold jj9 at r';subst r';unfold peq;exact SeqAt.RcAt.bool_none _
  | bl b=>unfold jj9 at r';subst r';unfold peq;exact SeqAt.RcAt.bool_bool _ _
  | int b=>unfold jj9 at r';obtain ⟨_,rfl⟩:=r';unfold peq;exact SeqAt.RcAt.bool_int _ _ _
  | str b=>unfold jj9 at r';obtain ⟨_,rfl⟩:=r';unfold peq;exact SeqAt.RcAt.bool_str _ _ _
  | lst b=>unfold jj9 at r';obtain ⟨_,_,rfl,p,_⟩:=r';unfold peq;exact SeqAt.RcAt.bool_list _ p hu
  | tup b=>unfold jj9 at r';obtain ⟨_,_,rfl,p,_⟩:=r';unfold peq;exact SeqAt.RcAt.bool_tuple _ p hu
 | int a =>
  unfold jj9 at r;obtain ⟨t,rfl⟩:=r
  cases d' with
  | dct k=>unfold jj9 at r';exact r'.elim
  | obj k l=>unfold jj9 at r';exact r'.elim
  | non=>unfold jj9 at r';subst r';unfold peq;exact SeqAt.RcAt.int_none _ _
  | bl b=>unfold jj9 at r';subst r';unfold peq;exact SeqAt.RcAt.int_bool _ _ _
  | int b=>unfold jj9 at r';obtain ⟨_,rfl⟩:=r';unfold peq;exact SeqAt.RcAt.int_int _ _ _ _
  | str b=>unfold jj9 at r';obtain ⟨_,rfl⟩:=r';unfold peq;exact SeqAt.RcAt.int_str _ _ _ _
  | lst b=>unfold jj9 at r';obtain ⟨_,_,rfl,p,_⟩:=r';unfold peq;exact SeqAt.RcAt.int_list _ _ p hu
  | tup b=>unfold jj9 at r';obtain ⟨_,_,rfl,p,_⟩:=r';unfold peq;exact SeqAt.RcAt.int_tuple _ _ p hu
 | str a =>
  unfold jj9 at r;obtain ⟨t,rfl⟩:=r
  cases d' with
  | dct k=>unfold jj9 at r';exact r'.elim
  | obj k l=>unfold jj9 at r';exact r'.elim
  | non=>unfold jj9 at r';subst r';unfold peq;exact SeqAt.RcAt.str_none _ _
  | bl b=>unfold jj9 at r';subst r';unfold peq;exact SeqAt.RcAt.str_bool _ _ _
  | int b=>unfold jj9 at r';obtain ⟨_,rfl⟩:=r';unfold peq;exact SeqAt.RcAt.str_int _ _ _ _
  | str b=>unfold jj9 at r';obtain ⟨_,rfl⟩:=r';unfold peq;exact SeqAt.RcAt.str_str _ _ _ _
  | lst b=>unfold jj9 at r';obtain ⟨_,_,rfl,p,_⟩:=r';unfold peq;exact SeqAt.RcAt.str_list _ _ p hu
  | tup b=>unfold jj9 at r';obtain ⟨_,_,rfl,p,_⟩:=r';unfold peq;exact SeqAt.RcAt.str_tuple _ _ p hu
 | lst as =>
  unfold jj9 at r;obtain ⟨a,us,rfl,p,ra⟩:=r
  cases d' with
  | dct k=>unfold jj9 at r';exact r'.elim
  | obj k l=>unfold jj9 at r';exact r'.elim
  | non=>unfold jj9 at r';subst r';unfold peq;exact SeqAt.RcAt.list_none p hu
  | bl b=>unfold jj9 at r';subst r';unfold peq;exact SeqAt.RcAt.list_bool _ p hu
  | int b=>unfold jj9 at r';obtain ⟨_,rfl⟩:=r';unfold peq;exact SeqAt.RcAt.list_int _ _ p hu
  | str b=>unfold jj9 at r';obtain ⟨_,rfl⟩:=r';unfold peq;exact SeqAt.RcAt.list_str _ _ p hu
  | tup bs=>unfold jj9 at r';obtain ⟨_,_,rfl,p',_⟩:=r';unfold peq;exact SeqAt.RcAt.list_tuple p p' hu
  | lst bs =>
   unfold jj9 at r'
   obtain ⟨b,ws,rfl,p',rb⟩:=r'
   have l1:=ra.len
   have l2:=rb.len
   unfold peq
   by_cases hl:as.length=bs.length
   ·rw [<- jx6 as bs hl]
    have z:=SeqAt.RcAt.lists (A:=A) (s:=s) (e:=pAt as bs) p p' (by simp only [List.size_toArray];omega) hu (el as bs us ws (.inl rfl) (.inl rfl) ra rb)
    rw [List.size_toArray,<- l1] at z
    exact z
   ·rw [kj3 as bs hl]
    exact SeqAt.RcAt.lists_lengths p p' (by simp only [List.size_toArray,bne_iff_ne];omega) hu
 | tup as =>
  unfold jj9 at r;obtain ⟨a,us,rfl,p,ra⟩:=r
  cases d' with
  | dct k=>unfold jj9 at r';exact r'.elim
  | obj k l=>unfold jj9 at r';exact r'.elim
  | non=>unfold jj9 at r';subst r';unfold peq;exact SeqAt.RcAt.tuple_none p hu
  | bl b=>unfold jj9 at r';subst r';unfold peq;exact SeqAt.RcAt.tuple_bool _ p hu
  | int b=>unfold jj9 at r';obtain ⟨_,rfl⟩:=r';unfold peq;exact SeqAt.RcAt.tuple_int _ _ p hu
  | str b=>unfold jj9 at r';obtain ⟨_,rfl⟩:=r';unfold peq;exact SeqAt.RcAt.tuple_str _ _ p hu
  | lst bs=>unfold jj9 at r';obtain ⟨_,_,rfl,p',_⟩:=r';unfold peq;exact SeqAt.RcAt.tuple_list p p' hu
  | tup bs =>
   unfold jj9 at r'
   obtain ⟨b,ws,rfl,p',rb⟩:=r'
   have l1:=ra.len
   have l2:=rb.len
   unfold peq
   rw [<- kxz as bs]
   have z:=SeqAt.RcAt.tuples (A:=A) (s:=s) (e:=pAt as bs) p p' hu (el as bs us ws (.inr rfl) (.inr rfl) ra rb)
   rw [List.size_toArray,List.size_toArray,<- l1,<- l2] at z
   exact z
theorem wj3 {A:Around} {d d':D} {u w:Value} (hu:A.units < cLine) (r:jj9 s.heap d u) (r':jj9 s.heap d' w)
  (el:∀ (as bs:List D) (us ws:List Value),(d=.lst as\/d=.tup as)->(d'=.lst bs\/d'=.tup bs)->CReps s.heap as us->CReps s.heap bs ws->∀ j (h1:j < us.toArray.size) (h2:j < ws.toArray.size),SeqAt.EqAt A.in1 s us.toArray[j] ws.toArray[j] (pAt as bs j)) :
  SeqAt.RcNeAt A s u w (!peq d d'):=by
 cases d with
 | dct k=>unfold jj9 at r;exact r.elim
 | obj k l=>unfold jj9 at r;exact r.elim
 | non =>
  unfold jj9 at r;subst r
  cases d' with
  | dct k=>unfold jj9 at r';exact r'.elim
  | obj k l=>unfold jj9 at r';exact r'.elim
  | non=>unfold jj9 at r';subst r';unfold peq;exact SeqAt.RcNeAt.none_none
  | bl b=>unfold jj9 at r';subst r';unfold peq;exact SeqAt.RcNeAt.none_bool _
  | int b=>unfold jj9 at r';obtain ⟨_,rfl⟩:=r';unfold peq;exact SeqAt.RcNeAt.none_int _ _
  | str b=>unfold jj9 at r';obtain ⟨_,rfl⟩:=r';unfold peq;exact SeqAt.RcNeAt.none_str _ _
  | lst b=>unfold jj9 at r';obtain ⟨_,_,rfl,p,_⟩:=r';unfold peq;exact SeqAt.RcNeAt.none_list p hu
  | tup b=>unfold jj9 at r';obtain ⟨_,_,rfl,p,_⟩:=r';unfold peq;exact SeqAt.RcNeAt.none_tuple p hu
 | bl a =>
  unfold jj9 at r;subst r
  cases d' with
  | dct k=>unfold jj9 at r';exact r'.elim
  | obj k l=>unfold jj9 at r';exact r'.elim
  | non=>unfold jj9 at r';subst r';unfold peq;exact SeqAt.RcNeAt.bool_none _
  | bl b=>unfold jj9 at r';subst r';unfold peq;exact SeqAt.RcNeAt.bool_bool _ _
  | int b=>unfold jj9 at r';obtain ⟨_,rfl⟩:=r';unfold peq;exact SeqAt.RcNeAt.bool_int _ _ _
  | str b=>unfold jj9 at r';obtain ⟨_,rfl⟩:=r';unfold peq;exact SeqAt.RcNeAt.bool_str _ _ _
  | lst b=>unfold jj9 at r';obtain ⟨_,_,rfl,p,_⟩:=r';unfold peq;exact SeqAt.RcNeAt.bool_list _ p hu
  | tup b=>unfold jj9 at r';obtain ⟨_,_,rfl,p,_⟩:=r';unfold peq;exact SeqAt.RcNeAt.bool_tuple _ p hu
 | int a =>
  unfold jj9 at r;obtain ⟨t,rfl⟩:=r
  cases d' with
  | dct k=>unfold jj9 at r';exact r'.elim
  | obj k l=>unfold jj9 at r';exact r'.elim
  | non=>unfold jj9 at r';subst r';unfold peq;exact SeqAt.RcNeAt.int_none _ _
  | bl b=>unfold jj9 at r';subst r';unfold peq;exact SeqAt.RcNeAt.int_bool _ _ _
  | int b=>unfold jj9 at r';obtain ⟨_,rfl⟩:=r';unfold peq;exact SeqAt.RcNeAt.int_int _ _ _ _
  | str b=>unfold jj9 at r';obtain ⟨_,rfl⟩:=r';unfold peq;exact SeqAt.RcNeAt.int_str _ _ _ _
  | lst b=>unfold jj9 at r';obtain ⟨_,_,rfl,p,_⟩:=r';unfold peq;exact SeqAt.RcNeAt.int_list _ _ p hu
  | tup b=>unfold jj9 at r';obtain ⟨_,_,rfl,p,_⟩:=r';unfold peq;exact SeqAt.RcNeAt.int_tuple _ _ p hu
 | str a =>
  unfold jj9 at r;obtain ⟨t,rfl⟩:=r
  cases d' with
  | dct k=>unfold jj9 at r';exact r'.elim
  | obj k l=>unfold jj9 at r';exact r'.elim
  | non=>unfold jj9 at r';subst r';unfold peq;exact SeqAt.RcNeAt.str_none _ _
  | bl b=>unfold jj9 at r';subst r';unfold peq;exact SeqAt.RcNeAt.str_bool _ _ _
  | int b=>unfold jj9 at r';obtain ⟨_,rfl⟩:=r';unfold peq;exact SeqAt.RcNeAt.str_int _ _ _ _
  | str b=>unfold jj9 at r';obtain ⟨_,rfl⟩:=r';unfold peq;exact SeqAt.RcNeAt.str_str _ _ _ _
  | lst b=>unfold jj9 at r';obtain ⟨_,_,rfl,p,_⟩:=r';unfold peq;exact SeqAt.RcNeAt.str_list _ _ p hu
  | tup b=>unfold jj9 at r';obtain ⟨_,_,rfl,p,_⟩:=r';unfold peq;exact SeqAt.RcNeAt.str_tuple _ _ p hu
 | lst as =>
  unfold jj9 at r;obtain ⟨a,us,rfl,p,ra⟩:=r
  cases d' with
  | dct k=>unfold jj9 at r';exact r'.elim
  | obj k l=>unfold jj9 at r';exact r'.elim
  | non=>unfold jj9 at r';subst r';unfold peq;exact SeqAt.RcNeAt.list_none p hu
  | bl b=>unfold jj9 at r';subst r';unfold peq;exact SeqAt.RcNeAt.list_bool _ p hu
  | int b=>unfold jj9 at r';obtain ⟨_,rfl⟩:=r';unfold peq;exact SeqAt.RcNeAt.list_int _ _ p hu
  | str b=>unfold jj9 at r';obtain ⟨_,rfl⟩:=r';unfold peq;exact SeqAt.RcNeAt.list_str _ _ p hu
  | tup bs=>unfold jj9 at r';obtain ⟨_,_,rfl,p',_⟩:=r';unfold peq;exact SeqAt.RcNeAt.list_tuple p p' hu
  | lst bs =>
   unfold jj9 at r'
   obtain ⟨b,ws,rfl,p',rb⟩:=r'
   have l1:=ra.len
   have l2:=rb.len
   unfold peq
   by_cases hl:as.length=bs.length
   ·rw [<- jx6 as bs hl]
    have z:=SeqAt.RcNeAt.lists (A:=A) (s:=s) (e:=pAt as bs) p p' (by simp only [List.size_toArray];omega) hu (el as bs us ws (.inl rfl) (.inl rfl) ra rb)
    rw [List.size_toArray,<- l1] at z
    exact z
   ·rw [kj3 as bs hl]
    exact SeqAt.RcNeAt.lists_lengths p p' (by simp only [List.size_toArray,bne_iff_ne];omega) hu
 | tup as =>
  unfold jj9 at r;obtain ⟨a,us,rfl,p,ra⟩:=r
  cases d' with
  | dct k=>unfold jj9 at r';exact r'.elim
  | obj k l=>unfold jj9 at r';exact r'.elim
  | non=>unfold jj9 at r';subst r';unfold peq;exact SeqAt.RcNeAt.tuple_none p hu
  | bl b=>unfold jj9 at r';subst r';unfold peq;exact SeqAt.RcNeAt.tuple_bool _ p hu
  | int b=>unfold jj9 at r';obtain ⟨_,rfl⟩:=r';unfold peq;exact SeqAt.RcNeAt.tuple_int _ _ p hu
  | str b=>unfold jj9 at r';obtain ⟨_,rfl⟩:=r';unfold peq;exact SeqAt.RcNeAt.tuple_str _ _ p hu
  | lst bs=>unfold jj9 at r';obtain ⟨_,_,rfl,p',_⟩:=r';unfold peq;exact SeqAt.RcNeAt.tuple_list p p' hu
  | tup bs =>
   unfold jj9 at r'
   obtain ⟨b,ws,rfl,p',rb⟩:=r'
   have l1:=ra.len
   have l2:=rb.len
   unfold peq
   rw [<- kxz as bs]
   have z:=SeqAt.RcNeAt.tuples (A:=A) (s:=s) (e:=pAt as bs) p p' hu (el as bs us ws (.inr rfl) (.inr rfl) ra rb)
   rw [List.size_toArray,List.size_toArray,<- l1,<- l2] at z
   exact z
theorem qz0 {A:Around} {d d':D} {u w:Value} (hu:A.units < cLine) (r:jj9 s.heap d u) (r':jj9 s.heap d' w) (hid:u=w->peq d d'=true) (rc:SeqAt.RcAt A s u w (peq d d')):SeqAt.EqAt A s u w (peq d d'):=by
 cases d with
 | dct k=>unfold jj9 at r;exact r.elim
 | obj k l=>unfold jj9 at r;exact r.elim
 | non =>
  unfold jj9 at r;subst r
  cases d' with
  | dct k=>unfold jj9 at r';exact r'.elim
  | obj k l=>unfold jj9 at r';exact r'.elim
  | non=>unfold jj9 at r';subst r';unfold peq;exact SeqAt.EqAt.same _
  | bl b=>unfold jj9 at r';subst r';unfold peq;exact SeqAt.EqAt.none_bool _
  | int b=>unfold jj9 at r';obtain ⟨_,rfl⟩:=r';unfold peq;exact SeqAt.EqAt.none_int _ _
  | str b=>unfold jj9 at r';obtain ⟨_,rfl⟩:=r';unfold peq;exact SeqAt.EqAt.none_str _ _
  | lst b=>unfold jj9 at r';obtain ⟨a',_,rfl,p',_⟩:=r';unfold peq;exact SeqAt.EqAt.none_list p' hu
  | tup b=>unfold jj9 at r';obtain ⟨a',_,rfl,p',_⟩:=r';unfold peq;exact SeqAt.EqAt.none_tuple p' hu
 | bl a =>
  unfold jj9 at r;subst r
  cases d' with
  | dct k=>unfold jj9 at r';exact r'.elim
  | obj k l=>unfold jj9 at r';exact r'.elim
  | non=>unfold jj9 at r';subst r';unfold peq;exact SeqAt.EqAt.bool_none _
  | bl b=>unfold jj9 at r';subst r';unfold peq;exact SeqAt.EqAt.bool_bool _ _
  | int b=>unfold jj9 at r';obtain ⟨_,rfl⟩:=r';unfold peq;exact SeqAt.EqAt.bool_int _ _ _
  | str b=>unfold jj9 at r';obtain ⟨_,rfl⟩:=r';unfold peq;exact SeqAt.EqAt.bool_str _ _ _
  | lst b=>unfold jj9 at r';obtain ⟨a',_,rfl,p',_⟩:=r';unfold peq;exact SeqAt.EqAt.bool_list _ p' hu
  | tup b=>unfold jj9 at r';obtain ⟨a',_,rfl,p',_⟩:=r';unfold peq;exact SeqAt.EqAt.bool_tuple _ p' hu
 | int a =>
  unfold jj9 at r;obtain ⟨_,rfl⟩:=r
  cases d' with
  | dct k=>unfold jj9 at r';exact r'.elim
  | obj k l=>unfold jj9 at r';exact r'.elim
  | non=>unfold jj9 at r';subst r';unfold peq;exact SeqAt.EqAt.int_none _ _
  | bl b=>unfold jj9 at r';subst r';unfold peq;exact SeqAt.EqAt.int_bool _ _ _
  | int b=>unfold jj9 at r';obtain ⟨_,rfl⟩:=r';unfold peq;exact SeqAt.EqAt.int_int _ _ _ _
  | str b=>unfold jj9 at r';obtain ⟨_,rfl⟩:=r';unfold peq;exact SeqAt.EqAt.int_str _ _ _ _
  | lst b=>unfold jj9 at r';obtain ⟨a',_,rfl,p',_⟩:=r';unfold peq;exact SeqAt.EqAt.int_list _ _ p' hu
  | tup b=>unfold jj9 at r';obtain ⟨a',_,rfl,p',_⟩:=r';unfold peq;exact SeqAt.EqAt.int_tuple _ _ p' hu
 | str a =>
  unfold jj9 at r;obtain ⟨_,rfl⟩:=r
  cases d' with
  | dct k=>unfold jj9 at r';exact r'.elim
  | obj k l=>unfold jj9 at r';exact r'.elim
  | non=>unfold jj9 at r';subst r';unfold peq;exact SeqAt.EqAt.str_none _ _
  | bl b=>unfold jj9 at r';subst r';unfold peq;exact SeqAt.EqAt.str_bool _ _ _
  | int b=>unfold jj9 at r';obtain ⟨_,rfl⟩:=r';unfold peq;exact SeqAt.EqAt.str_int _ _ _ _
  | str b=>unfold jj9 at r';obtain ⟨_,rfl⟩:=r';unfold peq;exact SeqAt.EqAt.str_str _ _ _ _
  | lst b=>unfold jj9 at r';obtain ⟨a',_,rfl,p',_⟩:=r';unfold peq;exact SeqAt.EqAt.str_list _ _ p' hu
  | tup b=>unfold jj9 at r';obtain ⟨a',_,rfl,p',_⟩:=r';unfold peq;exact SeqAt.EqAt.str_tuple _ _ p' hu
 | lst a =>
  unfold jj9 at r;obtain ⟨a,_,rfl,p,_⟩:=r
  cases d' with
  | dct k=>unfold jj9 at r';exact r'.elim
  | obj k l=>unfold jj9 at r';exact r'.elim
  | non=>unfold jj9 at r';subst r';unfold peq;exact SeqAt.EqAt.list_none p hu
  | bl b=>unfold jj9 at r';subst r';unfold peq;exact SeqAt.EqAt.list_bool _ p hu
  | int b=>unfold jj9 at r';obtain ⟨_,rfl⟩:=r';unfold peq;exact SeqAt.EqAt.list_int _ _ p hu
  | str b=>unfold jj9 at r';obtain ⟨_,rfl⟩:=r';unfold peq;exact SeqAt.EqAt.list_str _ _ p hu
  | lst b =>
   unfold jj9 at r';obtain ⟨a',_,rfl,p',_⟩:=r'
   by_cases e:a=a'
   ·subst e;rw [hid rfl];exact SeqAt.EqAt.same _
   ·exact SeqAt.EqAt.of_refs e rc
  | tup b =>
   unfold jj9 at r';obtain ⟨a',_,rfl,p',_⟩:=r'
   by_cases e:a=a'
   ·subst e;rw [hid rfl];exact SeqAt.EqAt.same _
   ·exact SeqAt.EqAt.of_refs e rc
 | tup a =>
  unfold jj9 at r;obtain ⟨a,_,rfl,p,_⟩:=r
  cases d' with
  | dct k=>unfold jj9 at r';exact r'.elim
  | obj k l=>unfold jj9 at r';exact r'.elim
  | non=>unfold jj9 at r';subst r';unfold peq;exact SeqAt.EqAt.tuple_none p hu
  | bl b=>unfold jj9 at r';subst r';unfold peq;exact SeqAt.EqAt.tuple_bool _ p hu
  | int b=>unfold jj9 at r';obtain ⟨_,rfl⟩:=r';unfold peq;exact SeqAt.EqAt.tuple_int _ _ p hu
  | str b=>unfold jj9 at r';obtain ⟨_,rfl⟩:=r';unfold peq;exact SeqAt.EqAt.tuple_str _ _ p hu
  | lst b =>
   unfold jj9 at r';obtain ⟨a',_,rfl,p',_⟩:=r'
   by_cases e:a=a'
   ·subst e;rw [hid rfl];exact SeqAt.EqAt.same _
   ·exact SeqAt.EqAt.of_refs e rc
  | tup b =>
   unfold jj9 at r';obtain ⟨a',_,rfl,p',_⟩:=r'
   by_cases e:a=a'
   ·subst e;rw [hid rfl];exact SeqAt.EqAt.same _
   ·exact SeqAt.EqAt.of_refs e rc
theorem kq3:∀ (n:Nat) {d d':D} {u w:Value} {A:Around},d.flat n=true->jj9 s.heap d u->jj9 s.heap d' w->A.units + n < cLine->SeqAt.EqAt A s u w (peq d d')
 | n,d,d',u,w,A,f,r,r',hu=>by
  refine qz0 (by omega) r r' (fun e=>?_) (vvu (by omega) r r' fun as bs us ws h1 h2 ra rb=>?_)
  rotate_left
  ·cases n with
   | zero=>rcases h1 with rfl | rfl<;>(unfold D.flat at f;cases f)
   | succ n =>
    have fs:D.flats n as=true:=by rcases h1 with rfl | rfl<;>(unfold D.flat at f;exact f)
    exact kx7 ra rb fun j d d' u w e1 e2 q1 q2=>kq3 n (jz2 fs e1) q1 q2 (by have:=L3.in1_units A;omega)
  ·subst e
   rw [kj6 r' r]
   exact jx7 f
end
section
variable {X:Cx} {Z:Fx0} {K:PySem.W.Frag}
def wko (K:PySem.W.Frag):R2:=fun x y H Q=>∃ d d' as bs,RepL K H true d x as/\RepL K H true d' y bs/\d.flat 40=true/\d'.flat 40=true/\Q (.bl (peq d d')) H
def wkj (K:PySem.W.Frag):R2:=fun x y H Q=>∃ d d' as bs,RepL K H true d x as/\RepL K H true d' y bs/\d.flat 40=true/\d'.flat 40=true/\Q (.bl (!peq d d')) H
theorem jwh (hu:X.A.units + 64 < cLine) (hK:X.K=K:=by rfl):OpR X (compareOp .Eq) (wko K):=by
 subst hK
 intro pins s σ H x y v u Q I rx ry h
 obtain ⟨d,d',as,bs,h1,h2,f1,f2,q⟩:=h
 have c1:=jxg I h1 f1 rx
 have c2:=jxg I h2 f2 ry
 refine vvu (by omega) c1 c2 (fun as bs us ws e1 e2 ra rb=>kx7 ra rb fun j d d' u w e3 e4 q1 q2=>?_) _ _ _ _ ⟨.bl _,H,I,rfl,q⟩
 have fs:D.flats 39 as=true:=by rcases e1 with rfl | rfl<;>(unfold D.flat at f1;exact f1)
 exact kq3 39 (jz2 fs e3) q1 q2 (by have:=L3.in1_units X.A;omega)
theorem vku (hu:X.A.units + 64 < cLine) (hK:X.K=K:=by rfl):OpR X (compareOp .NotEq) (wkj K):=by
 subst hK
 intro pins s σ H x y v u Q I rx ry h
 obtain ⟨d,d',as,bs,h1,h2,f1,f2,q⟩:=h
 have c1:=jxg I h1 f1 rx
 have c2:=jxg I h2 f2 ry
 refine wj3 (by omega) c1 c2 (fun as bs us ws e1 e2 ra rb=>kx7 ra rb fun j d d' u w e3 e4 q1 q2=>?_) _ _ _ _ ⟨.bl _,H,I,rfl,q⟩
 have fs:D.flats 39 as=true:=by rcases e1 with rfl | rfl<;>(unfold D.flat at f1;exact f1)
 exact kq3 39 (jz2 fs e3) q1 q2 (by have:=L3.in1_units X.A;omega)
theorem jwm:Ad2 K (wko K) (pu2 fEq):=by
 intro H x y s Q ox oy hf k
 unfold pu2 fEq at hf
 dsimp only at hf
 by_cases hc:(x.d.flat 40 && y.d.flat 40)=true
 ·rw [if_pos hc] at hf
  rw [Bool.and_eq_true] at hc
  cases oq9 hf
  exact ⟨x.d,y.d,x.as,y.as,RepO.wk ox,RepO.wk oy,hc.1,hc.2,k ⟨.dp,.bl _,.bl _,[]⟩ H rfl rfl qk3⟩
 ·rw [if_neg hc] at hf;cases hf
theorem vqz:Ad2 K (wkj K) (pu2 fNe):=by
 intro H x y s Q ox oy hf k
 unfold pu2 fNe at hf
 dsimp only at hf
 by_cases hc:(x.d.flat 40 && y.d.flat 40)=true
 ·rw [if_pos hc] at hf
  rw [Bool.and_eq_true] at hc
  cases oq9 hf
  exact ⟨x.d,y.d,x.as,y.as,RepO.wk ox,RepO.wk oy,hc.1,hc.2,k ⟨.dp,.bl _,.bl _,[]⟩ H rfl rfl qk3⟩
 ·rw [if_neg hc] at hf;cases hf
end
end Q
noncomputable section
namespace Q
open PySem PySem.Spec PyProof.Rows L2 L3
mutual
def vv5:D->Nat
 | .tup xs=>drwDs xs + 1
 | _=>1
def drwDs:List D->Nat
 | []=>0
 | a :: x=>vv5 a + drwDs x
end
mutual
theorem kzp:∀ {n:Nat} {d:D},jvf n d=true->d.flat n=true
 | n,.non,_=>by cases n<;>rfl
 | n,.bl _,h=>by cases n<;>(unfold jvf at h;cases h)
 | n,.int _,_=>by cases n<;>rfl
 | n,.str _,h=>by cases n<;>(unfold jvf at h;cases h)
 | 0,.tup _,h=>by unfold jvf at h;cases h
 | n + 1,.tup xs,h=>by unfold jvf at h;unfold D.flat;exact keys_flat h
 | n,.lst _,h=>by cases n<;>(unfold jvf at h;cases h)
 | n,.dct _,h=>by cases n<;>(unfold jvf at h;cases h)
 | n,.obj _ _,h=>by cases n<;>(unfold jvf at h;cases h)
theorem keys_flat:∀ {n:Nat} {ds:List D},keyDs n ds=true->D.flats n ds=true
 | _,[],_=>by unfold D.flats;rfl
 | n,a :: x,h=>by
  unfold keyDs at h
  rw [Bool.and_eq_true] at h
  unfold D.flats
  rw [kzp h.1,keys_flat h.2];rfl
end
mutual
theorem qv8:∀ {n m:Nat} {a b:D},jvf n a=true->jvf m b=true->peq a b=decide (a=b)
 | n,m,.non,b,_,hb=>by
  cases b with
  | non=>simp [peq]
  | int _=>simp [peq]
  | tup _=>simp [peq]
  | _=>cases m<;>(unfold jvf at hb;cases hb)
 | n,m,.int i,b,_,hb=>by
  cases b with
  | non=>simp [peq]
  | int j=>by_cases h:i=j<;>simp [peq,h]
  | tup _=>simp [peq]
  | _=>cases m<;>(unfold jvf at hb;cases hb)
 | 0,_,.tup _,_,ha,_=>by unfold jvf at ha;cases ha
 | n + 1,m,.tup xs,b,ha,hb=>by
  cases b with
  | non=>simp [peq]
  | int j=>simp [peq]
  | tup ys =>
   cases m with
   | zero=>unfold jvf at hb;cases hb
   | succ m =>
    unfold jvf at ha hb
    have:=keys_peq ha hb
    rw [show peq (.tup xs) (.tup ys)=peqs xs ys by simp [peq],this]
    by_cases h:xs=ys<;>simp [h]
  | _=>cases m<;>(unfold jvf at hb;cases hb)
 | n,_,.bl _,_,ha,_=>by cases n<;>(unfold jvf at ha;cases ha)
 | n,_,.str _,_,ha,_=>by cases n<;>(unfold jvf at ha;cases ha)
 | n,_,.lst _,_,ha,_=>by cases n<;>(unfold jvf at ha;cases ha)
 | n,_,.dct _,_,ha,_=>by cases n<;>(unfold jvf at ha;cases ha)
 | n,_,.obj _ _,_,ha,_=>by cases n<;>(unfold jvf at ha;cases ha)
theorem keys_peq:∀ {n m:Nat} {a b:List D},keyDs n a=true->keyDs m b=true->peqs a b=decide (a=b)
 | _,_,[],[],_,_=>by simp [peqs]
 | _,_,[],_ :: _,_,_=>by simp [peqs]
 | _,_,_ :: _,[],_,_=>by simp [peqs]
 | n,m,a :: x,b :: y,ha,hb=>by
  unfold keyDs at ha hb
  rw [Bool.and_eq_true] at ha hb
  rw [show peqs (a :: x) (b :: y)=(peq a b && peqs x y) by simp [peqs],qv8 ha.1 hb.1,keys_peq ha.2 hb.2]
  by_cases h1:a=b<;>by_cases h2:x=y<;>simp [h1,h2]
end
section
variable {prog:Program} {w:PySem.World} {A:Around} {E:Value->Shared->Prop} {s:Shared}
theorem kzu {Q:Int->Shared->Prop} (h:Q 4238894112 { s with toks:=s.toks + 1 }):wpAny (model prog w) A (pyHash .none) Q E s:=by
 have ty:s.TypeIs Value.none "NoneType":=rfl
 unfold pyHash
 unfold pyHashByItsType
 refine wpAny_bind ?_
 rw [cRoomFor,if_neg (show ¬ ([Value.none].any Value.onHeap)=true by decide)]
 refine wpAny_pure (wpAny_bind (wpAny_specialOf ty F.slot_NoneType_hash.lookup ?_))
 show wpAny _ _ (if (some (Value.builtin "NoneType.__hash__") == some Value.none)=true then _ else _) Q E s
 rw [if_neg (show ¬ (some (Value.builtin "NoneType.__hash__") == some Value.none)=true by rw [beq_builtin_none];exact Bool.false_ne_true)]
 refine wpAny_bind (wpAny_specialOf ty F.slot_NoneType_hash.lookup ?_)
 show wpAny _ _ (callSpecialIfBoundUnlessNone? Value.none "__hash__" _ >>= _) Q E s
 refine wpAny_bind (wpAny_callSpecialIfBoundUnlessNone?_slot ty F.slot_NoneType_hash (wpAny_call_entry F.slot_NoneType_hash ty F.entry_NoneType_hash ?_ (F.args_NoneType_hash_1 _)))
 show wpAny _ _ (retInt 4238894112) _ _ s
 refine wpAny_ret_mkInt ?_
 show wpAny _ _ (if (decide (-(2:Int) ^ 63<=(4238894112:Int)) && decide ((4238894112:Int) < 2 ^ 63))=true then _ else _) Q E _
 rw [if_pos (by decide)]
 exact wpAny_pure h
theorem kjw {d:D}:∀ ds:List D,hashDs (ds++[d])=hashDs ds++[kqv d]
 | []=>by simp [hashDs]
 | a :: x=>by rw [List.cons_append,hashDs,hashDs,kjw x];rfl
theorem kq4 {d:D}:∀ ds:List D,drwDs (ds++[d])=drwDs ds + vv5 d
 | []=>by simp [drwDs]
 | a :: x=>by rw [List.cons_append,drwDs,drwDs,kq4 x];omega
theorem vxs:∀ (n:Nat) {d:D} {u:Value} {A:Around} {s:Shared} {Q:Int->Shared->Prop},jvf n d=true->jj9 s.heap d u->A.units + 4 * n < cLine->Q (kqv d) { s with toks:=s.toks + vv5 d }->wpAny (model prog w) A (pyHash u) Q E s:=by
 intro n
 induction n with
 | zero =>
  intro d u A s Q hk hr hu h
  cases d with
  | non=>unfold jj9 at hr;subst hr;exact kzu h
  | int i=>unfold jj9 at hr;obtain ⟨t,rfl⟩:=hr;exact wpAny_pyHash_int h
  | _=>unfold jvf at hk;cases hk
 | succ n ih =>
  intro d u A s Q hk hr hu h
  cases d with
  | non=>unfold jj9 at hr;subst hr;exact kzu h
  | int i=>unfold jj9 at hr;obtain ⟨t,rfl⟩:=hr;exact wpAny_pyHash_int h
  | tup ds =>
   unfold jvf at hk
   unfold jj9 at hr
   obtain ⟨a,us,rfl,ht,hi⟩:=hr
   have ty:=ht.typeIs
   obtain ⟨ob,hob,hcl,nn,hdt⟩:=ht
   unfold pyHash
   unfold pyHashByItsType
   refine wpAny_bind (wpAny_cRoomFor_or (.inr (by omega)) ?_)
   refine wpAny_bind (wpAny_specialOf ty F.slot_tuple_hash.lookup ?_)
   show wpAny _ _ (if (some (Value.builtin "tuple.__hash__") == some Value.none)=true then _ else _) Q E s
   rw [if_neg (show ¬ (some (Value.builtin "tuple.__hash__") == some Value.none)=true by rw [beq_builtin_none];exact Bool.false_ne_true)]
   refine wpAny_bind (wpAny_specialOf ty F.slot_tuple_hash.lookup ?_)
   show wpAny _ _ (callSpecialIfBoundUnlessNone? (Value.ref a) "__hash__" _ >>= _) Q E s
   refine wpAny_bind (wpAny_callSpecialIfBoundUnlessNone?_slot ty F.slot_tuple_hash (wpAny_call_entry F.slot_tuple_hash ty F.entry_tuple_hash ?_ (F.args_tuple_hash_1 _)))
   show wpAny _ _ (Builtin.Tuple.tupleItemsOf (Value.ref a) >>= _) _ _ s
   refine wpAny_bind (wpAny_tupleItemsOf hob hdt ?_)
   refine wpAny_bind ?_
   rw [<- Array.forIn_toList]
   refine wpAny_forIn_list _ (fun rest (b:Array Int) s'=>∃ pre post,ds=pre++post/\keyDs n post=true/\CReps s.heap post rest/\b.toList=hashDs pre/\s'={ s with toks:=s.toks + drwDs pre }) _ ?_ ?_ _ _ ⟨[],ds,rfl,hk,hi,rfl,rfl⟩
   ·rintro x rest b s' ⟨pre,post,rfl,hkp,hl,hb,rfl⟩
    cases post with
    | nil=>unfold CReps at hl;cases hl
    | cons d post =>
     unfold CReps at hl
     obtain ⟨u1,r1,e1,h1,h2⟩:=hl
     injection e1 with e1 e2
     subst e1 e2
     unfold keyDs at hkp
     rw [Bool.and_eq_true] at hkp
     have ru:A.in1.units + 4 * n < cLine:=by show A.units + 1 + 4 * n < cLine;omega
     have fin:∃ p q,pre++d :: post=p++q/\keyDs n q=true/\CReps s.heap q rest/\(b.push (kqv d)).toList=hashDs p/\({ s with toks:=s.toks + drwDs pre + vv5 d }:Shared)={ s with toks:=s.toks + drwDs p } :=
      ⟨pre++[d],post,by simp,hkp.2,h2,by rw [kjw,<- hb];simp,by rw [kq4,Nat.add_assoc]⟩
     refine wpAny_bind (ih hkp.1 h1 ru ?_)
     first
      | exact wpAny_pure fin
      | exact wpAny_bind (wpAny_pure (wpAny_pure fin))
   ·rintro b s' ⟨pre,post,rfl,hkp,hl,hb,rfl⟩
    have:post=[]:=by
     cases post with
     | nil=>rfl
     | cons d post=>unfold CReps at hl;obtain ⟨_,_,z,_⟩:=hl;cases z
    subst this
    rw [List.append_nil] at h
    show wpAny _ _ (retInt (Builtin.Tuple.tupleHashOf b.toList)) _ _ _
    rw [hb]
    refine wpAny_ret_mkInt ?_
    generalize hv:Builtin.Tuple.tupleHashOf (hashDs pre)=v
    have h:Q (reduceHash v) { s with toks:=s.toks + drwDs pre + 1 }:=by rw [<- hv];unfold kqv vv5 at h;rw [Nat.add_assoc];exact h
    show wpAny _ _ (if (decide (-(2:Int) ^ 63<=v) && decide (v < 2 ^ 63))=true then _ else _) Q E _
    unfold reduceHash at h
    by_cases hq:(decide (-(2:Int) ^ 63<=v) && decide (v < 2 ^ 63))=true
    ·rw [if_pos hq] at h ⊢
     exact wpAny_pure h
    ·rw [if_neg hq] at h ⊢
     exact wpAny_bind (wpAny_rule (wpAny_pure h))
  | _=>unfold jvf at hk;cases hk
theorem vjx:∀ (n m:Nat) {d:D} {u:Value} {A:Around} {s:Shared} {Q:Bool->Shared->Prop},n<=m->jvf n d=true->jj9 s.heap d u->Q true s->wpAny (model prog w) A (eqIsQuiet m u) Q E s:=by
 have byv:∀ (m:Nat) {v:Value} {A:Around} {s:Shared} {Q:Bool->Shared->Prop},carriedByValue v=true->Q true s->wpAny (model prog w) A (eqIsQuiet m v) Q E s:=fun m v A s Q hv h=>by
  rw [eqIsQuiet_byValue m hv]
  exact wpAny_pure h
 intro n
 induction n with
 | zero =>
  intro m d u A s Q _ hk hr h
  cases d with
  | non=>unfold jj9 at hr;subst hr;exact byv m rfl h
  | int i=>unfold jj9 at hr;obtain ⟨t,rfl⟩:=hr;exact byv m rfl h
  | _=>unfold jvf at hk;cases hk
 | succ n ih =>
  intro m d u A s Q hm hk hr h
  cases d with
  | non=>unfold jj9 at hr;subst hr;exact byv m rfl h
  | int i=>unfold jj9 at hr;obtain ⟨t,rfl⟩:=hr;exact byv m rfl h
  | tup ds =>
   unfold jvf at hk
   unfold jj9 at hr
   obtain ⟨a,us,rfl,ht,hi⟩:=hr
   have ty:=ht.typeIs
   obtain ⟨ob,hob,hcl,nn,hdt⟩:=ht
   cases m with
   | zero=>omega
   | succ m =>
    unfold eqIsQuiet
    refine wpAny_bind (wpAny_specialOf ty F.slot_tuple_eq.lookup ?_)
    show wpAny _ _ (isInstance (Value.ref a) (.type "tuple") >>= _) _ _ s
    refine wpAny_bind (wpAny_isInstance ty isSubtype_tuple_tuple ?_)
    simp only [Bool.not_true,Bool.false_eq_true,if_false]
    refine wpAny_bind (wpAny_seqItems hob hdt (wpAny_bind ?_))
    show wpAny _ _ (forIn us.toArray _ _) _ _ s
    rw [<- Array.forIn_toList]
    refine wpAny_forIn_list _ (fun rest r s'=>r.1=none/\s'=s/\∃ post,keyDs n post=true/\CReps s.heap post rest) _ ?_ ?_ _ _ ⟨rfl,rfl,ds,hk,hi⟩
    ·rintro v rest r s' ⟨hr,rfl,post,hkp,hl⟩
     cases post with
     | nil=>unfold CReps at hl;cases hl
     | cons d post =>
      unfold CReps at hl
      obtain ⟨u1,r1,e1,h1,h2⟩:=hl
      injection e1 with e1 e2
      subst e1 e2
      unfold keyDs at hkp
      rw [Bool.and_eq_true] at hkp
      refine wpAny_bind (ih m (by omega) hkp.1 h1 ?_)
      simp only [Bool.not_true,Bool.false_eq_true,if_false]
      exact wpAny_pure ⟨rfl,rfl,post,hkp.2,h2⟩
    ·rintro ⟨r1,r2⟩ s' ⟨hr,rfl,_⟩
     simp only at hr
     subst hr
     exact wpAny_pure h
  | _=>unfold jvf at hk;cases hk
end
mutual
theorem kq6 {h h':Heap} {x:Addr} {o:Obj} {es:Array DictEntry} {ep:Nat} (ho:h.get? x=some o) (hd:o.data=.dict es ep) (hs:Heap.SameBut x h h'):∀ {n:Nat} {d:D} {u:Value},jvf n d=true->jj9 h d u->jj9 h' d u
 | _,.non,_,_,r=>by unfold jj9 at r ⊢;exact r
 | n,.bl _,_,hk,_=>by cases n<;>(unfold jvf at hk;cases hk)
 | _,.int _,_,_,r=>by unfold jj9 at r ⊢;exact r
 | n,.str _,_,hk,_=>by cases n<;>(unfold jvf at hk;cases hk)
 | 0,.tup _,_,hk,_=>by unfold jvf at hk;cases hk
 | n + 1,.tup ds,_,hk,r=>by
  unfold jvf at hk
  unfold jj9 at r ⊢
  obtain ⟨a,us,e,⟨ob,hob,hc,nn,hdt⟩,hi⟩:=r
  have hne:a≠x:=by
   rintro rfl
   rw [ho] at hob
   cases hob
   rw [hd] at hdt
   cases hdt
  exact ⟨a,us,e,⟨ob,(hs.2 a hne).trans hob,hc,nn,hdt⟩,creps_keeps ho hd hs hk hi⟩
 | n,.lst _,_,hk,_=>by cases n<;>(unfold jvf at hk;cases hk)
 | n,.dct _,_,hk,_=>by cases n<;>(unfold jvf at hk;cases hk)
 | n,.obj _ _,_,hk,_=>by cases n<;>(unfold jvf at hk;cases hk)
theorem creps_keeps {h h':Heap} {x:Addr} {o:Obj} {es:Array DictEntry} {ep:Nat} (ho:h.get? x=some o) (hd:o.data=.dict es ep) (hs:Heap.SameBut x h h'):∀ {n:Nat} {ds:List D} {us:List Value},keyDs n ds=true->CReps h ds us->CReps h' ds us
 | _,[],_,_,r=>by unfold CReps at r ⊢;exact r
 | n,d :: ds,_,hk,r=>by
  unfold keyDs at hk
  rw [Bool.and_eq_true] at hk
  unfold CReps at r ⊢
  obtain ⟨u,rr,e,h1,h2⟩:=r
  exact ⟨u,rr,e,kq6 ho hd hs hk.1 h1,creps_keeps ho hd hs hk.2 h2⟩
end
def kz0 (prog:Program) (w:PySem.World):HeapKind prog w Kd where
 is:=fun h k a=>jj9 h k.1 (.ref a)
 hash:=fun k=>kqv k.1
 draws:=fun k=>vv5 k.1
 room:=fun A=>A.units + 40 < cLine
 inj:=fun hx hy=>Subtype.ext (kj6 hx hy)
 keeps:=fun {h h' k a d o es ep} x ho hd hs=>kq6 ho hd hs k.2 x
 pyHash:=fun {A E s k a Q} hu hk h=>vxs 6 k.2 hk (Nat.lt_of_le_of_lt (Nat.add_le_add_left (by decide) _) hu) h
 eqBool:=fun {A E s x y a b Q} hu hx hy h=>by
  have e:peq x.1 y.1=decide (x=y):=by
   rw [qv8 x.2 y.2]
   by_cases z:x=y
   ·rw [decide_eq_true z,decide_eq_true (congrArg Subtype.val z)]
   ·rw [decide_eq_false z,decide_eq_false fun q=>z (Subtype.ext q)]
  have:=kq3 (s:=s) 6 (A:=A) (kzp x.2) hx hy (Nat.lt_of_le_of_lt (Nat.add_le_add_left (by decide) _) hu)
  rw [e] at this
  exact this prog w E Q h
 quiet:=fun {A E s k a Q} hk h=>vjx 6 8 (by decide) k.2 hk h
end Q
namespace Q
open PySem PySem.Spec PyProof.Rows L2 L3
abbrev Sl.sd (x:Sl):Sd:=(x.o,x.d)
def tA (Z:Fx0) (q:Bool) (cs:List Ex):TA:=fun σ H Q=>∃ E L r,Mt E σ L/\World Z.K H L/\jv0 cs E=some r/\Xc Z σ H L r /\
 ∀ E' ys,r=.ok E' ys->∀ (xs:List Sl) L' H',xs.map Sl.sd=ys->Mt E' σ L'->World Z.K H' (xs.map some++L')->Step H L H' (xs.map some++L')->(q=true->jw1 H H'/\∀ b∈jjb (xs.map some),H b=none)->Q (xs.map Sl.v) H'
def QA (X:Cx) (Z:Fx0) (q:Bool) (cs:List Ex) (es:List Expr):Prop:=PA X es (tA Z q cs)
theorem kvq {X:Cx} {es:List Expr} {t t':TA} (h:PA X es t) (w:∀ σ H Q,t' σ H Q->t σ H Q):PA X es t':=fun pos pins s σ H Q I q=>h pos pins s σ H Q I (w σ H Q q)
section
variable {X:Cx} {Z:Fx0} {pn:List Nat} {q:Bool} {c:Ex} {cs:List Ex} {e:Expr} {es:List Expr} {pos:Pos} {σ:L2.St} {H:Hp} {L:Ls} {E:En}
theorem jkg:QA X Z true [] []:=kvq jkp fun σ H Q h_z=>ex8 h_z fun E L r m w hc xc k=>by
 cases oq9 hc
 exact k _ _ rfl [] L H rfl m w Step.refl fun _=>⟨fun _ _ z=>z,fun _ z=>(nomatch z)⟩
theorem jjj (h:QE X Z q c e) (hs:QA X Z q cs es) (hst:starEach (e :: es) X.env=(false,eval e X.env) :: starEach es X.env:=by rfl):QA X Z q (c :: cs) (e :: es) :=
 kvq (jjr h hs hst) fun σ H Q h_z=>ex8 h_z fun E L r m w hc xc k=>by
  refine kx2 m w (show bnd (c E) _=some r from hc) xc fun E1 s h1 x L1 H1 e1 e2 m1 w1 st sm=>?_
  have s1:Step H L H1 L1:=st.trans Step.drop
  rcases jkc h1 with ⟨E2,ys,h2,h3⟩ | ⟨E2,cc,h2,h3⟩
  ·cases oq9 h3
   refine ⟨E1,L1,_,m1,w1.tail,h2,(fun _ _ z=>by cases z),fun E' ys' z xs L2 H2 e3 m2 w2 st2 sm2=>?_⟩
   injection z with z1 z2
   subst z1 z2
   obtain ⟨w3,st3⟩:=vzg (T:=[some x]) w1 st2 w2
   refine k _ _ rfl (x :: xs) L2 H2 (by rw [List.map_cons,e3];simp [Sl.sd,e1,e2]) m2 w3 (st.trans st3) fun hq=>?_
   obtain ⟨a1,a2⟩:=sm hq
   obtain ⟨b1,b2⟩:=sm2 hq
   refine ⟨jjd a1 b1,fun b hb=>?_⟩
   rw [List.map_cons,jj7] at hb
   rcases List.mem_append.mp hb with z | z
   ·exact a2 b z
   ·exact jkv a1 (b2 b z)
  ·exact ⟨E1,L1,_,m1,w1.tail,h2,(xc.step s1).map h3,fun E' s' z=>by cases z⟩
end
section
variable {X:Cx} {Z:Fx0} {q:Bool} {cs:List Ex} {es:List Expr} {pos:Pos} {σ:L2.St} {H:Hp} {L:Ls} {E:En} {α:Type}
theorem jwz:∀ {cs:List Ex} {E E':En} {ys:List Sd},jv0 cs E=some (.ok E' ys)->ys.length=cs.length
 | [],E,E',ys,h=>by cases oq9 h;rfl
 | c :: cs,E,E',ys,h=>by
  rcases jkc (show bnd (c E) _=some _ from h) with ⟨E1,x,h1,h2⟩ | ⟨_,_,_,z⟩
  ·rcases jkc h2 with ⟨E2,xs,h3,h4⟩ | ⟨_,_,_,z⟩
   ·cases oq9 h4
    rw [List.length_cons,List.length_cons,jwz h3]
   ·cases z
  ·cases z
theorem qz9 {F:En->List Sd->Option (Res α)} {r:Res α} {G:List V->Hp->Prop} (m:Mt E σ L) (w:World Z.K H L) (h:bnd (jv0 cs E) F=some r) (xc:Xc Z σ H L r)
  (k:∀ E1 ys,F E1 ys=some r->ys.length=cs.length->∀ (xs:List Sl) L1 H1,xs.map Sl.sd=ys->Mt E1 σ L1->World Z.K H1 (xs.map some++L1)->Step H L H1 (xs.map some++L1)->(q=true->jw1 H H1/\∀ b∈jjb (xs.map some),H b=none)->G (xs.map Sl.v) H1):tA Z q cs σ H G:=by
 rcases jkc h with ⟨E1,s,h1,h2⟩ | ⟨E1,c,h1,h2⟩
 ·exact ⟨E,L,_,m,w,h1,(fun _ _ z=>by cases z),fun E' s' z xs L' H' e1 m' w' st sm=>by
   injection z with z1 z2
   subst z1 z2
   exact k _ _ h2 (jwz h1) xs L' H' e1 m' w' st sm⟩
 ·exact ⟨E,L,_,m,w,h1,xc.map h2,fun E' s' z=>by cases z⟩
theorem jx9 {K:PySem.W.Frag} {H:Hp} (g:Bool):∀ {xs:List Sl},(∀ x∈xs,x.ok K H)->(g=false->∀ x∈xs,jws x.sd=true)->∃ bs,RepA K H g (xs.map Sl.d) (xs.map Sl.v) bs/\(∀ b∈bs,∃ x∈xs,b∈x.as)/\(g=false->bs=jjb (xs.map some))/\(g=true->bs=xs.flatMap Sl.as)
 | [],_,_=>⟨[],by unfold RepA;exact ⟨rfl,rfl⟩,fun _ h=>(nomatch h),fun _=>rfl,fun _=>rfl⟩
 | x :: xs,h,ht=>by
  obtain ⟨bs,r,hb,ho,hg⟩:=jx9 g (xs:=xs) (fun y hy=>h y (lc9 _ hy)) fun hg y hy=>ht hg y (lc9 _ hy)
  have hx:=h x List.mem_cons_self
  have key:∃ cs,RepL K H g x.d x.v cs/\(∀ b∈cs,b∈x.as)/\(g=false->cs=x.own)/\(g=true->cs=x.as):=by
   cases g with
   | true=>exact ⟨x.as,RepO.wk hx,fun b hb=>hb,(fun z=>by cases z),fun _=>rfl⟩
   | false =>
    have t:=ht rfl x List.mem_cons_self
    unfold jws at t
    by_cases ho:x.o=.dp
    ·refine ⟨x.as,?_,fun b hb=>hb,fun _=>?_,fun z=>by cases z⟩
     ·have:=hx
      unfold Sl.ok at this
      rw [ho] at this
      exact this
     ·unfold Sl.own;rw [ho]
    ·have hp:x.d.pure=true:=by
      rcases Bool.or_eq_true_iff.mp t with z | z
      ·exact absurd (by simpa using z) ho
      ·exact z
     obtain ⟨z,rp⟩:=RepL.pu (g':=false) (RepO.wk hx) hp
     exact ⟨[],rp,fun _ h=>(nomatch h),fun _=>(vkp z).symm,fun z=>by cases z⟩
  obtain ⟨cs,r1,h1,h2,h3⟩:=key
  refine ⟨cs++bs,?_,fun b hb'=>?_,fun hg'=>?_,fun hg'=>?_⟩
  ·rw [List.map_cons,List.map_cons]
   unfold RepA
   exact ⟨x.v,xs.map Sl.v,cs,bs,rfl,rfl,r1,r⟩
  ·rcases List.mem_append.mp hb' with z | z
   ·exact ⟨x,List.mem_cons_self,h1 b z⟩
   ·obtain ⟨y,hy,hby⟩:=hb b z
    exact ⟨y,lc9 _ hy,hby⟩
  ·rw [List.map_cons,jj7,h2 hg',ho hg']
  ·rw [List.flatMap_cons,h3 hg',hg hg']
theorem qxo {K:PySem.W.Frag} {H:Hp} {p:Addr} {xs:List Sl} {L:Ls} (w:World K H (xs.map some++L)) (hp:H p=none) :
  ∃ bs,World K (upd H p (.lst (xs.map Sl.v))) (some ⟨.rt,.lst (xs.map Sl.d),.ref p,p :: bs⟩ :: L)/\Step H (xs.map some++L) (upd H p (.lst (xs.map Sl.v))) (some ⟨.rt,.lst (xs.map Sl.d),.ref p,p :: bs⟩ :: L):=by
 obtain ⟨bs,r,hb,_,_⟩:=jx9 true (xs:=xs) (fun x hx=>w.ok x (ll9 _ (List.mem_map_of_mem hx))) (fun z=>by cases z)
 have ap:∀ b∈bs,b∉jjb L:=fun b hb' hL=>by
  obtain ⟨x,hx,hbx⟩:=hb b hb'
  rcases Sl.as_of hbx with z | z
  ·have nd:=w.nd
   rw [jj5,List.nodup_append] at nd
   exact nd.2.2 b (mem_owned.mpr ⟨x,List.mem_map_of_mem hx,z⟩) b hL rfl
  ·exact w.ds b (by rw [jj5];exact lr9 _ hL) (by rw [jja];exact ll9 _ (mem_frozen.mpr ⟨x,List.mem_map_of_mem hx,z⟩))
 have al:∀ b∈bs,H b≠none:=fun b hb'=>by
  obtain ⟨x,hx,hbx⟩:=hb b hb'
  exact (w.ok x (ll9 _ (List.mem_map_of_mem hx))).some hbx
 have sr:Src H (xs.map some++L) bs:=fun b hb'=>by
  obtain ⟨x,hx,hbx⟩:=hb b hb'
  rcases Sl.as_of hbx with z | z
  ·exact .inr (.inl (by rw [jj5];exact ll9 _ (mem_owned.mpr ⟨x,List.mem_map_of_mem hx,z⟩)))
  ·exact .inl (by rw [jja];exact ll9 _ (mem_frozen.mpr ⟨x,List.mem_map_of_mem hx,z⟩))
 have o:Out K H (upd H p (.lst (xs.map Sl.v))) ⟨.rt,.lst (xs.map Sl.d),.ref p,p :: bs⟩ bs:=jwg hp r fun b hb=>hb
 have st:Step H (xs.map some++L) H L:=⟨fun _ _ h _=>h,fun a ha=>.inl (by rw [jj5];exact lr9 _ ha),fun a ha=>.inl (by rw [jja];exact lr9 _ ha)⟩
 exact ⟨bs,jvc (Z:=⟨K,fun _=>none,fun _ _ _=>True⟩) w.right st o ap al sr⟩
theorem qxn {K:PySem.W.Frag} {H:Hp} {p:Addr} {xs:List Sl} {L:Ls} (w:World K H (xs.map some++L)) (hp:H p=none) :
  ∃ bs,World K (upd H p (.tup (xs.map Sl.v))) (some ⟨.no,.tup (xs.map Sl.d),.ref p,bs⟩ :: L)/\Step H (xs.map some++L) (upd H p (.tup (xs.map Sl.v))) (some ⟨.no,.tup (xs.map Sl.d),.ref p,bs⟩ :: L):=by
 obtain ⟨bs,r,hb,_,_⟩:=jx9 true (xs:=xs) (fun x hx=>w.ok x (ll9 _ (List.mem_map_of_mem hx))) (fun z=>by cases z)
 have ap:∀ b∈bs,b∉jjb L:=fun b hb' hL=>by
  obtain ⟨x,hx,hbx⟩:=hb b hb'
  rcases Sl.as_of hbx with z | z
  ·have nd:=w.nd
   rw [jj5,List.nodup_append] at nd
   exact nd.2.2 b (mem_owned.mpr ⟨x,List.mem_map_of_mem hx,z⟩) b hL rfl
  ·exact w.ds b (by rw [jj5];exact lr9 _ hL) (by rw [jja];exact ll9 _ (mem_frozen.mpr ⟨x,List.mem_map_of_mem hx,z⟩))
 have al:∀ b∈bs,H b≠none:=fun b hb'=>by
  obtain ⟨x,hx,hbx⟩:=hb b hb'
  exact (w.ok x (ll9 _ (List.mem_map_of_mem hx))).some hbx
 have sr:Src H (xs.map some++L) bs:=fun b hb'=>by
  obtain ⟨x,hx,hbx⟩:=hb b hb'
  rcases Sl.as_of hbx with z | z
  ·exact .inr (.inl (by rw [jj5];exact ll9 _ (mem_owned.mpr ⟨x,List.mem_map_of_mem hx,z⟩)))
  ·exact .inl (by rw [jja];exact ll9 _ (mem_frozen.mpr ⟨x,List.mem_map_of_mem hx,z⟩))
 have o:Out K H (upd H p (.tup (xs.map Sl.v))) ⟨.no,.tup (xs.map Sl.d),.ref p,bs⟩ bs:=kjj hp r fun b hb=>hb
 have st:Step H (xs.map some++L) H L:=⟨fun _ _ h _=>h,fun a ha=>.inl (by rw [jj5];exact lr9 _ ha),fun a ha=>.inl (by rw [jja];exact lr9 _ ha)⟩
 exact ⟨bs,jvc (Z:=⟨K,fun _=>none,fun _ _ _=>True⟩) w.right st o ap al sr⟩
theorem qqq {K:PySem.W.Frag} {H H':Hp} {xs:List Sl} {L:Ls} {d:D} {v:V} {ps:List Addr} (w:World K H (xs.map some++L)) (ht:∀ x∈xs,jws x.sd=true) (hp:∀ b∈ps,H b=none) (nd:ps.Nodup) (sm:jw1 H H')
  (rep:∀ bs,RepA K H false (xs.map Sl.d) (xs.map Sl.v) bs->RepL K H' false d v (ps++bs)) :
  World K H' (some ⟨.dp,d,v,ps++jjb (xs.map some)⟩ :: L)/\Step H (xs.map some++L) H' (some ⟨.dp,d,v,ps++jjb (xs.map some)⟩ :: L):=by
 obtain ⟨bs,r,hb,ho,_⟩:=jx9 false (xs:=xs) (fun x hx=>w.ok x (ll9 _ (List.mem_map_of_mem hx))) (fun _=>ht)
 have e:=ho rfl
 subst e
 have w2:World K H' (xs.map some++L):=⟨fun x hx=>RepO.kp (w.ok x hx) (Kp.of_same sm),w.nd,w.ds⟩
 have ndx:=w.nd
 rw [jj5,List.nodup_append] at ndx
 have al:∀ b∈jjb (xs.map some),H b≠none:=fun b hb=>w.own_some (by rw [jj5];exact ll9 _ hb)
 refine ⟨w2.right.cons (x:=⟨.dp,d,v,ps++jjb (xs.map some)⟩) (rep _ r) ?_ (fun a ha hL=>?_) (fun a ha hf=>?_) (fun a ha=>(nomatch ha)) (fun a ha=>fun z=>(nomatch z)),⟨fun a ob h _=>sm a ob h,fun a ha=>?_,fun a ha=>?_⟩⟩
 ·show (ps++jjb (xs.map some)).Nodup
  rw [List.nodup_append]
  exact ⟨nd,ndx.1,fun a ha b hb e=>by subst e;exact al a hb (hp a ha)⟩
 ·rcases List.mem_append.mp (show a∈ps++jjb (xs.map some) from ha) with z | z
  ·exact w.own_some (by rw [jj5];exact lr9 _ hL) (hp a z)
  ·exact ndx.2.2 a z a hL rfl
 ·rcases List.mem_append.mp (show a∈ps++jjb (xs.map some) from ha) with z | z
  ·exact w.frz_some (by rw [jja];exact lr9 _ hf) (hp a z)
  ·exact w.ds a (by rw [jj5];exact ll9 _ z) (by rw [jja];exact lr9 _ hf)
 ·rw [jj7] at ha
  rcases List.mem_append.mp ha with z | z
  ·rcases List.mem_append.mp (show a∈ps++jjb (xs.map some) from z) with y | y
   ·exact .inr (hp a y)
   ·exact .inl (by rw [jj5];exact ll9 _ y)
  ·exact .inl (by rw [jj5];exact lr9 _ z)
 ·rw [jjg] at ha
  exact .inl (by rw [jja];exact lr9 _ ha)
theorem vz9 {xs:List Sl} {ys:List Sd} (h:xs.map Sl.sd=ys):xs.map Sl.d=ys.map (·.2):=by rw [<- h,List.map_map];rfl
theorem kz6 {xs:List Sl} {ys:List Sd} (h:xs.map Sl.sd=ys) (ht:ys.all jws=true):∀ x∈xs,jws x.sd=true:=fun x hx=>by
 rw [<- h,List.all_map,List.all_eq_true] at ht
 exact ht x hx
theorem kzk {o:Own} {xs:List Sl} {ys:List Sd} {E':En} {r:Res Sd} {L':Ls} {H1:Hp} {Q:VK} {Hq:Hp} {Lq:Ls} (h:mkL o E' ys=some r) (e:xs.map Sl.sd=ys) (w:World Z.K H1 (xs.map some++L')) (st:Step Hq Lq H1 (xs.map some++L')) (sm:q=true->jw1 Hq H1/\∀ b∈jjb (xs.map some),Hq b=none)
  (k:∀ E'' a,r=.ok E'' a->∀ (x:Sl) L'' H',x.o=a.1->x.d=a.2->Mt E'' σ L''->World Z.K H' (some x :: L'')->Step Hq Lq H' (some x :: L'')->(q=true->jw1 Hq H'/\∀ b∈x.own,Hq b=none)->Q x.v H') (m:Mt E' σ L') :
  ∀ p,H1 p=none->Q (.ref p) (upd H1 p (.lst (xs.map Sl.v))):=by
 intro p hp
 unfold mkL at h
 by_cases ho:o=.dp
 ·rw [if_pos ho] at h
  by_cases ht:ys.all jws=true
  ·rw [if_pos ht] at h
   cases oq9 h
   obtain ⟨w2,s2⟩:=qqq (d:=.lst (xs.map Sl.d)) (v:=.ref p) (ps:=[p]) w (kz6 e ht) (fun b hb=>by rw [List.mem_singleton.mp hb];exact hp) (by simp) (jk6 (o:=.lst (xs.map Sl.v)) hp) (fun bs r=>by
    unfold RepL
    exact ⟨p,_,bs,rfl,r.kp (Kp.of_same (jk6 hp)),.inl ⟨jkd,rfl⟩⟩)
   refine k _ _ rfl ⟨.dp,.lst (xs.map Sl.d),.ref p,_⟩ L' _ rfl (by rw [vz9 e]) m w2 (st.trans s2) fun hq=>⟨jjd (sm hq).1 (jk6 hp),fun b hb=>?_⟩
   rcases List.mem_append.mp (show b∈[p]++jjb (xs.map some) from hb) with z | z
   ·rw [List.mem_singleton.mp z];exact jkv (sm hq).1 hp
   ·exact (sm hq).2 b z
  ·rw [if_neg ht] at h;cases h
 ·rw [if_neg ho] at h
  cases oq9 h
  obtain ⟨bs,w2,s2⟩:=qxo w hp
  refine k _ _ rfl ⟨.rt,.lst (xs.map Sl.d),.ref p,p :: bs⟩ L' _ rfl (by rw [vz9 e]) m w2 (st.trans s2) fun hq=>⟨jjd (sm hq).1 (jk6 hp),fun b hb=>?_⟩
  have:b=p:=by simpa [Sl.own] using hb
  rw [this];exact jkv (sm hq).1 hp
theorem vvm {xs:List Sl} {ys:List Sd} {n:Nat} (h:xs.map Sl.sd=ys) (hl:ys.length=n) (hz:n<=1000):(xs.map Sl.v).length<=sizeLine:=by
 have:xs.length=n:=by rw [<- hl,<- h,List.length_map]
 rw [List.length_map,this]
 exact Nat.le_trans hz (by decide)
theorem jqi {o:Own} (h:QA X Z q cs es) (hz:cs.length<=1000:=by decide):QE X Z q (jvb o cs) (.List es pos):=jky (vwu h) fun σ H Q h_z=>ex8 h_z fun E L r m w hc xc k =>
 qz9 m w (show bnd (jv0 cs E) _=some r from hc) xc fun E1 ys h1 hl xs L1 H1 e1 m1 w1 st sm=>⟨vvm e1 hl hz,kzk (o:=o) (E':=E1) (ys:=ys) (by unfold mkL;exact h1) e1 w1 st sm k m1⟩
theorem jvv {o:Own} {x1} (h:QA X Z q cs es) (hz:cs.length<=1000:=by decide):QE X Z q (jwc o cs) (.Tuple es x1 pos):=jky (vws h) fun σ H Q h_z=>ex8 h_z fun E L r m w hc xc k =>
 qz9 m w (show bnd (jv0 cs E) _=some r from hc) xc fun E1 ys h1 hl xs L1 H1 e1 m1 w1 st sm=>⟨vvm e1 hl hz,fun p hp=>by
  by_cases ho:o=.dp
  ·rw [if_pos ho] at h1
   by_cases ht:ys.all jws=true
   ·rw [if_pos ht] at h1
    cases oq9 h1
    obtain ⟨w2,s2⟩:=qqq (d:=.tup (xs.map Sl.d)) (v:=.ref p) (ps:=[]) w1 (kz6 e1 ht) (fun b hb=>(nomatch hb)) (by simp) (jk6 (o:=.tup (xs.map Sl.v)) hp) (fun bs r=>by
     unfold RepL
     exact ⟨p,_,rfl,SqT.of jkd,r.kp (Kp.of_same (jk6 hp))⟩)
    exact k _ _ rfl ⟨.dp,.tup (xs.map Sl.d),.ref p,_⟩ L1 _ rfl (by rw [vz9 e1]) m1 w2 (st.trans s2) fun hq=>⟨jjd (sm hq).1 (jk6 hp),fun b hb=>(sm hq).2 b hb⟩
   ·rw [if_neg ht] at h1;cases h1
  ·rw [if_neg ho] at h1
   cases oq9 h1
   obtain ⟨bs,w2,s2⟩:=qxn w1 hp
   exact k _ _ rfl ⟨.no,.tup (xs.map Sl.d),.ref p,bs⟩ L1 _ rfl (by rw [vz9 e1]) m1 w2 (st.trans s2) fun hq=>⟨jjd (sm hq).1 (jk6 hp),fun b hb=>(nomatch hb)⟩⟩
end
def spF (K:PySem.W.Frag) (mg:Str->Option Value) (n:Nat) (f:Fn):Sp:=fun vs H Q E=>∃ (xs:List Sl) (r:Res Sd),vs=xs.map Sl.v/\xs.length=n/\World K H (xs.map some)/\f (xs.map Sl.sd)=some r /\
 (∀ E' c,r=.exc E' c->∀ C H',mg c=some (.ref C)->Step H (xs.map some) H' []->E (.ref C) none H') /\
 ∀ E' a,r=.ok E' a->∀ (x:Sl) H',x.o=a.1->x.d=a.2->World K H' [some x]->Step H (xs.map some) H' [some x]->Q x.v H'
theorem jk1 {K:PySem.W.Frag} {mg:Str->Option Value} {n:Nat} {f:Fn} {ps:List Str} (hn:ps.length=n):∀ vs H Q E,spF K mg n f vs H Q E->vs.length=ps.length:=fun vs H Q E ⟨xs,r,e,hl,_⟩=>by rw [e,List.length_map,hl,hn]
theorem kj4:∀ (xs:List Sl) (k:Nat),Mt (xs.map (fun x=>some x.sd)++List.replicate k none) (xs.map (fun x=>some x.v)++List.replicate k none) (xs.map some++List.replicate k none)
 | [],0=>.nil
 | [],k + 1=>by
  rw [List.map_nil,List.map_nil,List.map_nil,List.replicate_succ,List.replicate_succ,List.replicate_succ]
  exact .un (kj4 [] k)
 | x :: xs,k=>.cons (x:=x) (kj4 xs k)
theorem jkx {X:Cx} {K:PySem.W.Frag} {mg:Str->Option Value} {N:List Str} {n nn:Nat} {B:Sm} {body:List Stmt} {H:Hp} {vs:List V} {Q:VK} {E:XK} (hN:N.length=nn) (t:QSs X ⟨K,mg,E⟩ [] B body) (h:spF K mg n (fn nn B) vs H Q E) :
  ∃ t,PSs X body t/\t { nx:=fun _ H'=>Q .non H',rt:=Q } (L2.start N vs) H:=by
 refine ⟨_,t,?_⟩
 obtain ⟨xs,r,rfl,hl,w,hf,hx,hk⟩:=h
 unfold fn at hf
 rw [List.length_map,List.map_map] at hf
 have m:=kj4 xs (nn - xs.length)
 have e1:L2.start N (xs.map Sl.v)=xs.map (fun x=>some x.v)++List.replicate (nn - xs.length) none:=by
  unfold L2.start
  rw [List.map_map,List.length_map,hN]
  rfl
 have wL:World K H (xs.map some++List.replicate (nn - xs.length) none):=w.same (by simp)
 have sL:Step H (xs.map some) H (xs.map some++List.replicate (nn - xs.length) none):=Step.refl.same (List.Perm.refl _) (by simp)
 cases hB:B (xs.map (fun x=>some x.sd)++List.replicate (nn - xs.length) none) with
 | none=>rw [show (some∘Sl.sd)=(fun x:Sl=>some x.sd) from rfl,hB] at hf;cases hf
 | some g =>
  rw [show (some∘Sl.sd)=(fun x:Sl=>some x.sd) from rfl,hB] at hf
  refine ⟨_,_,g,e1▸m,wL,hB,?_⟩
  cases g with
  | nx E1 =>
   cases oq9 hf
   intro σ' L' H' _ m' w' s'
   exact hk _ _ rfl ⟨.dp,.non,.non,[]⟩ H' rfl rfl (World.consPu (x:=⟨.dp,.non,.non,[]⟩) (L:=[]) ⟨fun _ z=>(nomatch z),List.nodup_nil,fun _ z=>(nomatch z)⟩ (show RepL K H' false .non .non [] from jk4) rfl) (jxl (x:=⟨.dp,.non,.non,[]⟩) ((sL.trans s').sub (by simp)) (fun b hb=>(nomatch hb)) rfl)
  | rt E1 a =>
   cases oq9 hf
   intro x σ' L' H' e2 e3 _ m' w' s'
   exact hk _ _ rfl x H' e2 e3 (w'.sub (by simp)) ((sL.trans s').sub (by simp))
  | xc E1 c =>
   cases oq9 hf
   intro C σ' L' H' hm _ m' w' s'
   exact hx _ _ rfl C H' hm ((sL.trans s').sub (by simp))
  | ct E1=>cases hf
  | bk E1=>cases hf
section
variable {X:Cx} {Z:Fx0} {q:Bool} {cs:List Ex} {e:Expr} {es:List Expr} {pos p:Pos} {x:Str} {ps:List Str} {k n:Nat} {f:Fn}
theorem jvo:∀ xs:List Sl,jjb ((xs.map Sl.let).map some)=[]
 | []=>rfl
 | x :: xs=>by rw [List.map_cons,List.map_cons,jj7,jvo xs];rfl
theorem jxf:∀ xs:List Sl,jjk ((xs.map Sl.let).map some)=xs.flatMap Sl.as
 | []=>rfl
 | x :: xs=>by rw [List.map_cons,List.map_cons,jjg,jxf xs,List.flatMap_cons];rfl
theorem kqu (xs:List Sl):(xs.map Sl.let).map Sl.sd=letAll (xs.map Sl.sd):=by
 unfold letAll
 rw [List.map_map,List.map_map]
 rfl
theorem jx1 {K:PySem.W.Frag} {H:Hp} {xs:List Sl} {L:Ls} (w:World K H (xs.map some++L)):World K H ((xs.map Sl.let).map some++L)/\Step H (xs.map some++L) H ((xs.map Sl.let).map some++L):=by
 have nd:=w.nd
 rw [jj5,List.nodup_append] at nd
 have cl:∀ a∈xs.flatMap Sl.as,a∈jjb (xs.map some)\/a∈jjk (xs.map some):=fun a ha=>by
  obtain ⟨x,hx,hax⟩:=List.mem_flatMap.mp ha
  exact (Sl.as_of hax).imp (fun z=>mem_owned.mpr ⟨x,List.mem_map_of_mem hx,z⟩) fun z=>mem_frozen.mpr ⟨x,List.mem_map_of_mem hx,z⟩
 refine ⟨⟨fun x hx=>?_,by rw [jj5,jvo];exact nd.2.1,fun a ha hf=>?_⟩,fun _ _ h _=>h,fun a ha=>?_,fun a ha=>?_⟩
 ·rcases List.mem_append.mp hx with hx | hx
  ·obtain ⟨y,hy,e⟩:=List.mem_map.mp hx
   cases e
   obtain ⟨z,hz,rfl⟩:=List.mem_map.mp hy
   exact jzq (w.ok z (ll9 _ (List.mem_map_of_mem hz)))
  ·exact w.ok x (lr9 _ hx)
 ·rw [jj5,jvo] at ha
  rw [jja,jxf] at hf
  rcases List.mem_append.mp hf with z | z
  ·rcases cl a z with z | z
   ·exact nd.2.2 a z a ha rfl
   ·exact w.ds a (by rw [jj5];exact lr9 _ ha) (by rw [jja];exact ll9 _ z)
  ·exact w.ds a (by rw [jj5];exact lr9 _ ha) (by rw [jja];exact lr9 _ z)
 ·rw [jj5,jvo] at ha
  exact .inl (by rw [jj5];exact lr9 _ ha)
 ·rw [jja,jxf] at ha
  rw [jja,jj5]
  rcases List.mem_append.mp ha with z | z
  ·rcases cl a z with z | z
   ·exact .inr (.inl (ll9 _ z))
   ·exact .inl (ll9 _ z)
  ·exact .inl (lr9 _ z)
theorem jk3 (D:jqm X.prog X.w X.K X.mg X.base k x ps (spF Z.K Z.mg n f)) (hr:Room k X.A) (g:qk7 X Z.EX) (ha:QA X Z q cs (e :: es)) (hn:cs.length=n:=by rfl) (hg:Gl X x:=by rfl) (hdb:(x == ("__debug__":Str))=false:=by decide)
  (he:starEach (e :: es) X.env=(false,eval e X.env) :: starEach es X.env:=by rfl) (hpl:(backTo pos (starEach es X.env)).any (·.1)=false:=by rfl) :
  QE X Z q (jjv f cs) (.Call (.Name x p) (e :: es) [] pos):=jky (qzm D hr g ha hg hdb he hpl) fun σ H Q h_z=>ex8 h_z fun E L r m w hc xc kk =>
 qz9 m w (show bnd (jv0 cs E) _=some r from hc) xc fun E1 ys h1 hl xs L1 H1 e1 m1 w1 st sm=>by
  rw [List.append_nil]
  have hlen:xs.length=n:=by rw [<- hn,<- hl,<- e1,List.length_map]
  cases hf:f (letAll ys) with
  | none=>rw [hf] at h1;cases h1
  | some fr =>
   rw [hf] at h1
   obtain ⟨wl,sl⟩:=jx1 w1
   have ev:xs.map Sl.v=(xs.map Sl.let).map Sl.v:=by rw [List.map_map];rfl
   rw [ev]
   refine ⟨xs.map Sl.let,fr,rfl,by rw [List.length_map];exact hlen,wl.left,by rw [<- e1] at hf;rw [kqu];exact hf,fun E' c ee C H' hm s'=>?_,fun E' a ee y H' e2 e3 w' s'=>?_⟩
   ·subst ee
    cases oq9 h1
    obtain ⟨w2,s2⟩:=stay wl s' ⟨fun _ z=>(nomatch z),List.nodup_nil,fun _ z=>(nomatch z)⟩
    exact xc _ _ rfl C L1 H' hm m1 w2 ((st.trans sl).trans s2)
   ·subst ee
    cases oq9 h1
    obtain ⟨w2,s2⟩:=stay wl s' w'
    refine kk _ _ rfl y L1 H' e2 e3 m1 w2 ((st.trans sl).trans s2) fun hq=>?_
    obtain ⟨a1,a2⟩:=sm hq
    refine ⟨fun b ob hb=>s'.keep b ob (a1 b ob hb) fun z=>?_,fun b hb=>?_⟩
    ·rw [jvo] at z;exact nomatch z
    ·rcases s'.own b (by rw [jj7];exact ll9 _ hb) with z | z
     ·rw [jvo] at z;exact nomatch z
     ·exact jkv a1 z
end
end Q
namespace Q
open PySem PySem.Spec PyProof.Rows L2 L3
def vvx (K:PySem.W.Frag):R2:=fun x y H Q=>∃ l k xs,x=.ref l/\y=.int k/\LsR K H l xs/\-(2 ^ 63)<=k/\k < 2 ^ 63/\xs.length * k.toNat<=sizeLine /\
 ∀ p,H p=none->Q (.ref p) (upd H p (.lst (List.replicate k.toNat xs).flatten))
theorem op_repR {X:Cx}:OpR X (binaryOp .Mult) (vvx X.K):=by
 intro pins s σ H x y v u Q I rx ry h
 obtain ⟨l,k,xs,rfl,rfl,hH,h1,h2,hz,q⟩:=h
 cases rx
 obtain ⟨t,rfl⟩:=ry
 obtain ⟨z,its,n,r,e⟩:=hH.is I
 have hl:=r.length
 have hlen:its.toArray.size * k.toNat<=sizeLine:=by rw [List.size_toArray,<- hl];exact hz
 have hcap:¬ its.toArray.size * k.toNat > (2 ^ 63 - 1) / 8:=by
  have:(sizeLine:Nat)<=(2 ^ 63 - 1) / 8:=by decide
  omega
 have hfit:¬ (!Builtin.List.listFitsIndex k)=true:=by
  rw [fitsIndex_both h1 h2]
  exact Bool.false_ne_true
 have hlong:¬ Builtin.List.listTooLong (its.toArray.size * k.toNat)=true:=by
  rw [qxk hlen]
  exact Bool.false_ne_true
 have hnew:List.foldl (fun x1 x2=>x1++x2) #[] (List.replicate (if its.toArray.isEmpty=true then 0 else k.toNat) its.toArray)=(List.replicate k.toNat its).flatten.toArray:=by
  have f0:∀ m:Nat,List.foldl (fun x1 x2=>x1++x2) #[] (List.replicate m its.toArray)=(List.replicate m its).flatten.toArray:=fun m=>by
   have:=kjy its m []
   rw [List.nil_append] at this
   exact this
  rw [f0]
  cases its with
  | nil=>simp
  | cons a r'=>rw [if_neg (by simp)]
 refine wpAny_binaryOp_repeat_ref (T:="list") (U:="int") (by decide) ⟨_,e,rfl⟩ (fun s'=>typeIs_int s' k t) noFill_list_mul F.fills_int_mul F.slot_int_rmul repeat_list F.slot_int_index.lookup
  (call_meets F.slot_int_rmul (typeIs_int s k t) F.entry_int_rmul (F.args_int_rmul_2 _ _) (int___rmul___int_list k t l its.toArray n)
   ⟨e,rfl,⟨_,e,rfl⟩,call_meets F.slot_list_mul ⟨_,e,rfl⟩ F.entry_list_mul (F.args_list_mul_2 _ _) (AutoListH.list___mul___list_int_3 l its.toArray n k t hfit hcap hlong) ⟨e,?_⟩⟩)
 rw [hnew]
 exact ⟨.ref _,_,I.lnew (t':=s.toks) (r.rep k.toNat) (by rw [qqw,Nat.mul_comm];exact hz),rfl,q _ I.fresh⟩
def vjv (K:PySem.W.Frag):R2:=fun x y H Q=>rI IntMulOk (fun i j=>.int (i * j)) x y H Q\/vvx K x y H Q\/vvw x y H Q
theorem vx1 {X:Cx} {K:PySem.W.Frag} (hK:X.K=K:=by rfl):OpR X (binaryOp .Mult) (vjv K):=by subst hK;exact op_mulI.or (op_repR.or vks)
theorem kzl {a:Int} (h:a.natAbs.log2 < 2000000):Builtin.Int.intBits a<=2000000:=by
 unfold Builtin.Int.intBits
 split
 ·exact Nat.zero_le _
 ·omega
theorem mulOk_of {a b:Int} (h:jzy a b=true):IntMulOk a b:=by
 unfold jzy kwy at h
 simp only [Bool.or_eq_true,Bool.and_eq_true,decide_eq_true_eq] at h
 rcases h with (h | h) | h
 ·exact .of_left (intBits_le_64 h.1 h.2)
 ·exact .of_right (intBits_le_64 h.1 h.2)
 ·have h1:=kzl h.1
  have h2:=kzl h.2
  unfold IntMulOk Builtin.Int.intTooBig
  have e:(2:Nat) ^ 27=134217728:=by decide
  have hb:bitsLine=134217728:=e
  simp only [Bool.and_eq_true,decide_eq_true_eq,not_and]
  intro _ _
  omega
theorem RepA.reps {K:PySem.W.Frag} {H:Hp} {ds:List D} {xs:List V} {bs:List Addr} (h:RepA K H true ds xs bs):∀ k:Nat,∃ cs,RepA K H true (List.replicate k ds).flatten (List.replicate k xs).flatten cs/\∀ b∈cs,b∈bs
 | 0=>⟨[],by simp only [List.replicate_zero,List.flatten_nil];unfold RepA;exact ⟨rfl,rfl⟩,fun _ z=>(nomatch z)⟩
 | k + 1=>by
  obtain ⟨cs,r,hc⟩:=RepA.reps h k
  rw [List.replicate_succ,List.replicate_succ,List.flatten_cons,List.flatten_cons]
  exact ⟨bs++cs,r.app h,fun b hb=>(List.mem_append.mp hb).elim id (hc b)⟩
theorem vja {K:PySem.W.Frag}:Ad2 K (vjv K) qju:=by
 intro H x y s Q ox oy hf k
 unfold qju at hf
 dsimp only at hf
 split at hf
 ·rename_i i j e1 e2
  split at hf
  ·rename_i hm
   cases oq9 hf
   exact .inl ⟨i,j,jqh ox e1,jqh oy e2,mulOk_of hm,k ⟨.dp,.int _,.int _,[]⟩ H rfl rfl vkr⟩
  ·cases hf
 ·rename_i a n e1 e2
  split at hf
  ·rename_i hc
   cases oq9 hf
   obtain ⟨l,xs,bs,e3,q3,r3,h3⟩:=jk5 ox (.inl e1) hc.2.2.2
   have q3:LsR K H l xs:=by rcases q3 with ⟨_,z⟩ | ⟨z,_⟩;exact z;rw [e1] at z;cases z
   obtain ⟨cs,r4,h4⟩:=r3.reps n.toNat
   refine .inr (.inl ⟨l,n,xs,e3,jqh oy e2,q3,hc.1,hc.2.1,by rw [<- r3.len];exact hc.2.2.1,fun p hp=>?_⟩)
   exact k ⟨.rt,.lst _,.ref p,p :: cs⟩ _ rfl rfl (jwg hp r4 fun b hb=>ll9 _ (h3 b (h4 b hb)))
  ·cases hf
 ·rename_i z n e1 e2
  split at hf
  ·rename_i hc
   cases oq9 hf
   exact .inr (.inr ⟨z,n,(jwp ox e1).1,jqh oy e2,hc.1,k ⟨.dp,.str _,.str _,[]⟩ H rfl rfl (wjj hc.2)⟩)
  ·cases hf
 ·cases hf
def dec (h:Heap) (u:Value):D:=open Classical in if e:∃ d,jj9 h d u then e.choose else .non
theorem qj1 {h:Heap} {u:Value} {d:D} (r:jj9 h d u):dec h u=d:=by
 unfold dec
 have e:∃ d,jj9 h d u:=⟨d,r⟩
 rw [dif_pos e]
 exact kj6 e.choose_spec r
theorem kxs {h:Heap} {d:D}:∀ {ds:List D} {us:List Value},CReps h ds us->us.any (fun u=>peq (dec h u) d)=ds.any fun z=>peq z d
 | [],_,r=>by unfold CReps at r;rw [r];rfl
 | z :: ds,_,r=>by
  unfold CReps at r
  obtain ⟨u,rr,rfl,h1,h2⟩:=r
  rw [List.any_cons,List.any_cons,qj1 h1,kxs h2]
theorem kqs {h:Heap}:∀ {ds:List D} {us:List Value} {u:Value},CReps h ds us->u∈us->∃ d∈ds,jj9 h d u
 | [],_,_,r,hu=>by unfold CReps at r;rw [r] at hu;cases hu
 | z :: ds,_,u,r,hu=>by
  unfold CReps at r
  obtain ⟨u',rr,rfl,h1,h2⟩:=r
  rcases List.mem_cons.mp hu with rfl | hu
  ·exact ⟨z,List.mem_cons_self,h1⟩
  ·obtain ⟨d,hd,c⟩:=kqs h2 hu
   exact ⟨d,lc9 _ hd,c⟩
theorem kk2:∀ {n:Nat} {ds:List D} {d:D},D.flats n ds=true->d∈ds->d.flat n=true
 | _,[],_,_,h=>by cases h
 | n,z :: ds,d,f,h=>by
  unfold D.flats at f
  rw [Bool.and_eq_true] at f
  rcases List.mem_cons.mp h with rfl | h
  ·exact f.1
  ·exact kk2 f.2 h
section
variable {X:Cx} {Z:Fx0} {K:PySem.W.Frag} {q qa qb:Bool} {a b c:Ex} {u v:Ts} {e ea eb:Expr} {es:List Expr} {pos p:Pos} {σ:L2.St} {H:Hp} {L:Ls} {E:En}
def qzh (K:PySem.W.Frag) (neg:Bool):R2:=fun x y H Q=>∃ d ds as bs p xs,RepL K H true d x as/\y=.ref p/\(SqL K H p xs\/SqT K H p xs)/\RepA K H true ds xs bs/\d.flat 30=true/\D.flats 30 ds=true/\Q (.bl (if neg then !(ds.any fun z=>peq z d) else ds.any fun z=>peq z d)) H
theorem qjj (hu:X.A.units + 64 < cLine):OpR X (compareOp .NotIn) (qzh X.K true):=by
 intro pins s σ H x y v u Q I rx ry h
 obtain ⟨d,ds,as,bs,p,xs,h1,rfl,hq,ra,f1,f2,q⟩:=h
 cases ry
 have c1:=jxg I h1 f1 rx
 have he:∀ {us:List Value},CReps s.heap ds us->∀ w,w∈us.toArray->SeqAt.EqAt X.A.in1 s w v (peq (dec s.heap w) d):=fun {us} cr w hw=>by
  obtain ⟨d',hd,c⟩:=kqs cr (by simpa using hw)
  rw [qj1 c]
  exact kq3 30 (kk2 f2 hd) c c1 (by have:=L3.in1_units X.A;omega)
 rcases hq with hq | hq
 ·obtain ⟨its,r,pl,hz⟩:=I.list hq
  have cr:=creps_of I ra f2 r
  refine SeqAt.notIn_listAt _ pl.isList (he cr) ⟨.bl _,H,I,rfl,?_⟩
  rw [List.any_toArray,kxs cr]
  exact q
 ·obtain ⟨its,r,pl,hz⟩:=I.tuple hq
  have cr:=creps_of I ra f2 r
  refine SeqAt.notIn_tupleAt _ pl (he cr) ⟨.bl _,H,I,rfl,?_⟩
  rw [List.any_toArray,kxs cr]
  exact q
def qzg (neg:Bool):R2:=fun x y H Q=>∃ i j,x=.str i/\y=.str j/\Q (.bl (if neg then !wk1 i j else wk1 i j)) H
theorem opNotInStr:OpR X (compareOp .NotIn) (qzg true):=fun pins s σ H x y v u Q I rx ry ⟨i,j,e1,e2,q⟩=>kvt pins s σ H x y v u Q I rx ry ⟨i,j,e1,e2,q⟩
def wj4 (K:PySem.W.Frag) (neg:Bool):R2:=fun x y H Q=>qzg neg x y H Q\/qzh K neg x y H Q
theorem jxy (hu:X.A.units + 64 < cLine) (hK:X.K=K:=by rfl):OpR X (compareOp .NotIn) (wj4 K true):=by subst hK;exact opNotInStr.or (qjj hu)
theorem kkh {H:Hp} {l:Addr} {xs:List V} (h:LsR K H l xs):SqL K H l xs:=h.sq
theorem qvf {x y:Sl} {ys:List D} {neg:Bool} {Q:VK} (ox:x.ok K H) (oy:y.ok K H) (hy:y.d=.lst ys\/y.d=.tup ys) (hc:(x.d.flat 30 && D.flats 30 ys)=true)
  (k:Q (.bl (if neg then !(ys.any fun z=>peq z x.d) else ys.any fun z=>peq z x.d)) H):wj4 K neg x.v y.v H Q:=by
 rw [Bool.and_eq_true] at hc
 obtain ⟨l,xs,bs,e3,q3,r3,_⟩:=items oy hy
 have r3':RepA K H true ys xs bs:=by
  cases ho:(y.o != .dp) with
  | true=>rw [ho] at r3;exact r3
  | false=>rw [ho] at r3;exact r3.wk
 refine .inr ⟨x.d,ys,x.as,bs,l,xs,RepO.wk ox,e3,?_,r3',hc.1,hc.2,k⟩
 rcases q3 with ⟨_,z⟩ | ⟨_,z⟩
 ·exact .inl (kkh z)
 ·exact .inr z
theorem jzc:Ad2 K (wj4 K true) (pu2 jq8):=by
 intro H x y s Q ox oy hf k
 unfold pu2 jq8 kwe fIn at hf
 dsimp only at hf
 cases hy:y.d with
 | lst ys =>
  rw [hy] at hf
  dsimp only at hf
  split at hf
  ·rename_i hc
   cases oq9 hf
   exact qvf ox oy (.inl hy) hc (k ⟨.dp,.bl _,.bl _,[]⟩ H rfl rfl qk3)
  ·cases hf
 | tup ys =>
  rw [hy] at hf
  dsimp only at hf
  split at hf
  ·rename_i hc
   cases oq9 hf
   exact qvf ox oy (.inr hy) hc (k ⟨.dp,.bl _,.bl _,[]⟩ H rfl rfl qk3)
  ·cases hf
 | str b =>
  rw [hy] at hf
  dsimp only at hf
  split at hf
  ·rename_i a hx
   cases oq9 hf
   exact .inl ⟨a,b,(jwp ox hx).1,(jwp oy hy).1,k ⟨.dp,.bl _,.bl _,[]⟩ H rfl rfl qk3⟩
  ·cases hf
 | _=>rw [hy] at hf;cases hf
theorem kj1 {g:Bool} {d:D} {v:V} {as:List Addr} (h:RepL K H g d v as):decide (v=.non)=isNon d:=by
 cases d with
 | non=>unfold RepL at h;rw [h.1];rfl
 | bl _=>unfold RepL at h;rw [h.1];rfl
 | int _=>unfold RepL at h;rw [h.1];rfl
 | str _=>unfold RepL at h;rw [h.1];rfl
 | tup _=>unfold RepL at h;obtain ⟨a,xs,e,_⟩:=h;rw [e];rfl
 | lst _=>unfold RepL at h;obtain ⟨a,xs,bs,e,_⟩:=h;rw [e];rfl
 | dct _=>unfold RepL at h;obtain ⟨a,xs,bs,e,_⟩:=h;rw [e];rfl
 | obj _ _=>unfold RepL at h;obtain ⟨_,x,o,C,e,_⟩:=h;rw [e];rfl
theorem jzs:Ad2 K (fun x y H Q=>y=.non/\Q (.bl (decide (x=.non))) H) (f2First fIsNon):=by
 intro H x y s Q ox oy hf k
 unfold f2First fIsNon at hf
 dsimp only at hf
 split at hf
 ·rename_i hy
  cases oq9 hf
  have e:=kj1 (RepO.wk oy)
  rw [hy] at e
  refine ⟨of_decide_eq_true e,?_⟩
  rw [kj1 (RepO.wk ox)]
  exact k ⟨.dp,.bl _,.bl _,[]⟩ H rfl rfl qk3
 ·cases hf
theorem kxt:Ad2 K (fun x y H Q=>y=.non/\Q (.bl (!decide (x=.non))) H) (f2First fNotNon):=by
 intro H x y s Q ox oy hf k
 unfold f2First fNotNon at hf
 dsimp only at hf
 split at hf
 ·rename_i hy
  cases oq9 hf
  have e:=kj1 (RepO.wk oy)
  rw [hy] at e
  refine ⟨of_decide_eq_true e,?_⟩
  rw [kj1 (RepO.wk ox)]
  exact k ⟨.dp,.bl _,.bl _,[]⟩ H rfl rfl qk3
 ·cases hf
theorem qzw (n:Nat) (i:Int):_root_.Q.ixN n i=L2.ixN n i:=rfl
theorem vq7 {x y:Sl} {d:D} {Q:VK} (ox:x.ok K H) (oy:y.ok K H) (hf:jwb x.d y.d=some d) (k:∀ z:Sl,z.o=sub x.o->z.d=d->z.ok K H->(∀ b∈z.frz,b∈x.frz)->(∀ b∈z.as,b∈x.as)->Q z.v H):rIx K x.v y.v H Q:=by
 have seq:∀ ds:List D,(x.d=.lst ds\/x.d=.tup ds)->∀ i:Int,y.d=.int i->((_root_.Q.ixN ds.length i).bind fun j=>ds[j]?)=some d->rIx K x.v y.v H Q:=by
  intro ds hx i hy hd
  obtain ⟨l,xs,bs,e3,q3,r3,h3,h4⟩:=items ox hx
  cases hj:_root_.Q.ixN ds.length i with
  | none=>rw [hj] at hd;cases hd
  | some j =>
   rw [hj] at hd
   obtain ⟨v,cs,e4,r4,h5⟩:=r3.get (show ds[j]?=some d from hd)
   have hat:atI xs i=some v:=by
    unfold atI
    rw [<- r3.len,<- qzw,hj]
    exact e4
   have fin:Q v H:=by
    cases ho:x.o with
    | dp =>
     rw [ho] at r4
     exact k ⟨.dp,d,v,cs⟩ (by rw [ho];rfl) rfl r4 (fun b hb=>(nomatch hb)) fun b hb=>h3 b (h5 b hb)
    | no =>
     rw [ho] at r4
     exact k ⟨.no,d,v,cs⟩ (by rw [ho];rfl) rfl r4 (fun b hb=>h4 (by rw [ho];exact (fun z=>nomatch z)) b (h5 b hb)) fun b hb=>h3 b (h5 b hb)
    | rt =>
     rw [ho] at r4
     exact k ⟨.no,d,v,cs⟩ (by rw [ho];rfl) rfl r4 (fun b hb=>h4 (by rw [ho];exact (fun z=>nomatch z)) b (h5 b hb)) fun b hb=>h3 b (h5 b hb)
   rcases q3 with ⟨_,z⟩ | ⟨_,z⟩
   ·exact .inl ⟨l,xs,i,v,e3,jqh oy hy,kkh z,hat,fin⟩
   ·exact .inr (.inl ⟨l,xs,i,v,e3,jqh oy hy,z,hat,fin⟩)
 unfold jwb at hf
 cases hx:x.d with
 | lst ds =>
  rw [hx] at hf
  cases hy:y.d with
  | int i=>rw [hy] at hf;exact seq ds (.inl hx) i hy hf
  | _=>rw [hy] at hf;cases hf
 | tup ds =>
  rw [hx] at hf
  cases hy:y.d with
  | int i=>rw [hy] at hf;exact seq ds (.inr hx) i hy hf
  | _=>rw [hy] at hf;cases hf
 | str z =>
  rw [hx] at hf
  cases hy:y.d with
  | int i =>
   rw [hy] at hf
   have hf:((_root_.Q.ixN z.cps.size i).bind fun j=>(z.cps.toList[j]?).map fun c=>D.str ⟨#[c]⟩)=some d:=hf
   cases hj:_root_.Q.ixN z.cps.size i with
   | none=>rw [hj] at hf;cases hf
   | some j =>
    rw [hj] at hf
    cases hc:z.cps.toList[j]? with
    | none=>rw [Option.bind_some,hc] at hf;cases hf
    | some c =>
     rw [Option.bind_some,hc] at hf
     cases oq9 hf
     have hat:atI z.cps.toList i=some c:=by
      unfold atI
      rw [Array.length_toList,<- qzw,hj]
      exact hc
     obtain ⟨e1,hz⟩:=jwp ox hx
     refine .inr (.inr ⟨z,i,c,e1,jqh oy hy,hz,hat,?_⟩)
     have rp:∀ g,RepL K H g (.str ⟨#[c]⟩) (.str ⟨#[c]⟩) []:=fun g=>jqn (show (1:Nat)<=sizeLine by decide)
     cases ho:x.o with
     | dp=>exact k ⟨.dp,.str ⟨#[c]⟩,.str ⟨#[c]⟩,[]⟩ (by rw [ho];rfl) rfl (rp false) (fun b hb=>(nomatch hb)) fun b hb=>(nomatch hb)
     | no=>exact k ⟨.no,.str ⟨#[c]⟩,.str ⟨#[c]⟩,[]⟩ (by rw [ho];rfl) rfl (rp true) (fun b hb=>(nomatch hb)) fun b hb=>(nomatch hb)
     | rt=>exact k ⟨.no,.str ⟨#[c]⟩,.str ⟨#[c]⟩,[]⟩ (by rw [ho];rfl) rfl (rp true) (fun b hb=>(nomatch hb)) fun b hb=>(nomatch hb)
  | _=>rw [hy] at hf;cases hf
 | non=>rw [hx] at hf;cases hf
 | bl _=>rw [hx] at hf;cases hf
 | int _=>rw [hx] at hf;cases hf
 | dct _=>rw [hx] at hf;cases hf
 | obj _ _=>rw [hx] at hf;cases hf
theorem jkh (ha:QV X Z qa a ea) (hb:QV X Z true b eb) (hs:qwe eb) (hK:X.K=Z.K:=by rfl):QV X Z qa (jjf a b) (.Subscript ea eb pos) :=
 jky (wjg (hK▸vxn) ha hb hs) fun σ H Q h_z=>ex8 h_z fun E L r m w hc xc k=>by
  refine jwd m w (show bnd (a E) _=some r from hc) xc fun E1 s h1 x L1 H1 e1 e2 m1 w1 ok fr sr st sm=>?_
  refine jwd m1 w1 h1 (xc.step st) fun E2 s2 h2 y L2 H2 e3 e4 m2 w2 ok2 fr2 sr2 st2 sm2=>?_
  obtain ⟨z,hz,rfl⟩:=jwe h2
  cases hf:jwb s.2 s2.2 with
  | none=>rw [hf] at hz;cases hz
  | some d =>
   rw [hf] at hz
   cases oq9 hz
   have kx:=jw5 ok fr st2 (sm2 rfl)
   refine vq7 kx.1 ok2 (by rw [e2,e4];exact hf) fun z zo zd zok zf za=>?_
   exact k _ _ rfl z L2 H2 (by rw [zo,e1]) zd m2 w2 zok (fun b hb=>kx.2 b (zf b hb)) (jxm sr za) (st.trans st2) fun hq=>jjd (sm hq) (sm2 rfl)
theorem qx4 (ht:QT X Z q u e) (ha:QE X Z q a ea) (hb:QE X Z q b eb):QE X Z q (cIf u a b) (.IfExp e ea eb pos):=jky (qxf ht ha hb) fun σ H Q h_z=>ex8 h_z fun E L r m w hc xc k =>
 qwp m w (show bnd (u E) _=some r from hc) xc fun E1 s h1 L1 H1 m1 w1 st sm=>by
  have fin:∀ {c:Ex},c E1=some r->tQ Z q c σ H1 Q:=fun hc=>⟨E1,L1,r,m1,w1,hc,xc.step st,fun E' a z x L' H' e1 e2 m' w' st' sm'=>k E' a z x L' H' e1 e2 m' w' (st.trans st') fun hq=>⟨jjd (sm hq) (sm' hq).1,fun b hb=>jkv (sm hq) ((sm' hq).2 b hb)⟩⟩
  cases s with
  | true=>rw [if_pos rfl] at h1 ⊢;exact fin h1
  | false=>rw [if_neg (by decide)] at h1 ⊢;exact fin h1
theorem qq1 {op} (h:QE X Z q a ea):QE X Z q a (.BoolOp op [ea] pos):=vwt h
theorem vk2 (ha:QV X Z q a ea) (hb:QE X Z q b (.BoolOp .And (eb :: es) pos)):QE X Z q (vqt a b) (.BoolOp .And (ea :: eb :: es) pos):=jky (vwx ha hb) fun σ H Q h_z=>ex8 h_z fun E L r m w hc xc k =>
 jwd m w (show bnd (a E) _=some r from hc) xc fun E1 s h1 x L1 H1 e1 e2 m1 w1 ok fr sr st sm=>by
  cases hs:s.2 with
  | bl kk =>
   rw [hs] at h1
   refine ⟨kk,kxc ok (e2.trans hs),?_⟩
   cases kk with
   | true =>
    rw [if_pos rfl]
    exact ⟨E1,L1,r,m1,w1,h1,xc.step st,fun E' a z x L' H' e1 e2 m' w' st' sm'=>k E' a z x L' H' e1 e2 m' w' (st.trans st') fun hq=>⟨jjd (sm hq) (sm' hq).1,fun b hb=>jkv (sm hq) ((sm' hq).2 b hb)⟩⟩
   | false =>
    rw [if_neg (by decide)]
    cases oq9 h1
    obtain ⟨w3,st3⟩:=jvc w1 st (qk3 (K:=Z.K) (H:=H1) (i:=false) (fr:=[])) (fun _ z=>(nomatch z)) (fun _ z=>(nomatch z)) (fun _ z=>(nomatch z))
    exact k _ _ rfl ⟨.dp,.bl false,.bl false,[]⟩ L1 H1 rfl rfl m1 w3 st3 fun hq=>⟨sm hq,fun _ z=>(nomatch z)⟩
  | _=>rw [hs] at h1;cases h1
theorem q_or (ha:QV X Z q a ea) (hb:QE X Z q b (.BoolOp .Or (eb :: es) pos)):QE X Z q (cOr a b) (.BoolOp .Or (ea :: eb :: es) pos):=jky (wje ha hb) fun σ H Q h_z=>ex8 h_z fun E L r m w hc xc k =>
 jwd m w (show bnd (a E) _=some r from hc) xc fun E1 s h1 x L1 H1 e1 e2 m1 w1 ok fr sr st sm=>by
  cases hs:s.2 with
  | bl kk =>
   rw [hs] at h1
   refine ⟨kk,kxc ok (e2.trans hs),?_⟩
   cases kk with
   | false =>
    rw [if_neg (by decide)]
    exact ⟨E1,L1,r,m1,w1,h1,xc.step st,fun E' a z x L' H' e1 e2 m' w' st' sm'=>k E' a z x L' H' e1 e2 m' w' (st.trans st') fun hq=>⟨jjd (sm hq) (sm' hq).1,fun b hb=>jkv (sm hq) ((sm' hq).2 b hb)⟩⟩
   | true =>
    rw [if_pos rfl]
    cases oq9 h1
    obtain ⟨w3,st3⟩:=jvc w1 st (qk3 (K:=Z.K) (H:=H1) (i:=true) (fr:=[])) (fun _ z=>(nomatch z)) (fun _ z=>(nomatch z)) (fun _ z=>(nomatch z))
    exact k _ _ rfl ⟨.dp,.bl true,.bl true,[]⟩ L1 H1 rfl rfl m1 w3 st3 fun hq=>⟨sm hq,fun _ z=>(nomatch z)⟩
  | _=>rw [hs] at h1;cases h1
theorem truV {x:Sl} {k:Bool} (ok:x.ok K H) (h:truth x.d=some k) (hd:∀ kvs,x.d≠.dct kvs):wkb K x.v H k:=by
 cases hx:x.d with
 | non=>rw [hx] at h;rw [qzp ok hx];exact (oq9 h).symm
 | bl b=>rw [hx] at h;rw [kxc ok hx];exact (oq9 h).symm
 | int i=>rw [hx] at h;rw [jqh ok hx];exact (oq9 h).symm
 | str z =>
  rw [hx] at h
  obtain ⟨e,hz⟩:=jwp ok hx
  rw [e]
  refine ⟨hz,?_⟩
  rw [<- oq9 h]
  show (z.cps.size != 0)=(((z.cps.size:Nat):Int) != 0)
  rw [Bool.eq_iff_iff]
  simp
 | lst ds =>
  rw [hx] at h
  obtain ⟨a,xs,bs,e,q,r,_⟩:=items ok (.inl hx)
  rw [e]
  have q':LsR K H a xs:=by rcases q with ⟨_,z⟩ | ⟨z,_⟩;exact z;rw [hx] at z;cases z
  refine .inl ⟨xs,kkh q',?_⟩
  rw [<- oq9 h]
  have:=r.len
  cases ds<;>cases xs<;>simp_all
 | tup ds =>
  rw [hx] at h
  obtain ⟨a,xs,bs,e,q,r,_⟩:=items ok (.inr hx)
  rw [e]
  have q':SqT K H a xs:=by rcases q with ⟨z,_⟩ | ⟨_,z⟩;rw [hx] at z;cases z;exact z
  refine .inr (.inl ⟨xs,q',?_⟩)
  rw [<- oq9 h]
  have:=r.len
  cases ds<;>cases xs<;>simp_all
 | dct kvs=>exact absurd hx (hd kvs)
 | obj c f=>rw [hx] at h;cases h
theorem qkh {d:D} {k:Bool} (h:truthQ d=some k):truth d=some k/\∀ kvs,d≠.dct kvs:=by
 cases d<;>first | exact ⟨h,fun _ z=>nomatch z⟩ | cases h
theorem kjf (h:QV X Z q a ea) (he:∀ whole,isTrue ea X.env whole=(do let v <- whole;standAt ea.pos;holding [v] (truthy v)):=by intro _;rfl) (hK:X.K=Z.K:=by rfl):QT X Z q (tEQ a) ea:=qq6 (qx5 h he) fun σ H Q h_z=>ex8 h_z fun E L r m w hc xc k =>
 jwd m w (show bnd (a E) _=some r from hc) xc fun E1 s h1 x L1 H1 e1 e2 m1 w1 ok fr sr st sm=>by
  obtain ⟨kk,hk,rfl⟩:=jwe h1
  obtain ⟨h2,h3⟩:=qkh hk
  exact ⟨kk,hK▸truV ok (by rw [e2];exact h2) (by rw [e2];exact h3),k _ _ rfl L1 H1 m1 w1 st sm⟩
end
end Q
namespace Q
open PySem PySem.Spec PyProof.Rows L2 L3
theorem kj7 {α:Type}:∀ {L:List α} {i:Nat} {q:α},L[i]?=some q->∃ A B,L=A++q :: B/\∀ q',L.set i q'=A++q' :: B
 | [],_,_,h=>by simp at h
 | a :: L,0,q,h=>by
  have e:a=q:=by simpa using h
  subst e
  exact ⟨[],L,rfl,fun _=>rfl⟩
 | a :: L,i + 1,q,h=>by
  obtain ⟨A,B,e,f⟩:=kj7 (L:=L) (i:=i) (by simpa using h)
  exact ⟨a :: A,B,by rw [e];rfl,fun q'=>by rw [List.set_cons_succ,f];rfl⟩
section
variable {K:PySem.W.Frag} {H:Hp} {M T L:Ls} {y y':Sl} {l:Addr} {ob:HO}
theorem World.write (w:World K H (some y :: (T++M))) (hl:l∈y.own) (ok':y'.ok K (upd H l ob)) (nd:y'.own.Nodup) (h1:∀ a∈y'.own,a∈y.own\/a∈jjb T) (h2:∀ a∈y'.frz,a∈y.as\/a∈jjb T\/a∈jjk T) (h3:∀ a∈y'.own,a∉y'.frz) :
  World K (upd H l ob) (some y' :: M)/\Step H (some y :: (T++M)) (upd H l ob) (some y' :: M):=by
 have wn:=w.nd
 rw [jj7,jj5,List.nodup_append,List.nodup_append] at wn
 obtain ⟨n1,⟨n2,n3,n4⟩,n5⟩:=wn
 have oy:l∈jjb (some y :: (T++M)):=by rw [jj7];exact ll9 _ hl
 have hal:=w.own_al oy
 have ds:∀ a,(a∈y.own\/a∈jjb T\/a∈jjb M)->¬ (a∈y.frz\/a∈jjk T\/a∈jjk M):=fun a ha hf=>by
  refine w.ds a ?_ ?_
  ·rw [jj7,jj5]
   rcases ha with z | z | z
   ·exact ll9 _ z
   ·exact lr9 _ (ll9 _ z)
   ·exact lr9 _ (lr9 _ z)
  ·rw [jjg,jja]
   rcases hf with z | z | z
   ·exact ll9 _ z
   ·exact lr9 _ (ll9 _ z)
   ·exact lr9 _ (lr9 _ z)
 have noM:∀ z,some z∈M->l∉z.as:=fun z hz ha=>by
  rcases Sl.as_of ha with q | q
  ·exact n5 l hl l (lr9 _ (mem_owned.mpr ⟨z,hz,q⟩)) rfl
  ·exact ds l (.inl hl) (.inr (.inr (mem_frozen.mpr ⟨z,hz,q⟩)))
 have ke:∀ a o,H a=some o->a≠l->upd H l ob a=some o:=fun a o e ne=>by rw [jjw ne];exact e
 have kp:∀ as:List Addr,l∉as->Kp H (upd H l ob) as:=fun as hn=>by
  refine ⟨fun a xs e=>ke a _ e fun z=>?_,fun a o u e=>ke a _ e fun z=>?_,fun a ha o e=>ke a o e fun z=>hn (z▸ha)⟩
  ·subst z;rcases hal with ⟨_,q⟩ | ⟨_,q⟩ | ⟨_,q⟩<;>(rw [e] at q;cases q)
  ·subst z;rcases hal with ⟨_,q⟩ | ⟨_,q⟩ | ⟨_,q⟩<;>(rw [e] at q;cases q)
 have wM:World K (upd H l ob) M:=by
  have w1:World K H M:=w.tail.right
  exact ⟨fun z hz=>RepO.kp (w1.ok z hz) (kp _ (noM z hz)),w1.nd,w1.ds⟩
 refine ⟨wM.cons ok' nd (fun a ha hM=>?_) (fun a ha hM=>?_) (fun a ha hM=>?_) h3,fun a o e hn=>ke a o e fun z=>hn (z▸oy),fun a ha=>?_,fun a ha=>?_⟩
 ·rcases h1 a ha with z | z
  ·exact n5 a z a (lr9 _ hM) rfl
  ·exact n4 a z a hM rfl
 ·rcases h1 a ha with z | z
  ·exact ds a (.inl z) (.inr (.inr hM))
  ·exact ds a (.inr (.inl z)) (.inr (.inr hM))
 ·rcases h2 a ha with z | z | z
  ·rcases Sl.as_of z with z | z
   ·exact n5 a z a (lr9 _ hM) rfl
   ·exact ds a (.inr (.inr hM)) (.inl z)
  ·exact n4 a z a hM rfl
  ·exact ds a (.inr (.inr hM)) (.inr (.inl z))
 ·rw [jj7] at ha
  rw [jj7,jj5]
  rcases List.mem_append.mp ha with z | z
  ·rcases h1 a z with z | z
   ·exact .inl (ll9 _ z)
   ·exact .inl (lr9 _ (ll9 _ z))
  ·exact .inl (lr9 _ (lr9 _ z))
 ·rw [jjg] at ha
  rw [jj7,jj5,jjg,jja]
  rcases List.mem_append.mp ha with z | z
  ·rcases h2 a z with z | z | z
   ·rcases Sl.as_of z with z | z
    ·exact .inr (.inl (ll9 _ z))
    ·exact .inl (ll9 _ z)
   ·exact .inr (.inl (lr9 _ (ll9 _ z)))
   ·exact .inl (lr9 _ (ll9 _ z))
  ·exact .inl (lr9 _ (lr9 _ z))
theorem World.writeAt {i:Nat} (w:World K H (T++L)) (hy:L[i]?=some (some y)) (hl:l∈y.own) (ok':y'.ok K (upd H l ob)) (nd:y'.own.Nodup) (h1:∀ a∈y'.own,a∈y.own\/a∈jjb T) (h2:∀ a∈y'.frz,a∈y.as\/a∈jjb T\/a∈jjk T) (h3:∀ a∈y'.own,a∉y'.frz) :
  World K (upd H l ob) (L.set i (some y'))/\Step H (T++L) (upd H l ob) (L.set i (some y')):=by
 obtain ⟨A,B,e,f⟩:=kj7 hy
 rw [f]
 subst e
 have p:(T++(A++some y :: B)).Perm (some y :: (T++(A++B))):=by
  refine (List.Perm.append_left T (List.perm_middle (a:=some y) (l₁:=A) (l₂:=B))).trans List.perm_middle
 obtain ⟨w2,s2⟩:=World.write (M:=A++B) (w.perm p) hl ok' nd h1 h2 h3
 exact ⟨w2.perm List.perm_middle.symm,s2.perm p.symm List.perm_middle.symm⟩
end
theorem RepA.snoc {K:PySem.W.Frag} {H:Hp} {g:Bool} {d:D} {x:V} {cs:List Addr} (h:RepL K H g d x cs) {ds:List D} {xs:List V} {bs:List Addr} (r:RepA K H g ds xs bs):RepA K H g (ds++[d]) (xs++[x]) (bs++cs):=by
 refine RepA.app ?_ r
 unfold RepA
 exact ⟨x,[],cs,[],rfl,by simp,h,by unfold RepA;exact ⟨rfl,rfl⟩⟩
theorem vkq {K:PySem.W.Frag} {H:Hp} {y:Sl} {ds:List D} (ok:y.ok K H) (hd:y.d=.lst ds) (ho:y.o≠.no):∃ l xs bs,y.v=.ref l/\H l=some (.lst xs)/\y.as=l :: bs/\l∈y.own/\RepA K H (y.o != .dp) ds xs bs:=by
 obtain ⟨o,d,v,as⟩:=y
 dsimp only at hd ho
 subst hd
 cases o with
 | no=>exact absurd rfl ho
 | rt =>
  obtain ⟨a,xs,bs,rfl,r,q,rfl⟩:=(show RepR K H (.lst ds) v as from ok)
  exact ⟨a,xs,bs,rfl,q,rfl,by simp [Sl.own],r⟩
 | dp =>
  have ok:RepL K H false (.lst ds) v as:=ok
  unfold RepL at ok
  obtain ⟨a,xs,bs,rfl,r,q⟩:=ok
  rcases q with ⟨q,rfl⟩ | ⟨z,_⟩
  ·exact ⟨a,xs,bs,rfl,q,rfl,by simp [Sl.own],r⟩
  ·cases z
theorem qq4 {K:PySem.W.Frag} {H:Hp} {T L:Ls} {i:Nat} {y:Sl} {l:Addr} {xs xs':List V} {bs cs:List Addr} {o':Own} {ds':List D} (w:World K H (T++L)) (hy:L[i]?=some (some y)) (hH:H l=some (.lst xs)) (ha:y.as=l :: bs) (hl:l∈y.own) (hv:y.v=.ref l)
  (r:RepA K H (o' != .dp) ds' xs' cs) (hc:(o'=.rt/\∀ a∈cs,a∈bs\/a∈jjb T\/a∈jjk T)\/(o'=.dp/\y.o=.dp/\cs.Nodup/\∀ a∈cs,a∈bs\/a∈jjb T)) :
  World K (upd H l (.lst xs')) (L.set i (some ⟨o',.lst ds',y.v,l :: cs⟩))/\Step H (T++L) (upd H l (.lst xs')) (L.set i (some ⟨o',.lst ds',y.v,l :: cs⟩)):=by
 have oL:l∈jjb L:=mem_owned.mpr ⟨y,jkr hy,hl⟩
 have oy:l∈jjb (T++L):=by rw [jj5];exact lr9 _ oL
 have nd:=w.nd
 rw [jj5,List.nodup_append] at nd
 have nT:l∉jjb T:=fun z=>nd.2.2 l z l oL rfl
 have nF:l∉jjk T:=fun z=>w.ds l oy (by rw [jja];exact ll9 _ z)
 have yn:y.own.Nodup:=by
  obtain ⟨A,B,e,_⟩:=kj7 hy
  have:=nd.2.1
  rw [e,jj5,jj7,List.nodup_append] at this
  exact (List.nodup_append.mp this.2.1).1
 have nb:l∉bs:=fun z=>by
  cases ho:y.o with
  | no=>unfold Sl.own at hl;rw [ho] at hl;exact nomatch hl
  | rt =>
   have:l∈y.frz:=by unfold Sl.frz;rw [ho,ha];exact z
   exact w.ds l oy (by rw [jja];exact lr9 _ (mem_frozen.mpr ⟨y,jkr hy,this⟩))
  | dp =>
   unfold Sl.own at yn
   rw [ho,ha] at yn
   exact (List.nodup_cons.mp yn).1 z
 have nc:l∉cs:=fun z=>by
  rcases hc with ⟨_,hc⟩ | ⟨_,_,_,hc⟩
  ·rcases hc l z with q | q | q
   ·exact nb q
   ·exact nT q
   ·exact nF q
  ·rcases hc l z with q | q
   ·exact nb q
   ·exact nT q
 have kp:Kp H (upd H l (.lst xs')) cs:=by
  have k2:∀ a o,H a=some o->a≠l->upd H l (.lst xs') a=some o:=fun a o e ne=>by rw [jjw ne];exact e
  refine ⟨fun a zs e=>k2 a _ e fun z=>?_,fun a o u e=>k2 a _ e fun z=>?_,fun a ha o e=>k2 a o e fun z=>nc (z▸ha)⟩
  ·subst z;rw [hH] at e;cases e
  ·subst z;rw [hH] at e;cases e
 have r':=r.kp kp
 rcases hc with ⟨rfl,hc⟩ | ⟨rfl,hdp,hnd,hc⟩
 ·refine World.writeAt w hy hl (y':=⟨.rt,.lst ds',y.v,l :: cs⟩) ⟨l,xs',cs,hv,r',jkd,rfl⟩ (by simp [Sl.own]) (fun a h=>?_) (fun a h=>?_) (fun a h z=>?_)
  ·have:a=l:=by simpa [Sl.own] using h
   subst this;exact .inl hl
  ·rcases hc a (by simpa [Sl.frz] using h) with q | q
   ·exact .inl (by rw [ha];exact lc9 _ q)
   ·exact .inr q
  ·have:a=l:=by simpa [Sl.own] using h
   subst this;exact nc (by simpa [Sl.frz] using z)
 ·have oa:y.own=y.as:=by unfold Sl.own;rw [hdp]
  refine World.writeAt w hy hl (y':=⟨.dp,.lst ds',y.v,l :: cs⟩) ?_ (List.nodup_cons.mpr ⟨nc,hnd⟩) (fun a h=>?_) (fun a h=>(nomatch h)) (fun a h z=>(nomatch z))
  ·show RepL K _ false (.lst ds') y.v (l :: cs)
   unfold RepL
   exact ⟨l,xs',cs,hv,r',.inl ⟨jkd,rfl⟩⟩
  ·rcases List.mem_cons.mp (show a∈l :: cs from h) with q | q
   ·subst q;exact .inl hl
   ·rcases hc a q with q | q
    ·exact .inl (by rw [oa,ha];exact lc9 _ q)
    ·exact .inr q
section
variable {X:Cx} {Z:Fx0} {pn:List Nat} {q:Bool} {c:Ex} {e:Expr} {σ:L2.St} {H:Hp} {L:Ls} {E:En}
theorem vxa {K:PySem.W.Frag} {x:Sl} {ds:List D} (ok:x.ok K H) (hd:x.d=.lst ds):tyV K "list" x.v H:=by
 obtain ⟨a,xs,bs,e1,q1,_⟩:=items ok (.inl hd)
 rw [e1]
 rcases q1 with ⟨_,z⟩ | ⟨z,_⟩
 ·exact .inl ⟨rfl,xs,z.sq⟩
 ·rw [hd] at z;cases z
theorem wjv {K:PySem.W.Frag} {x:Sl} (ok:x.ok K H) (b:Bool) (hb:b=false->jws x.sd=true):∃ cs,RepL K H b x.d x.v cs/\(∀ a∈cs,a∈x.as)/\(b=false->∀ a∈cs,a∈x.own)/\(b=false->x.own.Nodup->cs.Nodup):=by
 cases b with
 | true=>exact ⟨x.as,RepO.wk ok,fun _ h=>h,(fun z=>by cases z),(fun z=>by cases z)⟩
 | false =>
  have t:=hb rfl
  unfold jws at t
  by_cases ho:x.o=.dp
  ·have e:x.own=x.as:=by unfold Sl.own;rw [ho]
   refine ⟨x.as,?_,fun _ h=>h,fun _ a h=>by rw [e];exact h,fun _ n=>by rw [e] at n;exact n⟩
   have:=ok
   unfold Sl.ok at this
   rw [ho] at this
   exact this
  ·have hp:x.d.pure=true:=by
    rcases Bool.or_eq_true_iff.mp t with z | z
    ·exact absurd (by simpa using z) ho
    ·exact z
   obtain ⟨z,rp⟩:=RepL.pu (g':=false) (RepO.wk ok) hp
   exact ⟨[],rp,fun _ h=>(nomatch h),fun _ _ h=>(nomatch h),fun _ _=>List.nodup_nil⟩
theorem jxn {α:Type} {l:List α} {i:Nat} {x:α} (h:l[i]?=some x):l.set i x=l:=by
 obtain ⟨h1,h2⟩:=List.getElem?_eq_some_iff.mp h
 rw [<- h2];simp
theorem mut1 {D':Ends} {f:List D->D->Option (List D)} {i:Nat} {r:Fl} {G:V->V->Hp->Prop} (m:Mt E σ L) (w:World Z.K H L) (hc:jqw f i c E=some r) (k:FlP Z pn D' σ H L r)
  (g:∀ (l:Addr) (x:V) (xs:List V) (ds ds':List D) (d:D) (bs cs:List Addr) (H1:Hp) (gg:Bool),f ds d=some ds'->H1 l=some (.lst xs)->RepA Z.K H1 gg ds xs bs->RepL Z.K H1 gg d x cs ->
   (∀ xs' es,RepA Z.K H1 gg ds' xs' es->(∀ a∈es,a∈bs\/a∈cs)->((bs++cs).Nodup->es.Nodup)->D'.nx σ (upd H1 l (.lst xs')))->G (.ref l) x H1) :
  ∃ v,σ[i]?=some (some v)/\tyV Z.K "list" v H/\tQ Z q c σ H (G v):=by
 unfold jqw at hc
 cases h0:E[i]? with
 | none=>rw [h0] at hc;cases hc
 | some s0 =>
  cases s0 with
  | none=>rw [h0] at hc;cases hc
  | some s0 =>
   obtain ⟨o0,d0⟩:=s0
   cases d0 with
   | lst ds0 =>
    rw [h0,if_pos (show vq9 (some (some (o0,D.lst ds0)))=true from rfl)] at hc
    obtain ⟨x0,a1,a2,a3,a4⟩:=m.get h0
    refine ⟨x0.v,a4,vxa (w.ok x0 (jkr a1)) a3,?_⟩
    refine qkr m w hc k fun E1 s h1 x L1 H1 e1 e2 m1 w1 st _=>?_
    cases hE:E1[i]? with
    | none=>rw [hE] at h1;cases h1
    | some s1 =>
     cases s1 with
     | none=>rw [hE] at h1;cases h1
     | some s1 =>
      obtain ⟨oo,dd⟩:=s1
      rw [hE] at h1
      cases dd with
      | lst ds =>
       dsimp only at h1
       by_cases hno:oo=.no
       ·rw [if_pos hno] at h1;cases h1
       ·rw [if_neg hno] at h1
        cases hfd:f ds s.2 with
        | none=>rw [hfd] at h1;cases h1
        | some ds' =>
         rw [hfd] at h1
         obtain ⟨y,b1,b2,b3,b4⟩:=m1.get hE
         have hv:y.v=x0.v:=by rw [a4] at b4;exact (oq9 (oq9 b4)).symm
         obtain ⟨l,xs,bs,c1,c2,c3,c4,c5⟩:=vkq (w1.ok y (lc9 _ (jkr b1))) b3 (by rw [b2];exact hno)
         have ex0:x0.v=.ref l:=hv▸c1
         rw [ex0]
         have wT:World Z.K H1 ([some x]++L1):=w1
         have okx:=w1.head
         have nd:=w1.nd
         rw [jj7,List.nodup_append] at nd
         have oT:jjb [some x]=x.own:=by simp
         have fT:jjk [some x]=x.frz:=by simp
         by_cases hd:oo=.dp/\jws s=true
         ·rw [if_pos hd] at h1
          cases oq9 h1
          have hyo:y.o=.dp:=b2.trans hd.1
          rw [hyo] at c5
          obtain ⟨cs,r1,h3,h4,h5⟩:=wjv okx false fun _=>by rw [show x.sd=s from by simp [Sl.sd,e1,e2]];exact hd.2
          refine g l x.v xs ds ds' s.2 bs cs H1 false hfd c2 c5 (by rw [<- e2];exact r1) fun xs' es re he hn=>?_
          have ynd:(bs++cs).Nodup:=by
           have yo:y.own=l :: bs:=by unfold Sl.own;rw [hyo,c3]
           obtain ⟨A,B,e,_⟩:=kj7 b1
           have q:=nd.2.1
           rw [e,jj5,jj7,List.nodup_append] at q
           have q2:=(List.nodup_append.mp q.2.1).1
           rw [yo] at q2
           rw [List.nodup_append]
           refine ⟨(List.nodup_cons.mp q2).2,h5 rfl nd.1,fun a ha b hb hab=>?_⟩
           subst hab
           exact nd.2.2 a (h4 rfl a hb) a (mem_owned.mpr ⟨y,jkr b1,by rw [yo];exact lc9 _ ha⟩) rfl
          obtain ⟨w3,s3⟩:=qq4 (o':=.dp) (ds':=ds') (xs':=xs') wT b1 c2 c3 c4 c1 re (.inr ⟨rfl,hyo,hn ynd,fun a ha=>(he a ha).imp id fun z=>by rw [oT];exact h4 rfl a z⟩)
          refine k σ _ _ Pn.refl ?_ w3 (st.trans s3)
          have:=m1.set (x:=⟨.dp,.lst ds',y.v,l :: es⟩) i
          rw [jxn b4] at this
          exact this
         ·rw [if_neg hd] at h1
          cases oq9 h1
          have c6:RepA Z.K H1 true ds xs bs:=by
           cases hb:(y.o != .dp) with
           | true=>rw [hb] at c5;exact c5
           | false=>rw [hb] at c5;exact c5.wk
          refine g l x.v xs ds ds' s.2 bs x.as H1 true hfd c2 c6 (by rw [<- e2];exact RepO.wk okx) fun xs' es re he hn=>?_
          obtain ⟨w3,s3⟩:=qq4 (o':=.rt) (ds':=ds') (xs':=xs') wT b1 c2 c3 c4 c1 re (.inl ⟨rfl,fun a ha=>(he a ha).imp id fun z=>by rw [oT,fT];exact Sl.as_of z⟩)
          refine k σ _ _ Pn.refl ?_ w3 (st.trans s3)
          have:=m1.set (x:=⟨.rt,.lst ds',y.v,l :: es⟩) i
          rw [jxn b4] at this
          exact this
      | _=>cases h1
   | _=>rw [h0] at hc;cases hc
theorem jxs {i:Nat} {o:Expr} {apos cpos pos:Pos} (hb:PE X (.Call (.Attribute o "append" apos) [e] [] cpos) (tBM Z.K "list" kx1 (qzc i) (vvl (tQ Z q c) wkf))) (hs:swapsWith (.Call (.Attribute o "append" apos) [e] [] cpos) none pos.line X.env=pure false:=by rfl) :
  QS X Z pn (jqw jz1 i c) (.Expr (.Call (.Attribute o "append" apos) [e] [] cpos) pos):=jwn (vkd hb hs) fun D σ H h_z=>ex7 h_z fun E L r m w hc k =>
 mut1 (G:=fun v x H1=>kx1 v [x] H1 fun _ H2=>D.nx σ H2) m w hc k fun l x xs ds ds' d bs cs H1 gg hf hH ra rx fin=>by
  unfold jz1 at hf
  by_cases hl:ds.length < big
  ·rw [if_pos hl] at hf
   cases oq9 hf
   exact ⟨l,xs,x,rfl,rfl,hH,by rw [<- ra.len];exact hl,fin (xs++[x]) (bs++cs) (RepA.snoc rx ra) (fun a ha=>List.mem_append.mp ha) fun h=>h⟩
  ·rw [if_neg hl] at hf;cases hf
end
end Q
namespace Q
open PySem PySem.Spec PyProof.Rows L2 L3
section
variable {X:Cx} {Z:Fx0} {pn:List Nat} {q:Bool} {a b c:Ex} {tg e ea eb:Expr} {σ:L2.St} {H:Hp} {L:Ls} {E:En} {pos p:Pos}
theorem vvn {pins:List (Addr×Obj)} {H1:Hp} {s1:Shared} {x:Str} {t:Tok} {R:It->Hp->Prop} (I1:L2.Inv X pins σ H1 s1) (q:R (Its x) H1):wpAny (model X.prog X.w) X.A (pyIter (.str x t)) (PIE X pins σ tg R) X.xe s1:=by
 have fp:∀ b∈[s1.heap.objs.size],kqb X pins H1 b:=fun b hb=>by
  have e:b=s1.heap.objs.size:=by simpa using hb
  subst e
  exact I1.fpOk (Nat.le_refl _) (I1.hok.fresh (Nat.le_refl _))
 cases ha:x.cps.all (· < 128)
 ·exact wpAny_pyIter_wide ha ⟨s1.heap.objs.size,[s1.heap.objs.size],_,_,H1,rfl,I1.kept (t':=s1.toks) fun b o e=>Heap.get?_push_of_some _ e,kxy (fun A' hA=>PySem.Walks.strWide hA _ x t) (fun _ _ _ _ _ st h=>wpAny_pyIter_striter_wide st h) (by decide),⟨_,Heap.get?_push_size _ rfl,rfl,rfl⟩,fp,q⟩
 ·exact wpAny_pyIter_ascii ha ⟨s1.heap.objs.size,[s1.heap.objs.size],_,_,H1,rfl,I1.kept (t':=s1.toks) fun b o e=>Heap.get?_push_of_some _ e,kxy (fun A' hA=>PySem.Walks.strAscii hA _ x t) (fun _ _ _ _ _ st h=>wpAny_pyIter_striter_ascii st h) (by decide),⟨_,Heap.get?_push_size _ rfl,rfl,rfl⟩,fp,q⟩
theorem vx5 {K:PySem.W.Frag} {H:Hp} (c:Nat):Sl.ok K H ⟨.no,.str ⟨#[c]⟩,.str ⟨#[c]⟩,[]⟩:=by
 show RepL K H true _ _ _
 exact jqn (show (1:Nat)<=sizeLine by decide)
theorem vx4 {K:PySem.W.Frag} {H:Hp} (i:Int):Sl.ok K H ⟨.no,.int i,.int i,[]⟩:=by
 show RepL K H true _ _ _
 exact jj2
def iAny (K:PySem.W.Frag) (tl:TE):TI:=fun σ H R=>tl σ H fun x H1=>(∃ a xs,x=.ref a/\SqL K H1 a xs/\(xs.length<=sizeLine->R (Itl K a) H1))\/(∃ a xs,x=.ref a/\SqT K H1 a xs/\(xs.length<=sizeLine->R (Itt K a) H1))\/∃ z,x=.str z/\R (Its z) H1
theorem vwq {l:Expr} {tl:TE} (hl:PE X l tl):PI X tg l (iAny X.K tl):=by
 intro pins s σ H R I h
 have h':tl σ H fun x H1=>(∃ a xs,x=.ref a/\SqL X.K H1 a xs/\(xs.length<=sizeLine->R (Itl X.K a) H1))\/(∃ a xs,x=.ref a/\SqT X.K H1 a xs/\(xs.length<=sizeLine->R (Itt X.K a) H1))\/∃ z,x=.str z/\R (Its z) H1:=h
 refine thn (hl pins s σ H _ I h') fun v s1 ⟨x,H1,I1,r1,q1⟩=>?_
 rcases q1 with ⟨a,xs,rfl,hq,q⟩ | ⟨a,xs,rfl,hq,q⟩ | ⟨z,rfl,q⟩
 ·cases r1
  obtain ⟨its,rv,p,hz⟩:=I1.list hq
  refine wpAny_pyIter_list p.isList ?_
  refine ⟨s1.heap.objs.size,[s1.heap.objs.size],_,_,H1,rfl,I1.kept (t':=s1.toks) fun b o e=>Heap.get?_push_of_some _ e,qke a _,⟨_,Heap.get?_push_size _ rfl,rfl,rfl⟩,fun b hb=>?_,q hz⟩
  have e:b=s1.heap.objs.size:=by simpa using hb
  subst e
  exact I1.fpOk (Nat.le_refl _) (I1.hok.fresh (Nat.le_refl _))
 ·cases r1
  obtain ⟨its,rv,p,hz⟩:=I1.tuple hq
  refine wpAny_pyIter_tuple (show s1.heap.IsTuple a its.toArray from p) ?_
  refine ⟨s1.heap.objs.size,[s1.heap.objs.size],_,_,H1,rfl,I1.kept (t':=s1.toks) fun b o e=>Heap.get?_push_of_some _ e,qja a _,⟨_,Heap.get?_push_size _ rfl,rfl,rfl⟩,fun b hb=>?_,q hz⟩
  have e:b=s1.heap.objs.size:=by simpa using hb
  subst e
  exact I1.fpOk (Nat.le_refl _) (I1.hok.fresh (Nat.le_refl _))
 ·obtain ⟨t,rfl⟩:=r1
  exact vvn I1 q
theorem kjg (h:QE X Z q c e) (hK:X.K=Z.K:=by rfl):QI X Z q tg (itS c) e:=fun pins s σ H R I h_z=>ex8 h_z fun E L r m w hc xc k=>by
 refine (hK▸vwq h) pins s σ H R I ?_
 refine kx2 m w (show bnd (c E) _=some r from hc) xc fun E1 s h1 x L1 H1 e1 e2 m1 w1 st sm=>?_
 obtain ⟨ds,hd,rfl⟩:=jwe h1
 have ok:=w1.head
 have wT:World Z.K H1 (L1++[x.let].map some):=by
  refine World.comm (L:=[some x.let]) ?_
  exact w1.tail.consNo (jzq ok) rfl fun b hb=>w1.apart b hb
 have sT:Step H L H1 (L1++[x.let].map some):=by
  refine ⟨st.keep,fun b hb=>?_,fun b hb=>?_⟩
  ·have:b∈jjb L1:=by simpa [kjq] using hb
   exact st.own b (by rw [jj7];exact lr9 _ this)
  ·have:b∈jjk L1\/b∈x.as:=by simpa [kjq] using hb
   rcases this with z | z
   ·exact st.frz b (by rw [jjg];exact lr9 _ z)
   ·exact kj0 st b z
 cases hx:x.d with
 | lst es =>
  rw [<- e2,hx] at hd
  have hd':es=ds:=oq9 hd
  subst hd'
  obtain ⟨a,xs,bs,ev,q3,r3,h3,_⟩:=items ok (.inl hx)
  have q3:LsR Z.K H1 a xs:=by rcases q3 with ⟨_,z⟩ | ⟨z,_⟩;exact z;rw [hx] at z;cases z
  have again:∀ H2:Hp,(∀ t∈[x.let],t.ok Z.K H2)->∃ ys cs,SqL Z.K H2 a ys/\RepA Z.K H2 true es ys cs/\∀ b∈cs,b∈x.as:=fun H2 hok=>by
   obtain ⟨a',ys,cs,ev',q4,r4,h4,_⟩:=items (hok x.let (List.mem_singleton.mpr rfl)) (.inl hx)
   have:a'=a:=by have:=ev'.symm.trans ev;exact V.ref.inj this
   subst this
   rcases q4 with ⟨_,z⟩ | ⟨z,_⟩
   ·exact ⟨ys,cs,z.sq,r4,h4⟩
   ·rw [show x.let.d=D.lst es from hx] at z;cases z
  refine .inl ⟨a,xs,ev,q3.sq,fun hlen=>k _ _ rfl (Itl Z.K a) [x.let] L1 H1 m1 wT sT (by rw [r3.len];exact hlen) (fun hq=>(sm hq).1) ⟨fun t ht=>by rw [List.mem_singleton.mp ht];rfl,fun i H2 hok hi=>?_,fun H2 hok=>?_,fun i H2 v H3 d hok hy hdi=>?_⟩⟩
  ·obtain ⟨ys,cs,s1,s2,_⟩:=again H2 hok
   have hl:=s2.len
   exact ⟨ys,ys[i]'(by omega),s1,List.getElem?_eq_getElem (by omega)⟩
  ·obtain ⟨ys,cs,s1,s2,_⟩:=again H2 hok
   exact ⟨ys,s1,by rw [s2.len];exact Nat.le_refl _⟩
  ·obtain ⟨ys,cs,s1,s2,s3⟩:=again H2 hok
   obtain ⟨e3,hy⟩:=hy
   subst e3
   obtain ⟨v',bs',f1,f2,f3⟩:=s2.get hdi
   have:v'=v:=by have:=hy ys s1;rw [f1] at this;exact oq9 this
   subst this
   exact ⟨⟨.no,d,v',bs'⟩,rfl,rfl,rfl,jks,f2,fun b hb=>⟨x.let,List.mem_singleton.mpr rfl,s3 b (f3 b hb)⟩⟩
 | tup es =>
  rw [<- e2,hx] at hd
  have hd':es=ds:=oq9 hd
  subst hd'
  obtain ⟨a,xs,bs,ev,q3,r3,h3,_⟩:=items ok (.inr hx)
  have q3:SqT Z.K H1 a xs:=by rcases q3 with ⟨z,_⟩ | ⟨_,z⟩;rw [hx] at z;cases z;exact z
  have again:∀ H2:Hp,(∀ t∈[x.let],t.ok Z.K H2)->∃ ys cs,SqT Z.K H2 a ys/\RepA Z.K H2 true es ys cs/\∀ b∈cs,b∈x.as:=fun H2 hok=>by
   obtain ⟨a',ys,cs,ev',q4,r4,h4,_⟩:=items (hok x.let (List.mem_singleton.mpr rfl)) (.inr hx)
   have:a'=a:=by have:=ev'.symm.trans ev;exact V.ref.inj this
   subst this
   rcases q4 with ⟨z,_⟩ | ⟨_,z⟩
   ·rw [show x.let.d=D.tup es from hx] at z;cases z
   ·exact ⟨ys,cs,z,r4,h4⟩
  refine .inr (.inl ⟨a,xs,ev,q3,fun hlen=>k _ _ rfl (Itt Z.K a) [x.let] L1 H1 m1 wT sT (by rw [r3.len];exact hlen) (fun hq=>(sm hq).1) ⟨fun t ht=>by rw [List.mem_singleton.mp ht];rfl,fun i H2 hok hi=>?_,fun H2 hok=>?_,fun i H2 v H3 d hok hy hdi=>?_⟩⟩)
  ·obtain ⟨ys,cs,s1,s2,_⟩:=again H2 hok
   have hl:=s2.len
   exact ⟨ys,ys[i]'(by omega),s1,List.getElem?_eq_getElem (by omega)⟩
  ·obtain ⟨ys,cs,s1,s2,_⟩:=again H2 hok
   exact ⟨ys,s1,by rw [s2.len];exact Nat.le_refl _⟩
  ·obtain ⟨ys,cs,s1,s2,s3⟩:=again H2 hok
   obtain ⟨e3,hy⟩:=hy
   subst e3
   obtain ⟨v',bs',f1,f2,f3⟩:=s2.get hdi
   have:v'=v:=by have:=hy ys s1;rw [f1] at this;exact oq9 this
   subst this
   exact ⟨⟨.no,d,v',bs'⟩,rfl,rfl,rfl,jks,f2,fun b hb=>⟨x.let,List.mem_singleton.mpr rfl,s3 b (f3 b hb)⟩⟩
 | str z =>
  rw [<- e2,hx] at hd
  have hd:(if z.cps.size<=big then some (z.cps.toList.map fun c=>D.str ⟨#[c]⟩) else none)=some ds:=hd
  split at hd
  ·rename_i hz
   cases oq9 hd
   refine .inr (.inr ⟨z,(jwp ok hx).1,k _ _ rfl (Its z) [] L1 H1 m1 (by simpa using w1.tail) (by simpa using (st.trans Step.drop)) (by rw [List.length_map,Array.length_toList];exact hz) (fun hq=>(sm hq).1) ⟨fun t ht=>(nomatch ht),fun i H2 _ hi=>?_,fun H2 _=>?_,fun i H2 v H3 d _ hy hdi=>?_⟩⟩)
   ·show i < z.cps.size
    simpa using hi
   ·show (z.cps.toList.map fun c=>D.str ⟨#[c]⟩).length=z.cps.size
    simp
   ·obtain ⟨e3,cc,hc,rfl⟩:=hy
    subst e3
    rw [List.getElem?_map,Array.getElem?_toList,hc] at hdi
    cases oq9 hdi
    exact ⟨⟨.no,.str ⟨#[cc]⟩,.str ⟨#[cc]⟩,[]⟩,rfl,rfl,rfl,jks,vx5 cc,fun b hb=>(nomatch hb)⟩
  ·cases hd
 | non=>rw [<- e2,hx] at hd;cases hd
 | bl _=>rw [<- e2,hx] at hd;cases hd
 | int _=>rw [<- e2,hx] at hd;cases hd
 | dct _=>rw [<- e2,hx] at hd;cases hd
 | obj _ _=>rw [<- e2,hx] at hd;cases hd
theorem kkt {K:PySem.W.Frag} (lo hi:Int):Walks K (Itr lo (hi - lo).toNat) [] (jjh lo hi):=by
 have hl:(jjh lo hi).length=(hi - lo).toNat:=by simp [jjh]
 refine ⟨fun t ht=>(nomatch ht),fun i H _ hi'=>by rw [hl] at hi';exact hi',fun H _=>by rw [hl];exact Nat.le_refl _,fun i H v H' d _ hy hd=>?_⟩
 obtain ⟨e,rfl⟩:=hy
 subst e
 unfold jjh at hd
 rw [List.getElem?_map] at hd
 cases hr:(List.range (hi - lo).toNat)[i]? with
 | none=>rw [hr] at hd;cases hd
 | some j =>
  rw [hr] at hd
  have:j=i:=by
   obtain ⟨_,h2⟩:=List.getElem?_eq_some_iff.mp hr
   simpa using h2.symm
  subst this
  cases oq9 hd
  exact ⟨⟨.no,.int (lo + (j:Int)),.int (lo + (j:Int)),[]⟩,rfl,rfl,rfl,jks,vx4 _,fun b hb=>(nomatch hb)⟩
theorem jx3 {i:Int} (h:jka i=true):-(2 ^ 62)<=i/\i < 2 ^ 62:=by
 unfold jka at h
 simpa using h
theorem jxq (ha:QV X Z q a ea) (hg:Gl X "range") (hm:X.mg "range"=none) (hst:starEach [ea] X.env=[(false,eval ea X.env)]:=by rfl):QI X Z q tg (jzd a) (.Call (.Name "range" p) [ea] [] pos):=fun pins s σ H R I h_z=>ex8 h_z fun E L r m w hc xc k=>by
 refine (qqc hg hm (jjr ha jkp hst) hst) pins s σ H R I ?_
 refine jwd m w (show bnd (a E) _=some r from hc) xc fun E1 s h1 x L1 H1 e1 e2 m1 w1 ok fr sr st sm=>?_
 cases hx:s.2 with
 | int j =>
  rw [hx] at h1
  dsimp only at h1
  split at h1
  ·rename_i hj
   cases oq9 h1
   obtain ⟨j1,j2⟩:=jx3 hj.1
   have hv:=jqh ok (e2.trans hx)
   refine ⟨j,by rw [hv],j1,j2,?_⟩
   have wk:=kkt (K:=Z.K) 0 j
   rw [Int.sub_zero] at wk
   exact k _ _ rfl (Itr 0 j.toNat) [] L1 H1 m1 (by simpa using w1) (by simpa using st) (by simp only [jjh,List.length_map,List.length_range,Int.sub_zero];exact hj.2) sm wk
  ·cases h1
 | _=>rw [hx] at h1;cases h1
theorem vwa (ha:QV X Z q a ea) (hb:QV X Z true b eb) (hg:Gl X "range") (hm:X.mg "range"=none) (hs:starEach [ea,eb] X.env=[(false,eval ea X.env),(false,eval eb X.env)]:=by rfl) (hs2:starEach [eb] X.env=[(false,eval eb X.env)]:=by rfl)
  (hs3:starEach [ea,eb] X.env=(false,eval ea X.env) :: starEach [eb] X.env:=by rfl):QI X Z q tg (vze a b) (.Call (.Name "range" p) [ea,eb] [] pos):=fun pins s σ H R I h_z=>ex8 h_z fun E L r m w hc xc k=>by
 refine (qqb hg hm (jjr ha (jjr hb jkp hs2) hs3) hs hs2) pins s σ H R I ?_
 refine jwd m w (show bnd (a E) _=some r from hc) xc fun E1 s h1 x L1 H1 e1 e2 m1 w1 ok fr sr st sm=>?_
 refine jwd m1 w1 h1 (xc.step st) fun E2 s2 h2 y L2 H2 e3 e4 m2 w2 ok2 fr2 sr2 st2 sm2=>?_
 have kx:=jw5 ok fr st2 (sm2 rfl)
 cases hx:s.2 with
 | int i =>
  cases hy:s2.2 with
  | int j =>
   rw [hx,hy] at h2
   dsimp only at h2
   split at h2
   ·rename_i hj
    cases oq9 h2
    obtain ⟨i1,i2⟩:=jx3 hj.1
    obtain ⟨j1,j2⟩:=jx3 hj.2.1
    refine ⟨i,j,by rw [jqh kx.1 (e2.trans hx),jqh ok2 (e4.trans hy)],⟨i1,i2,j1,j2⟩,?_⟩
    exact k _ _ rfl (Itr i (j - i).toNat) [] L2 H2 m2 (by simpa using w2) (by simpa using st.trans st2) (by simp only [jjh,List.length_map,List.length_range];exact hj.2.2) (fun hq=>jjd (sm hq) (sm2 rfl)) (kkt i j)
   ·cases h2
  | _=>rw [hx,hy] at h2;cases h2
 | _=>rw [hx] at h2;cases h2
theorem Mt.clr:∀ {R:List Nat} {E:En} {L:Ls},Mt E σ L->Mt (Q.clr R E) σ (Q.clr R L)
 | [],_,_,m=>m
 | j :: R,E,L,m=>by
  have un:∀ {E:En} {σ:L2.St} {L:Ls} (j:Nat),Mt E σ L->Mt (E.set j none) σ (L.set j none):=by
   intro E σ L j m
   induction m generalizing j with
   | nil=>exact .nil
   | un m ih=>cases j with
    | zero=>exact .un m
    | succ j=>exact .un (ih j)
   | cons m ih=>cases j with
    | zero=>exact .un m
    | succ j=>exact .cons (ih j)
  show Mt (Q.clr R (E.set j none)) σ (Q.clr R (L.set j none))
  exact Mt.clr (un j m)
theorem Mt.drop:∀ {E:En} {σ:L2.St} {L:Ls} (k:Nat),Mt E σ L->Mt (E.drop k) (σ.drop k) (L.drop k)
 | _,_,_,0,m=>m
 | _,_,_,k + 1,.nil=>.nil
 | _,_,_,k + 1,.un m=>m.drop k
 | _,_,_,k + 1,.cons m=>m.drop k
theorem Mt.none_at:∀ {E:En} {σ:L2.St} {L:Ls} {j:Nat},Mt E σ L->E[j]?=some none->L[j]?=some none
 | _,_,_,_,.nil,h=>by simp at h
 | _,_,_,0,.un _,_=>by simp
 | _,_,_,j + 1,.un m,h=>by simpa using m.none_at (j:=j) (by simpa using h)
 | _,_,_,0,.cons _,h=>by simp at h
 | _,_,_,j + 1,.cons m,h=>by simpa using m.none_at (j:=j) (by simpa using h)
theorem Mt.pick:∀ {R:List Nat},Mt E σ L->Mt (R.map (at' E)) (R.map (at' σ)) (R.map (at' L))
 | [],_=>.nil
 | j :: R,m=>by
  rw [List.map_cons,List.map_cons,List.map_cons]
  cases hE:E[j]? with
  | none =>
   have hl:=m.len
   have:L[j]?=none:=by rw [List.getElem?_eq_none_iff] at hE ⊢;omega
   rw [show at' E j=none from by unfold at';rw [hE];rfl,show at' L j=none from by unfold at';rw [this];rfl]
   exact .un m.pick
  | some s =>
   cases s with
   | none =>
    have:L[j]?=some none:=m.none_at hE
    rw [show at' E j=none from by unfold at';rw [hE];rfl,show at' L j=none from by unfold at';rw [this];rfl]
    exact .un m.pick
   | some s =>
    obtain ⟨o,d⟩:=s
    obtain ⟨x,h1,h2,h3,h4⟩:=m.get hE
    rw [show at' E j=some (x.o,x.d) from by unfold at';rw [hE,h2,h3];rfl,show at' L j=some x from by unfold at';rw [h1];rfl,show at' σ j=some x.v from by unfold at';rw [h4];rfl]
    exact .cons m.pick
theorem Mt.rep:∀ {k:Nat},Mt E σ L->Mt (List.replicate k none++E) (List.replicate k none++σ) (List.replicate k none++L)
 | 0,m=>by simpa using m
 | k + 1,m=>by
  rw [List.replicate_succ,List.replicate_succ,List.replicate_succ]
  exact .un m.rep
theorem Mt.back:∀ {R:List Nat} {B:En} {τ:L2.St} {M:Ls} {E:En} {L:Ls},Mt E σ L->Mt B τ M->(∀ (i j:Nat) (v:V),R[i]?=some j->τ[i]?=some (some v)->σ[j]?=some (some v))->Mt (Q.back R B E) σ (Q.back R M L)
 | [],B,τ,M,E,L,m,_,_=>by simpa [Q.back] using m
 | j :: R,_,_,_,E,L,m,.nil,_=>by simpa [Q.back] using m
 | j :: R,_,_,_,E,L,m,.un mB,h=>by
  have un:∀ {E:En} {σ:L2.St} {L:Ls} (j:Nat),Mt E σ L->Mt (E.set j none) σ (L.set j none):=by
   intro E σ L j m
   induction m generalizing j with
   | nil=>exact .nil
   | un m ih=>cases j with
    | zero=>exact .un m
    | succ j=>exact .un (ih j)
   | cons m ih=>cases j with
    | zero=>exact .un m
    | succ j=>exact .cons (ih j)
  show Mt (Q.back R _ (E.set j none)) σ (Q.back R _ (L.set j none))
  exact Mt.back (un j m) mB fun i jj v e1 e2=>h (i + 1) jj v (by simpa using e1) (by simpa using e2)
 | j :: R,_,_,_,E,L,m,.cons (x:=x) mB,h=>by
  have h0:=h 0 j x.v (by simp) (by simp)
  have m1:=m.set (x:=x) j
  rw [jxn h0] at m1
  show Mt (Q.back R _ (E.set j _)) σ (Q.back R _ (L.set j _))
  exact Mt.back m1 mB fun i jj v e1 e2=>h (i + 1) jj v (by simpa using e1) (by simpa using e2)
section
variable {iter elt:Expr} {ifs:List Expr} {scope:Scope} {N:List Str} {k:Nat} {R:List Nat} {it:Ev (List D)} {tt:Tg} {u:Ts} {o:Own} {q1 q2:Bool}
theorem vq3:qv2 k R σ=List.replicate k none++R.map (at' σ):=rfl
theorem wjo {K:PySem.W.Frag} {M:Ls} (hR:R.Nodup) (w:World K H (L++M)):World K H ((List.replicate k none++R.map (at' L))++(Q.clr R L++M))/\Step H (L++M) H ((List.replicate k none++R.map (at' L))++(Q.clr R L++M)):=by
 have p:(sls (L++M)).Perm (sls ((List.replicate k none++R.map (at' L))++(Q.clr R L++M))):=by
  have:=qj2 (R:=R) (L:=L) hR
  rw [jwt] at this
  simp only [jwt,vjo,List.nil_append]
  rw [<- List.append_assoc]
  exact (this.append_right _).symm
 exact ⟨w.same p,Step.refl.same (List.Perm.refl _) p⟩
theorem vxc {K:PySem.W.Frag} {B:Ls} {M:Ls} {H2:Hp} (hR:R.Nodup) (hr:∀ j∈R,j < L.length) (hB:B.length=k + R.length) (w:World K H2 (B++(Q.clr R L++M))):World K H2 (Q.back R (B.drop k) (Q.clr R L)++M)/\Step H2 (B++(Q.clr R L++M)) H2 (Q.back R (B.drop k) (Q.clr R L)++M):=by
 have p:=kwt (R:=R) (B:=B.drop k) (L:=Q.clr R L) hR (fun j hj=>qvz hj) (fun j hj=>by rw [qvy];exact hr j hj) (by rw [List.length_drop,hB];omega)
 have p2:(sls (Q.back R (B.drop k) (Q.clr R L)++M)).Perm (sls (B.drop k++(Q.clr R L++M))):=by
  rw [jwt,<- List.append_assoc,jwt (B.drop k++Q.clr R L)]
  exact p.append_right _
 have sub:(sls (B.drop k++(Q.clr R L++M))).Sublist (sls (B++(Q.clr R L++M))):=by
  rw [jwt,jwt B]
  refine List.Sublist.append ?_ (List.Sublist.refl _)
  unfold sls
  exact (List.drop_sublist k B).filterMap _
 exact ⟨(w.sub sub).same p2.symm,(Step.refl.sub sub).same (List.Perm.refl _) p2.symm⟩
theorem kjd:∀ {is:List Nat} {es:List D} {E E':En},setAll is es E=some E'->E'.length=E.length
 | [],[],_,_,h=>by cases oq9 h;rfl
 | [],_ :: _,_,_,h=>by cases h
 | _ :: _,[],_,_,h=>by cases h
 | i :: is,d :: es,E,E',h=>by rw [kjd (E:=E.set i (some (.no,d))) h,List.length_set]
theorem vk4 {t:Tg} {d:D} {E E':En} (h:t.put d E=some E'):E'.length=E.length:=by
 cases t with
 | n i=>cases oq9 h;rw [List.length_set]
 | t is =>
  cases d with
  | tup es=>exact kjd (show setAll is es E=some E' from h)
  | lst es=>exact kjd (show setAll is es E=some E' from h)
  | _=>cases h
theorem qv0 {nN:Nat} {Q:VK} (hσ:σ.length=nN) (hR:R.Nodup) (hr:∀ j∈R,j < nN) (h:tQ Z q (cLC o k R it tt u c) σ H Q):tLC (tIS Z q it) (tG Z ((List.range R.length).map (k + ·)) tt) (tT Z q u) (tQ Z q c) k R σ H Q:=by
 obtain ⟨E,L,r,m,w,hcc,xc,kk⟩:=h
 have hcc:bnd (it E) (fun E ds=>match lcL tt u c ds (vq5 k R E) [] with
  | some (.ok B xs)=>mkL o (kkq k R B E) xs
  | some (.exc B e)=>some (.exc (kkq k R B E) e)
  | none=>none)=some r:=hcc
 rcases jkc hcc with ⟨E1,ds,h1,h2⟩ | ⟨E1,cc,h1,h2⟩
 rotate_left
 ·exact ⟨E,L,_,m,w,h1,xc.map h2,fun E' s' z=>by cases z⟩
 refine ⟨E,L,_,m,w,h1,(fun _ _ z=>by cases z),fun E' ds' z J T L1 H1 m1 w1 st hz sm wk=>?_⟩
 injection z with z1 z2
 subst z1 z2
 have hL1:∀ j∈R,j < L1.length:=fun j hj=>by have:=m1.len;have:=hr j hj;omega
 obtain ⟨wB,sB⟩:=wjo (k:=k) hR w1
 cases hrB:lcL tt u c ds (vq5 k R E1) [] with
 | none=>rw [hrB] at h2;cases h2
 | some rB =>
  rw [hrB] at h2
  have okT:∀ {H2:Hp} {A B:Ls},World Z.K H2 (A++(B++(_root_.Q.clr R L1++T.map some)))->∀ t∈T,t.ok Z.K H2:=fun w2 t ht=>w2.ok t (lr9 _ (lr9 _ (lr9 _ (List.mem_map_of_mem ht))))
  have mB0:Mt (vq5 k R E1) (qv2 k R σ) (List.replicate k none++R.map (at' L1)):=(m1.pick (R:=R)).rep
  have home:∀ {B:En} {LB:Ls} {τ:L2.St} {H2:Hp} {A:Ls},Mt B τ LB->τ.length=k + R.length->Pn ((List.range R.length).map (k + ·)) (qv2 k R σ) τ->World Z.K H2 (LB++(A++(_root_.Q.clr R L1++T.map some))) ->
    Mt (kkq k R B E1) σ (_root_.Q.back R (LB.drop k) (_root_.Q.clr R L1))/\World Z.K H2 (A++_root_.Q.back R (LB.drop k) (_root_.Q.clr R L1))/\Step H2 (LB++(A++(_root_.Q.clr R L1++T.map some))) H2 (A++_root_.Q.back R (LB.drop k) (_root_.Q.clr R L1)):=fun {B LB τ H2 A} mB lB pB wB2=>by
   have hl:LB.length=k + R.length:=by rw [mB.len.2];exact lB
   have pm:(LB++(A++(_root_.Q.clr R L1++T.map some))).Perm (LB++(_root_.Q.clr R L1++(A++T.map some))):=by
    refine List.Perm.append_left _ ?_
    rw [<- List.append_assoc,<- List.append_assoc]
    exact List.Perm.append_right _ List.perm_append_comm
   obtain ⟨w3,s3⟩:=vxc (k:=k) hR hL1 hl (wB2.perm pm)
   have pm2:(_root_.Q.back R (LB.drop k) (_root_.Q.clr R L1)++(A++T.map some)).Perm ((A++_root_.Q.back R (LB.drop k) (_root_.Q.clr R L1))++T.map some):=by
    rw [<- List.append_assoc]
    exact List.Perm.append_right _ List.perm_append_comm
   refine ⟨?_,(w3.perm pm2).left,(s3.perm pm.symm pm2).trans Step.dropT⟩
   refine Mt.back (m1.clr) (mB.drop k) fun i j v e1 e2=>?_
   have hi:i < R.length:=(List.getElem?_eq_some_iff.mp e1).1
   have e3:=pB (k + i) (List.mem_map.mpr ⟨i,List.mem_range.mpr hi,rfl⟩)
   rw [List.getElem?_drop,e3,vq3,List.getElem?_append_right (by simp),List.length_replicate,show k + i - k=i from by omega,List.getElem?_map,e1] at e2
   have e4:at' σ j=some v:=by simpa using e2
   unfold at' at e4
   cases hh:σ[j]? with
   | none=>rw [hh] at e4;cases e4
   | some s=>rw [hh] at e4;rw [show s=some v from e4]
  refine ⟨fun i n ys τ H2=>∃ (B:En) (LB:Ls) (acc:List Sl),Mt B τ LB/\τ.length=k + R.length/\Pn ((List.range R.length).map (k + ·)) (qv2 k R σ) τ/\World Z.K H2 (LB++(acc.map some++(_root_.Q.clr R L1++T.map some)))/\Step H L H2 (LB++(acc.map some++(_root_.Q.clr R L1++T.map some))) /\
   ys=acc.map Sl.v/\lcL tt u c (ds.drop i) B (acc.map Sl.sd)=some rB/\i<=ds.length/\acc.length<=i/\n=ds.length - i/\(q=true->jw1 H H2/\∀ b∈jjb (acc.map some),H b=none),⟨_,vq5 k R E1,_,[],mB0,by simp [qv2],Pn.refl,wB,st.trans sB,rfl,hrB,Nat.zero_le _,Nat.zero_le _,rfl,fun hq=>⟨sm hq,fun _ z=>(nomatch z)⟩⟩,?_⟩
  rintro i n ys τ H2 ⟨B,LB,acc,mB,lB,pB,wB2,sB2,rfl,f1,hi,hacc,rfl,smB⟩
  by_cases hlt:i < ds.length
  rotate_left
  ·have e:i=ds.length:=by omega
   subst e
   rw [List.drop_length] at f1
   cases oq9 f1
   obtain ⟨m3,w3,s3⟩:=home mB lB pB wB2
   refine .inl ⟨wk.stop H2 (okT wB2) (fun hq=>(smB hq).1),by rw [List.length_map];omega,?_⟩
   exact kzk (σ:=σ) (Q:=Q) (o:=o) (xs:=acc) h2 rfl w3 (sB2.trans s3) smB kk m3
  ·have hd:ds.drop i=ds[i] :: ds.drop (i + 1):=List.drop_eq_getElem_cons hlt
   rw [hd] at f1
   unfold lcL at f1
   cases hput:tt.put ds[i] B with
   | none=>rw [hput] at f1;cases f1
   | some B2 =>
    rw [hput] at f1
    dsimp only at f1
    refine .inr ⟨wk.go i H2 (okT wB2) (fun hq=>(smB hq).1) hlt,fun v H3 hy=>?_⟩
    obtain ⟨z,zo,zd,zv,smz,zok,zas⟩:=wk.yld i H2 v H3 ds[i] (okT wB2) (fun hq=>(smB hq).1) hy (List.getElem?_eq_getElem hlt)
    have pm:(LB++(acc.map some++(_root_.Q.clr R L1++T.map some))).Perm ((LB++(acc.map some++_root_.Q.clr R L1))++T.map some):=by
     rw [<- List.append_assoc (acc.map some),<- List.append_assoc]
    obtain ⟨wz,sz⟩:=kq1 (wB2.perm pm) wk.no smz zok zo zas
    have wz':World Z.K H3 ((some z :: LB)++(acc.map some++(_root_.Q.clr R L1++T.map some))):=wz.perm (by
     rw [List.cons_append,List.cons_append]
     exact List.Perm.cons _ pm.symm)
    have sz':Step H2 (LB++(acc.map some++(_root_.Q.clr R L1++T.map some))) H3 ((some z :: LB)++(acc.map some++(_root_.Q.clr R L1++T.map some))):=sz.perm pm.symm (by
     rw [List.cons_append,List.cons_append]
     exact List.Perm.cons _ pm.symm)
    refine ⟨B,LB,z,B2,mB,wz'.left,zo,zv,by rw [zd];exact hput,fun τ2 LB2 p2 mB2 wB3 sB3=>?_⟩
    obtain ⟨w4,s4⟩:=stay wz' sB3 wB3
    have lB2:τ2.length=k + R.length:=by
     have h1:=mB2.len.1
     have h2:=mB.len.1
     have h3:=vk4 hput
     omega
    have p3:=pB.trans p2
    have sAll:Step H L H3 (LB2++(acc.map some++(_root_.Q.clr R L1++T.map some))):=sB2.trans (sz'.trans s4)
    have smAll:q=true->jw1 H H3/\∀ b∈jjb (acc.map some),H b=none:=fun hq=>⟨jjd (smB hq).1 smz,(smB hq).2⟩
    refine ⟨fun y H5=>∃ (B:En) (LB:Ls) (acc':List Sl),Mt B τ2 LB/\World Z.K H5 (LB++(acc'.map some++(_root_.Q.clr R L1++T.map some)))/\Step H L H5 (LB++(acc'.map some++(_root_.Q.clr R L1++T.map some)))/\acc.map Sl.v++[y]=acc'.map Sl.v/\acc'.length=acc.length + 1/\lcL tt u c (ds.drop (i + 1)) B (acc'.map Sl.sd)=some rB/\(q=true->jw1 H H5/\∀ b∈jjb (acc'.map some),H b=none),
     fun H5=>∃ B LB,Mt B τ2 LB/\World Z.K H5 (LB++(acc.map some++(_root_.Q.clr R L1++T.map some)))/\Step H L H5 (LB++(acc.map some++(_root_.Q.clr R L1++T.map some)))/\lcL tt u c (ds.drop (i + 1)) B (acc.map Sl.sd)=some rB/\(q=true->jw1 H H5/\∀ b∈jjb (acc.map some),H b=none),
     fun y H5 ⟨B5,LB5,acc5,c1,c2,c3,c4,c5,c6,c7⟩=>⟨by rw [List.length_map];omega,ds.length - (i + 1),by omega,B5,LB5,acc5,c1,lB2,p3,c2,c3,c4,c6,hlt,by omega,rfl,c7⟩,
     fun H5 ⟨B5,LB5,c1,c2,c3,c6,c7⟩=>⟨ds.length - (i + 1),by omega,B5,LB5,acc,c1,lB2,p3,c2,c3,rfl,c6,hlt,by omega,rfl,c7⟩,?_⟩
    have xcB:∀ {α:Type} {H6:Hp} {L6:Ls} {B6:En} {cc:Str} {A:Ls},rB=.exc B6 cc->World Z.K H6 (L6++(A++(_root_.Q.clr R L1++T.map some)))->Step H L H6 (L6++(A++(_root_.Q.clr R L1++T.map some)))->Xc Z τ2 H6 L6 (.exc B6 cc:Res α):=fun {α H6 L6 B6 cc A} er w6 s6 E7 c7 e7 C L7 H7 hm m7 w7 s7=>by
     injection e7 with e8 e9
     subst e8 e9
     subst er
     cases oq9 h2
     obtain ⟨w8,s8⟩:=stay w6 s7 w7
     obtain ⟨m9,w9,s9⟩:=home m7 lB2 p3 w8
     exact xc _ _ rfl C _ H7 hm m9 w9.right ((s6.trans (s8.trans s9)).trans ⟨fun _ _ h _=>h,fun a ha=>.inl (by rw [jj5];exact lr9 _ ha),fun a ha=>.inl (by rw [jja];exact lr9 _ ha)⟩)
    rcases jkc f1 with ⟨B4,kb,g1,g2⟩ | ⟨B4,cc,g1,g2⟩
    rotate_left
    ·exact ⟨B2,LB2,_,mB2,wB3,g1,xcB g2 w4 sAll,fun E' s' z=>by cases z⟩
    refine ⟨B2,LB2,_,mB2,wB3,g1,(fun _ _ z=>by cases z),fun E' s' z LB4 H4 mB4 wB4 sB4 sm4=>?_⟩
    injection z with z1 z2
    subst z1 z2
    obtain ⟨w5,s5⟩:=stay w4 sB4 wB4
    have sAll4:=sAll.trans s5
    cases kb with
    | false =>
     rw [if_neg (by decide)] at g2 ⊢
     exact ⟨B4,LB4,mB4,w5,sAll4,g2,fun hq=>⟨jjd (smAll hq).1 (sm4 hq),(smAll hq).2⟩⟩
    | true =>
     rw [if_pos rfl] at g2 ⊢
     rcases jkc g2 with ⟨B6,y,g3,g4⟩ | ⟨B6,cc,g3,g4⟩
     rotate_left
     ·exact ⟨B4,LB4,_,mB4,wB4,g3,xcB g4 w5 sAll4,fun E' s' z=>by cases z⟩
     refine ⟨B4,LB4,_,mB4,wB4,g3,(fun _ _ z=>by cases z),fun E' s' z x LB6 H6 ex ey mB6 wB6 sB6 sm6=>?_⟩
     injection z with z1 z2
     subst z1 z2
     obtain ⟨w7,s7⟩:=stay w5 sB6 wB6
     have pm3:((some x :: LB6)++(acc.map some++(_root_.Q.clr R L1++T.map some))).Perm (LB6++((acc++[x]).map some++(_root_.Q.clr R L1++T.map some))):=by
      rw [List.map_append,List.cons_append]
      have:(LB6++(acc.map some++[x].map some++(_root_.Q.clr R L1++T.map some)))=(LB6++acc.map some)++some x :: (_root_.Q.clr R L1++T.map some):=by simp
      rw [this]
      refine List.Perm.trans ?_ List.perm_middle.symm
      rw [List.append_assoc]
     refine ⟨B6,LB6,acc++[x],mB6,w7.perm pm3,(sAll4.trans s7).perm (List.Perm.refl _) pm3,by simp,by simp,?_,fun hq=>⟨jjd (smAll hq).1 (jjd (sm4 hq) (sm6 hq).1),fun b hb=>?_⟩⟩
     ·rw [List.map_append,show [x].map Sl.sd=[y] from by simp [Sl.sd,ex,ey]]
      exact g4
     ·rw [List.map_append,jj5] at hb
      rcases List.mem_append.mp hb with hb | hb
      ·exact (smAll hq).2 b hb
      ·have hb:b∈x.own:=by simpa using hb
       exact jkv (jjd (smAll hq).1 (sm4 hq)) ((sm6 hq).2 b hb)
theorem qwi (N:List Str) (hi:QI X Z q tg it iter)
  (hg:∀ cl C s0 H0 fp,QG (lcE X scope N cl C s0 H0 fp Z.EX) Z ((List.range R.length).map (k + ·)) tt tg) (ht:∀ cl C s0 H0 fp,PTs (lcE X scope N cl C s0 H0 fp Z.EX) ifs (tT Z q u)) (he:∀ cl C s0 H0 fp,QE (lcE X scope N cl C s0 H0 fp Z.EX) Z q c elt)
  (gx:qk7 X Z.EX) (top:qk2 X) (hR:R.Nodup) (hr:∀ j∈R,j < X.N.length) (hc:X.calm=true:=by rfl) (hk:scope.kind=.function:=by rfl) (hsc:qjn X.N X.env.scope scope N k R=true:=by rfl) (hs:∀ x,foldedSetIterable iter X.env x=pure x:=by intro _;rfl) :
  QE X Z q (cLC o k R it tt u c) (.ListComp elt [⟨tg,iter,ifs,0⟩] scope pos):=fun pins s σ H Q I hw =>
 vwv (EX:=Z.EX) N k R (wkp hi) hg ht he gx top hc hk hsc hs pins s σ H Q I (qv0 I.len hR hr hw)
theorem qq8 {EX:XK} {wi:TI} {g:TG} {tte:TT} {te:TE} {i:Nat} {y:Str} {py spos:Pos} (N:List Str) (k:Nat) (R:List Nat) (hN:X.N.Nodup) (hy:X.N[i]?=some y) (hx:Loc X.env.scope y) (hi:PI X tg iter wi)
  (hg:∀ cl C s0 H0 fp,PG (lcE X scope N cl C s0 H0 fp EX) tg g) (ht:∀ cl C s0 H0 fp,PTs (lcE X scope N cl C s0 H0 fp EX) ifs tte) (he:∀ cl C s0 H0 fp,PE (lcE X scope N cl C s0 H0 fp EX) elt te) (gx:qk7 X EX) (top:qk2 X)
  (hsw:swapsWith (.ListComp elt [⟨tg,iter,ifs,0⟩] scope pos) (some (.Name y py)) spos.line X.env=pure true:=by rfl)
  (hc:X.calm=true:=by rfl) (hk:scope.kind=.function:=by rfl) (hsc:qjn X.N X.env.scope scope N k R=true:=by rfl) (hs:∀ x,foldedSetIterable iter X.env x=pure x:=by intro _;rfl)
  (hf:X.fn y=true\/X.env.scope.names.lookup y=some .local:=by first | exact .inl rfl | exact .inr rfl) :
  PS X (.Assign [.Name y py] (.ListComp elt [⟨tg,iter,ifs,0⟩] scope pos) spos) (fun D σ H=>tLC wi g tte te k R σ H fun v H1=>D.nx (σ.set i (some v)) H1):=by
 intro pins s σ H D I h
 have sc:=kzm hk hsc
 obtain ⟨cl,hclos,hcl,hfree⟩:=kq7 (scope:=scope) (env:=X.env) fun y hy e=>I.ok.has y.1 (sc.caps y hy e)
 rw [exec_Assign_Name_used _ _ _ _ hsw]
 refine wpAny_bind (wpAny_standAt (wpAny_bind ?_))
 show wpAny _ X.A (do let _ <- comprehension (.ListComp elt [⟨tg,iter,ifs,0⟩] scope pos) scope X.env _ (newList []) false (eval iter X.env) (some (assign (.Name y py) X.env))) _ _ s
 refine wpAny_bind (thn (wpAny_comprehension_free (use:=some (assign (.Name y py) X.env)) (Q:=fun _ s'=>SP X pins D .next s') rfl hs hclos sc.kind sc.names
  (thn (hi pins s σ H _ I h) fun v s1 h1=>thn h1 fun itv s2 h2=>?_)) fun _ s' hq=>wpAny_pure (wpAny_pure hq))
 obtain ⟨it,fp,tn,J,H2,e,I2,T,st2,f2,W,w0,turn⟩:=h2
 subst e
 refine kw6 (EX:=EX) (RR:=fun acc C=>compPost (model X.prog X.w) X.A X.xe (some (assign (.Name y py) X.env)) (fun _ s'=>SP X pins D .next s') acc C) hc top sc hcl hfree (hg cl) (ht cl) (he cl) I2 T st2 f2 w0 turn ?_ ?_
 rotate_left
 ·intro D' C s' pins' σ' H' x T Cc fl hC t q
  exact qzv gx I2 f2 hC t q
 intro L C oC m ys H' s' I' eC nC fC q
 show wpAny _ X.A (assign (.Name y py) X.env (.ref L)) _ _ s'
 refine wpAny_assign_Name (jx2 I' hN hy hx (v:=.ref L) rfl (fun s'' I''=>?_) hf)
 have pC:=I''.pin (C,oC) (lr9 _ (lr9 _ (List.mem_singleton.mpr rfl)))
 refine ⟨m,nC.at' fun o e=>?_,fun h' sb=>⟨_,_,I''.unpinned.turned (it:=C) (t':=s''.toks) (fun b o hb e=>(sb.2 b hb).trans e) fC.1 fC.2.1 fC.2.2.2.1 fC.2.2.2.2.1 fC.2.2.2.2.2,q⟩⟩
 rw [eC] at e
 cases e
 exact pC.1
theorem vjz {i:Nat} {y:Str} {py spos:Pos} (N:List Str) (hN:X.N.Nodup) (hy:X.N[i]?=some y) (hx:Loc X.env.scope y) (hi:QI X Z q tg it iter)
  (hg:∀ cl C s0 H0 fp,QG (lcE X scope N cl C s0 H0 fp Z.EX) Z ((List.range R.length).map (k + ·)) tt tg) (ht:∀ cl C s0 H0 fp,PTs (lcE X scope N cl C s0 H0 fp Z.EX) ifs (tT Z q u)) (he:∀ cl C s0 H0 fp,QE (lcE X scope N cl C s0 H0 fp Z.EX) Z q c elt)
  (gx:qk7 X Z.EX) (top:qk2 X) (hR:R.Nodup) (hr:∀ j∈R,j < X.N.length) (hp:i∉pn:=by decide)
  (hsw:swapsWith (.ListComp elt [⟨tg,iter,ifs,0⟩] scope pos) (some (.Name y py)) spos.line X.env=pure true:=by rfl)
  (hc:X.calm=true:=by rfl) (hk:scope.kind=.function:=by rfl) (hsc:qjn X.N X.env.scope scope N k R=true:=by rfl) (hs:∀ x,foldedSetIterable iter X.env x=pure x:=by intro _;rfl)
  (hf:X.fn y=true\/X.env.scope.names.lookup y=some .local:=by first | exact .inl rfl | exact .inr rfl) :
  QS X Z pn (jjq i (cLC o k R it tt u c)) (.Assign [.Name y py] (.ListComp elt [⟨tg,iter,ifs,0⟩] scope pos) spos) :=
 vwf (q:=q) hp fun pins s σ H D I hw=>qq8 N k R hN hy hx (wkp hi) hg ht he gx top hsw hc hk hsc hs hf pins s σ H D I (qv0 I.len hR hr hw)
end
end
end Q
namespace Q
open PySem PySem.Spec PyProof.Rows L2 L3
section
variable {X:Cx} {Z:Fx0} {K:PySem.W.Frag} {pn:List Nat} {q qa qb:Bool} {a b c:Ex} {u:Ts} {tg e ea eb:Expr} {σ:L2.St} {H:Hp} {L:Ls} {E:En} {pos p:Pos} {x:Str} {id T:String} {r:List V->Hp->VK->Prop} {f:Sd->Option Sd} {g:Sd->Sd->Option Sd}
theorem kvn:PTs X [] (tT Z q _root_.Q.tYes):=fun pins s σ H Q I h_z=>ex8 h_z fun E L r m w hc xc k=>by
 cases oq9 hc
 exact vk6 pins s σ H Q I (k _ _ rfl L H m w Step.refl fun _=>jks)
theorem vjy (h:QT X Z q u e):PTs X [e] (tT Z q u):=vk5 h
theorem kjh (hc:CallR X (.builtin id) r) (ad:Ad1 Z.K (fun v H Q=>r [v] H Q) f) (ha:QV X Z q a ea) (hm:X.mg x=none) (hv:bootBuiltins x=some (.builtin id)) (hg:Gl X x:=by rfl) (hn:x≠"__name__":=by decide) (hdb:(x == ("__debug__":Str))=false:=by decide)
  (he:starEach [ea] X.env=(false,eval ea X.env) :: starEach [] X.env:=by rfl) (hpl:(backTo pos (starEach [] X.env)).any (·.1)=false:=by rfl):QE X Z q (cF1 f a) (.Call (.Name x p) [ea] [] pos) :=
 jky (kql hc hg hm hv (jjr ha jkp he) hn hdb he hpl) fun σ H Q h=>kj8 (r:=fun v H Q=>r [v] H Q) ad h
theorem kwv (hc:CallR X (.type T) r) (ad:Ad1 Z.K (fun v H Q=>r [v] H Q) f) (ha:QV X Z q a ea) (hm:X.mg x=none) (hv:bootBuiltins x=some (.type T)) (hg:Gl X x:=by rfl) (hn:x≠"__name__":=by decide) (hdb:(x == ("__debug__":Str))=false:=by decide)
  (he:starEach [ea] X.env=(false,eval ea X.env) :: starEach [] X.env:=by rfl) (hpl:(backTo pos (starEach [] X.env)).any (·.1)=false:=by rfl):QE X Z q (cF1 f a) (.Call (.Name x p) [ea] [] pos) :=
 jky (qqd hc hg hm hv (jjr ha jkp he) hn hdb he hpl) fun σ H Q h=>kj8 (r:=fun v H Q=>r [v] H Q) ad h
theorem jv1:Ad1 K (fun v H Q=>qkw K [v] H Q) (pu1 jwq):=by
 intro H x s Q ok hf k
 unfold pu1 at hf
 have fin:∀ n:Nat,jwq x.d=some (.int n)->Q (.int n) H:=fun n e=>by
  rw [show (x.o,x.d).2=x.d from rfl,e] at hf
  cases oq9 hf
  exact k ⟨.dp,.int n,.int n,[]⟩ H rfl rfl vkr
 cases hx:x.d with
 | lst ds =>
  obtain ⟨l,xs,bs,e,q,r,_⟩:=items ok (.inl hx)
  refine .inl ⟨l,xs,by rw [e],?_,by rw [<- r.len];exact fin ds.length (by rw [hx];rfl)⟩
  rcases q with ⟨_,z⟩ | ⟨_,z⟩
  ·exact .inl (kkh z)
  ·exact .inr z
 | tup ds =>
  obtain ⟨l,xs,bs,e,q,r,_⟩:=items ok (.inr hx)
  refine .inl ⟨l,xs,by rw [e],?_,by rw [<- r.len];exact fin ds.length (by rw [hx];rfl)⟩
  rcases q with ⟨_,z⟩ | ⟨_,z⟩
  ·exact .inl (kkh z)
  ·exact .inr z
 | str z =>
  obtain ⟨e,hz⟩:=jwp ok hx
  exact .inr (.inl ⟨z,by rw [e],hz,fin z.length (by rw [hx];rfl)⟩)
 | _=>rw [show (x.o,x.d).2=x.d from rfl,hx] at hf;cases hf
def vjw (K:PySem.W.Frag):List V->Hp->VK->Prop:=fun xs H Q=>wkn K xs H Q\/(∃ p ys U,xs=[.ref p,.ty U]/\SqT K H p ys/\U∈kinds.tail/\Q (.bl (vxq "tuple" U)) H)\/∃ p ys U,xs=[.ref p,.ty U]/\SqL K H p ys/\U∈kinds.tail/\Q (.bl (vxq "list" U)) H
theorem qw4 (hK:X.K=K:=by rfl):CallR X (.builtin "isinstance") (vjw K):=by
 subst hK
 intro pins s σ H xs us Q I r h
 rcases h with h | ⟨p,ys,U,rfl,hq,hU,q⟩ | ⟨p,ys,U,rfl,hq,hU,q⟩
 ·exact qz3 pins s σ H xs us Q I r h
 ·obtain ⟨u,w',rfl,r1,r2⟩:=qkc r
  cases (show w'=Value.type U from r2)
  cases r1
  obtain ⟨its,_,⟨o,h1,h2,_⟩,_⟩:=I.tuple hq
  exact PySem.W.kia_one PySem.W.kitx_tuple I.kIn ⟨o,h1,h2⟩ (kxg (T:="tuple") (by decide) hU) (fun z=>nomatch z) fun tk=>⟨.bl _,H,I.tok _,rfl,q⟩
 ·obtain ⟨u,w',rfl,r1,r2⟩:=qkc r
  cases (show w'=Value.type U from r2)
  cases r1
  obtain ⟨its,_,⟨o,n,h1,h2,_⟩,_⟩:=I.list hq
  exact PySem.W.kia_one PySem.W.kitx_list I.kIn ⟨o,h1,h2⟩ (kxg (T:="list") (by decide) hU) (fun z=>nomatch z) fun tk=>⟨.bl _,H,I.tok _,rfl,q⟩
theorem vz3 {U:String} (hU:U∈kinds.tail):Ad1 K (fun v H Q=>vjw K [v,.ty U] H Q) (pu1 (vxx U)):=by
 intro H x s Q ok hf k
 unfold pu1 vxx at hf
 have fin:∀ (T:String),kind x.d=T->(∀ c f,x.d≠.obj c f)->Q (.bl (vxq T U)) H:=fun T e ho=>by
  cases hx:x.d with
  | obj c f=>exact absurd hx (ho c f)
  | dct kvs=>rw [show (x.o,x.d).2=x.d from rfl,hx] at hf;cases hf
  | _ =>
   rw [show (x.o,x.d).2=x.d from rfl,hx] at hf
   cases oq9 hf
   rw [<- e,hx]
   exact k ⟨.dp,.bl _,.bl _,[]⟩ H rfl rfl qk3
 cases hx:x.d with
 | non=>exact .inl ⟨x.v,"NoneType",U,rfl,by rw [qzp ok hx];exact .non,by decide,hU,fin _ (by rw [hx];rfl) (by rw [hx];exact fun _ _ z=>nomatch z)⟩
 | bl k=>exact .inl ⟨x.v,"bool",U,rfl,by rw [kxc ok hx];exact .bl _,by decide,hU,fin _ (by rw [hx];rfl) (by rw [hx];exact fun _ _ z=>nomatch z)⟩
 | int k=>exact .inl ⟨x.v,"int",U,rfl,by rw [jqh ok hx];exact .int _,by decide,hU,fin _ (by rw [hx];rfl) (by rw [hx];exact fun _ _ z=>nomatch z)⟩
 | str k=>exact .inl ⟨x.v,"str",U,rfl,by rw [(jwp ok hx).1];exact .str _,by decide,hU,fin _ (by rw [hx];rfl) (by rw [hx];exact fun _ _ z=>nomatch z)⟩
 | lst ds =>
  obtain ⟨l,xs,bs,e,q,r,_⟩:=items ok (.inl hx)
  have f:=fin "list" (by rw [hx];rfl) (by rw [hx];exact fun _ _ z=>nomatch z)
  rcases q with ⟨_,z⟩ | ⟨z,_⟩
  ·exact .inr (.inr ⟨l,xs,U,by rw [e],z.sq,hU,f⟩)
  ·rw [hx] at z;cases z
 | tup ds =>
  obtain ⟨l,xs,bs,e,q,r,_⟩:=items ok (.inr hx)
  have f:=fin "tuple" (by rw [hx];rfl) (by rw [hx];exact fun _ _ z=>nomatch z)
  rcases q with ⟨z,_⟩ | ⟨_,z⟩
  ·rw [hx] at z;cases z
  ·exact .inr (.inl ⟨l,xs,U,by rw [e],z,hU,f⟩)
 | dct kvs =>
  rw [show (x.o,x.d).2=x.d from rfl,hx] at hf
  cases hf
 | obj c f =>
  rw [show (x.o,x.d).2=x.d from rfl,hx] at hf
  cases hf
theorem wj7 {U:String} {y:Str} {p2:Pos} (ha:QV X Z q a ea) (hm:X.mg "isinstance"=none) (hmy:X.mg y=none) (hy:bootBuiltins y=some (.type U)) (hK:X.K=Z.K) (hU:U∈kinds.tail:=by decide) (hg:Gl X "isinstance":=by rfl) (hgy:Gl X y:=by rfl) (hny:y≠"__name__":=by decide) (hdy:(y == ("__debug__":Str))=false:=by decide)
  (he:starEach [ea,.Name y p2] X.env=(false,eval ea X.env) :: starEach [.Name y p2] X.env:=by rfl) (he2:starEach [.Name y p2] X.env=(false,eval (.Name y p2) X.env) :: starEach [] X.env:=by rfl) (hpl:(backTo pos (starEach [.Name y p2] X.env)).any (·.1)=false:=by rfl) :
  QE X Z q (cF1 (pu1 (vxx U)) a) (.Call (.Name "isinstance" p) [ea,.Name y p2] [] pos) :=
 jky (kql (qw4 hK) hg hm jzb (jjr ha (jjr (qqe (v:=.ty U) hgy hmy hy rfl hny hdy) jkp he2) he) (by decide) (by decide) he hpl) fun σ H Q h=>kj8 (r:=fun v H Q=>vjw Z.K [v,.ty U] H Q) (vz3 hU) h
theorem vjb:Ad1 K (fun v H Q=>qkx [v] H Q) (pu1 qwm):=by
 intro H x s Q ok hf k
 unfold pu1 qwm at hf
 dsimp only at hf
 split at hf
 ·rename_i i e
  cases oq9 hf
  exact .inl ⟨i,by rw [jqh ok e],k ⟨.dp,.int _,.int _,[]⟩ H rfl rfl vkr⟩
 ·rename_i i e
  cases oq9 hf
  exact .inr (.inl ⟨i,by rw [kxc ok e],k ⟨.dp,.int _,.int _,[]⟩ H rfl rfl vkr⟩)
 ·rename_i z e
  split at hf
  ·rename_i hz
   cases ht:PySem.intText? z with
   | none=>rw [ht] at hf;cases hf
   | some n =>
    rw [ht] at hf
    cases oq9 hf
    exact .inr (.inr ⟨z,n,by rw [(jwp ok e).1],ht,hz,k ⟨.dp,.int _,.int _,[]⟩ H rfl rfl vkr⟩)
  ·cases hf
 ·cases hf
theorem kkc:Ad1 K (fun v H Q=>qkv K [v] H Q) jzz:=by
 intro H x s Q ok hf k
 unfold jzz at hf
 dsimp only at hf
 split at hf
 ·rename_i ds e
  split at hf
  ·rename_i hl
   cases oq9 hf
   obtain ⟨l,xs,bs,ev,q3,r3,h3⟩:=jk5 ok (.inl e) hl
   have q3:LsR K H l xs:=by rcases q3 with ⟨_,z⟩ | ⟨z,_⟩;exact z;rw [e] at z;cases z
   exact ⟨l,xs,by rw [ev],.inl (kkh q3),fun p hp=>k ⟨.rt,.lst ds,.ref p,p :: bs⟩ _ rfl rfl (jwg hp r3 h3)⟩
  ·cases hf
 ·rename_i ds e
  split at hf
  ·rename_i hl
   cases oq9 hf
   obtain ⟨l,xs,bs,ev,q3,r3,h3⟩:=jk5 ok (.inr e) hl
   have q3:SqT K H l xs:=by rcases q3 with ⟨z,_⟩ | ⟨_,z⟩;rw [e] at z;cases z;exact z
   exact ⟨l,xs,by rw [ev],.inr q3,fun p hp=>k ⟨.rt,.lst ds,.ref p,p :: bs⟩ _ rfl rfl (jwg hp r3 h3)⟩
  ·cases hf
 ·cases hf
def kzc (K:PySem.W.Frag):List V->Hp->VK->Prop:=fun xs H Q=>∃ p ys,xs=[.ref p]/\((SqL K H p ys/\∀ l,H l=none->Q (.ref l) (upd H l (.tup ys)))\/(SqT K H p ys/\Q (.ref p) H))
theorem jvu (hK:X.K=K):CallR X (.type "tuple") (kzc K):=by subst hK;exact kv0
theorem jwl:Ad1 K (fun v H Q=>kzc K [v] H Q) jvt:=by
 intro H x s Q ok hf k
 unfold jvt at hf
 dsimp only at hf
 split at hf
 ·rename_i ds e
  split at hf
  ·rename_i hl
   cases oq9 hf
   obtain ⟨l,xs,bs,ev,q3,r3,h3⟩:=jk5 ok (.inl e) hl
   have q3:LsR K H l xs:=by rcases q3 with ⟨_,z⟩ | ⟨z,_⟩;exact z;rw [e] at z;cases z
   exact ⟨l,xs,by rw [ev],.inl ⟨kkh q3,fun p hp=>k ⟨.no,.tup ds,.ref p,bs⟩ _ rfl rfl (kjj hp r3 h3)⟩⟩
  ·cases hf
 ·rename_i ds e
  split at hf
  ·rename_i hl
   cases oq9 hf
   obtain ⟨l,xs,bs,ev,q3,r3,h3⟩:=jk5 ok (.inr e) hl
   have q3:SqT K H l xs:=by rcases q3 with ⟨z,_⟩ | ⟨_,z⟩;rw [e] at z;cases z;exact z
   refine ⟨l,xs,by rw [ev],.inr ⟨q3,k ⟨.no,.tup ds,.ref l,bs⟩ H rfl rfl ⟨jks,?_,fun b hb=>(nomatch hb),List.nodup_nil,fun b hb=>h3 b hb⟩⟩⟩
   show RepL K H true (.tup ds) (.ref l) bs
   unfold RepL
   exact ⟨l,xs,rfl,q3,r3⟩
  ·cases hf
 ·cases hf
theorem qjz {g:Int->Int->Bool}:∀ x y s,pu2 (c2 g) x y=some s->∃ k,s.2=.bl k:=by
 intro x y s h
 unfold pu2 c2 at h
 split at h
 ·cases oq9 h;exact ⟨_,rfl⟩
 ·cases h
theorem kks:∀ x y s,pu2 fEq x y=some s->∃ k,s.2=.bl k:=by
 intro x y s h
 unfold pu2 fEq at h
 split at h
 ·cases oq9 h;exact ⟨_,rfl⟩
 ·cases h
theorem vqw:∀ x y s,pu2 fNe x y=some s->∃ k,s.2=.bl k:=by
 intro x y s h
 unfold pu2 fNe at h
 split at h
 ·cases oq9 h;exact ⟨_,rfl⟩
 ·cases h
theorem vxy {x y d:D} (h:fIn x y=some d):∃ k,d=.bl k:=by
 unfold fIn at h
 split at h
 ·split at h
  ·cases oq9 h;exact ⟨_,rfl⟩
  ·cases h
 ·split at h
  ·cases oq9 h;exact ⟨_,rfl⟩
  ·cases h
 ·split at h
  ·cases oq9 h;exact ⟨_,rfl⟩
  ·cases h
 ·cases oq9 h;exact ⟨_,rfl⟩
 ·cases h
theorem kv2:∀ x y s,pu2 jq8 x y=some s->∃ k,s.2=.bl k:=by
 intro x y s h
 unfold pu2 jq8 kwe at h
 split at h
 ·cases h
 ·cases hf:fIn x.2 y.2 with
  | none=>rw [hf] at h;cases h
  | some d =>
   obtain ⟨k,rfl⟩:=vxy hf
   rw [hf] at h
   cases oq9 h
   exact ⟨_,rfl⟩
theorem kqa:∀ x y s,f2First fIsNon x y=some s->∃ k,s.2=.bl k:=by
 intro x y s h
 unfold f2First fIsNon at h
 split at h
 ·cases oq9 h;exact ⟨_,rfl⟩
 ·cases h
theorem qwa:∀ x y s,f2First fNotNon x y=some s->∃ k,s.2=.bl k:=by
 intro x y s h
 unfold f2First fNotNon at h
 split at h
 ·cases oq9 h;exact ⟨_,rfl⟩
 ·cases h
theorem kxv:∀ {xs:List V} {us:List Value},xs.length=us.length->(∀ (i:Nat) (x:V) (u:Value),xs[i]?=some x->us[i]?=some u->RelV x u)->Vals xs us
 | [],[],_,_=>.nil
 | [],_ :: _,h,_=>by simp at h
 | _ :: _,[],h,_=>by simp at h
 | x :: xs,u :: us,h,f=>.cons (f 0 x u (by simp) (by simp)) (kxv (by simpa using h) fun i x u e1 e2=>f (i + 1) x u (by simpa using e1) (by simpa using e2))
theorem vw9 {p2 pos2:Pos} (ha:QV X Z q a ea) (hmr:X.mg "range"=none) (hml:X.mg "list"=none) (hc:X.calm=true:=by rfl) (hgr:Gl X "range":=by rfl) (hgl:Gl X "list":=by rfl)
  (hst:starEach [ea] X.env=(false,eval ea X.env) :: starEach [] X.env:=by rfl) (hpl:(backTo pos2 (starEach [] X.env)).any (·.1)=false:=by rfl)
  (hst2:starEach [.Call (.Name "range" p2) [ea] [] pos2] X.env=(false,eval (.Call (.Name "range" p2) [ea] [] pos2) X.env) :: starEach [] X.env:=by rfl) (hpl2:(backTo pos (starEach [] X.env)).any (·.1)=false:=by rfl) :
  QE X Z q (vj4 a) (.Call (.Name "list" p) [.Call (.Name "range" p2) [ea] [] pos2] [] pos):=by
 have hr:PE X (.Call (.Name "range" p2) [ea] [] pos2) (fun σ H Q=>tV Z q a σ H fun v H1=>∃ j:Int,v=.int j/\∀ pp,H1 pp=none->Q (.ref pp) (upd H1 pp (.rng 0 j))):=by
  intro pins s σ H Q I h
  refine Call_ (jzr I hgr hmr boot_range (PyProof.Rows.callWith_type1 (thn (jjr ha jkp hst pos2 pins s σ H (fun vs H1=>∃ j:Int,vs=[.int j]/\∀ pp,H1 pp=none->Q (.ref pp) (upd H1 pp (.rng 0 j))) I ?_) fun us s1 ⟨vs,H1,I1,r1,j,e,q1⟩=>?_) hst hpl))
  ·obtain ⟨E,L,r,m,w,hcc,xc,k⟩:=h
   exact ⟨E,L,r,m,w,hcc,xc,fun E' s' z x L' H' e1 e2 m' w' ok fr sr st sm=>by
    obtain ⟨j,ej,qj⟩:=k E' s' z x L' H' e1 e2 m' w' ok fr sr st sm
    exact ⟨j,by rw [ej],qj⟩⟩
  ·subst e
   obtain ⟨u,rfl,t,rfl⟩:=r1.one
   refine call_range_1 ⟨.ref s1.heap.objs.size,_,I1.laid (o:=.rng 0 j) (fun b o e=>Heap.get?_push_of_some _ e) (Nat.le_refl _) ⟨_,_,_,Heap.get?_push_size _ rfl⟩,rfl,q1 _ I1.fresh⟩
 intro pins s σ H Q I ⟨E,L,r,m,w,hcc,xc,k⟩
 refine wpAny_Call_Name_kw (jzr I hgl hml jx0 ?_)
 refine PyProof.Rows.callWith_type1 (thn (jjr hr jkp hst2 pos pins s σ H (fun vs H1=>∃ pp j,vs=[.ref pp]/\H1 pp=some (.rng 0 j)/\jka j=true/\j.toNat<=big/\∀ l,H1 l=none->Q (.ref l) (upd H1 l (.lst ((List.range j.toNat).map fun (i:Nat)=>V.int (0 + (i:Int)))))) I ?_) fun us s1 ⟨vs,H1,I1,r1,pp,j,e,hp,h62,hbig,q1⟩=>?_) hst2 hpl2
 ·refine jwd m w (show bnd (a E) _=some r from hcc) xc fun E1 s h1 x L1 H1 e1 e2 m1 w1 ok fr sr st sm=>?_
  cases hx:s.2 with
  | int j =>
   rw [hx] at h1
   dsimp only at h1
   split at h1
   ·rename_i hj
    cases oq9 h1
    refine ⟨j,jqh ok (e2.trans hx),fun pp hpp=>⟨pp,j,rfl,jkd,hj.1,hj.2,fun l hl=>?_⟩⟩
    have s1:jw1 H1 (upd H1 pp (.rng 0 j)):=jk6 hpp
    have w2:World Z.K (upd H1 pp (.rng 0 j)) L1:=⟨fun x hx=>RepO.kp (w1.ok x hx) (Kp.of_same s1),w1.nd,w1.ds⟩
    have st2:Step H L (upd H1 pp (.rng 0 j)) L1:=st.trans ⟨fun b ob z _=>s1 b ob z,fun b z=>.inl z,fun b z=>.inl z⟩
    have ra:∀ (n:Nat) (ns:List Nat) (Hx:Hp),RepA Z.K Hx true (ns.map fun (i:Nat)=>D.int (0 + (i:Int))) (ns.map fun (i:Nat)=>V.int (0 + (i:Int))) []:=by
     intro n ns Hx
     induction ns with
     | nil=>unfold RepA;exact ⟨rfl,rfl⟩
     | cons i ns ih =>
      rw [List.map_cons,List.map_cons]
      unfold RepA
      exact ⟨_,_,[],[],rfl,rfl,jj2,ih⟩
    have o:=jwg (K:=Z.K) (H:=upd H1 pp (.rng 0 j)) (fr:=[]) hl (ra 0 (List.range j.toNat) (upd H1 pp (.rng 0 j))) (fun _ z=>(nomatch z))
    obtain ⟨w3,st3⟩:=jvc w2 st2 o (fun _ z=>(nomatch z)) (fun _ z=>(nomatch z)) (fun _ z=>(nomatch z))
    refine k _ _ rfl ⟨.rt,.lst (jjh 0 j),.ref l,[l]⟩ L1 _ rfl rfl m1 (by simpa [jjh] using w3) (by simpa [jjh] using st3) fun hq=>⟨jjd (sm hq) (jjd s1 o.same),fun b hb=>?_⟩
    have:b=l:=by simpa [Sl.own] using hb
    subst this
    exact jkv (jjd (sm hq) s1) hl
   ·cases h1
  | _=>rw [hx] at h1;cases h1
 ·subst e
  obtain ⟨u,rfl,rx⟩:=r1.one
  cases rx
  obtain ⟨t1,t2,t3,hg⟩:=(show ObjOk X.prog X.w H1 s1.heap pp (.rng 0 j) from I1.hok pp _ hp)
  obtain ⟨j1,j2⟩:=jx3 h62
  have e2:Builtin.Range.rangeSize 0 j 1=((j.toNat:Nat):Int):=by rw [rangeSize_one];split<;>omega
  refine call_list_range (n:=j.toNat) (I1.ok.hd hc) (show IsRange s1.heap pp 0 j 1 t1 t2 t3 from hg) (small_one (by omega) (by omega) j1 j2) e2 hbig fun h' tk acc' c' kp e4 hit=>?_
  obtain ⟨hs,hg2⟩:=hit
  have hv:Vals ((List.range j.toNat).map fun (i:Nat)=>V.int (0 + (i:Int))) acc'.toList:=kxv (by simp [hs]) fun i x u ex eu=>by
   rw [Array.getElem?_toList] at eu
   obtain ⟨t,rfl⟩:=hg2 i u eu
   rw [List.getElem?_map] at ex
   cases hr:(List.range j.toNat)[i]? with
   | none=>rw [hr] at ex;cases ex
   | some m =>
    rw [hr] at ex
    have hm:m=i:=by
     obtain ⟨_,h2⟩:=List.getElem?_eq_some_iff.mp hr
     simpa using h2.symm
    subst hm
    cases oq9 ex
    exact ⟨t,by rw [Int.mul_one]⟩
  refine ⟨.ref s1.heap.objs.size,_,I1.laid (a:=s1.heap.objs.size) (o:=.lst ((List.range j.toNat).map fun (i:Nat)=>V.int (0 + (i:Int)))) (t':=tk) kp (Nat.le_refl _) ⟨by rw [List.length_map,List.length_range];exact hbig,acc'.toList,c',hv,by simpa using e4⟩,rfl,q1 _ I1.fresh⟩
end
end Q
noncomputable section
namespace Q
open PySem
def qwh (n d:Nat):Option Int->Nat
 | none=>d
 | some v=>if v < 0 then (v + (n:Int)).toNat else min v.toNat n
def vqo (xs:List D) (lo hi:Option Int):List D:=(xs.drop (qwh xs.length 0 lo)).take (qwh xs.length xs.length hi - qwh xs.length 0 lo)
def fSl:Sd->Option Int->Option Int->Option Sd:=fun x lo hi=>match x.2 with
 | .lst xs=>if jqz x then some (.rt,.lst (vqo xs lo hi)) else none
 | .tup xs=>if jqz x/\¬ (qwh xs.length 0 lo=0/\qwh xs.length xs.length hi=xs.length) then some (.no,.tup (vqo xs lo hi)) else none
 | .str z=>if (Txt.slice z lo hi).length<=big then some (.dp,.str (Txt.slice z lo hi)) else none
 | _=>none
def qjy:Option Ex->Ev (Option Int)
 | none,E=>some (.ok E none)
 | some c,E=>bnd (c E) fun E x=>match x.2 with
  | .int i=>some (.ok E (some i))
  | _=>none
def cSl (a:Ex) (lo hi:Option Ex):Ex:=fun E=>bnd (a E) fun E x=>bnd (qjy lo E) fun E l=>bnd (qjy hi E) fun E h=>val E (fSl x l h)
def jz6:Nat->List D->List D
 | _,[]=>[]
 | k,d :: ds=>.tup [.int k,d] :: jz6 (k + 1) ds
def lstOf:D->Option (List D)
 | .lst xs=>some xs
 | _=>none
def vv3 (c:Ex):Ev (List D):=fun E=>bnd (c E) fun E x=>val E ((lstOf x.2).map (jz6 0))
def kkg:List D->Option (List Str)
 | []=>some []
 | .str z :: ds=>(kkg ds).map (z :: ·)
 | _=>none
def kxi:List D->Option (List Int)
 | []=>some []
 | .int z :: ds=>(kxi ds).map (z :: ·)
 | _=>none
def qxs (a:Str):List Str->List Str
 | []=>[a]
 | b :: r=>if Spec.ltCps b.cps.toList a.cps.toList then b :: qxs a r else a :: b :: r
def kja:List Str->List Str
 | []=>[]
 | a :: r=>qxs a (kja r)
def kjv (a:Int):List Int->List Int
 | []=>[a]
 | b :: r=>if b < a then b :: kjv a r else a :: b :: r
def kwx:List Int->List Int
 | []=>[]
 | a :: r=>kjv a (kwx r)
def jzl:Sd->Option Sd:=fun x=>match x.2 with
 | .lst ds=>(match kkg ds with
  | some ss=>if ss.length < 64 then some (.rt,.lst ((kja ss).map .str)) else none
  | none=>(match kxi ds with
   | some is=>if is.length < 64 then some (.rt,.lst ((kwx is).map .int)) else none
   | none=>none))
 | _=>none
def kk4:D->D->Option D:=fun xs x=>match xs with
 | .lst ys=>if x.flat 30 && D.flats 30 ys then (ys.findIdx? fun z=>peq z x).map fun (j:Nat)=>D.int (j:Int) else none
 | .tup ys=>if x.flat 30 && D.flats 30 ys then (ys.findIdx? fun z=>peq z x).map fun (j:Nat)=>D.int (j:Int) else none
 | _=>none
def isSq:D->Bool
 | .lst _=>true
 | .tup _=>true
 | _=>false
def vqr (a b:Ex):Ex:=fun E=>bnd (a E) fun E x=>if isSq x.2 then bnd (b E) fun E y=>val E (pu2 kk4 x y) else none
def wjx (i:Nat) (E:En):En:=match E[i]? with
 | some (some (_,d))=>E.set i (some (.no,d))
 | _=>E
def sFz (i:Nat) (s:Sm):Sm:=fun E=>s (wjx i E)
def isDp:Option (Option Sd)->Bool
 | some (some (.dp,.lst _))=>true
 | _=>false
def vzy (i:Nat) (j c:Ex):Sm:=fun E=>if isDp E[i]? then ofE (j E) fun E k=>match E[i]?,k.2 with
 | some (some (.dp,.lst xs)),.int k=>(match ixN xs.length k with
  | some n=>(match xs[n]? with
   | some (.lst _)=>ofE (c E) fun E x=>match E[i]? with
    | some (some (.dp,.lst xs))=>(match xs[n]? with
     | some (.lst ys)=>if jws x/\ys.length < big then some (.nx (E.set i (some (.dp,.lst (xs.set n (.lst (ys++[x.2]))))))) else none
     | _=>none)
    | _=>none
   | _=>none)
  | none=>none)
 | _,_=>none
 else none
def jjn:Sd->Sd->Option Sd:=fun x y=>match x.2,y.2 with
 | .tup a,.int k=>if -(2 ^ 63)<=k/\k < 2 ^ 63/\a.length * k.toNat<=big/\jqz x then some (.no,.tup (List.replicate k.toNat a).flatten) else none
 | _,_=>qju x y
def sRz (c:Str):Sm:=fun E=>some (.xc E c)
def jza (f:Fn) (cs:List Ex):Ex:=fun E=>match jv0 cs E with
 | some (.ok E xs)=>(match f (letAll xs) with
  | some (.ok _ y)=>some (.ok E y)
  | some (.exc _ c)=>some (.exc E c)
  | none=>none)
 | _=>none
def qzb (i:Nat):Option Fl->Option Fl
 | some (.nx E)=>some (.nx (E.set i none))
 | some (.rt E x)=>some (.rt (E.set i none) x)
 | some (.ct E)=>some (.ct (E.set i none))
 | some (.bk E)=>some (.bk (E.set i none))
 | _=>none
def qwz (cs:List Str) (i:Nat) (b h:Sm):Sm:=fun E=>match b E with
 | some (.xc E c)=>if c∈cs then qzb i (h (E.set i (some (.no,.obj c [])))) else none
 | r=>r
def kwg (t:List (Str×Bool)):D->Option D
 | .obj c _=>(t.lookup c).map .bl
 | _=>none
def wjr:D->Bool
 | .tup _=>true
 | _=>false
def jwa (x:D):Bool:=jvf 6 x && wjr x
def qw7 (kc vc:Ex):Ex:=fun E=>bnd (kc E) fun E k=>bnd (vc E) fun E v=>if jwa k.2=true then some (.ok E (.rt,.dct [(k.2,v.2)])) else none
def jz3:Sd->Option Sd:=fun x=>match x.2 with
 | .dct kvs=>if kvs.length<=big/\unm kvs=true then some (.rt,.lst (kvs.map (·.1))) else none
 | _=>none
end Q
noncomputable section
noncomputable section
namespace Q
open PySem
def wk0 (z:Str):D->Option D:=fun d=>match d with
 | .lst ds=>(match kkg ds with
  | some ys=>if (ys.map (·.length)).sum + ys.length * z.length<=100000 then some (.str (Txt.join z ys)) else none
  | none=>none)
 | _=>none
def wk6 (z:Str) (c:Ex):Ex:=fun E=>bnd (c E) fun E x=>val E ((wk0 z x.2).map fun d=>(.dp,d))
end Q
noncomputable section
noncomputable section
noncomputable section
namespace Q
open PySem
def D.at:List Nat->D->Option D
 | [],d=>some d
 | n :: p,.tup ds=>match ds[n]? with
  | some d=>D.at p d
  | none=>none
 | n :: p,.lst ds=>match ds[n]? with
  | some d=>D.at p d
  | none=>none
 | _ :: _,_=>none
def D.put (d':D):List Nat->D->D
 | [],_=>d'
 | n :: p,.tup ds=>match ds[n]? with
  | some d=>.tup (ds.set n (D.put d' p d))
  | none=>.tup ds
 | n :: p,.lst ds=>match ds[n]? with
  | some d=>.lst (ds.set n (D.put d' p d))
  | none=>.lst ds
 | _ :: _,d=>d
mutual
def D.dat:D->PyData
 | .non=>.none
 | .bl b=>.bool b
 | .int i=>.int i
 | .str z=>.str z
 | .tup ds=>.tuple (D.dats ds)
 | .lst ds=>.list (D.dats ds)
 | .dct _=>.none
 | .obj _ _=>.none
def D.dats:List D->List PyData
 | []=>[]
 | d :: ds=>D.dat d :: D.dats ds
end
def vxr:D->Bool
 | .tup _=>true
 | .lst _=>true
 | _=>false
def qwl (d:D):Option D:=if vxr d=true/\d.flat 40=true/\(D.dat d).showable=true/\(D.dat d).shown.length<=sizeLine then some (.str (D.dat d).shown) else none
end Q
namespace Q
open PySem
def kwf:D->Option D
 | .dct kvs=>if unm kvs=true then some (.int kvs.length) else none
 | _=>none
def vzf:Option (Option Sd)->Bool
 | some (some (.rt,.dct kvs))=>unm kvs
 | _=>false
def kwa (kvs:List (D×D)) (k:D):Option D:=(kvs.find? fun p=>decide (p.1=k)).map (·.2)
def qjx (i:Nat) (kc vc:Ex):Ex:=fun E=>if vzf E[i]?=true then bnd (kc E) fun E k=>bnd (vc E) fun E v=>(match E[i]? with
 | some (some (.rt,.dct kvs))=>if jwa k.2=true/\kvs.length < big/\unm kvs=true/\v.2.pure=true/\D.pures (kvs.map (·.2))=true then (match kwa kvs k.2 with
  | some d=>some (.ok E (.dp,d))
  | none=>some (.ok (E.set i (some (.rt,.dct (kvs++[(k.2,v.2)])))) (.dp,v.2))) else none
 | _=>none) else none
def kkb (f:Fn) (i:Nat) (cs:List Ex):Ex:=fun E=>bnd (jv0 cs E) fun E xs=>match E[i]? with
 | some (some x)=>(match f (letAll xs++[x]) with
  | some (.ok E' y)=>(match E'[xs.length]? with
   | some (some x')=>some (.ok (E.set i (some x')) y)
   | _=>none)
  | some (.exc _ c)=>some (.exc (E.set i none) c)
  | none=>none)
 | _=>none
end Q
namespace Q
open PySem
def kqh (cs:List Str) (b h:Sm):Sm:=fun E=>match b E with
 | some (.xc E c)=>if c∈cs then (match h E with
  | some (.xc _ _)=>none
  | r=>r) else none
 | r=>r
end Q
namespace Q
open PySem PySem.Spec PyProof.Rows L2 L3
section
variable {X:Cx} {Z:Fx0} {K:PySem.W.Frag} {pn:List Nat} {q qa qb:Bool} {a b c:Ex} {u:Ts} {tg e ea eb:Expr} {st:Stmt} {σ:L2.St} {H:Hp} {L:Ls} {E:En} {pos p p2:Pos} {x:Str}
theorem kjt (a:Str):∀ r,(qxs a r).Perm (a :: r)
 | []=>List.Perm.refl _
 | b :: r=>by
  unfold qxs
  split
  ·exact ((kjt a r).cons b).trans (List.Perm.swap ..)
  ·exact List.Perm.refl _
theorem jw6:∀ r,(kja r).Perm r
 | []=>List.Perm.refl _
 | a :: r=>(kjt a _).trans ((jw6 r).cons a)
def leS (a b:Str):Prop:=Spec.ltCps b.cps.toList a.cps.toList=false
theorem leS_iff {a b:Str}:leS a b↔a.cps.toList<=b.cps.toList:=by
 unfold leS
 rw [ltCps_eq,decide_eq_false_iff_not,List.not_lt]
theorem kw5 {a b c:Str} (h:leS a b) (h':leS b c):leS a c:=leS_iff.mpr (List.le_trans (leS_iff.mp h) (leS_iff.mp h'))
theorem qxq {a b:Str} (h:leS a b) (h':leS b a):a=b:=by
 have:=List.le_antisymm (leS_iff.mp h) (leS_iff.mp h')
 cases a;cases b
 simp only at this
 congr 1
 exact Array.toList_inj.mp this
theorem qqz {a b:Str} (h:¬ leS a b):leS b a:=by
 rw [leS_iff] at h ⊢
 exact List.le_of_lt (List.not_le.mp h)
theorem kvj:∀ {a:Str} {r:List Str},risingS a r=true->(a :: r).Pairwise leS
 | a,[],_=>by simp
 | a,b :: r,h=>by
  have h:(!(Spec.ltCps b.cps.toList a.cps.toList) && risingS b r)=true:=h
  rw [Bool.and_eq_true,Bool.not_eq_true'] at h
  have ih:=kvj h.2
  refine List.pairwise_cons.mpr ⟨fun c hc=>?_,ih⟩
  rcases List.mem_cons.mp hc with rfl | hc
  ·exact h.1
  ·exact kw5 h.1 ((List.pairwise_cons.mp ih).1 c hc)
theorem qkn {r:List Str} (h:sortedS r=true):r.Pairwise leS:=by
 cases r with
 | nil=>exact .nil
 | cons a r=>exact kvj h
theorem qvd {a:Str}:∀ {r:List Str},r.Pairwise leS->(qxs a r).Pairwise leS
 | [],_=>by simp [qxs]
 | b :: r,h=>by
  rw [List.pairwise_cons] at h
  unfold qxs
  by_cases hl:Spec.ltCps b.cps.toList a.cps.toList=true
  ·rw [if_pos hl]
   refine List.pairwise_cons.mpr ⟨fun c hc=>?_,qvd h.2⟩
   rcases List.mem_cons.mp ((kjt a r).mem_iff.mp hc) with rfl | hc
   ·exact qqz (by unfold leS;rw [hl];exact fun z=>nomatch z)
   ·exact h.1 c hc
  ·rw [if_neg hl]
   have hab:leS a b:=by unfold leS;exact Bool.eq_false_iff.mpr hl
   refine List.pairwise_cons.mpr ⟨fun c hc=>?_,List.pairwise_cons.mpr h⟩
   rcases List.mem_cons.mp hc with rfl | hc
   ·exact hab
   ·exact kw5 hab (h.1 c hc)
theorem kz3:∀ {r:List Str},(kja r).Pairwise leS
 | []=>.nil
 | a :: r=>qvd kz3
theorem qwu {r s:List Str} (p:s.Perm r) (h:sortedS s=true):s=kja r :=
 List.Perm.eq_of_pairwise (fun a b _ _ h1 h2=>qxq h1 h2) (qkn h) kz3 (p.trans (jw6 r).symm)
theorem kju (a:Int):∀ r,(kjv a r).Perm (a :: r)
 | []=>List.Perm.refl _
 | b :: r=>by
  unfold kjv
  split
  ·exact ((kju a r).cons b).trans (List.Perm.swap ..)
  ·exact List.Perm.refl _
theorem jzf:∀ r,(kwx r).Perm r
 | []=>List.Perm.refl _
 | a :: r=>(kju a _).trans ((jzf r).cons a)
theorem qve {a:Int}:∀ {r:List Int},r.Pairwise (·<=·)->(kjv a r).Pairwise (·<=·)
 | [],_=>by simp [kjv]
 | b :: r,h=>by
  rw [List.pairwise_cons] at h
  unfold kjv
  by_cases hl:b < a
  ·rw [if_pos hl]
   refine List.pairwise_cons.mpr ⟨fun c hc=>?_,qve h.2⟩
   rcases List.mem_cons.mp ((kju a r).mem_iff.mp hc) with rfl | hc
   ·exact Int.le_of_lt hl
   ·exact h.1 c hc
  ·rw [if_neg hl]
   refine List.pairwise_cons.mpr ⟨fun c hc=>?_,List.pairwise_cons.mpr h⟩
   rcases List.mem_cons.mp hc with rfl | hc
   ·omega
   ·have:=h.1 c hc;omega
theorem kz4:∀ {r:List Int},(kwx r).Pairwise (·<=·)
 | []=>.nil
 | a :: r=>qve kz4
theorem qwv {r s:List Int} (p:s.Perm r) (h:s.Pairwise (·<=·)):s=kwx r :=
 List.Perm.eq_of_pairwise (fun a b _ _ h1 h2=>Int.le_antisymm h1 h2) h kz4 (p.trans (jzf r).symm)
theorem qjc {ns:List Str}:∀ {us:List Value},Vals (ns.map V.str) us->StrsAre us ns:=by
 induction ns with
 | nil=>intro us r;rw [List.map_nil] at r;cases r;exact .nil
 | cons n ns ih =>
  intro us r
  rw [List.map_cons] at r
  cases r with
  | cons r1 r2 =>
   obtain ⟨t,e⟩:=r1
   subst e
   exact .cons n t (ih r2)
theorem qkb {us:List Value} {ns:List Str} (h:StrsAre us ns):Vals (ns.map V.str) us:=by
 induction h with
 | nil=>exact .nil
 | cons y t _ ih=>exact .cons ⟨t,rfl⟩ ih
theorem kv9 {us:List Value} {ns:List Int} (h:IntsAre us ns):Vals (ns.map V.int) us:=by
 induction h with
 | nil=>exact .nil
 | cons y t _ ih=>exact .cons ⟨t,rfl⟩ ih
def qku (K:PySem.W.Frag):List V->Hp->VK->Prop:=fun xs H Q =>
 (∃ p ss,xs=[.ref p]/\SqL K H p (ss.map V.str)/\ss.length < 64/\∀ l,H l=none->Q (.ref l) (upd H l (.lst ((kja ss).map V.str)))) \/
 ∃ p ss,xs=[.ref p]/\SqL K H p (ss.map V.int)/\ss.length < 64/\∀ l,H l=none->Q (.ref l) (upd H l (.lst ((kwx ss).map V.int)))
theorem kxp (hK:X.K=K):CallR X (.builtin "sorted") (qku K):=by
 subst hK
 intro pins s σ H xs us Q I r h
 rcases h with ⟨p,ss,rfl,hq,hl,q⟩ | ⟨p,ss,rfl,hq,hl,q⟩
 ·obtain ⟨u,rfl,rx⟩:=jzt r
  cases rx
  obtain ⟨its,r',pl,hz⟩:=I.list hq
  have hlen:=r'.length
  rw [List.length_map] at hlen hz
  refine sorted_strs (vs:=its) pl.isList (qjc r') (by omega) fun out ss' h1 h2 h3=>?_
  have e:=qwu h2 h3
  subst e
  obtain ⟨n,hn⟩:=sortedAll_at s.heap its out
  have hle:s.heap.objs.size<=s.heap.objs.size + 1:=Nat.le_succ _
  refine ⟨.ref (s.heap.objs.size + 1),_,I.laid (t':=s.toks) (o:=.lst ((kja ss).map V.str)) (fun b o e=>sortedAll_old e) hle ?_,rfl,q _ (I.hok.fresh hle)⟩
  exact ⟨by rw [List.length_map,(jw6 ss).length_eq];exact hz,out.toList,n,qkb h1,by simpa using hn⟩
 ·obtain ⟨u,rfl,rx⟩:=jzt r
  cases rx
  obtain ⟨its,r',pl,hz⟩:=I.list hq
  have hlen:=r'.length
  rw [List.length_map] at hlen hz
  refine sorted_ints (vs:=its) pl.isList (qjs r') (by omega) fun out ss' h1 h2 h3=>?_
  have e:=qwv h2 h3
  subst e
  obtain ⟨n,hn⟩:=sortedAll_at s.heap its out
  have hle:s.heap.objs.size<=s.heap.objs.size + 1:=Nat.le_succ _
  refine ⟨.ref (s.heap.objs.size + 1),_,I.laid (t':=s.toks) (o:=.lst ((kwx ss).map V.int)) (fun b o e=>sortedAll_old e) hle ?_,rfl,q _ (I.hok.fresh hle)⟩
  exact ⟨by rw [List.length_map,(jzf ss).length_eq];exact hz,out.toList,n,kv9 h1,by simpa using hn⟩
theorem kz1 {g:Bool}:∀ {ds:List D} {bs:List Str} {xs:List V} {as:List Addr},kkg ds=some bs->RepA K H g ds xs as->xs=bs.map V.str/\∀ z∈bs,z.length<=sizeLine
 | [],bs,xs,as,h,r=>by
  cases oq9 h
  unfold RepA at r
  exact ⟨r.1,fun _ z=>nomatch z⟩
 | d :: ds,bs,xs,as,h,r=>by
  cases d with
  | str b =>
   unfold kkg at h
   cases hb:kkg ds with
   | none=>rw [hb] at h;cases h
   | some bs' =>
    rw [hb] at h
    cases oq9 h
    unfold RepA at r
    obtain ⟨x,rr,c1,c2,rfl,rfl,h1,h2⟩:=r
    unfold RepL at h1
    obtain ⟨i1,i2⟩:=kz1 hb h2
    exact ⟨by rw [h1.1,i1];rfl,fun z hz=>(List.mem_cons.mp hz).elim (fun e=>e▸h1.2.2) (i2 z)⟩
  | _=>unfold kkg at h;cases h
theorem kzs {g:Bool}:∀ {ds:List D} {bs:List Int} {xs:List V} {as:List Addr},kxi ds=some bs->RepA K H g ds xs as->xs=bs.map V.int
 | [],bs,xs,as,h,r=>by
  cases oq9 h
  unfold RepA at r
  exact r.1
 | d :: ds,bs,xs,as,h,r=>by
  cases d with
  | int b =>
   unfold kxi at h
   cases hb:kxi ds with
   | none=>rw [hb] at h;cases h
   | some bs' =>
    rw [hb] at h
    cases oq9 h
    unfold RepA at r
    obtain ⟨x,rr,c1,c2,rfl,rfl,h1,h2⟩:=r
    unfold RepL at h1
    rw [h1.1,kzs hb h2];rfl
  | _=>unfold kxi at h;cases h
theorem kz8 {g:Bool}:∀ {bs:List Str},(∀ z∈bs,z.length<=sizeLine)->RepA K H g (bs.map D.str) (bs.map V.str) []
 | [],_=>by unfold RepA;exact ⟨rfl,rfl⟩
 | b :: bs,h=>by
  rw [List.map_cons,List.map_cons]
  unfold RepA
  exact ⟨_,_,[],[],rfl,rfl,jqn (h b List.mem_cons_self),kz8 fun z hz=>h z (lc9 _ hz)⟩
theorem kz9 {g:Bool}:∀ {bs:List Int},RepA K H g (bs.map D.int) (bs.map V.int) []
 | []=>by unfold RepA;exact ⟨rfl,rfl⟩
 | b :: bs=>by
  rw [List.map_cons,List.map_cons]
  unfold RepA
  exact ⟨_,_,[],[],rfl,rfl,jj2,kz9⟩
theorem qwc:Ad1 K (fun v H Q=>qku K [v] H Q) jzl:=by
 intro H x s Q ok hf k
 unfold jzl at hf
 dsimp only at hf
 cases hx:x.d with
 | lst ds =>
  rw [hx] at hf
  dsimp only at hf
  obtain ⟨l,xs,bs,ev,q3,r3,_⟩:=items ok (.inl hx)
  have q3:LsR K H l xs:=by rcases q3 with ⟨_,z⟩ | ⟨z,_⟩;exact z;rw [hx] at z;cases z
  cases hs:kkg ds with
  | some ss =>
   rw [hs] at hf
   dsimp only at hf
   split at hf
   ·rename_i hl
    cases oq9 hf
    obtain ⟨e1,e2⟩:=kz1 hs r3
    subst e1
    refine .inl ⟨l,ss,by rw [ev],kkh q3,hl,fun p hp=>?_⟩
    exact k ⟨.rt,.lst _,.ref p,p :: []⟩ _ rfl rfl (jwg hp (kz8 fun z hz=>e2 z ((jw6 ss).mem_iff.mp hz)) fun b hb=>nomatch hb)
   ·cases hf
  | none =>
   rw [hs] at hf
   dsimp only at hf
   cases hi:kxi ds with
   | none=>rw [hi] at hf;cases hf
   | some ss =>
    rw [hi] at hf
    dsimp only at hf
    split at hf
    ·rename_i hl
     cases oq9 hf
     have e1:=kzs hi r3
     subst e1
     refine .inr ⟨l,ss,by rw [ev],kkh q3,hl,fun p hp=>?_⟩
     exact k ⟨.rt,.lst _,.ref p,p :: []⟩ _ rfl rfl (jwg hp kz9 fun b hb=>nomatch hb)
    ·cases hf
 | _=>rw [hx] at hf;cases hf
def tPo (Z:Fx0):Option Ex->TO
 | none=>vjl
 | some c=>vvj (tV Z true c)
theorem vw8 (h:QV X Z true c e):PO X (some e) (tPo Z (some c)):=vkf h
theorem qq9 {α:Type} {co:Option Ex} {F:En->Option Int->Option (Res α)} {r:Res α} {G:Option Int->Hp->Prop} (m:Mt E σ L) (w:World Z.K H L) (h:bnd (qjy co E) F=some r) (xc:Xc Z σ H L r)
  (k:∀ E1 l,F E1 l=some r->∀ L1 H1,Mt E1 σ L1->World Z.K H1 L1->Step H L H1 L1->jw1 H H1->G l H1):tPo Z co σ H G:=by
 cases co with
 | none=>exact k E none h L H m w Step.refl jks
 | some c =>
  have h:bnd (bnd (c E) fun E x=>match x.2 with | .int i=>some (.ok E (some i)) | _=>none) F=some r:=h
  have h':bnd (c E) (fun E x=>bnd (match x.2 with | .int i=>some (.ok E (some i)) | _=>none) F)=some r:=by
   cases hc:c E with
   | none=>rw [hc] at h;exact h
   | some y=>rw [hc] at h;cases y<;>exact h
  show tV Z true c σ H fun x H1=>∃ i,x=.int i/\G (some i) H1
  refine jwd m w h' xc fun E1 s h1 x L1 H1 e1 e2 m1 w1 ok fr sr st sm=>?_
  cases hs:s.2 with
  | int i =>
   rw [hs] at h1
   exact ⟨i,jqh ok (e2.trans hs),k E1 (some i) h1 L1 H1 m1 w1 st (sm rfl)⟩
  | _=>rw [hs] at h1;cases h1
theorem kz7 (n d:Nat) (v:Option Int):HT.sIx n d v=qwh n d v:=by
 cases v<;>rfl
theorem RepA.drop {K:PySem.W.Frag} {H:Hp} {g:Bool}:∀ (n:Nat) {ds:List D} {xs:List V} {as:List Addr},RepA K H g ds xs as->∃ bs,RepA K H g (ds.drop n) (xs.drop n) bs/\∀ b∈bs,b∈as
 | 0,ds,xs,as,h=>⟨as,h,fun _ h=>h⟩
 | n + 1,[],xs,as,h=>by
  unfold RepA at h
  obtain ⟨rfl,rfl⟩:=h
  exact ⟨[],by simp only [List.drop_nil];unfold RepA;exact ⟨rfl,rfl⟩,fun _ h=>h⟩
 | n + 1,d :: ds,xs,as,h=>by
  unfold RepA at h
  obtain ⟨x,r,bs,cs,rfl,rfl,h1,h2⟩:=h
  obtain ⟨es,r2,hb⟩:=RepA.drop n h2
  exact ⟨es,r2,fun b h=>lr9 _ (hb b h)⟩
theorem RepA.take {K:PySem.W.Frag} {H:Hp} {g:Bool}:∀ (n:Nat) {ds:List D} {xs:List V} {as:List Addr},RepA K H g ds xs as->∃ bs,RepA K H g (ds.take n) (xs.take n) bs/\∀ b∈bs,b∈as
 | 0,ds,xs,as,h=>⟨[],by simp only [List.take_zero];unfold RepA;exact ⟨rfl,rfl⟩,fun _ h=>nomatch h⟩
 | n + 1,[],xs,as,h=>by
  unfold RepA at h
  obtain ⟨rfl,rfl⟩:=h
  exact ⟨[],by simp only [List.take_nil];unfold RepA;exact ⟨rfl,rfl⟩,fun _ h=>h⟩
 | n + 1,d :: ds,xs,as,h=>by
  unfold RepA at h
  obtain ⟨x,r,bs,cs,rfl,rfl,h1,h2⟩:=h
  obtain ⟨es,r2,hb⟩:=RepA.take n h2
  refine ⟨bs++es,?_,fun b h=>(List.mem_append.mp h).elim (fun z=>ll9 _ z) fun z=>lr9 _ (hb b z)⟩
  rw [List.take_succ_cons,List.take_succ_cons]
  unfold RepA
  exact ⟨x,r.take n,bs,es,rfl,rfl,h1,r2⟩
theorem RepA.cut {K:PySem.W.Frag} {H:Hp} {g:Bool} {ds:List D} {xs:List V} {as:List Addr} (h:RepA K H g ds xs as) (lo hi:Option Int):∃ bs,RepA K H g (vqo ds lo hi) (vj3 xs lo hi) bs/\∀ b∈bs,b∈as:=by
 have hl:=h.len
 unfold vqo vj3
 rw [kz7,kz7,<- hl]
 obtain ⟨bs,r,hb⟩:=h.drop (qwh ds.length 0 lo)
 obtain ⟨cs,r2,hc⟩:=r.take (qwh ds.length ds.length hi - qwh ds.length 0 lo)
 exact ⟨cs,r2,fun b h=>hb b (hc b h)⟩
theorem vjp {x:Sl} {s:Sd} {lo hi:Option Int} {Q:VK} (ok:x.ok K H) (hf:fSl (x.o,x.d) lo hi=some s) (k:∀ (z:Sl) H',z.o=s.1->z.d=s.2->Out K H H' z x.frz->Q z.v H'):qze K x.v lo hi H Q:=by
 unfold fSl at hf
 dsimp only at hf
 cases hx:x.d with
 | lst ds =>
  rw [hx] at hf
  dsimp only at hf
  split at hf
  ·rename_i hl
   cases oq9 hf
   obtain ⟨l,xs,bs,ev,q3,r3,h3⟩:=jk5 ok (.inl hx) (by rw [hx];exact hl)
   have q3:LsR K H l xs:=by rcases q3 with ⟨_,z⟩ | ⟨z,_⟩;exact z;rw [hx] at z;cases z
   obtain ⟨cs,r4,h4⟩:=r3.cut lo hi
   exact .inl ⟨l,xs,ev,kkh q3,fun p hp=>k ⟨.rt,.lst _,.ref p,p :: cs⟩ _ rfl rfl (jwg hp r4 fun b hb=>h3 b (h4 b hb))⟩
  ·cases hf
 | tup ds =>
  rw [hx] at hf
  dsimp only at hf
  split at hf
  ·rename_i hl
   cases oq9 hf
   obtain ⟨l,xs,bs,ev,q3,r3,h3⟩:=jk5 ok (.inr hx) (by rw [hx];exact hl.1)
   have q3:SqT K H l xs:=by rcases q3 with ⟨z,_⟩ | ⟨_,z⟩;rw [hx] at z;cases z;exact z
   obtain ⟨cs,r4,h4⟩:=r3.cut lo hi
   refine .inr (.inl ⟨l,xs,ev,q3,?_,fun p hp=>k ⟨.no,.tup _,.ref p,cs⟩ _ rfl rfl (kjj hp r4 fun b hb=>h3 b (h4 b hb))⟩)
   rw [kz7,kz7,<- r3.len]
   exact hl.2
  ·cases hf
 | str z =>
  rw [hx] at hf
  dsimp only at hf
  split at hf
  ·rename_i hl
   cases oq9 hf
   obtain ⟨e,hz⟩:=jwp ok hx
   exact .inr (.inr ⟨z,e,hz,k ⟨.dp,.str _,.str _,[]⟩ H rfl rfl (wjj hl)⟩)
  ·cases hf
 | _=>rw [hx] at hf;cases hf
theorem q_sl {lo hi:Option Ex} {elo ehi:Option Expr} (ha:QV X Z q a ea) (hl:PO X elo (tPo Z lo)) (hh:PO X ehi (tPo Z hi)) (hK:X.K=Z.K:=by rfl):QE X Z q (cSl a lo hi) (.Subscript ea (.Slice elo ehi none p2) pos) :=
 jky (qxd (vzx Z.K hK) ha hl hh) fun σ H Q h_z=>ex8 h_z fun E L r m w hc xc k=>by
  refine jwd m w (show bnd (a E) _=some r from hc) xc fun E1 s h1 x L1 H1 e1 e2 m1 w1 ok fr sr st sm=>?_
  refine qq9 m1 w1 h1 (xc.step st) fun E2 l h2 L2 H2 m2 w2 st2 sm2=>?_
  refine qq9 m2 w2 h2 (xc.step (st.trans st2)) fun E3 u h3 L3 H3 m3 w3 st3 sm3=>?_
  obtain ⟨z,hz,rfl⟩:=jwe h3
  have k1:=jw5 ok fr st2 sm2
  have k2:=jw5 k1.1 k1.2 st3 sm3
  refine vjp k2.1 (by rw [e1,e2];exact hz) fun y H' ho hd o=>?_
  obtain ⟨w4,st4⟩:=jvc w3 ((st.trans st2).trans st3) o k2.2 (fun b hb=>k2.1.some (Sl.frz_as hb)) (jxm sr fun b hb=>Sl.frz_as hb)
  have sm':q=true->jw1 H H3:=fun hq=>jjd (sm hq) (jjd sm2 sm3)
  exact k _ _ rfl y L3 H' ho hd m3 w4 st4 fun hq=>⟨jjd (sm' hq) o.same,fun b hb=>jkv (sm' hq) (o.new b hb)⟩
end
end Q
namespace Q
open PySem PySem.Spec PyProof.Rows L2 L3
theorem vvd {prog:Program} {w:PySem.World} {A:Around} {E:Value->Shared->Prop} {s:Shared} {t:Addr} {items:Array Value} {x:Value} {e:Value->Bool} {j:Nat} {Q:Value->Shared->Prop}
  (ht:IsTup s.heap t items) (he:∀ y∈items,SeqAt.EqAt A.in1 s y x (e y)) (hj:j < items.size) (h1:e items[j]=true) (h2:∀ m (hm:m < items.size),m < j->e items[m]=false)
  (h:Q (.int j s.toks) { s with toks:=s.toks + 1 }):wpAny (model prog w) A (call (.builtin "tuple.index") [.ref t,x]) Q E s:=by
 refine wpAny_call_entry PySem.F.slot_tuple_index ht.typeIs PySem.F.entry_tuple_index ?_ (PySem.F.args_tuple_index_2 _ _)
 show wpAny _ _ (Builtin.Tuple.tupleItemsOf (.ref t) >>= _) _ _ s
 refine wpAny_bind (tupleItemsOf_ ht ?_)
 dsimp only
 refine wpAny_bind (wpAny_pure ?_)
 refine wpAny_bind (wpAny_pure ?_)
 rw [Std.Legacy.Range.forIn_eq_forIn_range']
 refine wpAny_bind (wpAny_forIn_list _ (fun rest b s'=>b=(none,())/\s'=s/\∃ k,k<=j/\rest=List.range' k (items.size - k)) _ ?_ ?_ _ _ ⟨rfl,rfl,0,Nat.zero_le _,?_⟩)
 ·rintro i rest b s' ⟨rfl,rfl,k,hk,hr⟩
  obtain ⟨n,hn⟩:∃ n,items.size - k=n + 1:=⟨items.size - k - 1,by omega⟩
  rw [hn,List.range'_succ] at hr
  injection hr with hi hrest
  subst hi
  have hi:i < items.size:=by omega
  rw [show items[i]?=some items[i] from Array.getElem?_eq_getElem hi]
  dsimp only
  refine wpAny_bind (he items[i] (Array.getElem_mem hi) _ _ _ _ ?_)
  by_cases hij:i=j
  ·subst hij
   rw [h1,if_pos rfl]
   unfold retInt
   refine wpAny_bind (wpAny_bind (wpAny_mkInt (wpAny_pure (wpAny_pure ?_))))
   exact wpAny_pure ⟨_,rfl,h⟩
  ·rw [h2 i hi (by omega),if_neg (by decide)]
   refine wpAny_pure ⟨rfl,rfl,i + 1,by omega,?_⟩
   rw [hrest]
   congr 1
   omega
 ·rintro b s' ⟨rfl,rfl,k,hk,hr⟩
  have:items.size - k=0:=by
   have:=congrArg List.length hr
   simpa using this.symm
  omega
 ·simp
theorem wj0 {prog:Program} {w:PySem.World} {A:Around} {E:Value->Shared->Prop} {s:Shared} {l:Addr} {items:Array Value} {k:Int} {t:Tok} {Q:Value->Shared->Prop}
  (ht:IsTup s.heap l items) (h:Q .notImplemented s):wpAny (model prog w) A (call (.builtin "int.__rmul__") [.int k t,.ref l]) Q E s:=by
 refine wpAny_call_entry PySem.F.slot_int_rmul (typeIs_int s k t) PySem.F.entry_int_rmul ?_ (PySem.F.args_int_rmul_2 _ _)
 obtain ⟨o,e,c,n,hd⟩:=ht
 show wpAny _ _ (asInt? (.ref l) >>= _) _ _ s
 unfold asInt?
 refine wpAny_bind (wpAny_bind (wpAny_load e ?_))
 rw [hd]
 refine wpAny_pure ?_
 dsimp only
 refine wpAny_bind (wpAny_rule ?_)
 exact wpAny_pure ⟨_,rfl,h⟩
theorem mulT {prog:Program} {w:PySem.World} {A:Around} {E:Value->Shared->Prop} {s:Shared} {l:Addr} {items:Array Value} {k:Int} {t:Tok} {Q:Value->Shared->Prop}
  (ht:IsTup s.heap l items) (h1:-(2 ^ 63)<=k) (h2:k < 2 ^ 63) (hz:items.size * k.toNat<=sizeLine)
  (hsame:(items.isEmpty=true\/k=1)->Q (.ref l) s)
  (hsz:(List.foldl (fun x1 x2=>x1++x2) #[] (List.replicate k.toNat items)).size<=sizeLine)
  (hnew:Q (.ref s.heap.objs.size) { s with heap:=s.heap.push { cls:=.type "tuple",data:=.seq (List.foldl (fun x1 x2=>x1++x2) #[] (List.replicate k.toNat items)) } })
  : wpAny (model prog w) A (call (.builtin "tuple.__mul__") [.ref l,.int k t]) Q E s:=by
 refine wpAny_call_entry PySem.F.slot_tuple_mul ht.typeIs PySem.F.entry_tuple_mul ?_ (PySem.F.args_tuple_mul_2 _ _)
 show wpAny _ _ (if (decide (k < -2 ^ 63) || decide (k>=2 ^ 63))=true then _ else _) _ _ s
 rw [if_neg (by simp;omega)]
 show wpAny _ _ (Builtin.Tuple.tupleItemsOf (.ref l) >>= _) _ _ s
 refine wpAny_bind (tupleItemsOf_ ht ?_)
 by_cases hs:(items.isEmpty || k == 1)=true
 ·rw [if_pos hs]
  unfold Builtin.Tuple.tupleIsExact
  refine wpAny_bind (wpAny_bind (wpAny_typeOf ht.typeIs (wpAny_pure ?_)))
  rw [if_pos (by decide)]
  refine wpAny_bind (wpAny_rule ?_)
  refine wpAny_pure ⟨_,rfl,hsame ?_⟩
  simpa using hs
 ·rw [if_neg hs]
  have hne:items.isEmpty=false:=by
   cases h:items.isEmpty<;>simp_all
  have hm:((items.size:Int) * k)<=(sizeLine:Int)\/k<=0:=by
   by_cases hk:k<=0
   ·exact .inr hk
   ·refine .inl ?_
    have e:((k.toNat:Nat):Int)=k:=Int.toNat_of_nonneg (by omega)
    have:((items.size * k.toNat:Nat):Int)<=(sizeLine:Int):=Int.ofNat_le.mpr hz
    rw [Int.natCast_mul,e] at this
    exact this
  dsimp only
  by_cases hk:k<=0
  ·rw [if_pos (by simp [hk])]
   have e:k.toNat=0:=by omega
   rw [e] at hnew
   unfold Builtin.Tuple.tupleExact
   exact wpAny_bind (wpAny_newObj_type (wpAny_pure ⟨_,rfl,hnew⟩) (show (0:Nat)<=sizeLine from Nat.zero_le _))
  ·rw [if_neg (by simp [hk,hne])]
   have hm:=hm.resolve_right hk
   have hsl:(sizeLine:Int)=16777216:=by decide
   rw [if_neg (by omega)]
   rw [if_neg (by unfold Builtin.Tuple.tupleTooMany;simp;omega)]
   unfold Builtin.Tuple.tupleExact
   exact wpAny_bind (wpAny_newObj_type (wpAny_pure ⟨_,rfl,hnew⟩) hsz)
section
variable {X:Cx} {Z:Fx0} {K:PySem.W.Frag} {pn:List Nat} {q qa qb:Bool} {a b c:Ex} {u:Ts} {tg e ea eb:Expr} {st:Stmt} {σ:L2.St} {H:Hp} {L:Ls} {E:En} {pos p p2:Pos} {x:Str}
def vvv (K:PySem.W.Frag):R2:=fun x y H Q=>∃ l k xs,x=.ref l/\y=.int k/\SqT K H l xs/\-(2 ^ 63)<=k/\k < 2 ^ 63/\xs.length * k.toNat<=sizeLine/\((xs=[]\/k=1)->Q (.ref l) H)/\∀ p,H p=none->Q (.ref p) (upd H p (.tup (List.replicate k.toNat xs).flatten))
theorem op_repT:OpR X (binaryOp .Mult) (vvv X.K):=by
 intro pins s σ H x y v u Q I rx ry h
 obtain ⟨l,k,xs,rfl,rfl,hq,h1,h2,hz,q1,q2⟩:=h
 cases rx
 obtain ⟨t,rfl⟩:=ry
 obtain ⟨its,r,ht,hl⟩:=I.tuple hq
 have hlen:=r.length
 have f0:List.foldl (fun x1 x2=>x1++x2) #[] (List.replicate k.toNat its.toArray)=(List.replicate k.toNat its).flatten.toArray:=by
  have:=kjy its k.toNat []
  rw [List.nil_append] at this
  exact this
 have hz2:(List.replicate k.toNat xs).flatten.length<=sizeLine:=by rw [qqw,Nat.mul_comm];exact hz
 refine wpAny_binaryOp_repeat_ref (T:="tuple") (U:="int") (by decide) ht.typeIs (fun s'=>typeIs_int s' k t) rfl F.fills_int_mul F.slot_int_rmul (show seqRepeat? (Value.type "tuple")=pure (some (Value.builtin "tuple.__mul__")) from rfl) F.slot_int_index.lookup
  (wj0 ht ⟨rfl,ht.typeIs,mulT ht h1 h2 (by rw [List.size_toArray,<- hlen];exact hz) (fun hs=>?_) ?_ ?_⟩)
 ·refine ⟨.ref l,H,I,rfl,q1 ?_⟩
  rcases hs with hs | hs
  ·left
   have:its=[]:=by simpa using hs
   subst this
   simpa using hlen
  ·exact .inr hs
 ·rw [f0,List.size_toArray,<- (r.rep k.toNat).length]
  exact hz2
 ·rw [f0]
  exact ⟨.ref _,_,I.laid (t':=s.toks) (o:=.tup _) (fun b o e=>Heap.get?_push_of_some _ e) (Nat.le_refl _) ⟨hz2,_,r.rep k.toNat,IsTupD.new _ _⟩,rfl,q2 _ (I.hok.fresh (Nat.le_refl _))⟩
def vvy (K:PySem.W.Frag):R2:=fun x y H Q=>vvv K x y H Q\/vjv K x y H Q
theorem jq5 (hK:X.K=K:=by rfl):OpR X (binaryOp .Mult) (vvy K):=by subst hK;exact op_repT.or vx1
theorem jk8:Ad2 K (vvy K) jjn:=by
 intro H x y s Q ox oy hf k
 cases hx:x.d with
 | tup ds =>
  cases hy:y.d with
  | int n =>
   unfold jjn at hf
   rw [show (x.o,x.d).2=x.d from rfl,show (y.o,y.d).2=y.d from rfl,hx,hy] at hf
   dsimp only at hf
   split at hf
   ·rename_i hc
    cases oq9 hf
    obtain ⟨l,xs,bs,e3,q3,r3,h3⟩:=jk5 ox (.inr hx) (by rw [hx];exact hc.2.2.2)
    have q3:SqT K H l xs:=by rcases q3 with ⟨z,_⟩ | ⟨_,z⟩;rw [hx] at z;cases z;exact z
    obtain ⟨cs,r4,h4⟩:=r3.reps n.toNat
    refine .inl ⟨l,n,xs,e3,jqh oy hy,q3,hc.1,hc.2.1,by rw [<- r3.len];exact hc.2.2.1,fun hs=>?_,fun p hp=>?_⟩
    ·refine k ⟨.no,.tup _,.ref l,cs⟩ H rfl rfl ⟨jks,?_,fun b hb=>(nomatch hb),List.nodup_nil,fun b hb=>ll9 _ (h3 b (h4 b hb))⟩
     show RepL K H true (.tup _) (.ref l) cs
     unfold RepL
     refine ⟨l,xs,rfl,q3,?_⟩
     have e:(List.replicate n.toNat xs).flatten=xs:=by
      rcases hs with hs | hs
      ·subst hs;simp
      ·subst hs;simp
     rw [e] at r4
     exact r4
    ·exact k ⟨.no,.tup _,.ref p,cs⟩ _ rfl rfl (kjj hp r4 fun b hb=>ll9 _ (h3 b (h4 b hb)))
   ·cases hf
  | _ =>
   refine .inr (vja H x y s Q ox oy ?_ k)
   unfold jjn at hf
   rw [show (x.o,x.d).2=x.d from rfl,show (y.o,y.d).2=y.d from rfl,hx,hy] at hf
   rw [hx,hy];exact hf
 | _ =>
  refine .inr (vja H x y s Q ox oy ?_ k)
  unfold jjn at hf
  rw [show (x.o,x.d).2=x.d from rfl,hx] at hf
  rw [hx];exact hf
theorem qqp {h:Heap}:∀ {ds:List D} {us:List Value},CReps h ds us->us.map (dec h)=ds
 | [],_,r=>by unfold CReps at r;rw [r];rfl
 | z :: ds,_,r=>by
  unfold CReps at r
  obtain ⟨u,rr,rfl,h1,h2⟩:=r
  rw [List.map_cons,qj1 h1,qqp h2]
def wj5 (K:PySem.W.Frag) (C:Hp->List V->Prop):List V->Hp->VK->Prop:=fun vs H Q=>∃ v d ds as bs xs j,vs=[v]/\RepL K H true d v as/\C H xs/\RepA K H true ds xs bs/\d.flat 30=true/\D.flats 30 ds=true/\(ds.findIdx? fun z=>peq z d)=some j/\Q (.int j) H
theorem qxe {o:Expr} {to:TE} {t:TA} {apos cpos:Pos} (hu:X.A.units + 64 < cLine) (ho:PE X o to) (ha:PA X [e] t)
  (hbase:attributeBase o "index" X.env (eval o X.env)=eval o X.env:=by rfl)
  (hfew:((backTo cpos (starEach [e] X.env)).all (fun x=>!x.1) && (backToKw cpos (keywordEach [] X.env)).all (fun x=>x.1.isSome)
   && decide ([e].length + ([]:List Keyword).length + (if ([]:List Keyword).isEmpty then 0 else 1) < 30))=true:=by rfl)
  (hline:(apos.endLine == cpos.line)=true:=by rfl) (hs:starEach [e] X.env=(false,eval e X.env) :: starEach [] X.env:=by rfl) (hplain:(backTo cpos (starEach [] X.env)).any (·.1)=false:=by rfl) :
  PE X (.Call (.Attribute o "index" apos) [e] [] cpos) (fun σ H Q=>to σ H fun x H1=>(∃ p xs,x=.ref p/\LsR X.K H1 p xs/\t σ H1 fun vs H2=>wj5 X.K (fun H xs=>LsR X.K H p xs) vs H2 Q)\/∃ p xs,x=.ref p/\SqT X.K H1 p xs/\t σ H1 fun vs H2=>wj5 X.K (fun H xs=>SqT X.K H p xs) vs H2 Q):=by
 intro pins s σ H Q I h
 refine wpAny_Call_method_late hbase hfew hline rfl (thn (ho pins s σ H _ I h) fun v s1 ⟨x,H1,I1,r1,qq⟩=>?_)
 have eqs:∀ {s2:Shared} {H2:Hp} {d:D} {v:V} {as:List Addr} {w:Value} {us:List Value} {ds:List D},L2.Inv X pins σ H2 s2->RepL X.K H2 true d v as->RelV v w->d.flat 30=true->D.flats 30 ds=true->CReps s2.heap ds us->∀ y∈us.toArray,SeqAt.EqAt X.A.in1 s2 y w (peq (dec s2.heap y) d):=fun {s2 H2 d v as w us ds} I2 rd rw f1 f2 cr y hy=>by
  have c1:=jxg I2 rd f1 rw
  obtain ⟨d',hd,c⟩:=kqs cr (by simpa using hy)
  rw [qj1 c]
  exact kq3 30 (kk2 f2 hd) c c1 (by have:=L3.in1_units X.A;omega)
 have idx:∀ {h:Heap} {ds:List D} {us:List Value} {d:D} {j:Nat},CReps h ds us->(ds.findIdx? fun z=>peq z d)=some j->∃ hj:j < us.toArray.size,peq (dec h us.toArray[j]) d=true/\∀ m (hm:m < us.toArray.size),m < j->peq (dec h us.toArray[m]) d=false:=fun {h ds us d j} cr hf=>by
  have e:=qqp cr
  subst e
  rw [List.findIdx?_eq_some_iff_getElem] at hf
  obtain ⟨hj,h1,h2⟩:=hf
  have hj':j < us.length:=by simpa using hj
  refine ⟨by simpa using hj',by simpa using h1,fun m hm hmj=>?_⟩
  have:=h2 m hmj
  simpa using this
 rcases qq with ⟨pp,zs,rfl,ty,q1⟩ | ⟨pp,zs,rfl,ty,q1⟩
 ·cases r1
  have hA:=ha cpos pins s1 σ H1 _ I1 q1
  rw [hs] at hA ⊢
  obtain ⟨z,its,n,r,e0⟩:=ty.is I1
  refine ⟨"list","list.index",F.plainAttrs_list,F.slot_list_index,F.type_list_index,⟨_,e0,rfl⟩,fun a e2=>?_,?_⟩
  ·cases e2;exact ⟨_,e0,rfl⟩
  refine Calls.callWith_builtin (by show (false || (backTo cpos (starEach [] X.env)).any (·.1))=false;rw [hplain]<;>rfl) (Calls.evalArgs_plain ?_)
  refine thn hA fun us s2 ⟨vs,H2,I2,r2,d2⟩=>?_
  obtain ⟨v,d,ds,as,bs,xs,j,rfl,rd,hq,ra,f1,f2,hf,q2⟩:=d2
  obtain ⟨w,rfl,rw1⟩:=r2.one
  obtain ⟨z2,its2,n2,r3,e3⟩:=hq.is I2
  have cr:=creps_of I2 ra f2 r3
  obtain ⟨hj,h1,h2⟩:=idx cr hf
  have hsz:its2.toArray.size<=16777216:=by rw [List.size_toArray,<- r3.length];exact z2
  exact call_meets F.slot_list_index ⟨_,e3,rfl⟩ F.entry_list_index (F.args_list_index_2 _ _) (SeqAt.list_indexAt pp its2.toArray n2 none #[] w (fun y=>peq (dec s2.heap y) d) j hj (by omega) h1 h2) ⟨e3,eqs I2 rd rw1 f1 f2 cr,.int _,H2,I2.tok _,⟨_,rfl⟩,q2⟩
 ·cases r1
  have hA:=ha cpos pins s1 σ H1 _ I1 q1
  rw [hs] at hA ⊢
  obtain ⟨its,r,ht,hz⟩:=I1.tuple ty
  have hd0:=I1.tupleD ty
  refine ⟨"tuple","tuple.index",F.plainAttrs_tuple,F.slot_tuple_index,F.type_tuple_index,ht.typeIs,fun a e2=>?_,?_⟩
  ·cases e2;exact hd0
  refine Calls.callWith_builtin (by show (false || (backTo cpos (starEach [] X.env)).any (·.1))=false;rw [hplain]<;>rfl) (Calls.evalArgs_plain ?_)
  refine thn hA fun us s2 ⟨vs,H2,I2,r2,d2⟩=>?_
  obtain ⟨v,d,ds,as,bs,xs,j,rfl,rd,hq,ra,f1,f2,hf,q2⟩:=d2
  obtain ⟨w,rfl,rw1⟩:=r2.one
  obtain ⟨its2,r3,ht2,hz2⟩:=I2.tuple hq
  have cr:=creps_of I2 ra f2 r3
  obtain ⟨hj,h1,h2⟩:=idx cr hf
  exact vvd (e:=fun y=>peq (dec s2.heap y) d) ht2 (eqs I2 rd rw1 f1 f2 cr) hj h1 h2 ⟨.int _,H2,I2.tok _,⟨_,rfl⟩,q2⟩
theorem kx3 {apos cpos:Pos} (hu:X.A.units + 64 < cLine) (ha:QV X Z q a ea) (hb:QV X Z true b eb) (hK:X.K=Z.K:=by rfl)
  (hbase:attributeBase ea "index" X.env (eval ea X.env)=eval ea X.env:=by rfl)
  (hfew:((backTo cpos (starEach [eb] X.env)).all (fun x=>!x.1) && (backToKw cpos (keywordEach [] X.env)).all (fun x=>x.1.isSome)
   && decide ([eb].length + ([]:List Keyword).length + (if ([]:List Keyword).isEmpty then 0 else 1) < 30))=true:=by rfl)
  (hline:(apos.endLine == cpos.line)=true:=by rfl) (hs:starEach [eb] X.env=(false,eval eb X.env) :: starEach [] X.env:=by rfl) (hplain:(backTo cpos (starEach [] X.env)).any (·.1)=false:=by rfl) :
  QE X Z q (vqr a b) (.Call (.Attribute ea "index" apos) [eb] [] cpos):=jky (qxe hu ha (jjr hb jkp hs) hbase hfew hline hs hplain) fun σ H Q h_z=>ex8 h_z fun E L r m w hc xc k=>by
 refine jwd m w (show bnd (a E) _=some r from hc) xc fun E1 s h1 x L1 H1 e1 e2 m1 w1 ok fr sr st sm=>?_
 split at h1
 rotate_left
 ·cases h1
 rename_i hsq
 rw [hK]
 have fin:∀ {ds:List D},(x.d=.lst ds\/x.d=.tup ds)->∀ (C:Hp->List V->Prop),(∀ H2,x.ok Z.K H2->∃ xs bs,C H2 xs/\RepA Z.K H2 true ds xs bs)->tV Z true b σ H1 fun v H2=>wj5 Z.K C [v] H2 Q:=fun {ds} hx C hC=>by
  refine jwd m1 w1 h1 (xc.step st) fun E2 s2 h2 y L2 H2 e3 e4 m2 w2 ok2 fr2 sr2 st2 sm2=>?_
  obtain ⟨z,hz,rfl⟩:=jwe h2
  have kx:=jw5 ok fr st2 (sm2 rfl)
  obtain ⟨xs,bs,c1,c2⟩:=hC H2 kx.1
  have key:∃ j:Nat,y.d.flat 30=true/\D.flats 30 ds=true/\(ds.findIdx? fun z=>peq z y.d)=some j/\z=(.dp,.int j):=by
   unfold pu2 kk4 at hz
   rw [<- e2,<- e4] at hz
   have hz':(if y.d.flat 30 && D.flats 30 ds then (ds.findIdx? fun z=>peq z y.d).map fun (j:Nat)=>D.int (j:Int) else none).map (fun d=>((Own.dp,d):Sd))=some z:=by
    rcases hx with hx | hx<;>(rw [hx] at hz;exact hz)
   split at hz'
   ·rename_i hf
    rw [Bool.and_eq_true] at hf
    cases hj:ds.findIdx? fun z=>peq z y.d with
    | none=>rw [hj] at hz';cases hz'
    | some j=>rw [hj] at hz';exact ⟨j,hf.1,hf.2,rfl,(oq9 hz').symm⟩
   ·cases hz'
  obtain ⟨j,f1,f2,f3,rfl⟩:=key
  refine ⟨y.v,y.d,ds,y.as,bs,xs,j,rfl,RepO.wk ok2,c1,c2,f1,f2,f3,?_⟩
  have sm':q=true->jw1 H H2:=fun hq=>jjd (sm hq) (sm2 rfl)
  exact k _ _ rfl ⟨.dp,.int j,.int j,[]⟩ L2 H2 rfl rfl m2 (w2.consPu (x:=⟨.dp,.int j,.int j,[]⟩) (show RepL Z.K H2 false (.int j) (.int j) [] from jj2) rfl) (jxl (x:=⟨.dp,.int j,.int j,[]⟩) (st.trans st2) (fun b hb=>nomatch hb) rfl) fun hq=>⟨sm' hq,fun _ z=>(nomatch z)⟩
 have wkA:∀ {ds:List D} {xs:List V} {bs:List Addr} {H2:Hp},RepA Z.K H2 (x.o != .dp) ds xs bs->RepA Z.K H2 true ds xs bs:=fun {ds xs bs H2} r=>by
  cases ho:(x.o != .dp) with
  | true=>rw [ho] at r;exact r
  | false=>rw [ho] at r;exact r.wk
 cases hx:x.d with
 | lst ds =>
  obtain ⟨l,xs,bs,ev,q3,r3,h3,_⟩:=items ok (.inl hx)
  have q3:LsR Z.K H1 l xs:=by rcases q3 with ⟨_,z⟩ | ⟨z,_⟩;exact z;rw [hx] at z;cases z
  refine .inl ⟨l,xs,ev,q3,fin (.inl hx) _ fun H2 ok2=>?_⟩
  obtain ⟨l2,ys,cs,ev2,q4,r4,_⟩:=items ok2 (.inl hx)
  have:l2=l:=by have:=ev2.symm.trans ev;exact V.ref.inj this
  subst this
  rcases q4 with ⟨_,z⟩ | ⟨z,_⟩
  ·exact ⟨ys,cs,z,wkA r4⟩
  ·rw [hx] at z;cases z
 | tup ds =>
  obtain ⟨l,xs,bs,ev,q3,r3,h3,_⟩:=items ok (.inr hx)
  have q3:SqT Z.K H1 l xs:=by rcases q3 with ⟨z,_⟩ | ⟨_,z⟩;rw [hx] at z;cases z;exact z
  refine .inr ⟨l,xs,ev,q3,fin (.inr hx) _ fun H2 ok2=>?_⟩
  obtain ⟨l2,ys,cs,ev2,q4,r4,_⟩:=items ok2 (.inr hx)
  have:l2=l:=by have:=ev2.symm.trans ev;exact V.ref.inj this
  subst this
  rcases q4 with ⟨z,_⟩ | ⟨_,z⟩
  ·rw [hx] at z;cases z
  ·exact ⟨ys,cs,z,wkA r4⟩
 | _=>rw [<- e2,hx] at hsq;cases hsq
end
end Q
namespace Q
open PySem PySem.Spec PyProof.Rows L2 L3
def Ite (K:PySem.W.Frag) (l:Addr):It:=⟨fun i H=>∃ xs x,SqL K H l xs/\xs[i]?=some x,
 fun i H v H'=>∃ T x,H T=none/\v=.ref T/\H'=upd H T (.tup [.int i,x])/\∀ xs,SqL K H l xs->xs[i]?=some x,
 fun i H=>∃ xs,SqL K H l xs/\xs.length<=i⟩
theorem qkf {P:Program} {w:PySem.World} {K:PySem.W.Frag} {elts:List Expr} {k1:Nat} {pos:Pos} {e it l:Addr} (n1:e≠it) (n2:l≠e) (n3:l≠it) :
  Turn P w K (.Tuple elts k1 pos) (Ite K l) [e,it] e (fun i h=>(∃ old,IsEnum h e it (i:Int) old)/\h.IsListIter it l i) where
 mem:=by simp
 obj:=fun i h st b hb=>by
  obtain ⟨⟨old,h1⟩,o4,e4,c4,d4⟩:=st
  simp only [List.mem_cons,List.not_mem_nil,or_false] at hb
  rcases hb with rfl | rfl
  ·exact ⟨_,h1,fun v z=>by cases z⟩
  ·exact ⟨_,e4,fun v z=>by rw [d4] at z;cases z⟩
 keep:=fun i h h' st k=>by
  obtain ⟨⟨old,h1⟩,o4,e4,c4,d4⟩:=st
  exact ⟨⟨old,k _ (by simp) _ h1⟩,o4,k _ (by simp) _ e4,c4,d4⟩
 item:=by
  intro X hP hw hK hc i pins s σ H E I hf st hg
  subst hP hw hK
  obtain ⟨xs,x,q1,hx⟩:=hg
  obtain ⟨its1,rv1,p1,hz1⟩:=I.list q1
  obtain ⟨u1,hu1,ru1⟩:=rv1.get hx
  obtain ⟨⟨old,t1⟩,t2⟩:=st
  refine wpAny_pyNext_enum_item t1 t2 p1.isList (x:=u1) (by simpa using hu1) n1 fun h1 g1 g2 gT gs gk=>?_
  refine ⟨_,rfl,wpAny_letOwnedTupleGo_enum (s:={ s with heap:=h1,toks:=s.toks + 1 }) g1 fun h2 f1 sb=>?_⟩
  have fT:kqb X pins H s.heap.objs.size:=I.fpOk (Nat.le_refl _) (I.hok.fresh (Nat.le_refl _))
  have nT:∀ b∈[e,it],b≠s.heap.objs.size:=fun b hb ee=>by
   obtain ⟨o,eo,_⟩:∃ o,s.heap.get? b=some o/\True:=by
    simp only [List.mem_cons,List.not_mem_nil,or_false] at hb
    obtain ⟨o4,e4,_⟩:=t2
    rcases hb with rfl | rfl
    ·exact ⟨_,t1,trivial⟩
    ·exact ⟨_,e4,trivial⟩
   exact absurd (Heap.lt_size eo) (by rw [ee];exact Nat.lt_irrefl _)
  have kk:∀ b o,b∉[e,it]->s.heap.get? b=some o->h2.get? b=some o:=fun b o hb ee=>by
   simp only [List.mem_cons,List.not_mem_nil,or_false,not_or] at hb
   exact (sb.2 b hb.1).trans (gk b o hb.1 hb.2 ee)
  have I1:L2.Inv X pins σ H { s with heap:=h2,toks:=s.toks + 1 }:=kjr [e,it] I kk hf
  have nz:s.heap.objs.size≠e:=fun ee=>nT e (by simp) ee.symm
  have I2:=kw9 (a:=s.heap.objs.size) (o:=.tup [.int (i:Int),x]) I1 fT.1 fT.2.1 fT.2.2.2.1 fT.2.2.2.2.1 fT.2.2.2.2.2
   (show ObjOk X.prog X.w _ h2 _ (.tup [.int (i:Int),x]) from ⟨by show (2:Nat)<=sizeLine;decide,[.int i s.toks,u1],.cons ⟨_,rfl⟩ (.cons ru1 .nil),⟨_,(sb.2 _ nz).trans gT,rfl,rfl,0,rfl⟩⟩)
  refine ⟨.ref s.heap.objs.size,_,I2,rfl,⟨_,x,fT.1,rfl,rfl,fun zs hzs=>by rw [I.list_inj hzs q1];exact hx⟩,?_,fun b hb=>by rw [jjw (nT b hb)];exact (hf b hb).1⟩
  exact ⟨⟨u1,f1⟩,g2.at fun o ee=>(sb.2 _ n1.symm).trans ee⟩
 done:=by
  intro X hP hw hK hc i pins s σ H E I hf st hg
  subst hP hw hK
  obtain ⟨xs,q1,hx⟩:=hg
  obtain ⟨its1,rv1,p1,hz1⟩:=I.list q1
  obtain ⟨⟨old,t1⟩,t2⟩:=st
  have hl1:=rv1.length
  refine wpAny_pyNext_enum_end (I.ok.hd hc) t1 t2 p1.isList (by simp;omega) fun h' kk=>⟨rfl,?_⟩
  refine kjr (t':=s.toks) [it] I (fun b o hb ee=>kk b o (by simpa using hb) ee) fun b hb=>hf b (by
   simp only [List.mem_cons,List.not_mem_nil,or_false] at hb ⊢
   exact .inr hb)
 self:=fun _ _ _ _ _ st h=>by obtain ⟨⟨old,h1⟩,_⟩:=st;exact wpAny_pyIter_enum h1 h
abbrev wju (K:PySem.W.Frag) (ta:TA):TI:=fun σ H R=>ta σ H fun vs H1=>∃ l,vs=[.ref l]/\(∃ xs,SqL K H1 l xs/\(xs.length<=sizeLine->R (Ite K l) H1))
theorem kwo:bootBuiltins "enumerate"=some (.type "enumerate"):=boot_enumerate
section
variable {X:Cx} {Z:Fx0} {K:PySem.W.Frag} {pn:List Nat} {q qa qb:Bool} {a b c:Ex} {u:Ts} {tg e ea eb:Expr} {st:Stmt} {σ:L2.St} {H:Hp} {L:Ls} {E:En} {pos p p2 tpos:Pos} {x:Str} {elts:List Expr} {k1:Nat}
theorem vkg (K:PySem.W.Frag) {ta:TA} (hg:Gl X "enumerate") (hm:X.mg "enumerate"=none) (ha:PA X [e] ta) (hK:X.K=K:=by rfl)
  (hs:starEach [e] X.env=[(false,eval e X.env)]:=by rfl):PI X (.Tuple elts k1 tpos) (.Call (.Name "enumerate" p) [e] [] pos) (wju K ta):=by
 subst hK
 intro pins s σ H R I h
 refine Call_ (jzr I hg hm kwo (PyProof.Rows.callWith_type1 (thn (ha pos pins s σ H _ I h) fun us s1 ⟨vs,H1,I1,r1,q1⟩=>?_) (by rw [hs];rfl) rfl))
 obtain ⟨l,rfl,xs,q1,q⟩:=q1
 obtain ⟨u1,rfl,e1⟩:=jzt r1
 cases e1
 obtain ⟨its1,rv1,p1,hz1⟩:=I1.list q1
 have lt:l < s1.heap.objs.size:=by obtain ⟨_,ee,_⟩:=p1.isList;exact Heap.lt_size ee
 refine call_enumerate_list p1.isList fun h' g1 g2 gs gk=>?_
 refine wpAny_pyIter_enum g1 ⟨_,[_,s1.heap.objs.size],_,_,H1,rfl,I1.kept (t':=s1.toks) gk,
  qkf (e:=s1.heap.objs.size + 1) (it:=s1.heap.objs.size) (l:=l) (Nat.succ_ne_self _) (Nat.ne_of_lt (Nat.lt_succ_of_lt lt)) (Nat.ne_of_lt lt),⟨⟨_,g1⟩,g2⟩,fun b hb=>?_,q hz1⟩
 have hle:s1.heap.objs.size<=b:=by
  simp only [List.mem_cons,List.not_mem_nil,or_false] at hb
  rcases hb with rfl | rfl<;>omega
 exact I1.fpOk hle (I1.hok.fresh hle)
theorem jz5:∀ (ds:List D) (k:Nat),(jz6 k ds).length=ds.length
 | [],_=>rfl
 | d :: ds,k=>by rw [jz6,List.length_cons,List.length_cons,jz5 ds]
theorem kwh:∀ (ds:List D) (k i:Nat),(jz6 k ds)[i]?=(ds[i]?).map fun d=>.tup [.int ((k + i:Nat):Int),d]
 | [],_,_=>by simp [jz6]
 | d :: ds,k,0=>by simp [jz6]
 | d :: ds,k,i + 1=>by
  rw [jz6,List.getElem?_cons_succ,List.getElem?_cons_succ,kwh ds,show k + 1 + i=k + (i + 1) from by omega]
theorem qqt {x:Sl} {es:List D} {l:Addr} {H1:Hp} (hx:x.d=.lst es) (ev:x.v=.ref l):∀ H2:Hp,x.let.ok K H2->∃ ys cs,SqL K H2 l ys/\RepA K H2 true es ys cs/\∀ b∈cs,b∈x.as:=fun H2 hok=>by
 obtain ⟨a',ys,cs,ev',q4,r4,h4,_⟩:=items hok (.inl hx)
 have:a'=l:=by have:=ev'.symm.trans ev;exact V.ref.inj this
 subst this
 rcases q4 with ⟨_,z⟩ | ⟨z,_⟩
 ·exact ⟨ys,cs,z.sq,r4,h4⟩
 ·rw [show x.let.d=D.lst es from hx] at z;cases z
theorem qx2 {H2:Hp} {T:Addr} {d1 d2:D} {v1 v2:V} {b1 b2:List Addr} (hT:H2 T=none) (r1:RepL K H2 true d1 v1 b1) (r2:RepL K H2 true d2 v2 b2):RepL K (upd H2 T (.tup [v1,v2])) true (.tup [d1,d2]) (.ref T) (b1++b2):=by
 have sm:jw1 H2 (upd H2 T (.tup [v1,v2])):=jk6 hT
 unfold RepL
 refine ⟨T,[v1,v2],rfl,.inl (.inl jkd),?_⟩
 unfold RepA
 refine ⟨v1,[v2],b1,b2,rfl,rfl,r1.kp (Kp.of_same sm),?_⟩
 unfold RepA
 refine ⟨v2,[],b2,[],rfl,by simp,r2.kp (Kp.of_same sm),?_⟩
 unfold RepA
 exact ⟨rfl,rfl⟩
theorem qzi (h:QE X Z q c e) (hg:Gl X "enumerate") (hm:X.mg "enumerate"=none) (hK:X.K=Z.K:=by rfl) (hs:starEach [e] X.env=[(false,eval e X.env)]:=by rfl):QI X Z q (.Tuple elts k1 tpos) (vv3 c) (.Call (.Name "enumerate" p) [e] [] pos):=fun pins s σ H R I h_z=>ex8 h_z fun E L r m w hc xc k=>by
 refine (vkg Z.K hg hm (jjr h jkp hs) hK hs) pins s σ H R I ?_
 refine kx2 m w (show bnd (c E) _=some r from hc) xc fun E1 s h1 x L1 H1 e1 e2 m1 w1 st sm=>?_
 obtain ⟨ds,hd,rfl⟩:=jwe h1
 have ok:=w1.head
 have wT:World Z.K H1 (L1++[x.let].map some):=by
  refine World.comm (L:=[some x.let]) ?_
  exact w1.tail.consNo (jzq ok) rfl fun b hb=>w1.apart b hb
 have sT:Step H L H1 (L1++[x.let].map some):=by
  refine ⟨st.keep,fun b hb=>?_,fun b hb=>?_⟩
  ·have:b∈jjb L1:=by simpa [kjq] using hb
   exact st.own b (by rw [jj7];exact lr9 _ this)
  ·have:b∈jjk L1\/b∈x.as:=by simpa [kjq] using hb
   rcases this with z | z
   ·exact st.frz b (by rw [jjg];exact lr9 _ z)
   ·exact kj0 st b z
 cases hx:x.d with
 | lst es =>
  rw [<- e2,hx] at hd
  have hd':jz6 0 es=ds:=oq9 hd
  subst hd'
  obtain ⟨a,xs,bs,ev,q3,r3,h3,_⟩:=items ok (.inl hx)
  have q3:LsR Z.K H1 a xs:=by rcases q3 with ⟨_,z⟩ | ⟨z,_⟩;exact z;rw [hx] at z;cases z
  have again:=qqt (K:=Z.K) (H1:=H1) hx ev
  refine ⟨a,by rw [ev],xs,q3.sq,fun hlen=>k _ _ rfl (Ite Z.K a) [x.let] L1 H1 m1 wT sT (by rw [jz5,r3.len];exact hlen) (fun hq=>(sm hq).1) ⟨fun t ht=>by rw [List.mem_singleton.mp ht];rfl,fun i H2 hok hi=>?_,fun H2 hok=>?_,fun i H2 v H3 d hok hy hdi=>?_⟩⟩
  ·obtain ⟨ys,cs,s1,s2,_⟩:=again H2 (hok _ (List.mem_singleton.mpr rfl))
   have hl:=s2.len
   rw [jz5] at hi
   exact ⟨ys,ys[i]'(by omega),s1,List.getElem?_eq_getElem (by omega)⟩
  ·obtain ⟨ys,cs,s1,s2,_⟩:=again H2 (hok _ (List.mem_singleton.mpr rfl))
   exact ⟨ys,s1,by rw [jz5,s2.len];exact Nat.le_refl _⟩
  ·obtain ⟨ys,cs,s1,s2,s3⟩:=again H2 (hok _ (List.mem_singleton.mpr rfl))
   obtain ⟨T,x',hT,rfl,rfl,hy⟩:=hy
   rw [kwh] at hdi
   cases hes:es[i]? with
   | none=>rw [hes] at hdi;cases hdi
   | some d0 =>
    rw [hes] at hdi
    cases oq9 hdi
    obtain ⟨v',bs',f1,f2,f3⟩:=s2.get hes
    have:v'=x':=by have:=hy ys s1;rw [f1] at this;exact oq9 this
    subst this
    have rp:=qx2 (v1:=.int ((0 + i:Nat):Int)) hT jj2 f2
    rw [show ((0 + i:Nat):Int)=(i:Int) from by omega] at rp ⊢
    exact ⟨⟨.no,_,.ref T,[]++bs'⟩,rfl,rfl,rfl,jk6 hT,rp,fun b hb=>⟨x.let,List.mem_singleton.mpr rfl,s3 b (f3 b (by simpa using hb))⟩⟩
 | _=>rw [<- e2,hx] at hd;cases hd
end
end Q
namespace L3
open PySem PySem.Spec PyProof.Rows L2
def tX (X:Cx) (x:Addr):Cx:={ X with A:=X.A.mark (some (.ref x)),calm:=false,xe:=fun _ _=>False }
abbrev exO (o:Obj):HO:=.frz o (.ext fun _=>True)
section
variable {X:Cx} {pins:List (Addr×Obj)} {σ:L2.St} {H:Hp} {s:Shared} {x:Addr} {ox:Obj}
theorem kzr (I:Inv X pins σ H s):Inv (tX X x) pins σ H s :=
 ⟨⟨I.ok.mod,I.ok.kind,I.ok.glob,I.ok.blt,I.ok.above,I.ok.inj,I.ok.has,I.ok.cab,fun z=>(by cases z),I.ok.frames,I.ok.stk,I.ok.exf,I.ok.bs,I.ok.bsz,I.ok.noex,I.ok.exfs,I.ok.funs,I.ok.frf⟩,I.os,I.bare,I.base,I.loc,I.cell,I.free,I.freeC,I.pin,I.hok,I.len⟩
theorem qvb (ok:X.Ok) (I:Inv (tX X x) pins σ H s):Inv X pins σ H s:=⟨ok,I.os,I.bare,I.base,I.loc,I.cell,I.free,I.freeC,I.pin,I.hok,I.len⟩
theorem vqa (I:Inv X pins σ H s) (e:s.heap.get? x=some ox) (f:FpX X pins H x):Inv X pins σ (upd H x (exO ox)) s:=by
 obtain ⟨hn,f1,f2,f3,f4,f5⟩:=f
 refine ⟨I.ok,I.os,I.bare,⟨I.base.keep,I.base.slot,fun b o q n hx=>?_,I.base.there,fun b xs q=>?_,fun b o u q=>?_,fun b ps q=>?_⟩,I.loc,I.cell,?_,fun y c q=>?_,fun p hp=>?_,fun b u q=>?_,I.len⟩
 ·have hb:b≠x:=by
   rintro rfl
   rcases f3 with z | z
   ·exact hx z
   ·rw [z] at q;cases q
  rw [jjw hb]
  exact I.base.free b o q n hx
 ·have:=I.base.tups b xs q
  rw [jjw (jjz this hn)];exact this
 ·have:=I.base.frzs b o u q
  rw [jjw (jjz this hn)];exact this
 ·obtain ⟨more,this⟩:=I.base.tbls b ps q
  exact ⟨more,by rw [jjw (jjz this hn)];exact this⟩
 ·rw [jjw (Ne.symm f1)];exact I.free
 ·rw [jjw (f4 y c q)];exact I.freeC y c q
 ·obtain ⟨a1,a2,a3⟩:=I.pin p hp
  exact ⟨a1,by rw [jjw (f5 p hp)];exact a2,a3⟩
 ·by_cases hb:b=x
  ·subst hb
   rw [jkd] at q
   cases q
   exact ⟨e,trivial,⟨_,e⟩,fun _ _ _ _=>trivial⟩
  ·rw [jjw hb] at q
   exact (I.hok b u q).stay (fun c v _ q=>q) (fun c q=>by rw [jjw (jjz q hn)];exact q) fun c xs q=>by rw [jjw (jjz q hn)];exact q
end
abbrev vvg (K:PySem.W.Frag) (UC:Addr) (i:Nat) (tb:XK->TS) (ts:TS):TS:=fun D σ H=>∃ E:XK,tb E D σ H/\∀ x Cv H',E Cv none H'->H' x=none->∃ C,Cv=.ref C/\PySem.W.exmOne K (.ref C) (.ref UC)=some true/\XCls K C /\
 ∀ o,ExAt K x o C->ts { nx:=fun σ' H''=>D.nx (σ'.set i none) H'',rt:=D.rt,bk:=fun σ' H''=>D.bk (σ'.set i none) H'',ct:=fun σ' H''=>D.ct (σ'.set i none) H'' } (σ.set i (some (.ref x))) (upd H' x (exO o))
theorem vkb {X:Cx} {ux n:Str} {np hpos pos:Pos} {UC:Addr} {i:Nat} {st b0:Stmt} {suite:List Stmt} {tb:XK->TS} {ts:TS} (hN:X.N.Nodup) (hi:X.N[i]?=some n) (hk:X.env.scope.names.lookup n=some .local) (top:qk2 X) (hU:X.mg ux=some (.ref UC)) (hb:PSX X st tb)
  (hs:∀ x,PSs (tX X x) (b0 :: suite) ts) (hg:Gl X ux:=by rfl) (hdb:(ux == ("__debug__":Str))=false:=by decide) :
  PS X (.Try [st] [.ExceptHandler (some (.Name ux np)) (some n) (b0 :: suite) hpos] [] [] pos) (vvg X.K UC i tb ts):=by
 intro pins s σ H D I ⟨E,h1,h2⟩
 refine wpAny_Try_except (wpAny_execs_cons (wpAny_mono (hb E pins s σ H D I h1) (fun f s1 q=>?_) (fun e s1 q=>?_)))
 ·cases f with
  | next=>exact wpAny_execs_nil (wpAny_execs_nil q)
  | ret v=>exact q
  | brk=>exact q
  | cont=>exact q
 ·obtain ⟨H',x,Cv,rfl,I1,f1,q1⟩:=q
  refine kw2 top rfl I1 f1 fun L T s2 _ t2=>jwj t2 fun s3 t3=>?_
  obtain ⟨C,rfl,hm,xc,ht⟩:=h2 x Cv H' q1 t3.fx.1
  refine wpAny_handleBy_cons (codeAny_handlers_test ?_) (fun z=>nomatch z)
  obtain ⟨vs,ho,hv⟩:=t3.f.ex
  have I3:Inv (tX X x) pins σ H' s3:=kzr t3.inv
  refine jxd I3 hg hU ?_ hdb
  have at3:PySem.W.InstAt s3.heap x { cls:=.ref C,data:=.fields vs } C none:=⟨ho,rfl,rfl,trivial⟩
  refine Lk (PySem.W.exm_one t3.inv.kIn at3.type hm) ?_
  show codeAny _ _ _ _ s3
  refine codeAny_handlers_suite_as (jwj t3 fun s4 t4=>?_)
  obtain ⟨vs4,ho4,hv4⟩:=t4.f.ex
  have I4:Inv (tX X x) pins σ (upd H' x (exO { cls:=.ref C,data:=.fields vs4 })) s4:=kzr (vqa t4.inv ho4 t4.fx)
  refine jx2 (X:=tX X x) I4 hN hi (.inl hk) (v:=.ref x) (u:=.ref x) rfl (fun s5 I5=>?_) (.inr hk)
  refine wpAny_mono (hs x pins s5 _ _ _ I5 (ht _ ⟨rfl,rfl,rfl,xc⟩)) (fun f s6 q=>?_) fun _ _ z=>z.elim
  have bk:∀ {σ6:L2.St} {H6:Hp},Inv (tX X x) pins σ6 H6 s6->Inv X pins σ6 H6 s6:=fun z=>qvb I.ok z
  show wpAny _ _ _ _ _ s6
  cases f with
  | next =>
   obtain ⟨σ6,H6,I6,q6⟩:=q
   exact jxz (bk I6) hN hi hk fun s7 I7=>⟨_,_,I7,q6⟩
  | brk =>
   obtain ⟨σ6,H6,I6,q6⟩:=q
   exact jxz (bk I6) hN hi hk fun s7 I7=>⟨_,_,I7,q6⟩
  | cont =>
   obtain ⟨σ6,H6,I6,q6⟩:=q
   exact jxz (bk I6) hN hi hk fun s7 I7=>⟨_,_,I7,q6⟩
  | ret v =>
   obtain ⟨v',σ6,H6,I6,r6,q6⟩:=q
   exact jxz (bk I6) hN hi hk fun s7 I7=>⟨v',_,_,I7,r6,q6⟩
def vzb (K:PySem.W.Frag):List V->Hp->VK->Prop:=fun xs H Q=>∃ x o C b,ExAt K x o C/\H x=some (exO o)/\((∃ U,xs=[.ref x,.ref U]/\PySem.W.kitOne K (.ref C) (.ref U)=some b)\/∃ U,xs=[.ref x,.ty U]/\PySem.W.kitOne K (.ref C) (.type U)=some b)/\Q (.bl b) H
theorem qz4 {X:Cx}:CallR X (.builtin "isinstance") (vzb X.K):=by
 intro pins s σ H xs us Q I r ⟨x,o,C,b,a,e,h,q⟩
 have px:s.heap.get? x=some o:=(show ObjOk X.prog X.w H s.heap x (exO o) from I.hok x _ e).1
 have at_:∃ o,PySem.W.InstAt s.heap x o C none:=⟨o,px,a.cls,a.no,by rw [a.di];trivial⟩
 rcases h with ⟨U,rfl,hk⟩ | ⟨U,rfl,hk⟩
 ·obtain ⟨u1,u2,rfl,e1,e2⟩:=qkc r
  cases e1
  cases e2
  exact PySem.W.kia_one (kzn a.xc) I.kIn at_ hk (fun z=>nomatch z) fun tk=>⟨.bl b,H,I.tok _,rfl,q⟩
 ·obtain ⟨u1,u2,rfl,e1,e2⟩:=qkc r
  cases e1
  cases (show u2=Value.type U from e2)
  exact PySem.W.kia_one (kzn a.xc) I.kIn at_ hk (fun z=>nomatch z) fun tk=>⟨.bl b,H,I.tok _,rfl,q⟩
end L3
namespace Q
open PySem PySem.Spec PyProof.Rows L2 L3
theorem kv1:bootBuiltins "ValueError"=some (.type "ValueError"):=by decide +kernel
theorem vjd {K:PySem.W.Frag} {C:Addr} (ga:PySem.W.findIn K (.ref C) "__getattribute__"=some (some (.builtin "BaseException.__getattribute__"))) (gt:PySem.W.findIn K (.ref C) "__getattr__"=some none) (fa:PySem.W.findIn K (.ref C) "__class__"=some (some (.builtin "object.__class__")))
  (fg:PySem.W.specialIn K (.builtin "object.__class__") "__get__"=some (some (.builtin "getset_descriptor.__get__"))) (ft:PySem.W.takesIn K (.builtin "object.__class__")=some true) (ob:PySem.W.mroIn K C (.type "object")=some true) (bx:PySem.W.mroIn K C (.type "BaseException")=some true) (cl:PySem.W.isClsIn K C=true):XCls K C :=
 ⟨ga,gt,by
  obtain ⟨cd,hc⟩:=Option.isSome_iff_exists.mp (show (PySem.W.clsIn K C).isSome=true from cl)
  unfold PySem.W.findObj
  rw [hc,Option.bind_some,fa,Option.bind_some]
  simp [fg,ft],ob,bx,cl⟩
def kv5 (K:PySem.W.Frag) (u:V) (t:List (Str×Bool)):Prop:=∀ c b,t.lookup c=some b->∃ C,PySem.W.nsIn K mainGlobals c=some (some (.ref C))/\((∃ U,u=.ref U/\PySem.W.kitOne K (.ref C) (.ref U)=some b)\/∃ U,u=.ty U/\PySem.W.kitOne K (.ref C) (.type U)=some b)
theorem jw4 {K:PySem.W.Frag} {u:V}:kv5 K u []:=fun _ _ z=>nomatch z
theorem kzq {K:PySem.W.Frag} {u:V} {c:Str} {b:Bool} {C:Addr} {t:List (Str×Bool)} (h:PySem.W.nsIn K mainGlobals c=some (some (.ref C))) (k:(∃ U,u=.ref U/\PySem.W.kitOne K (.ref C) (.ref U)=some b)\/∃ U,u=.ty U/\PySem.W.kitOne K (.ref C) (.type U)=some b) (r:kv5 K u t):kv5 K u ((c,b) :: t):=fun c' b' z=>by
 rw [List.lookup_cons] at z
 split at z
 ·rename_i e
  cases eq_of_beq e
  cases z
  exact ⟨C,h,k⟩
 ·exact r c' b' z
theorem jwi {K:PySem.W.Frag} {c:Str} {b:Bool} {C U:Addr} {t:List (Str×Bool)} (h:PySem.W.nsIn K mainGlobals c=some (some (.ref C))) (k:PySem.W.kitOne K (.ref C) (.ref U)=some b) (r:kv5 K (.ref U) t):kv5 K (.ref U) ((c,b) :: t):=kzq h (.inl ⟨U,rfl,k⟩) r
theorem vxp {K:PySem.W.Frag} {c:Str} {b:Bool} {C:Addr} {U:String} {t:List (Str×Bool)} (h:PySem.W.nsIn K mainGlobals c=some (some (.ref C))) (k:PySem.W.kitOne K (.ref C) (.type U)=some b) (r:kv5 K (.ty U) t):kv5 K (.ty U) ((c,b) :: t):=kzq h (.inr ⟨U,rfl,k⟩) r
theorem vz4 {K:PySem.W.Frag} {u:V} {t:List (Str×Bool)} (ht:kv5 K u t):Ad1 K (fun v H Q=>vzb K [v,u] H Q) (pu1 (kwg t)):=by
 intro H x s Q ok hf k
 have ok:=RepO.wk ok
 unfold pu1 at hf
 obtain ⟨o,d,v,as⟩:=x
 cases d with
 | obj c fs =>
  unfold kwg at hf
  cases hl:t.lookup c with
  | none=>simp only [hl] at hf;cases hf
  | some b =>
   simp only [hl] at hf
   cases oq9 hf
   dsimp only at ok
   unfold RepL at ok
   obtain ⟨e0,x,ob,C,rfl,h1,h2,h3⟩:=ok
   obtain ⟨C',h4,h5⟩:=ht c b hl
   rw [h3] at h4
   cases oq9 (oq9 h4)
   refine ⟨x,ob,C,b,h2,h1,?_,k ⟨.dp,.bl b,.bl b,[]⟩ H rfl rfl qk3⟩
   rcases h5 with ⟨U,rfl,h5⟩ | ⟨U,rfl,h5⟩
   ·exact .inl ⟨U,rfl,h5⟩
   ·exact .inr ⟨U,rfl,h5⟩
 | _=>cases hf
section
variable {X:Cx} {Z:Fx0} {pn:List Nat} {q:Bool} {a b c:Ex} {e ea eb:Expr} {es:List Expr} {pos p p2:Pos} {t:List (Str×Bool)} {y:Str} {u:V}
theorem kki (ha:QV X Z q a ea) (hm:X.mg "isinstance"=none) (hu:PE X (.Name y p2) (tC u)) (hK:X.K=Z.K) (ht:kv5 X.K u t) (hg:Gl X "isinstance":=by rfl)
  (he:starEach [ea,.Name y p2] X.env=(false,eval ea X.env) :: starEach [.Name y p2] X.env:=by rfl) (he2:starEach [.Name y p2] X.env=(false,eval (.Name y p2) X.env) :: starEach [] X.env:=by rfl) (hpl:(backTo pos (starEach [.Name y p2] X.env)).any (·.1)=false:=by rfl) :
  QE X Z q (cF1 (pu1 (kwg t)) a) (.Call (.Name "isinstance" p) [ea,.Name y p2] [] pos):=by
 rw [hK] at ht
 have hc:CallR X (.builtin "isinstance") (vzb Z.K):=hK▸qz4
 exact jky (kql hc hg hm jzb (jjr ha (jjr hu jkp he2) he) (by decide) (by decide) he hpl) fun σ H Q h=>kj8 (r:=fun v H Q=>vzb Z.K [v,u] H Q) (vz4 ht) h
theorem vk0 {x:Str} {C:Addr} {z:Str} {np cpos:Pos} (c:ECls X.K X.mg x C) (hm:Z.mg x=some (.ref C)) (g:qk7 X Z.EX) (hz:PE X e (tC (.str z))) (hg:Gl X x:=by rfl) (hc:X.calm=true:=by rfl) (hdb:(x == ("__debug__":Str))=false:=by decide)
  (he:starEach [e] X.env=(false,eval e X.env) :: starEach [] X.env:=by rfl) (hpl:((backTo cpos (starEach [e] X.env)).any (·.1))=false:=by rfl) :
  QS X Z pn (sRz x) (.Raise (some (.Call (.Name x np) [e] [] cpos)) none pos):=jwn (qx9 c g (jjr hz jkp he) hg hc hdb he hpl) fun D σ H h_z=>ex7 h_z fun E L r m w hr k=>by
 cases oq9 hr
 exact ⟨show (1:Nat)<=sizeLine by decide,k C σ L H hm Pn.refl m w Step.refl⟩
def QEX (X:Cx) (Z:Fx0) (q:Bool) (c:Ex) (e:Expr):Prop:=PEX X e fun EX=>tQ ⟨Z.K,Z.mg,EX⟩ q c
theorem vkh {t t':XK->TE} (h:PEX X e t) (w:∀ E σ H Q,t' E σ H Q->t E σ H Q):PEX X e t':=fun E pins s σ H Q I q=>h E pins s σ H Q I (w E σ H Q q)
theorem qq2 {k n:Nat} {x:Str} {ps:List Str} {f:Fn} {cs:List Ex} (D:jqm X.prog X.w X.K X.mg X.base k x ps (spF Z.K Z.mg n f)) (hr:Room k X.A) (ha:QA X.nox ⟨Z.K,Z.mg,fun _ _ _=>False⟩ q cs (e :: es)) (hn:cs.length=n:=by rfl) (hg:Gl X x:=by rfl) (hdb:(x == ("__debug__":Str))=false:=by decide)
  (he:starEach (e :: es) X.env=(false,eval e X.env) :: starEach es X.env:=by rfl) (hpl:(backTo pos (starEach es X.env)).any (·.1)=false:=by rfl) :
  QEX X Z false (jza f cs) (.Call (.Name x p) (e :: es) [] pos):=vkh (qxc D hr ha hg hdb he hpl) fun EX σ H Q h_z=>ex8 h_z fun E L r m w hc xc kk=>by
 have hc:jza f cs E=some r:=hc
 unfold jza at hc
 split at hc
 ·rename_i E1 ys hA
  refine ⟨E,L,_,m,w,hA,(fun _ _ z=>by cases z),fun E' ys' z xs L1 H1 e1 m1 w1 st sm=>?_⟩
  injection z with z1 z2
  subst z1 z2
  show spF _ _ _ _ _ _ _ _
  rw [List.append_nil]
  have hlen:xs.length=n:=by
   rw [<- hn]
   have:ys.length=cs.length:=jwz hA
   rw [<- this,<- e1,List.length_map]
  cases hf:f (letAll ys) with
  | none=>rw [hf] at hc;cases hc
  | some fr =>
   rw [hf] at hc
   obtain ⟨wl,sl⟩:=jx1 w1
   have ev:xs.map Sl.v=(xs.map Sl.let).map Sl.v:=by rw [List.map_map];rfl
   rw [ev]
   refine ⟨xs.map Sl.let,fr,rfl,by rw [List.length_map];exact hlen,wl.left,by rw [<- e1] at hf;rw [kqu];exact hf,fun E' c ee C H' hm s'=>?_,fun E' a ee y H' e2 e3 w' s'=>?_⟩
   ·subst ee
    cases oq9 hc
    obtain ⟨w2,s2⟩:=stay wl s' ⟨fun _ z=>(nomatch z),List.nodup_nil,fun _ z=>(nomatch z)⟩
    exact xc _ _ rfl C L1 H' hm m1 w2 ((st.trans sl).trans s2)
   ·subst ee
    cases oq9 hc
    obtain ⟨w2,s2⟩:=stay wl s' w'
    exact kk _ _ rfl y L1 H' e2 e3 m1 w2 ((st.trans sl).trans s2) fun hq=>nomatch hq
 ·cases hc
theorem Mt.unset:∀ {E:En} {σ:L2.St} {L:Ls} (i:Nat),Mt E σ L->Mt (E.set i none) (σ.set i none) (L.set i none)
 | _,_,_,_,.nil=>.nil
 | _,_,_,0,.un m=>.un m
 | _,_,_,0,.cons m=>.un m
 | _,_,_,i + 1,.un m=>.un (Mt.unset i m)
 | _,_,_,i + 1,.cons m=>.cons (Mt.unset i m)
theorem jw7:∀ (L:Ls) (i:Nat),(sls (L.set i none)).Sublist (sls L)
 | [],_=>List.Sublist.refl _
 | none :: L,0=>List.Sublist.refl _
 | some x :: L,0=>List.Sublist.cons _ (List.Sublist.refl _)
 | none :: L,i + 1=>jw7 L i
 | some x :: L,i + 1=>List.Sublist.cons_cons _ (jw7 L i)
theorem World.unset {K:PySem.W.Frag} {H:Hp} {L:Ls} {i:Nat} (w:World K H L):World K H (L.set i none):=w.sub (jw7 L i)
theorem Step.unset {H H':Hp} {L L':Ls} {i:Nat} (s:Step H L H' L'):Step H L H' (L'.set i none):=s.sub (jw7 L' i)
theorem World.unset1 {K:PySem.W.Frag} {H:Hp} {L:Ls} {x:Sl} {i:Nat} (w:World K H (some x :: L)):World K H (some x :: L.set i none):=w.sub (List.Sublist.cons_cons _ (jw7 L i))
theorem Step.unset1 {H H':Hp} {L L':Ls} {x:Sl} {i:Nat} (s:Step H L H' (some x :: L')):Step H L H' (some x :: L'.set i none):=s.sub (List.Sublist.cons_cons _ (jw7 L' i))
def kkd (K:PySem.W.Frag) (mg:Str->Option Value) (UC:Addr) (cs:List Str):Prop:=∀ c∈cs,∃ C,mg c=some (.ref C)/\PySem.W.nsIn K mainGlobals c=some (some (.ref C))/\PySem.W.exmOne K (.ref C) (.ref UC)=some true/\XCls K C
theorem kq8 {K:PySem.W.Frag} {mg:Str->Option Value} {UC:Addr}:kkd K mg UC []:=fun _ z=>nomatch z
theorem kk9 {K:PySem.W.Frag} {mg:Str->Option Value} {UC C:Addr} {c:Str} {cs:List Str} (e:ECls K mg c C) (h:PySem.W.nsIn K mainGlobals c=some (some (.ref C))) (k:PySem.W.exmOne K (.ref C) (.ref UC)=some true) (r:kkd K mg UC cs):kkd K mg UC (c :: cs):=fun c' hc=>by
 rcases List.mem_cons.mp hc with rfl | hc
 ·exact ⟨C,e.bd,h,k,e.xc⟩
 ·exact r c' hc
theorem qwo {UC:Addr} {i:Nat} {cs:List Str} {B h:Sm} {tb:XK->TS} {D:Ends} {σ:L2.St} {H:Hp} (hK:X.K=Z.K) (ca:kkd X.K Z.mg UC cs) (hp:i∉pn)
  (hb:∀ (EX:XK) E L r,Mt E σ L->World Z.K H L->B E=some r->(∀ E' c,r=.xc E' c->∀ C L' H',Z.mg c=some (.ref C)->Mt E' σ L'->World Z.K H' L'->Step H L H' L'->EX (.ref C) none H')->((∀ E' c,r≠.xc E' c)->FlP Z pn D σ H L r)->tb EX D σ H)
  (hr:tS Z pn (qwz cs i B h) D σ H):vvg X.K UC i tb (tS ⟨Z.K,Z.mg,fun _ _ _=>False⟩ pn h) D σ H:=by
 obtain ⟨E,L,r,m,w,hr,k⟩:=hr
 have hr:qwz cs i B h E=some r:=hr
 cases hB:B E with
 | none=>unfold qwz at hr;rw [hB] at hr;cases hr
 | some rb =>
  refine ⟨fun Cv _ H'=>∃ E1 c C L1,rb=.xc E1 c/\Cv=.ref C/\Z.mg c=some (.ref C)/\Mt E1 σ L1/\World Z.K H' L1/\Step H L H' L1,hb _ E L rb m w hB (fun E' c e C L' H' hm m' w' st=>⟨E',c,C,L',e,rfl,hm,m',w',st⟩) (fun hne=>?_),?_⟩
  ·unfold qwz at hr
   rw [hB] at hr
   cases rb with
   | xc E1 c1=>exact absurd rfl (hne E1 c1)
   | nx E1=>cases oq9 hr;exact k
   | ct E1=>cases oq9 hr;exact k
   | bk E1=>cases oq9 hr;exact k
   | rt E1 x=>cases oq9 hr;exact k
  ·rintro x Cv H' ⟨E1,c,C,L1,rfl,rfl,hm,m1,w1,st1⟩ hx
   unfold qwz at hr
   rw [hB] at hr
   dsimp only at hr
   by_cases hc:c∈cs
   ·rw [if_pos hc] at hr
    obtain ⟨C',g1,g2,g3,g4⟩:=ca c hc
    rw [hm] at g1
    cases oq9 g1
    refine ⟨C,rfl,g3,g4,fun o at_=>?_⟩
    have sm:jw1 H' (upd H' x (exO o)):=jk6 hx
    let y:Sl:=⟨.no,.obj c [],.ref x,[]⟩
    have wy:World Z.K (upd H' x (exO o)) (some y :: L1):=by
     refine World.consPu ⟨fun t ht=>RepO.kp (w1.ok t ht) (Kp.of_same sm),w1.nd,w1.ds⟩ ?_ rfl
     show RepL Z.K _ true (.obj c []) (.ref x) []
     unfold RepL
     exact ⟨rfl,x,o,C,rfl,jkd,hK▸at_,hK▸g2⟩
    have sy:Step H L (upd H' x (exO o)) (some y :: L1):=by
     refine ⟨fun b ob q hn=>sm b ob (st1.keep b ob q hn),fun b hb=>st1.own b (by rw [jj7] at hb;exact hb),fun b hb=>st1.frz b (by rw [jjg] at hb;exact hb)⟩
    cases h2:h (E1.set i (some (.no,.obj c []))) with
    | none=>rw [h2] at hr;cases hr
    | some r2 =>
     rw [h2] at hr
     refine ⟨_,_,r2,kjo (x:=y) m1 rfl rfl,wy.set,h2,?_⟩
     have sy2:Step H L (upd H' x (exO o)) (L1.set i (some y)):=sy.trans Step.set
     have pp:Pn pn σ (σ.set i (some (V.ref x))):=Pn.refl.set hp
     cases r2 with
     | nx E2 =>
      cases oq9 hr
      intro σ' L' H2 p' m' w' st'
      exact k _ _ H2 ((pp.trans p').set hp) (Mt.unset i m') w'.unset (sy2.trans st').unset
     | ct E2 =>
      cases oq9 hr
      intro σ' L' H2 p' m' w' st'
      exact k _ _ H2 ((pp.trans p').set hp) (Mt.unset i m') w'.unset (sy2.trans st').unset
     | bk E2 =>
      cases oq9 hr
      intro σ' L' H2 p' m' w' st'
      exact k _ _ H2 ((pp.trans p').set hp) (Mt.unset i m') w'.unset (sy2.trans st').unset
     | rt E2 a2 =>
      cases oq9 hr
      intro z σ' L' H2 e1 e2 p' m' w' st'
      exact k z _ _ H2 e1 e2 ((pp.trans p').set hp) (Mt.unset i m') w'.unset1 (sy2.trans st').unset1
     | xc E2 c2=>cases hr
   ·rw [if_neg hc] at hr;cases hr
theorem vw5 {ux n y:Str} {np hpos tpos yp:Pos} {UC:Addr} {i j:Nat} {b0:Stmt} {suite:List Stmt} {cs:List Str} {h:Sm} (hN:X.N.Nodup) (hi:X.N[i]?=some n) (hk:X.env.scope.names.lookup n=some .local) (top:qk2 X) (hU:X.mg ux=some (.ref UC)) (hK:X.K=Z.K) (ca:kkd X.K Z.mg UC cs) (hj:X.N[j]?=some y) (hy:Loc X.env.scope y) (hb:QEX X Z q b e)
  (hs:∀ x,QSs (tX X x) ⟨Z.K,Z.mg,fun _ _ _=>False⟩ pn h (b0 :: suite)) (hp:i∉pn:=by decide) (hpj:j∉pn:=by decide) (hsw:swapsWith e (some (.Name y yp)) pos.line X.env=pure false:=by rfl) (hf:X.fn y=true\/X.env.scope.names.lookup y=some .local:=by first | exact .inl rfl | exact .inr rfl | assumption) (hg:Gl X ux:=by rfl) (hdb:(ux == ("__debug__":Str))=false:=by decide) :
  QS X Z pn (qwz cs i (jjq j b) h) (.Try [.Assign [.Name y yp] e pos] [.ExceptHandler (some (.Name ux np)) (some n) (b0 :: suite) hpos] [] [] tpos) :=
 jwn (vkb hN hi hk top hU (vk8 hN hj hy hb hsw hf) hs hg hdb) fun D σ H hr=>qwo hK ca hp (fun EX E L r m w hB hx hk=>by
  have hB:ofE (b E) (fun E x=>some (.nx (E.set j (some x))))=some r:=hB
  rcases jww hB with ⟨E1,s,h1,h2⟩ | ⟨E1,c,h1,rfl⟩
  ·cases oq9 h2
   refine ⟨E,L,_,m,w,h1,(fun _ _ z=>by cases z),fun E' s' z x L' H' e1 e2 m' w' st sm=>?_⟩
   injection z with z1 z2
   subst z1 z2
   exact hk (fun _ _ z=>nomatch z) (σ.set j (some x.v)) (L'.set j (some x)) H' (Pn.refl.set hpj) (kjo m' e1 e2) w'.set (st.trans Step.set)
  ·exact ⟨E,L,_,m,w,h1,(fun E' c' e C L' H' hm m' w' st=>by injection e with z1 z2;subst z1 z2;exact hx _ _ rfl C L' H' hm m' w' st),fun E' s' z=>by cases z⟩) hr
end
end Q
namespace L3
open PySem PySem.Spec PyProof.Rows L2
structure Room0 (k:Nat) (A:Around):Prop where
 dp:A.depth + 3 * k + 5 < recursionLimit
 un:A.units + 16 * k + 200 < cLine
theorem qx1 {X:Cx} {x:Addr} {k:Nat} (r:Room k X.A):Room0 k (tX X x).A:=⟨r.dp,r.un⟩
theorem Room0.deeper {k:Nat} {A:Around} (r:Room0 (k + 1) A) (env:Env):Room0 k (A.deeper env):=⟨by have:=r.dp;show A.depth + 1 + 3 * k + 5 < _;omega,by have:=r.un;show A.units + 3 + 16 * k + 200 < _;omega⟩
theorem Room0.depth {k:Nat} {A:Around} (r:Room0 k A):A.depth < recursionLimit:=by have:=r.dp;omega
abbrev CXn:CXT:=fun _ _ _ _ _ _=>False
def cx0 (P:Program) (w:PySem.World) (K:PySem.W.Frag) (mg:Str->Option Value) (base:Heap) (N:List Str) (qual:Str) (scope:Scope) (f:Addr) (cd:Value) (A:Around) (outer:List Env) (s:Shared) (H:Hp):Cx :=
 { qk6 CXn P w K mg base N qual scope f cd A outer s H (fun _ _ _=>False) with calm:=false,xe:=fun _ _=>False }
structure FnOk0 (P:Program) (w:PySem.World) (K:PySem.W.Frag) (mg:Str->Option Value) (base:Heap) (k:Nat) (f:Addr) (fd:FuncData) (ps:List Str) (sp:Sp):Prop where
 len:∀ vs H Q E,sp vs H Q E->vs.length=ps.length
 run:∀ (A:Around) (outer:List Env) (s:Shared) (H:Hp) (args:Args) (us:List Value) (vs:List V) (Q:VK),Room0 k A->Env0 P w K mg base A outer s H->BindsTo s fd args (ps.zip us)->Vals vs us->sp vs H Q (fun _ _ _=>False) ->
  codeAny (model P w) A (.call (.ref f) args) (CR CXn outer P w H s Q (fun _ _ _=>False)) s
theorem qjr {P:Program} {w:PySem.World} {K:PySem.W.Frag} {mg:Str->Option Value} {base:Heap} {N ps:List Str} {qual:Str} {scope:Scope} {f:Addr} {cd:Value} {A:Around} {outer:List Env} {s s1:Shared} {H:Hp} {us:List Value} {vs:List V}
  (S:FnScope N ps scope) (e0:Env0 P w K mg base A outer s H) (hl:vs.length=ps.length) (r:Vals vs us)
  (x:InCallC s s.heap.objs.size (bindL (envOfC qual scope s.heap.objs.size f cd).kindOf (ps.zip us) fun _=>none) (cellsFrom (s.heap.objs.size + 1) scope.names []) (bindC (envOfC qual scope s.heap.objs.size f cd).kindOf (ps.zip us) fun _=>none) s1) :
  Inv (cx0 P w K mg base N qual scope f cd A outer s H) [] (L2.start N vs) H s1:=by
 have e1:Env0 P w K mg base { A with handled:=none } outer s H:=⟨e0.frames,e0.mod,e0.bs,e0.bsz,e0.funs,e0.frf,e0.hok,e0.bare⟩
 have I:=kw8 (CX:=CXn) (E:=fun _ _ _=>False) S rfl e1 hl r x
 exact ⟨⟨I.ok.mod,I.ok.kind,I.ok.glob,I.ok.blt,I.ok.above,I.ok.inj,I.ok.has,I.ok.cab,fun z=>(by cases z),Around.frames_deeper e0.frames,I.ok.stk,I.ok.exf,I.ok.bs,I.ok.bsz,I.ok.noex,I.ok.exfs,I.ok.funs,I.ok.frf⟩,I.os,I.bare,I.base,I.loc,I.cell,I.free,I.freeC,I.pin,I.hok,I.len⟩
theorem vxv {P:Program} {w:PySem.World} {K:PySem.W.Frag} {mg:Str->Option Value} {base:Heap} {k:Nat} {f:Addr} {name qual:Str} {params:Arguments} {body:List Stmt} {scope:Scope} {dV kV doc pm cdv ct oc:Value} {an od:Option Addr}
  {osl:Array (Option Value)} {N ps:List Str} {sp:Sp} (lk:K.lookup f=some ⟨oc,od,.func (PySem.W.fnOf name qual params body scope dV kV doc pm an cdv ct),osl⟩) (hcd:PySem.W.codeIn K cdv qual=true) (S:FnScope N ps scope)
  (len:∀ vs H Q E,sp vs H Q E->vs.length=ps.length)
  (hbody:∀ (A:Around) (outer:List Env) (s:Shared) (H:Hp) (vs:List V) (Q:VK),Room0 k (A.deeper (envOfC qual scope s.heap.objs.size f cdv))->sp vs H Q (fun _ _ _=>False) ->
   ∃ t,PSs (cx0 P w K mg base N qual scope f cdv A outer s H) body t/\t { nx:=fun _ H'=>Q .non H',rt:=Q } (L2.start N vs) H) :
  FnOk0 P w K mg base (k + 1) f (PySem.W.fnOf name qual params body scope dV kV doc pm an cdv ct) ps sp:=by
 refine ⟨len,fun A outer s H args us vs Q hr e0 hb r hsp=>?_⟩
 have hl:=len _ _ _ _ hsp
 have KX:K.In s.heap:=e0.mod.kin.keeps fun b o e=>(e0.bs b o e).1
 have lim:s.heap.NoLimit:=e0.mod.nolimit.keeps fun b o e=>(e0.bs b o e).1
 have hkind:∀ y∈ps.zip us,scope.names.lookup y.1=some .local\/(scope.names.lookup y.1=some .cell/\((cellsFrom (s.heap.objs.size + 1) scope.names []).lookup y.1).isSome=true):=fun ⟨n,v⟩ hy=>by
  rcases S.par n (List.of_mem_zip hy).1 with q | q
  ·exact .inl q
  ·exact .inr ⟨q,PySem.W.cellsFrom_some _ _ _ (.inl q)⟩
 refine codeAny_call_function hr.depth (KX _ _ lk) rfl S.co S.gen rfl (PySem.W.codeRec_of KX hcd) (hb _ _ _ _ ?_)
 refine wpAny_newFunctionEnv_cells S.kind hkind fun env he s1 x=>?_
 subst he
 refine ⟨lim.keeps x.toInCall.keep,codeAny_func ?_⟩
 obtain ⟨t,ht,hq⟩:=hbody A outer s H vs Q (hr.deeper _) hsp
 have I:Inv (cx0 P w K mg base N qual scope f cdv A outer s H) [] (L2.start N vs) H s1:=qjr S e0 hl r x
 refine wpAny_mono (ht [] s1 (L2.start N vs) H _ I hq) (fun fl s' hs=>?_) fun e s' hs=>hs.elim
 have fin:∀ {σ':L2.St} {H':Hp} {v:V} {u:Value},Inv (cx0 P w K mg base N qual scope f cdv A outer s H) [] σ' H' s'->RelV v u->Q v H'->CE outer P w H s Q u s' :=
  fun {σ' H' v u} J rv q=>⟨v,H',J.os,J.bare,J.base,J.hok,rv,q⟩
 cases fl with
 | ret u =>
  obtain ⟨v,σ',H',J,rv,q⟩:=hs
  exact fin J rv q
 | next =>
  obtain ⟨σ',H',J,q⟩:=hs
  exact fin (v:=V.non) (u:=Value.none) J rfl q
 | brk =>
  obtain ⟨_,_,_,q⟩:=hs
  exact False.elim q
 | cont =>
  obtain ⟨_,_,_,q⟩:=hs
  exact False.elim q
section
variable {X:Cx} {k:Nat} {f:Addr} {fd:FuncData} {ps:List Str} {sp:Sp} {dvs:List V} {ds:List Value} {x:Str} {p pos:Pos} {e:Expr} {es:List Expr} {t:TA}
theorem vjt {pins:List (Addr×Obj)} {σ:L2.St} {H:Hp} {s:Shared} {Q:VK} {us:List Value} {vs:List V} (F:FnOk0 X.prog X.w X.K X.mg X.base k f fd ps sp) (hr:Room0 k X.A) (hb:Binds X.K fd ps ds) (hd:Vals dvs ds)
  (I:Inv X pins σ H s) (r:Vals vs us) (h:sp (vs++dvs) H Q (fun _ _ _=>False)):wpAny (model X.prog X.w) X.A (call (.ref f) us) (EP X pins σ Q) X.xe s:=by
 have r2:Vals (vs++dvs) (us++ds):=r.append hd
 have hl:(us++ds).length=ps.length:=by rw [<- r2.length];exact F.len _ _ _ _ h
 refine wpAny_call (codeAny_mono (F.run X.A X.stack s H ⟨us,[]⟩ (us++ds) (vs++dvs) Q hr I.env0 (hb s us I.kIn hl) r2 h) fun r s' hq=>?_)
 cases r with
 | error e=>exact False.elim hq
 | ok fl =>
  cases fl with
  | ret u=>exact I.after hq
  | next=>exact False.elim hq
  | brk=>exact False.elim hq
  | cont=>exact False.elim hq
def vzl (P:Program) (w:PySem.World) (K:PySem.W.Frag) (mg:Str->Option Value) (base:Heap) (k:Nat) (x:Str) (ps:List Str) (sp:Sp):Prop :=
 ∃ (f:Addr) (fd:FuncData),FnOk0 P w K mg base k f fd ps sp/\Binds K fd ps []/\PySem.W.keepIn K (.ref f)=true/\mg x=some (.ref f)
theorem vww (D:vzl X.prog X.w X.K X.mg X.base k x ps sp) (hr:Room0 k X.A) (ha:PA X (e :: es) t) (hg:Gl X x:=by rfl) (hdb:(x == ("__debug__":Str))=false:=by decide)
  (he:starEach (e :: es) X.env=(false,eval e X.env) :: starEach es X.env:=by rfl) (hpl:(backTo pos (starEach es X.env)).any (·.1)=false:=by rfl) :
  PE X (.Call (.Name x p) (e :: es) [] pos) (qwr sp [] (fun _ _ _=>False) t):=by
 obtain ⟨f,fd,F,hb,kp,m⟩:=D
 intro pins s σ H Q I h
 refine wpAny_Call_Name_kw (jxd I hg m ?_ hdb)
 refine PySem.W.callWith_K (h₀:=X.base) I.ok.mod.kin kp (thn (ha pos pins s σ H _ I h) fun us s1 ⟨vs,H1,I1,r,q⟩=>⟨I1.kIn,?_⟩) he hpl
 exact vjt F hr hb .nil I1 r q
end
theorem vv1 {P:Program} {w:PySem.World} {K:PySem.W.Frag} {mg:Str->Option Value} {base:Heap} {x qual:Str} {st:Stmt} {f:Addr} {fd:FuncData} {N ps:List Str} {k:Nat} {sp:Sp} (F:Fun K x qual st f fd) (S:FnScope N ps (jj4 st)) (len:∀ vs H Q E,sp vs H Q E->vs.length=ps.length)
  (hbody:∀ (cdv:Value) (A:Around) (outer:List Env) (s:Shared) (H:Hp) (vs:List V) (Q:VK),Room0 k (A.deeper (envOfC qual (jj4 st) s.heap.objs.size f cdv))->sp vs H Q (fun _ _ _=>False) ->
   ∃ t,PSs (cx0 P w K mg base N qual (jj4 st) f cdv A outer s H) (jjl st) t/\t { nx:=fun _ H'=>Q .non H',rt:=Q } (L2.start N vs) H):FnOk0 P w K mg base (k + 1) f fd ps sp:=by
 obtain ⟨oc,od,kV,doc,pm,an,cdv,ct,osl,rfl,lk,hcd⟩:=F.ex
 exact vxv lk hcd S len fun A outer s H vs Q hr hsp=>hbody cdv A outer s H vs Q hr hsp
end L3
namespace Q
open PySem PySem.Spec PyProof.Rows L2 L3
section
variable {X:Cx} {Z:Fx0} {q:Bool} {cs:List Ex} {e:Expr} {es:List Expr} {pos p:Pos} {x:Str} {ps:List Str} {k n:Nat} {f:Fn}
theorem vk1 (D:vzl X.prog X.w X.K X.mg X.base k x ps (spF Z.K Z.mg n f)) (hr:Room0 k X.A) (ha:QA X ⟨Z.K,Z.mg,fun _ _ _=>False⟩ q cs (e :: es)) (hn:cs.length=n:=by rfl) (hg:Gl X x:=by rfl) (hdb:(x == ("__debug__":Str))=false:=by decide)
  (he:starEach (e :: es) X.env=(false,eval e X.env) :: starEach es X.env:=by rfl) (hpl:(backTo pos (starEach es X.env)).any (·.1)=false:=by rfl) :
  QE X ⟨Z.K,Z.mg,fun _ _ _=>False⟩ false (jjv f cs) (.Call (.Name x p) (e :: es) [] pos):=jky (vww D hr ha hg hdb he hpl) fun σ H Q h_z=>ex8 h_z fun E L r m w hc xc kk =>
 qz9 (Z:=⟨Z.K,Z.mg,fun _ _ _=>False⟩) m w (show bnd (jv0 cs E) _=some r from hc) xc fun E1 ys h1 hl xs L1 H1 e1 m1 w1 st sm=>by
  rw [List.append_nil]
  have hlen:xs.length=n:=by rw [<- hn,<- hl,<- e1,List.length_map]
  cases hf:f (letAll ys) with
  | none=>rw [hf] at h1;cases h1
  | some fr =>
   rw [hf] at h1
   obtain ⟨wl,sl⟩:=jx1 w1
   have ev:xs.map Sl.v=(xs.map Sl.let).map Sl.v:=by rw [List.map_map];rfl
   rw [ev]
   refine ⟨xs.map Sl.let,fr,rfl,by rw [List.length_map];exact hlen,wl.left,by rw [<- e1] at hf;rw [kqu];exact hf,fun E' c ee C H' hm s'=>?_,fun E' a ee y H' e2 e3 w' s'=>?_⟩
   ·subst ee
    cases oq9 h1
    obtain ⟨w2,s2⟩:=stay wl s' ⟨fun _ z=>(nomatch z),List.nodup_nil,fun _ z=>(nomatch z)⟩
    exact xc _ _ rfl C L1 H' hm m1 w2 ((st.trans sl).trans s2)
   ·subst ee
    cases oq9 h1
    obtain ⟨w2,s2⟩:=stay wl s' w'
    exact kk _ _ rfl y L1 H' e2 e3 m1 w2 ((st.trans sl).trans s2) fun hq=>nomatch hq
end
end Q
noncomputable section
namespace Q
open PySem PySem.Spec PyProof.Rows L2 L3
section
variable {X:Cx} {pins:List (Addr×Obj)} {σ:L2.St} {H:Hp} {s:Shared} {a b:Addr} {es:List Ent} {A:Around} {E:Value->Shared->Prop} {k:Kd}
mutual
theorem kj2 (I:Inv X pins σ H s):∀ {d:D} {v:V} {u:Value},PuR X.K H d v->RelV v u->jj9 s.heap d u
 | .non,_,_,h,r=>by unfold PuR at h;rw [h] at r;unfold jj9;exact r
 | .int _,_,_,h,r=>by unfold PuR at h;rw [h] at r;unfold jj9;exact r
 | .tup ds,_,_,h,r=>by
  unfold PuR at h
  obtain ⟨a,xs,rfl,q,ra⟩:=h
  cases r
  obtain ⟨its,rv,p,_⟩:=I.tuple q
  unfold jj9
  exact ⟨a,its,rfl,p,purs_creps I ra rv⟩
 | .bl _,_,_,h,_=>by unfold PuR at h;exact h.elim
 | .str _,_,_,h,_=>by unfold PuR at h;exact h.elim
 | .lst _,_,_,h,_=>by unfold PuR at h;exact h.elim
 | .dct _,_,_,h,_=>by unfold PuR at h;exact h.elim
 | .obj _ _,_,_,h,_=>by unfold PuR at h;exact h.elim
theorem purs_creps (I:Inv X pins σ H s):∀ {ds:List D} {xs:List V} {us:List Value},PuRs X.K H ds xs->Vals xs us->CReps s.heap ds us
 | [],_,_,h,r=>by unfold PuRs at h;rw [h] at r;cases r;unfold CReps;rfl
 | d :: ds,_,_,h,r=>by
  unfold PuRs at h
  obtain ⟨x,rr,rfl,h1,h2⟩:=h
  cases r with
  | cons r1 r2 =>
   unfold CReps
   exact ⟨_,_,rfl,kj2 I h1 r1,purs_creps I h2 r2⟩
end
mutual
theorem qzk {K:PySem.W.Frag} {g:Bool}:∀ {n:Nat} {d:D} {v:V} {as:List Addr},jvf n d=true->RepL K H g d v as->PuR K H d v
 | _,.non,_,_,_,h=>by unfold RepL at h;unfold PuR;exact h.1
 | _,.int _,_,_,_,h=>by unfold RepL at h;unfold PuR;exact h.1
 | 0,.tup _,_,_,hk,_=>by unfold jvf at hk;cases hk
 | n + 1,.tup ds,_,_,hk,h=>by
  unfold jvf at hk
  unfold RepL at h
  obtain ⟨a,xs,e,q,ra⟩:=h
  unfold PuR
  exact ⟨a,xs,e,q,purs_of hk ra⟩
 | n,.bl _,_,_,hk,_=>by cases n<;>(unfold jvf at hk;cases hk)
 | n,.str _,_,_,hk,_=>by cases n<;>(unfold jvf at hk;cases hk)
 | n,.lst _,_,_,hk,_=>by cases n<;>(unfold jvf at hk;cases hk)
 | n,.dct _,_,_,hk,_=>by cases n<;>(unfold jvf at hk;cases hk)
 | n,.obj _ _,_,_,hk,_=>by cases n<;>(unfold jvf at hk;cases hk)
theorem purs_of {K:PySem.W.Frag} {g:Bool}:∀ {n:Nat} {ds:List D} {xs:List V} {as:List Addr},keyDs n ds=true->RepA K H g ds xs as->PuRs K H ds xs
 | _,[],_,_,_,h=>by unfold RepA at h;unfold PuRs;exact h.1
 | n,d :: ds,_,_,hk,h=>by
  unfold keyDs at hk
  rw [Bool.and_eq_true] at hk
  unfold RepA at h
  obtain ⟨x,r,bs,cs,rfl,rfl,h1,h2⟩:=h
  unfold PuRs
  exact ⟨x,r,rfl,qzk hk.1 h1,purs_of hk.2 h2⟩
end
theorem vj1 {ep:Nat} (I:Inv X pins σ H s) (h:H a=some (jxk a es ep)) (hn:(es.map (·.1)).Nodup) (hk:∀ x∈es,PuR X.K H x.1.1 (.ref x.2.1)):s.heap.DictOfH (kz0 X.prog X.w) a es:=by
 obtain ⟨⟨o,ds,h1,h2,h3,h4⟩,_⟩:=(show ObjOk X.prog X.w H s.heap a (jxk a es ep) from I.hok a _ h)
 exact ⟨o,ds,ep,h1,h2,h3,h4,fun x hx=>kj2 I (hk x hx) rfl,hn⟩
theorem vj6:∀ (es:List Ent) (k:Kd),(atKey es k).isSome=decide (k.1∈es.map (·.1.1))
 | [],k=>by simp [atKey]
 | x :: es,k=>by
  have ih:=vj6 es k
  by_cases h:x.1=k
  ·have:k.1∈(x :: es).map (·.1.1):=by rw [<- h];simp
   rw [decide_eq_true this]
   simp [atKey,List.find?_cons,h]
  ·have e1:atKey (x :: es) k=atKey es k:=by simp [atKey,List.find?_cons,h]
   have e2:(k.1∈(x :: es).map (·.1.1))↔k.1∈es.map (·.1.1):=by
    rw [List.map_cons,List.mem_cons]
    exact ⟨fun z=>z.elim (fun q=>absurd (Subtype.ext q.symm) h) id,.inr⟩
   rw [e1,ih]
   exact decide_eq_decide.mpr e2.symm
theorem vju (hu:A.units + 64 < cLine):(kz0 X.prog X.w).room A.in1:=by show A.units + 1 + 40 < cLine;omega
end
theorem vj2 {K:PySem.W.Frag} {H:Hp} {y:Sl} {kvs:List (D×D)} (ok:y.ok K H) (hd:y.d=.dct kvs) (hu:unm kvs=true):∃ a xs,y.v=.ref a/\DcN K H a (kvs.map (·.1)) xs:=by
 have h:=RepO.wk ok
 rw [hd] at h
 unfold RepL at h
 obtain ⟨a,xs,bs,e,_,q,_⟩:=h
 exact ⟨a,xs,e,DcA.un q hu⟩
theorem kq0 {K:PySem.W.Frag} {H:Hp} {x:Sl} (ok:x.ok K H) (hk:jwa x.d=true):∃ b,x.v=.ref b/\PuR K H x.d (.ref b):=by
 unfold jwa at hk
 rw [Bool.and_eq_true] at hk
 have h:=qzk hk.1 (RepO.wk ok)
 cases hd:x.d with
 | tup ds =>
  rw [hd] at h
  have h':=h
  unfold PuR at h
  obtain ⟨a,xs,e,_⟩:=h
  exact ⟨a,e,e▸h'⟩
 | _=>rw [hd] at hk;cases hk.2
theorem vqm {P:Program} {w:PySem.World} {H:Hp} (h:Heap):ObjOk P w H (h.push { cls:=.type "dict",data:=.dict #[] }) h.objs.size (jxk h.objs.size [] 0) :=
 ⟨⟨_,#[],Heap.get?_push_size _ rfl,⟨rfl,rfl,rfl⟩,rfl,rfl⟩,⟨_,Heap.get?_push_size _ rfl⟩,fun h1 h2 ⟨o,ds,a1,a2⟩ k=>⟨o,ds,k o a1,a2⟩⟩
end Q
noncomputable section
namespace Q
open PySem PySem.Spec PyProof.Rows L2 L3
section
variable {K:PySem.W.Frag} {H:Hp} {g:Bool} {k:Kd} {b:Addr} {d:D} {x:V} {r:Value} {cs:List Addr}
theorem kvl {q : D} (hx : RepL K H g d x cs) : ∀ {kvs : List (D × D)} {xs : List V} {bs : List Addr}, RepP K H g kvs xs bs -> RepP K H g (kvs ++ [(q, d)]) (xs ++ [x]) (bs ++ cs)
  | [], _, _, h => by
    unfold RepP at h
    obtain ⟨rfl, rfl⟩ := h
    show RepP K H g [(q, d)] [x] cs
    unfold RepP
    exact ⟨x, [], cs, [], rfl, by simp, hx, by unfold RepP; exact ⟨rfl, rfl⟩⟩
  | (p, e) :: kvs, _, _, h => by
    unfold RepP at h
    obtain ⟨y, rr, b1, b2, rfl, rfl, h1, h2⟩ := h
    rw [List.cons_append]
    unfold RepP
    exact ⟨y, rr ++ [x], b1, b2 ++ cs, rfl, by rw [List.append_assoc], h1, kvl hx h2⟩
theorem kv7:∀ {xs:List V} {us:List Value},Vals xs us->RelV x r->Vals (xs++[x]) (us++[r])
 | _,_,.nil,h=>.cons h .nil
 | _,_,.cons a t,h=>.cons a (kv7 t h)
end
theorem qq5 {K:PySem.W.Frag} {H:Hp} {T L:Ls} {i:Nat} {y:Sl} {l:Addr} {es es':List Ent} {ep ep':Nat} {xs':List V} {bs cs:List Addr} {kvs':List (D×D)} (w:World K H (T++L)) (hy:L[i]?=some (some y)) (hH:H l=some (jxk l es ep)) (ho:y.o=.rt) (ha:y.as=l :: bs) (hv:y.v=.ref l)
  (r:RepP K H true kvs' xs' cs) (hc:∀ a∈cs,a∈bs\/a∈jjb T\/a∈jjk T) (hs:(l == sysModules)=false) (h2:es'.length<=sizeLine) (h3:(es'.map (·.1)).Nodup) (h4:kvs'.map (·.1)=es'.map (·.1.1)) (h5:∀ n∈es',PuR K H n.1.1 (.ref n.2.1)) (h6:Vals xs' (es'.map (·.2.2))) :
  World K (upd H l (jxk l es' ep')) (L.set i (some ⟨.rt,.dct kvs',y.v,l :: cs⟩))/\Step H (T++L) (upd H l (jxk l es' ep')) (L.set i (some ⟨.rt,.dct kvs',y.v,l :: cs⟩)):=by
 have hl:l∈y.own:=by unfold Sl.own;rw [ho,ha];simp
 have oL:l∈jjb L:=mem_owned.mpr ⟨y,jkr hy,hl⟩
 have oy:l∈jjb (T++L):=by rw [jj5];exact lr9 _ oL
 have nd:=w.nd
 rw [jj5,List.nodup_append] at nd
 have nT:l∉jjb T:=fun z=>nd.2.2 l z l oL rfl
 have nF:l∉jjk T:=fun z=>w.ds l oy (by rw [jja];exact ll9 _ z)
 have nb:l∉bs:=fun z=>by
  have:l∈y.frz:=by unfold Sl.frz;rw [ho,ha];exact z
  exact w.ds l oy (by rw [jja];exact lr9 _ (mem_frozen.mpr ⟨y,jkr hy,this⟩))
 have nc:l∉cs:=fun z=>by
  rcases hc l z with q | q | q
  ·exact nb q
  ·exact nT q
  ·exact nF q
 have kp:Kp H (upd H l (jxk l es' ep')) cs:=by
  have k2:∀ a o,H a=some o->a≠l->upd H l (jxk l es' ep') a=some o:=fun a o e ne=>by rw [jjw ne];exact e
  refine ⟨fun a zs e=>k2 a _ e fun z=>?_,fun a o u e=>k2 a _ e fun z=>?_,fun a ha o e=>k2 a o e fun z=>nc (z▸ha)⟩
  ·subst z;rw [hH] at e;cases e
  ·subst z;rw [hH] at e;cases e
 refine World.writeAt w hy hl (y':=⟨.rt,.dct kvs',y.v,l :: cs⟩) ⟨l,xs',cs,hv,r.kp kp,.inl ⟨es',ep',jkd,hs,h2,h3,h4,fun n hn=>PuR.kp kp (h5 n hn),h6⟩,rfl⟩ (by simp [Sl.own]) (fun a h=>?_) (fun a h=>?_) (fun a h z=>?_)
 ·have:a=l:=by simpa [Sl.own] using h
  subst this;exact .inl hl
 ·rcases hc a (by simpa [Sl.frz] using h) with q | q
  ·exact .inl (by rw [ha];exact lc9 _ q)
  ·exact .inr q
 ·have:a=l:=by simpa [Sl.own] using h
  subst this;exact nc (by simpa [Sl.frz] using z)
end Q
noncomputable section
namespace Q
open PySem PySem.Spec PyProof.Rows L2 L3
def qza (h:Heap) (a:Addr) (ts:List DictEntry) (ep:Nat):Prop:=∃ ob arr,h.get? a=some ob/\ob.ExactDict/\ob.data=.dict arr ep/\arr.toList=ts
theorem vqn {X:Cx} {pins:List (Addr×Obj)} {σ:L2.St} {H:Hp} {s:Shared} {a:Addr} {es:List Ent} {ep:Nat} (I:Inv X pins σ H s) (h:H a=some (jxk a es ep)):qza s.heap a (es.map fun x=>(⟨kqv x.1.1,.ref x.2.1,x.2.2⟩:DictEntry)) ep:=by
 obtain ⟨⟨o,ds,h1,h2,h3,h4⟩,_⟩:=(show ObjOk X.prog X.w H s.heap a (jxk a es ep) from I.hok a _ h)
 exact ⟨o,ds,h1,h2,h3,h4⟩
mutual
theorem qks {K:PySem.W.Frag} {H:Hp}:∀ {d:D} {v:V},PuR K H d v->RepL K H true d v []
 | .non,_,h=>by unfold PuR at h;unfold RepL;exact ⟨h,rfl⟩
 | .int _,_,h=>by unfold PuR at h;unfold RepL;exact ⟨h,rfl⟩
 | .tup ds,_,h=>by
  unfold PuR at h
  obtain ⟨a,xs,e,s,r⟩:=h
  unfold RepL
  exact ⟨a,xs,e,s,rep_purs r⟩
 | .bl _,_,h=>by unfold PuR at h;exact h.elim
 | .str _,_,h=>by unfold PuR at h;exact h.elim
 | .lst _,_,h=>by unfold PuR at h;exact h.elim
 | .dct _,_,h=>by unfold PuR at h;exact h.elim
 | .obj _ _,_,h=>by unfold PuR at h;exact h.elim
theorem rep_purs {K:PySem.W.Frag} {H:Hp}:∀ {ds:List D} {xs:List V},PuRs K H ds xs->RepA K H true ds xs []
 | [],_,h=>by unfold PuRs at h;unfold RepA;exact ⟨h,rfl⟩
 | d :: ds,_,h=>by
  unfold PuRs at h
  obtain ⟨x,r,e,h1,h2⟩:=h
  unfold RepA
  exact ⟨x,r,[],[],e,rfl,qks h1,rep_purs h2⟩
end
end Q
noncomputable section
namespace Q
open PySem PySem.Spec PyProof.Rows L2 L3
def vxt (K:PySem.W.Frag) (p:Addr) (Q:VK) (ps:List (V×V)) (H2:Hp):Prop:=∃ x y,ps=[(x,y)]/\H2 p=some (jxk p [] 0)/\∃ (b:Addr) (kd:Kd),x=.ref b/\PuR K H2 kd.1 (.ref b)/\∀ r ep',RelV y r->Q (.ref p) (upd H2 p (jxk p [(kd,b,r)] ep'))
abbrev vzp (K:PySem.W.Frag) (tk tv:TE):TE:=fun σ H Q=>∀ p,H p=none->(p == sysModules)=false->tk σ (upd H p (jxk p [] 0)) fun x H1=>tv σ H1 fun y H2=>vxt K p Q [(x,y)] H2
theorem vkl {X:Cx} {K:PySem.W.Frag} {pos:Pos} {k v:Expr} {tk tv:TE} (hu:X.A.units + 64 < cLine) (hk:PE X k tk) (hv:PE X v tv) (hK:X.K=K:=by rfl):PE X (.Dict [some k] [v] pos) (vzp K tk tv):=by
 subst hK
 intro pins s σ H Q I h
 have hn:=I.hok.fresh (Nat.le_refl s.heap.objs.size)
 have I1:=I.laid (a:=s.heap.objs.size) (o:=jxk s.heap.objs.size [] 0) (h':=s.heap.push { cls:=.type "dict",data:=.dict #[] }) (t':=s.toks) (fun _ _ q=>Heap.get?_push_of_some _ q) (Nat.le_refl _) (vqm s.heap)
 refine wpAny_Dict_any rfl rfl (by simp) (by simp) (thn (qxa hk hv vke pins _ σ _ (vxt X.K s.heap.objs.size Q) I1 (h _ hn (beq_false_of_ne (Nat.ne_of_gt I.big)))) fun vs s2 hz=>?_)
 obtain ⟨ps,H2,I2,rel,x,y,ep,e,b,kd,ex,pk,q⟩:=hz
 subst ep ex
 cases rel with
 | @cons p1 p2 t1 t2 h1 h2 =>
  cases h2
  obtain ⟨u,r⟩:=p2
  obtain rfl:u=Value.ref b:=h1.1
  have h1:RelV y r:=h1.2
  unfold storeAll
  rw [List.forIn_cons]
  refine wpAny_bind (wpAny_bind (wpAny_dictSet_heap (knd:=kz0 X.prog X.w) (xs:=[]) (k:=kd) (by show X.A.units + 40 < cLine;omega) (kj2 I2 pk rfl) (vj1 I2 e List.nodup_nil (fun _ z=>absurd z List.not_mem_nil)) (fun h' dd hs=>wpAny_pure ?_) (Nat.zero_le _)))
  show wpAny (model X.prog X.w) X.A (forIn [] PUnit.unit _) _ _ _
  rw [List.forIn_nil]
  refine wpAny_pure ?_
  obtain ⟨o,ds,ep',hq,g2,g3,g4,_,_⟩:=dd
  exact ⟨.ref s.heap.objs.size,_,qvw (ob:=jxk s.heap.objs.size [(kd,b,r)] ep') I2 (by rw [e];exact True.intro) hs ⟨o,hq⟩ ⟨⟨o,ds,hq,g2,g3,g4⟩,⟨o,hq⟩,fun h1 h2 ⟨o,ds,a1,a2⟩ k=>⟨o,ds,k o a1,a2⟩⟩,rfl,q r ep' h1⟩
section
variable {X:Cx} {Z:Fx0} {q:Bool} {kc vc:Ex} {ke ve:Expr} {pos:Pos}
theorem vwd (hu:X.A.units + 64 < cLine) (hk:QE X Z q kc ke) (hv:QE X Z q vc ve) (hK:X.K=Z.K:=by rfl):QE X Z q (qw7 kc vc) (.Dict [some ke] [ve] pos):=jky (vkl hu hk hv hK) fun σ H Q h_z=>ex8 h_z fun E L r m w hc xc k=>by
 intro p hp hs
 have sm0:jw1 H (upd H p (jxk p [] 0)):=jk6 hp
 have st0:Step H L (upd H p (jxk p [] 0)) L:=⟨fun b ob h _=>sm0 b ob h,fun _ h=>.inl h,fun _ h=>.inl h⟩
 have nL:p∉jjb L:=fun z=>w.own_some z hp
 have nF:p∉jjk L:=fun z=>w.frz_some z hp
 have w0:World Z.K (upd H p (jxk p [] 0)) L:=⟨fun t ht=>RepO.kp (w.ok t ht) (Kp.of_same sm0),w.nd,w.ds⟩
 have wd:World Z.K (upd H p (jxk p [] 0)) ([some ⟨.rt,.dct [],.ref p,[p]⟩]++L):=by
  refine World.cons w0 ⟨p,[],[],rfl,by unfold RepP;exact ⟨rfl,rfl⟩,.inl ⟨[],0,jkd,hs,Nat.zero_le _,List.nodup_nil,rfl,fun _ z=>absurd z List.not_mem_nil,Paired.nil⟩,rfl⟩ (by simp [Sl.own]) (fun b hb ho=>?_) (fun b hb ho=>?_) (fun b hb=>by simp [Sl.frz] at hb) (fun b _ hb=>by simp [Sl.frz] at hb)
  ·have:b=p:=by simpa [Sl.own] using hb
   exact nL (this▸ho)
  ·have:b=p:=by simpa [Sl.own] using hb
   exact nF (this▸ho)
 refine kx2 m w0 (show bnd (kc E) _=some r from hc) (xc.step st0) fun E1 s1 h1 x L1 H1 e1 e2 m1 w1 st1 sm1=>?_
 obtain ⟨wd1,sd1⟩:=vzg wd st1 w1
 have s1':Step H L H1 L1:=(st0.trans st1).trans Step.drop
 refine kx2 m1 w1.tail (show bnd (vc E1) _=some r from h1) (xc.step s1') fun E2 s2 h2 y L2 H2 e3 e4 m2 w2 st2 sm2=>?_
 have pm:(([some ⟨.rt,.dct [],.ref p,[p]⟩]:Ls)++(some x :: L1)).Perm (([some x,some ⟨.rt,.dct [],.ref p,[p]⟩]:Ls)++L1):=List.Perm.swap _ _ _
 obtain ⟨wd2,sd2⟩:=vzg (wd1.perm pm) st2 w2
 have pm2:(([some x,some ⟨.rt,.dct [],.ref p,[p]⟩]:Ls)++(some y :: L2)).Perm (([some x,some y]:Ls)++(some ⟨.rt,.dct [],.ref p,[p]⟩ :: L2)):=List.Perm.cons _ (List.Perm.swap _ _ _)
 have w3:=wd2.perm pm2
 have st3:Step (upd H p (jxk p [] 0)) ([some ⟨.rt,.dct [],.ref p,[p]⟩]++L) H2 ([some x,some y]++(some ⟨.rt,.dct [],.ref p,[p]⟩ :: L2)):=(sd1.perm (List.Perm.refl _) pm).trans (sd2.perm (List.Perm.refl _) pm2)
 by_cases hkt:jwa s1.2=true
 ·rw [if_pos hkt] at h2
  cases oq9 h2
  have okx:x.ok Z.K H2:=w3.ok x (by simp)
  have hkz:jwa x.d=true:=by rw [e2];exact hkt
  obtain ⟨b,eb,pb⟩:=kq0 okx hkz
  have hk6:jvf 6 x.d=true:=by unfold jwa at hkz;rw [Bool.and_eq_true] at hkz;exact hkz.1
  obtain ⟨a,xs0,bs0,ea,_,q4,_⟩:=(show RepR Z.K H2 (.dct []) (.ref p) [p] from w3.ok ⟨.rt,.dct [],.ref p,[p]⟩ (by simp))
  obtain ⟨es,ep,g1,_⟩:=DcA.un (kvs:=[]) q4 rfl
  have hH2:H2 p=some (jxk p [] 0):=by
   have n1:p∉jjb (some x :: L1):=fun z=>by
    rcases st1.own p z with z | z
    ·exact nL z
    ·rw [jkd] at z;cases z
   have hH1:H1 p=some (jxk p [] 0):=st1.keep p _ jkd nL
   exact st2.keep p _ hH1 fun z=>n1 (by rw [jj7];exact lr9 _ z)
  have rv:RepL Z.K H2 true s2.2 y.v y.as:=by rw [<- e4];exact RepO.wk (w3.ok y (by simp))
  refine ⟨x.v,y.v,rfl,hH2,b,⟨x.d,hk6⟩,eb,pb,fun rr ep' hrr=>?_⟩
  obtain ⟨w4,st4⟩:=qq5 (ep':=ep') (es':=[(⟨x.d,hk6⟩,b,rr)]) (xs':=[y.v]) (cs:=y.as) (kvs':=[(x.d,s2.2)]) (bs:=[]) (i:=0) (y:=⟨.rt,.dct [],.ref p,[p]⟩) w3 rfl hH2 rfl rfl rfl
   (by unfold RepP;exact ⟨y.v,[],y.as,[],rfl,by simp,rv,by unfold RepP;exact ⟨rfl,rfl⟩⟩)
   (fun c hc'=>.inr (by
    rcases Sl.as_of hc' with z | z
    ·exact .inl (by simpa using .inr z)
    ·exact .inr (by simpa using .inr z))) hs (by show (1:Nat)<=sizeLine;decide) (List.nodup_cons.mpr ⟨List.not_mem_nil,List.nodup_nil⟩) rfl (fun n hn=>by rw [List.mem_singleton.mp hn];exact pb) (.cons hrr .nil)
  have stA:Step (upd H p (jxk p [] 0)) ([some ⟨.rt,.dct [],.ref p,[p]⟩]++L) _ _:=st3.trans st4
  refine k _ _ rfl ⟨.rt,.dct [(x.d,s2.2)],.ref p,p :: y.as⟩ L2 _ rfl (congrArg (fun d=>D.dct [(d,s2.2)]) e2) m2 w4 ?_ fun hq=>?_
  ·refine ⟨fun c ob h hn=>stA.keep c ob (sm0 c ob h) fun z=>?_,fun c hc'=>?_,fun c hc'=>?_⟩
   ·rw [List.singleton_append,jj7] at z
    rcases List.mem_append.mp z with z | z
    ·have:c=p:=by simpa [Sl.own] using z
     rw [this,hp] at h;cases h
    ·exact hn z
   ·rcases stA.own c hc' with z | z
    ·rw [List.singleton_append,jj7] at z
     rcases List.mem_append.mp z with z | z
     ·have:c=p:=by simpa [Sl.own] using z
      exact .inr (this▸hp)
     ·exact .inl z
    ·exact .inr (by
      cases hc0:H c with
      | none=>rfl
      | some ob=>rw [sm0 c ob hc0] at z;cases z)
   ·have hcp:c=p->H c=none:=fun z=>z▸hp
    rcases stA.frz c hc' with z | z | z
    ·rw [List.singleton_append,jjg] at z
     rcases List.mem_append.mp z with z | z
     ·simp [Sl.frz] at z
     ·exact .inl z
    ·rw [List.singleton_append,jj7] at z
     rcases List.mem_append.mp z with z | z
     ·have:c=p:=by simpa [Sl.own] using z
      exact .inr (.inr (this▸hp))
     ·exact .inr (.inl z)
    ·exact .inr (.inr (by
      cases hc0:H c with
      | none=>rfl
      | some ob=>rw [sm0 c ob hc0] at z;cases z))
  ·refine ⟨fun c ob h=>?_,fun c hc'=>?_⟩
   ·have hne:c≠p:=fun z=>by rw [z,hp] at h;cases h
    rw [jjw hne]
    exact (sm2 hq).1 c ob ((sm1 hq).1 c ob (sm0 c ob h))
   ·have:c=p:=by simpa [Sl.own] using hc'
    exact this▸hp
 ·rw [if_neg hkt] at h2;cases h2
end
end Q
noncomputable section
namespace Q
open PySem PySem.Spec PyProof.Rows L2 L3
section
variable {prog:Program} {w:PySem.World} {A:Around} {E:Value->Shared->Prop} {s:Shared} {a it:Addr} {ts:List DictEntry} {ep i:Nat}
theorem qv6 {Q:Value->Shared->Prop} (hs:(a == sysModules)=false) (hd:qza s.heap a ts ep)
  (q:Q (.ref s.heap.objs.size) { s with heap:=s.heap.push { cls:=.type "dict_keyiterator",data:=.fields #[.ref a,.int 0 0,.int ts.length 0,.int ep 0] } }):wpAny (model prog w) A (pyIter (.ref a)) Q E s:=by
 obtain ⟨ob,arr,g1,g2,g3,g4⟩:=hd
 have ty:s.TypeIs (.ref a) "dict":=⟨ob,g1,g2.1⟩
 have hl:arr.size=ts.length:=by rw [<- g4];simp
 refine wpAny_pyIter_slot ty F.slot_dict_iter (wpAny_call_entry F.slot_dict_iter ty F.entry_dict_iter ?_ (F.args_dict_iter_1 _))
 unfold Builtin.«dict.__iter__» Builtin.Dict.dictSlotNone
 refine wpAny_bind (wpAny_bind (wpAny_notOrdered_dict ty ?_))
 show wpAny _ _ (pure (Value.ref a)) _ _ s
 refine wpAny_pure ?_
 show wpAny _ _ (Builtin.Dict.showsAll a >>= _) _ _ s
 unfold Builtin.Dict.showsAll
 rw [if_neg (by rw [hs];exact Bool.false_ne_true)]
 refine wpAny_bind (wpAny_pure (wpAny_bind (wpAny_dictEntries g1 g3 (wpAny_bind (wpAny_dictEpoch g1 g3 ?_)))))
 refine wpAny_bind (wpAny_newObj_type (wpAny_pure ⟨_,rfl,"dict_keyiterator",_,⟨_,Heap.get?_push_size _ rfl,rfl⟩,F.slot_dict_keyiterator_next.lookup,?_⟩))
 simpa [rawInt,hl] using q
theorem qv5 {en:DictEntry} {Q:Option Value->Shared->Prop} (hi:s.heap.IsKeyIter it a i ts.length ep) (hd:qza s.heap a ts ep) (hx:ts[i]?=some en)
  (q:∀ h',h'.IsKeyIter it a (i + 1) ts.length ep->Heap.SameBut it s.heap h'->Q (some en.key) { s with heap:=h' }):wpAny (model prog w) A (pyNext (.ref it)) Q E s:=by
 have ty:=hi.typeIs
 obtain ⟨o,h1,h2,h3⟩:=hi
 obtain ⟨ob,arr,g1,g2,g3,g4⟩:=hd
 have hl:arr.size=ts.length:=by rw [<- g4];simp
 have hlt:i < arr.size:=by rw [hl];exact (List.getElem?_eq_some_iff.mp hx).1
 have hen:arr[i]=en:=by
  rw [<- g4,Array.getElem?_toList,Array.getElem?_eq_getElem hlt] at hx
  exact oq9 hx
 have ow:Builtin.Dict_items.ownsTuple "dict_keyiterator"=false:=by decide
 unfold pyNext
 refine wpAny_bind (wpAny_attempt (wpAny_callSpecial?_slot (name:=Str.ofString "__next__") ty F.slot_dict_keyiterator_next (wpAny_call_entry F.slot_dict_keyiterator_next ty F.entry_dict_keyiterator_next ?_ (F.args_dict_keyiterator_next_1 _))))
 refine wpAny_bind (wpAny_pure (wpAny_bind (wpAny_bind ?_)))
 first
  | refine wpAny_bind (wpAny_typeNameOfWhole_keyiter ty (wpAny_pure (wpAny_bind (wpAny_fieldsOf h1 h3 ?_))))
  | refine wpAny_bind (wpAny_typeNameOf_keyiter ty (wpAny_pure (wpAny_bind (wpAny_fieldsOf h1 h3 ?_))))
 simp only [ow,Bool.false_eq_true,if_false]
 show wpAny _ _ (if (Value.ref a == Value.none)=true then _ else _) _ _ s
 rw [if_neg (show ¬ ((Value.ref a == Value.none)=true) from fun z=>nomatch z)]
 refine wpAny_bind (wpAny_pure (wpAny_bind (wpAny_dictEntries g1 g3 ?_)))
 rw [if_neg (by rw [hl];simp)]
 refine wpAny_bind (wpAny_pure (wpAny_bind (wpAny_dictEpoch g1 g3 ?_)))
 rw [if_neg (by simp)]
 refine wpAny_pure ?_
 simp only [show ¬ ((i:Int) < 0) from by omega,if_false,Int.toNat_natCast,Array.getElem?_eq_getElem hlt,hen]
 refine wpAny_bind ?_
 first
  | refine wpAny_bind (wpAny_typeNameOfWhole_keyiter ty (wpAny_pure (wpAny_bind (wpAny_isOneOf_keyiter ty ?_))))
  | refine wpAny_bind (wpAny_typeNameOf_keyiter ty (wpAny_pure (wpAny_bind (wpAny_isOneOf_keyiter ty ?_))))
 show wpAny _ _ (setField (.ref it) 1 (rawInt ((i:Int) + 1)) >>= _) _ _ s
 refine wpAny_bind (wpAny_setField h1 h3 (by simp) ?_)
 have hit':(s.heap.update it (Obj.mapFields (·.setIfInBounds 1 (rawInt ((i:Int) + 1))))).IsKeyIter it a (i + 1) ts.length ep:=⟨_,Heap.get?_update_self _ h1 (Obj.isFreed_of_fields (Obj.data_mapFields h3 _)),(Obj.cls_mapFields ..).trans h2,by rw [Obj.data_mapFields h3];simp [rawInt]⟩
 refine wpAny_bind (wpAny_holding (wpAny_bind (wpAny_isOneOf_keyiter (s:={ s with heap:=s.heap.update it (Obj.mapFields (·.setIfInBounds 1 (rawInt ((i:Int) + 1)))) }) hit'.typeIs ?_)))
 show wpAny _ _ (pure en.key) _ _ _
 exact wpAny_pure (wpAny_pure ⟨_,rfl,wpAny_pure (q _ hit' (Heap.SameBut.update ..))⟩)
theorem qv4 {Q:Option Value->Shared->Prop} (hh:A.handled=none) (hi:s.heap.IsKeyIter it a i ts.length ep) (hd:qza s.heap a ts ep) (hx:ts.length<=i) (q:∀ h',Heap.ExtBut it s.heap h'->Q none { s with heap:=h' }):wpAny (model prog w) A (pyNext (.ref it)) Q E s:=by
 have ty:=hi.typeIs
 obtain ⟨o,h1,h2,h3⟩:=hi
 obtain ⟨ob,arr,g1,g2,g3,g4⟩:=hd
 have hl:arr.size=ts.length:=by rw [<- g4];simp
 have ow:Builtin.Dict_items.ownsTuple "dict_keyiterator"=false:=by decide
 unfold pyNext
 refine wpAny_bind (wpAny_attempt (wpAny_callSpecial?_slot (name:=Str.ofString "__next__") ty F.slot_dict_keyiterator_next (wpAny_call_entry F.slot_dict_keyiterator_next ty F.entry_dict_keyiterator_next ?_ (F.args_dict_keyiterator_next_1 _))))
 refine wpAny_bind (wpAny_pure (wpAny_bind (wpAny_bind ?_)))
 first
  | refine wpAny_bind (wpAny_typeNameOfWhole_keyiter ty (wpAny_pure (wpAny_bind (wpAny_fieldsOf h1 h3 ?_))))
  | refine wpAny_bind (wpAny_typeNameOf_keyiter ty (wpAny_pure (wpAny_bind (wpAny_fieldsOf h1 h3 ?_))))
 simp only [ow,Bool.false_eq_true,if_false]
 show wpAny _ _ (if (Value.ref a == Value.none)=true then _ else _) _ _ s
 rw [if_neg (show ¬ ((Value.ref a == Value.none)=true) from fun z=>nomatch z)]
 refine wpAny_bind (wpAny_pure (wpAny_bind (wpAny_dictEntries g1 g3 ?_)))
 rw [if_neg (by rw [hl];simp)]
 refine wpAny_bind (wpAny_pure (wpAny_bind (wpAny_dictEpoch g1 g3 ?_)))
 rw [if_neg (by simp)]
 refine wpAny_pure ?_
 simp only [show ¬ ((i:Int) < 0) from by omega,if_false,Int.toNat_natCast,Array.getElem?_eq_none (show arr.size<=i by omega)]
 refine wpAny_bind ?_
 first
  | refine wpAny_bind (wpAny_typeNameOfWhole_keyiter ty (wpAny_pure ?_))
  | refine wpAny_bind (wpAny_typeNameOf_keyiter ty (wpAny_pure ?_))
 show wpAny _ _ (setField (.ref it) 0 .none >>= _) _ _ s
 refine wpAny_bind (wpAny_setField h1 h3 (by simp) ?_)
 show wpAny _ _ (newExc (.type "StopIteration") [] >>= _) _ _ _
 refine wpAny_bind ?_
 simp only [newExc,newTuple]
 refine wpAny_bind (wpAny_newObj_type (wpAny_bind (m:=firstArgMember _ _) (wpAny_of_eq (a:=Value.none) (by first | rfl | (simp only [firstArgMember];rfl)) (wpAny_newObj_type ?_ (by size_fits)))) (by size_fits))
 simp only [raiseNew]
 refine wpAny_bind (wpAny_handled ?_)
 rw [show A.in1.handled=none from hh]
 have tyS:∀ (hq:Heap) (ob:Obj),ob.cls=.type "StopIteration"->(hq.push ob).get? hq.objs.size=some ob->Shared.TypeIs { s with heap:=hq.push ob } (.ref hq.objs.size) "StopIteration":=fun hq ob h1 h2=>⟨_,h2,h1⟩
 refine wpAny_bind (wpAny_pure (wpAny_throw ?_))
 refine wpAny_bind (wpAny_isInstance (b:=true) (tyS _ _ rfl (Heap.get?_push_size _ rfl)) isSubtype_stop ?_)
 exact wpAny_pure (q _ (((Heap.SameBut.update ..).extBut.push _).push _))
theorem jz8 {h h':Heap} (hd:qza h a ts ep) (k:∀ o,h.get? a=some o->h'.get? a=some o):qza h' a ts ep:=by
 obtain ⟨ob,arr,g1,g⟩:=hd
 exact ⟨ob,arr,k ob g1,g⟩
theorem kxn {h:Heap} (hd:qza h a ts ep):a < h.objs.size:=by
 obtain ⟨ob,arr,g1,g⟩:=hd
 exact Heap.lt_size g1
theorem qj9 (hh:A.handled=none) (I:Addr) (hne:a≠I):PySem.Walks prog w A I [I,a] [I] ts.length (fun i v=>∃ en,ts[i]?=some en/\v=en.key) (fun i h=>h.IsKeyIter I a i ts.length ep/\qza h a ts ep) where
 sub:=fun b hb=>by simp at hb;simp [hb]
 frame:=fun _ _ _ st hk=>⟨st.1.at fun o e=>hk I (by simp) o e,jz8 st.2 fun o e=>hk a (by simp) o e⟩
 item:=fun i s Q E hi st hQ=>qv5 st.1 st.2 (List.getElem?_eq_getElem hi) fun h' hit' hs' =>
  hQ _ h' s.toks ⟨_,List.getElem?_eq_getElem hi,rfl⟩ ⟨hit',jz8 st.2 fun o e=>hs'.extBut a o hne e⟩ fun b o hb e=>hs'.extBut b o (fun h=>hb (by simp [h])) e
 done:=fun s Q E st hQ=>qv4 hh st.1 st.2 (Nat.le_refl _) fun h' he'=>hQ h' s.toks fun b o hb e=>he' b o (fun h=>hb (by simp [h])) e
 self:=fun _ _ _ _ st hQ=>wpAny_pyIter_keyiter st.1 hQ
theorem qwt (lo:(a == sysModules)=false):PySem.W.KdlSrc prog w "dict" a a ts.length (fun i v=>∃ en,ts[i]?=some en/\v=en.key) (fun h=>qza h a ts ep) where
 type:=fun _ hm=>by obtain ⟨ob,arr,g1,g2,_⟩:=hm;exact ⟨ob,g1,g2.1⟩
 there:=fun _ hm=>⟨kxn hm,kxn hm⟩
 keep:=fun _ _ hm hk=>jz8 hm fun o e=>hk a (.inl rfl) o e
 notList:=by decide
 notTuple:=by decide
 hint:=fun _ _ _ _ hm hq=>PySem.W.kdl_hint_dict (by obtain ⟨ob,arr,g1,g2,_⟩:=hm;exact ⟨ob,g1,g2.1⟩) hq
 iter:=fun _ _ hh hm=>⟨_,_,(fun _ _ hq=>qv6 lo hm hq),qj9 hh _ (Nat.ne_of_lt (kxn hm)),⟨⟨_,Heap.get?_push_size _ rfl,rfl,rfl⟩,jz8 hm fun o e=>Heap.get?_push_of_some _ e⟩⟩
end
def qzf (K:PySem.W.Frag):List V->Hp->VK->Prop:=fun xs H Q=>∃ a es ep,xs=[.ref a]/\H a=some (jxk a es ep)/\(a == sysModules)=false/\es.length<=sizeLine/\∀ l,H l=none->Q (.ref l) (upd H l (.lst (es.map fun n=>V.ref n.2.1)))
theorem kv8:∀ (es:List Ent),Vals (es.map fun n=>V.ref n.2.1) (es.map fun n=>Value.ref n.2.1)
 | []=>.nil
 | n :: es=>.cons rfl (kv8 es)
theorem kq9 {X:Cx} {K:PySem.W.Frag} (hc:X.calm=true:=by rfl):CallR X (.type "list") (qzf K):=by
 intro pins s σ H xs us Q I r h
 obtain ⟨a,es,ep,rfl,hH,hs,hl,q⟩:=h
 obtain ⟨u,rfl,rx⟩:=jzt r
 cases rx
 refine PySem.W.kdl_call (qwt (ts:=es.map fun x=>(⟨kqv x.1.1,.ref x.2.1,x.2.2⟩:DictEntry)) (ep:=ep) hs) (I.ok.hd hc) (vqn I hH) (by rw [List.length_map];exact hl) fun h' tk acc c kp e hacc=>?_
 have he:acc.toList=es.map fun n=>Value.ref n.2.1:=by
  refine List.ext_getElem? fun i=>?_
  rw [List.getElem?_map]
  have hn:acc.size=es.length:=by have:=hacc.1;simpa using this
  cases hv:acc[i]? with
  | none=>rw [Array.getElem?_toList,hv,List.getElem?_eq_none (by have:=Array.getElem?_eq_none_iff.mp hv;omega)];rfl
  | some v =>
   obtain ⟨en,h1,h2⟩:=hacc.2 i v hv
   rw [Array.getElem?_toList,hv,h2]
   rw [List.getElem?_map] at h1
   cases hes:es[i]? with
   | none=>rw [hes] at h1;cases h1
   | some n=>rw [hes] at h1;cases oq9 h1;rfl
 refine ⟨.ref s.heap.objs.size,_,I.laid kp (Nat.le_refl _) (show ObjOk X.prog X.w _ h' _ (.lst (es.map fun n=>V.ref n.2.1)) from ⟨by rw [List.length_map];exact hl,es.map fun n=>Value.ref n.2.1,c,kv8 es,by rw [<- he];simpa using e⟩),rfl,q _ (I.hok.fresh (Nat.le_refl _))⟩
theorem kvm {K:PySem.W.Frag} {H:Hp}:∀ {es:List Ent},(∀ n∈es,PuR K H n.1.1 (.ref n.2.1))->RepA K H true (es.map (·.1.1)) (es.map fun n=>V.ref n.2.1) []
 | [],_=>by unfold RepA;exact ⟨rfl,rfl⟩
 | n :: es,h=>by
  rw [List.map_cons,List.map_cons]
  unfold RepA
  exact ⟨_,_,[],[],rfl,rfl,qks (h n List.mem_cons_self),kvm fun m hm=>h m (lc9 _ hm)⟩
theorem qj8 {K:PySem.W.Frag}:Ad1 K (fun v H Q=>qzf K [v] H Q) jz3:=by
 intro H x s Q ok hf k
 unfold jz3 at hf
 cases hx:x.d with
 | dct kvs =>
  rw [show (x.o,x.d).2=D.dct kvs from hx] at hf
  have hf:(if kvs.length<=big/\unm kvs=true then some (Own.rt,D.lst (kvs.map (·.1))) else none)=some s:=hf
  split at hf
  rotate_left
  ·cases hf
  rename_i hlen
  cases oq9 hf
  have okL:RepL K H true (.dct kvs) x.v x.as:=by rw [<- hx];exact jzq ok
  unfold RepL at okL
  obtain ⟨a,xs,bs,ev,rp,q4,eas⟩:=okL
  obtain ⟨es,ep,g1,g2,g3,g4,g5,g6,g7⟩:=DcA.un q4 hlen.2
  refine ⟨a,es,ep,by rw [ev],g1,g2,g3,fun l hl=>k ⟨.rt,.lst (kvs.map (·.1)),.ref l,[l]⟩ _ rfl rfl ⟨jk6 hl,⟨l,_,[],rfl,?_,jkd,rfl⟩,fun b hb=>?_,by simp [Sl.own],fun b hb=>?_⟩⟩
  ·rw [g5]
   exact (kvm g6).kp (Kp.of_same (jk6 hl))
  ·have:b=l:=by simpa [Sl.own] using hb
   exact this▸hl
  ·simp [Sl.frz] at hb
 | _=>rw [show (x.o,x.d).2=_ from hx] at hf;cases hf
end Q
noncomputable section
noncomputable section
noncomputable section
noncomputable section
noncomputable section
namespace Q
open PySem PySem.Spec PyProof.Rows L2 L3
theorem wj8 {X:Cx} {Z:Fx0} {q:Bool}:QA X Z q [] []:=kvq jkp fun σ H Q h_z=>ex8 h_z fun E L r m w hc xc k=>by
 cases oq9 hc
 exact k _ _ rfl [] L H rfl m w Step.refl fun _=>⟨fun _ _ z=>z,fun _ z=>(nomatch z)⟩
end Q
noncomputable section
noncomputable section
noncomputable section
noncomputable section
noncomputable section
namespace PySem
section
variable {prog:Program} {w:World} {K:Type} [DecidableEq K] {knd:HeapKind prog w K} {A:Around} {E:Value->Shared->Prop} {s:Shared}
theorem jw2 {d a:Addr} {xs:List (K×Addr×Value)} {k:K} {v:Value} {Q:Value->Shared->Prop} (hu:knd.room A) (hkey:knd.is s.heap k a) (hm:s.heap.DictOfH knd d xs)
  (h1:∀ p,atKey xs k=some p->Q p.2 { s with toks:=s.toks + knd.draws k })
  (h2:atKey xs k=none->∀ h',h'.DictOfH knd d (storedH xs k a v)->Heap.SameBut d s.heap h'->Q v { s with heap:=h',toks:=s.toks + knd.draws k })
  (hsz:xs.length<=sizeLine:=by size_fits) :
  wpAny (model prog w) A (dictSetDefault d (.ref a) v) Q E s:=by
 obtain ⟨o,es,ep,ho,hc,hd,he,his,hn⟩:=hm
 unfold dictSetDefault
 try with_reducible refine wpAny_holding ?_
 refine wpAny_bind (knd.pyHash hu hkey ?_)
 refine wpAny_bind (wpAny_dictFind_heap (s:={ s with toks:=s.toks + knd.draws k }) hu hkey ho hd he his hn ?_ ?_)
 ·intro hno
  have hnot:k∉xs.map (·.1):=not_mem_keys_of_get hno
  refine wpAny_bind (wpAny_rule (wpAny_bind (wpAny_updateDictKeys (hz:=by have e:=size_of_entries he;omega) (s:={ s with toks:=s.toks + knd.draws k }) ho hd (wpAny_pure (h2 (atKey_none_of_get hno) _ ⟨_,_,ep + 1,Heap.get?_update_self _ ho (Obj.isFreed_of_dict (Obj.data_mapDictKeys hd _)),
   hc.mapDictKeys _,Obj.data_mapDictKeys hd _,?_,?_,?_⟩ (Heap.SameBut.update ..))))))
  ·rw [storedH_new (atKey_none_of_get hno)]
   simp [he,entryOfKey]
  ·rw [storedH_new (atKey_none_of_get hno)]
   intro x hx
   rcases List.mem_append.mp hx with hx | hx
   ·exact knd.keeps (his x hx) ho hd (Heap.SameBut.update ..)
   ·simp only [List.mem_singleton] at hx
    subst hx
    exact knd.keeps hkey ho hd (Heap.SameBut.update ..)
  ·rw [storedH_new (atKey_none_of_get hno)]
   rw [List.map_append,List.nodup_append]
   refine ⟨hn,by simp,?_⟩
   intro x hx y hy
   simp only [List.map_cons,List.map_nil,List.mem_singleton] at hy
   subst hy
   exact fun e=>hnot (e▸hx)
 ·intro j p hj
  refine wpAny_bind (wpAny_dictEntries (s:={ s with toks:=s.toks + knd.draws k }) ho hd ?_)
  rw [entry_at he j,hj]
  exact wpAny_bind (wpAny_rule (wpAny_pure (h1 _ (atKey_of_get hn hj))))
theorem jwr (knd:HeapKind prog w K) (d a:Addr) (hd:(d == sysModules)=false) (dflt:Value) :
  MeetsIn prog w (Builtin.«dict.setdefault» ⟨[.ref d,.ref a,dflt],[]⟩) (fun A R s=>knd.room A.in1/\∃ k xs,knd.is s.heap k a/\s.heap.DictOfH knd d xs/\xs.length<=sizeLine /\
   (∀ p,atKey xs k=some p->R (.ok (.ret p.2)) { s with toks:=s.toks + knd.draws k }) /\
   (atKey xs k=none->∀ h',h'.DictOfH knd d (storedH xs k a dflt)->Heap.SameBut d s.heap h'->R (.ok (.ret dflt)) { s with heap:=h',toks:=s.toks + knd.draws k })) :=
 .of_wp fun A R s ⟨hu,k,xs,hkey,hm,hz,h1,h2⟩=>by
  unfold Builtin.«dict.setdefault»
  refine wpAny_bind ?_
  unfold Builtin.Dict.keyAndDefault
  refine wpAny_bind (wpAny_notOrdered_dict hm.typeIs ?_)
  show wpAny _ _ (pure (d,Value.ref a,some dflt)) _ _ s
  refine wpAny_pure ?_
  show wpAny _ _ (if (d == sysModules)=true then _ else (dictSetDefault d (.ref a) dflt >>= _)) _ _ s
  rw [if_neg (by rw [hd];exact Bool.false_ne_true)]
  exact wpAny_bind (jw2 (hsz:=hz) hu hkey hm (fun p hp=>wpAny_pure ⟨p.2,rfl,h1 p hp⟩) fun hn h' hm' hs'=>wpAny_pure ⟨dflt,rfl,h2 hn h' hm' hs'⟩)
end
end PySem
noncomputable section
noncomputable section
namespace Q
open PySem PySem.Spec PyProof.Rows L2 L3
section
variable {X:Cx} {Z:Fx0} {pn:List Nat} {q:Bool} {c:Ex} {e ep:Expr} {i:Nat} {p:List Nat} {pos:Pos}
theorem vvt {K:PySem.W.Frag} {H:Hp} {x:Sl} (ok:x.ok K H) (h:x.d.pure=true):RepL K H false x.d x.v []:=(RepL.pu (g':=false) (RepO.wk ok) h).2
end
end Q
noncomputable section
namespace Q
open PySem PySem.Spec PyProof.Rows L2 L3
mutual
theorem kza {X:Cx} {pins:List (Addr×Obj)} {σ:L2.St} {H:Hp} {s:Shared} {g:Bool} (I:Inv X pins σ H s):∀ {n:Nat} {d:D} {v:V} {u:Value} {as:List Addr},RepL X.K H g d v as->d.flat n=true->RelV v u->∃ bs,Reads s.heap u (D.dat d) bs
 | _,.non,v,u,as,h,_,r=>by
  unfold RepL at h
  obtain ⟨rfl,_⟩:=h
  cases (show u=.none from r)
  exact ⟨[],.none⟩
 | _,.bl b,v,u,as,h,_,r=>by
  unfold RepL at h
  obtain ⟨rfl,_⟩:=h
  cases (show u=.bool b from r)
  exact ⟨[],.bool b⟩
 | _,.int i,v,u,as,h,_,r=>by
  unfold RepL at h
  obtain ⟨rfl,_⟩:=h
  obtain ⟨t,e⟩:=(show ∃ t,u=Value.int i t from r)
  rw [e]
  exact ⟨[],.int i t⟩
 | _,.str z,v,u,as,h,_,r=>by
  unfold RepL at h
  obtain ⟨rfl,_⟩:=h
  obtain ⟨t,e⟩:=(show ∃ t,u=Value.str z t from r)
  rw [e]
  exact ⟨[],.str z t⟩
 | 0,.tup ds,v,u,as,h,f,r=>by cases f
 | n + 1,.tup ds,v,u,as,h,f,r=>by
  unfold RepL at h
  obtain ⟨a,xs,rfl,sq,ra⟩:=h
  cases (show u=.ref a from r)
  obtain ⟨its,rv,⟨o,e,c,m,hd⟩,_⟩:=I.tuple sq
  obtain ⟨bs,q⟩:=readsA_of I (n:=n) ra f rv
  exact ⟨bs,.tuple e c hd q⟩
 | 0,.lst ds,v,u,as,h,f,r=>by cases f
 | n + 1,.lst ds,v,u,as,h,f,r=>by
  unfold RepL at h
  obtain ⟨a,xs,cs,rfl,ra,sq⟩:=h
  cases (show u=.ref a from r)
  have sl:LsR X.K H a xs:=by
   rcases sq with ⟨z,_⟩ | ⟨_,z,_⟩
   ·exact .inl (.inl z)
   ·exact .of z
  obtain ⟨_,its,m,rv,e⟩:=sl.is I
  obtain ⟨bs,q⟩:=readsA_of I (n:=n) ra f rv
  exact ⟨a :: bs,.list e rfl rfl q⟩
 | n,.dct _,_,_,_,_,f,_=>by cases n<;>cases f
 | n,.obj _ _,_,_,_,_,f,_=>by cases n<;>cases f
theorem readsA_of {X:Cx} {pins:List (Addr×Obj)} {σ:L2.St} {H:Hp} {s:Shared} {g:Bool} (I:Inv X pins σ H s):∀ {n:Nat} {ds:List D} {xs:List V} {us:List Value} {as:List Addr},RepA X.K H g ds xs as->D.flats n ds=true->Vals xs us->∃ bs,ReadsAll s.heap us (D.dats ds) bs
 | _,[],xs,us,as,h,_,r=>by
  unfold RepA at h
  obtain ⟨rfl,_⟩:=h
  cases r
  exact ⟨[],.nil⟩
 | n,d :: ds,xs,us,as,h,f,r=>by
  unfold RepA at h
  obtain ⟨x,xr,bs,cs,rfl,_,h1,h2⟩:=h
  unfold D.flats at f
  rw [Bool.and_eq_true] at f
  cases r with
  | cons r1 r2 =>
   obtain ⟨b1,q1⟩:=kza I h1 f.1 r1
   obtain ⟨b2,q2⟩:=readsA_of I h2 f.2 r2
   exact ⟨b1++b2,.cons q1 q2⟩
end
mutual
theorem qj0:∀ {n:Nat} {d:D},d.flat n=true->(D.dat d).depth<=n
 | n,.non,_=>Nat.zero_le _
 | n,.bl _,_=>Nat.zero_le _
 | n,.int _,_=>Nat.zero_le _
 | n,.str _,_=>Nat.zero_le _
 | 0,.tup ds,f=>by cases f
 | n + 1,.tup ds,f=>Nat.succ_le_succ (depths_le (n:=n) f)
 | 0,.lst ds,f=>by cases f
 | n + 1,.lst ds,f=>Nat.succ_le_succ (depths_le (n:=n) f)
 | n,.dct _,f=>by cases n<;>cases f
 | n,.obj _ _,f=>by cases n<;>cases f
theorem depths_le:∀ {n:Nat} {ds:List D},D.flats n ds=true->PyData.depthAll (D.dats ds)<=n
 | _,[],_=>Nat.zero_le _
 | n,d :: ds,f=>by
  unfold D.flats at f
  rw [Bool.and_eq_true] at f
  exact Nat.max_le.mpr ⟨qj0 f.1,depths_le f.2⟩
end
mutual
theorem kq5:∀ d:D,(D.dat d).hasDict=false
 | .non=>rfl
 | .bl _=>rfl
 | .int _=>rfl
 | .str _=>rfl
 | .tup ds=>dats_noDict ds
 | .lst ds=>dats_noDict ds
 | .dct _=>rfl
 | .obj _ _=>rfl
theorem dats_noDict:∀ ds:List D,PyData.hasDictAll (D.dats ds)=false
 | []=>rfl
 | d :: ds=>by
  show ((D.dat d).hasDict || PyData.hasDictAll (D.dats ds))=false
  rw [kq5 d,dats_noDict ds]
  rfl
end
def vza (K:PySem.W.Frag):List V->Hp->VK->Prop:=fun xs H Q=>∃ v d z g as,xs=[v]/\RepL K H g d v as/\qwl d=some (.str z)/\Q (.str z) H
theorem qw2 {X:Cx} (hg:X.A.guards=some []) (hu:X.A.units + 64 < cLine):CallR X (.builtin "repr") (vza X.K):=by
 intro pins s σ H xs us Q I r ⟨v,d,z,g,as,e,rp,hf,q⟩
 subst e
 cases r with
 | cons r1 r2 =>
  cases r2
  unfold qwl at hf
  split at hf
  rotate_left
  ·cases hf
  rename_i hc
  cases hf
  obtain ⟨bs,rd⟩:=kza I rp hc.2.1 r1
  have hv:∃ a,v=.ref a:=by
   cases d with
   | tup ds=>unfold RepL at rp;obtain ⟨a,_,e,_⟩:=rp;exact ⟨a,e⟩
   | lst ds=>unfold RepL at rp;obtain ⟨a,_,_,e,_⟩:=rp;exact ⟨a,e⟩
   | _=>exact absurd hc.1 (by simp [vxr])
  obtain ⟨a,rfl⟩:=hv
  cases r1
  have hd:=qj0 hc.2.1
  exact repr_of_reads' rd hc.2.2.1 (PyData.noDict_hsm (kq5 d)) hg (by omega) (fun _ _ e=>e) (fun h' u tk hk=>⟨.str _,H,I.kept (t':=tk) hk,⟨u,rfl⟩,q⟩) hc.2.2.2
theorem qj4 {X:Cx} (K:PySem.W.Frag) (hg:X.A.guards=some []) (hu:X.A.units + 64 < cLine) (hK:X.K=K:=by rfl):CallR X (.builtin "repr") (vza K):=by subst hK;exact qw2 hg hu
theorem vj8 {K:PySem.W.Frag}:Ad1 K (fun v H Q=>vza K [v] H Q) (pu1 qwl):=by
 intro H x s Q ok hf k
 have hf:(qwl x.d).map (fun d=>(Own.dp,d))=some s:=hf
 cases h:qwl x.d with
 | none=>rw [h] at hf;cases hf
 | some d =>
  rw [h] at hf
  cases oq9 hf
  have h0:=h
  unfold qwl at h
  split at h
  rotate_left
  ·cases h
  rename_i hc
  cases h
  refine ⟨x.v,x.d,_,true,x.as,rfl,RepO.wk ok,h0,k ⟨.dp,.str _,.str _,[]⟩ H rfl rfl (jxx (fun _ _ h=>h) ?_)⟩
  unfold RepL
  exact ⟨rfl,rfl,hc.2.2.2⟩
theorem qw9:bootBuiltins "repr"=some (.builtin "repr"):=by decide +kernel
end Q
noncomputable section
namespace PySem
section
variable {prog:Program} {w:World} {A:Around} {E:Value->Shared->Prop} {s:Shared}
def qwg (h:Heap) (d:Addr) (n:Nat):Prop:=∃ o es ep,h.get? d=some o/\o.cls=.type "dict"/\o.data=.dict es ep/\es.size=n
theorem kjp (d:Addr) (hd:(d == sysModules)=false) :
  MeetsIn prog w (Builtin.«dict.__len__» ⟨[.ref d],[]⟩) (fun _ R s=>∃ n,qwg s.heap d n/\R (.ok (.ret (.int n s.toks))) { s with toks:=s.toks + 1 }) :=
 .of_wp fun A R s ⟨n,⟨o,es,ep,ho,hc,hdat,hz⟩,h⟩=>by
  show wpAny _ _ (dictSize d >>= _) _ _ s
  unfold dictSize
  refine wpAny_bind (wpAny_bind (wpAny_dictEntries ho hdat (wpAny_pure ?_)))
  show wpAny _ _ (Builtin.Dict.pendingCount d >>= _) _ _ s
  refine wpAny_bind (wpAny_pendingCount_other hd ?_)
  refine wpAny_ret_mkInt ?_
  rw [Nat.add_zero,hz];exact h
theorem kkp {d:Addr} {n:Nat} {Q:Value->Shared->Prop} (hd:(d == sysModules)=false) (hm:qwg s.heap d n) (hfit:(n:Int) < 2 ^ 63)
  (h:Q (.int n (s.toks + 1)) { s with toks:=s.toks + 1 + 1 }):wpAny (model prog w) A (Builtin.«len» ⟨[.ref d],[]⟩) (fun fin s'=>∃ r,fin=.done (.ret r)/\Q r s') E s:=by
 have ht:s.TypeIs (.ref d) "dict":=by obtain ⟨o,es,ep,ho,hc,_⟩:=hm;exact ⟨o,ho,hc⟩
 unfold Builtin.«len»
 refine wpAny_bind (m:=oneArg "len" _) (wpAny_pure ?_)
 refine wpAny_bind (m:=callSpecial? (.ref d) (Str.ofString "__len__")) (wpAny_callSpecial?_slot (name:=Str.ofString "__len__") ht F.slot_dict_len
  (call_meetsIn F.slot_dict_len ht F.entry_dict_len (F.args_dict_len_1 _) (kjp d hd) ⟨n,hm,?_⟩))
 show wpAny _ _ _ _ _ { s with toks:=s.toks + 1 }
 refine wpAny_bind (wpAny_holding (wpAny_pure ?_))
 refine wpAny_bind (wpAny_letGo ?_)
 show wpAny _ _ (if ((n:Nat):Int) < 0 then _ else _) _ _ _
 rw [if_neg (by omega)]
 show wpAny _ _ (if ((n:Nat):Int)>=2 ^ 63 then _ else _) _ _ _
 rw [if_neg (by omega)]
 exact wpAny_bind (wpAny_mkInt (wpAny_pure ⟨_,rfl,h⟩))
theorem kkr {d:Addr} {n:Nat} {Q:Value->Shared->Prop} (hd:(d == sysModules)=false) (hm:qwg s.heap d n) (hfit:(n:Int) < 2 ^ 63)
  (h:Q (.int n (s.toks + 1)) { s with toks:=s.toks + 1 + 1 }):wpAny (model prog w) A (call (.builtin "len") [.ref d]) Q E s :=
 Calls.call_function_entry kind_len plain_len entry_len (args_len1 _) (kkp hd hm hfit h)
end
end PySem
namespace Q
open PySem PySem.Spec PyProof.Rows L2 L3
def vvz (K:PySem.W.Frag):List V->Hp->VK->Prop:=fun xs H Q=>∃ a ks vs,xs=[.ref a]/\DcN K H a ks vs/\Q (.int ks.length) H
theorem kwm {X:Cx} (K:PySem.W.Frag):CallR X (.builtin "len") (vvz K):=by
 intro pins s σ H xs us Q I r ⟨a,ks,vs,e,⟨es,ep,hH,hs,hl,_,hk,_⟩,q⟩
 subst e
 cases r with
 | cons r1 r2 =>
  cases r2
  cases r1
  obtain ⟨ob,arr,g1,g2,g3,g4⟩:=vqn I hH
  have hlen:ks.length=arr.size:=by
   have:=congrArg List.length g4
   rw [List.length_map,Array.length_toList] at this
   rw [hk,List.length_map];exact this.symm
  have hz:es.length=ks.length:=by rw [hk,List.length_map]
  exact kkr (n:=ks.length) hs ⟨ob,arr,ep,g1,g2.1,g3,hlen.symm⟩ (by rw [sizeLine_eq] at hl;omega) ⟨.int ks.length,H,I.tok _,⟨_,rfl⟩,q⟩
theorem qwd {K:PySem.W.Frag}:Ad1 K (fun v H Q=>vvz K [v] H Q) (pu1 kwf):=by
 intro H x s Q ok hf k
 have hf:(kwf x.d).map (fun d=>(Own.dp,d))=some s:=hf
 cases hd:x.d with
 | dct kvs =>
  rw [hd] at hf
  unfold kwf at hf
  dsimp only at hf
  by_cases hu:unm kvs=true
  ·rw [if_pos hu] at hf
   cases oq9 hf
   obtain ⟨a,xs,e,dn⟩:=vj2 ok hd hu
   refine ⟨a,kvs.map (·.1),xs,by rw [e],dn,?_⟩
   rw [List.length_map]
   exact k ⟨.dp,.int kvs.length,.int kvs.length,[]⟩ H rfl rfl (jxx (fun _ _ h=>h) jj2)
  ·rw [if_neg hu] at hf;cases hf
 | _=>rw [hd] at hf;cases hf
section
variable {X:Cx} {pins:List (Addr×Obj)} {σ:L2.St} {H:Hp} {s:Shared} {a b:Addr} {es:List Ent} {A:Around} {E:Value->Shared->Prop} {k:Kd} {r:Value}
theorem qz1 {ep:Nat} {Q:Value->Shared->Prop} (hu:A.units + 64 < cLine) (I:Inv X pins σ H s) (e:H a=some (jxk a es ep)) (hs:(a == sysModules)=false) (h2:es.length<=sizeLine) (h3:(es.map (·.1)).Nodup) (h5:∀ x∈es,PuR X.K H x.1.1 (.ref x.2.1)) (hk:PuR X.K H k.1 (.ref b))
  (h1:∀ p,atKey es k=some p->∀ s',Inv X pins σ H s'->Q p.2 s') (h4:atKey es k=none->∀ ep' s',Inv X pins σ (upd H a (jxk a (storedH es k b r) ep')) s'->Q r s') :
  wpAny (model X.prog X.w) A (call (.builtin "dict.setdefault") [.ref a,.ref b,r]) Q E s:=by
 have dd:=vj1 I e h3 h5
 refine call_meetsIn PySem.F.slot_dict_setdefault dd.typeIs PySem.F.entry_dict_setdefault (PySem.F.args_dict_setdefault_3 _ _ _) (jwr (kz0 X.prog X.w) a b hs r) ⟨?_,k,es,kj2 I hk rfl,dd,h2,fun p hp=>h1 p hp _ (I.tok _),fun hn h' dd' hss=>?_⟩
 ·exact vju hu
 ·obtain ⟨q,ds,ep',hq,g2,g3,g4,_,_⟩:=dd'
  exact h4 hn ep' _ (qvw I (by rw [e];exact True.intro) hss ⟨q,hq⟩ ⟨⟨q,ds,hq,g2,g3,g4⟩,⟨q,hq⟩,fun h1 h2 ⟨o,ds,a1,a2⟩ k=>⟨o,ds,k o a1,a2⟩⟩)
end
abbrev qwq (K:PySem.W.Frag) (td ty tx:TE):TE:=fun σ H Q=>td σ H fun x H1=>∃ a,x=.ref a/\(∃ es ep,H1 a=some (jxk a es ep))/\ty σ H1 fun y H2=>tx σ H2 fun z H3=>∃ b k es ep,y=.ref b/\H3 a=some (jxk a es ep)/\(a == sysModules)=false/\es.length<=sizeLine/\(es.map (·.1)).Nodup/\(∀ x∈es,PuR K H3 x.1.1 (.ref x.2.1))/\PuR K H3 k.1 (.ref b) /\
 (∀ p,atKey es k=some p->∃ v,RelV v p.2/\Q v H3)/\(atKey es k=none->∀ r ep',RelV z r->Q z (upd H3 a (jxk a (storedH es k b r) ep')))
section
variable {X:Cx} {o e f:Expr} {apos cpos:Pos} {td ty tx:TE}
theorem qjh (hu:X.A.units + 64 < cLine) (ho:PE X o td) (he:PE X e ty) (hf:PE X f tx) (m:M2 X o "setdefault" apos e f cpos):PE X (.Call (.Attribute o "setdefault" apos) [e,f] [] cpos) (qwq X.K td ty tx):=by
 intro pins s σ H Q I h
 refine wpAny_Call_method m.base m.few m.line PySem.F.plainAttrs_dict PySem.F.slot_dict_setdefault PySem.F.type_dict_setdefault (thn (ho pins s σ H _ I h) fun u s1 ⟨x,H1,I1,rx,a,ex,⟨es0,ep0,d⟩,q1⟩=>?_)
 subst ex
 obtain rfl:u=Value.ref a:=rx
 obtain ⟨ob,arr,g1,g2,g3,g4⟩:=vqn I1 d
 refine ⟨⟨ob,g1,g2.1⟩,fun b z=>by cases z;exact ⟨ob,g1,g2.2.1⟩,?_⟩
 rw [m.trees]
 refine Calls.callWith_builtin rfl (Calls.evalArgs_plain (Calls.spliced_cons (thn (he pins s1 σ H1 _ I1 q1) fun iv s2 ⟨y,H2,I2,ry,q2⟩ =>
  Calls.spliced_cons (thn (hf pins s2 σ H2 _ I2 q2) fun fv s3 ⟨z,H3,I3,rz,b,k,es,ep,ey,ea,hs,hl,hn,h5,hk,q4,q5⟩=>Calls.spliced_nil ?_))))
 subst ey
 obtain rfl:iv=Value.ref b:=ry
 exact qz1 hu I3 ea hs hl hn h5 hk (fun p hp s4 I4=>by obtain ⟨v,rv,q3⟩:=q4 p hp;exact ⟨v,H3,I4,rv,q3⟩) fun hne ep' s4 I4=>⟨z,_,I4,rz,q5 hne fv ep' rz⟩
end
theorem qvi {K : PySem.W.Frag} {H : Hp} {k : Kd} : ∀ {kvs : List (D × D)} {xs : List V} {bs : List Addr} {es : List Ent}, RepP K H true kvs xs bs -> kvs.map (·.1) = es.map (·.1.1) -> Vals xs (es.map (·.2.2)) -> D.pures (kvs.map (·.2)) = true ->
    (∀ p, atKey es k = some p -> ∃ d v, kwa kvs k.1 = some d /\ RelV v p.2 /\ RepL K H false d v [] /\ d.pure = true) /\ (atKey es k = none -> kwa kvs k.1 = none)
  | [], _, _, [], _, _, _, _ => ⟨fun p h => (by cases h), fun _ => rfl⟩
  | [], _, _, _ :: _, _, h, _, _ => by cases h
  | _ :: _, _, _, [], _, h, _, _ => by cases h
  | (q, d) :: kvs, xs, bs, e :: es, hr, hk, hv, hp => by
    unfold RepP at hr
    obtain ⟨x, r, b1, c1, rfl, _, h1, h2⟩ := hr
    rw [List.map_cons, List.map_cons] at hk
    injection hk with k1 k2
    rw [List.map_cons] at hv hp
    cases hv with
    | cons v1 v2 =>
      unfold D.pures at hp
      rw [Bool.and_eq_true] at hp
      have ih := qvi (k := k) h2 k2 v2 hp.2
      have k1 : q = e.1.1 := k1
      by_cases he : e.1 = k
      · have hq : q = k.1 := by rw [k1, he]
        have hg : kwa ((q, d) :: kvs) k.1 = some d := by unfold kwa; rw [List.find?_cons_of_pos (by simp [hq])]; rfl
        have ha : atKey (e :: es) k = some e.2 := by
          obtain ⟨ek, ev⟩ := e
          have he : ek = k := he
          simp [atKey, he]
        refine ⟨fun p hp' => ?_, fun hn => ?_⟩
        · rw [ha] at hp'
          cases oq9 hp'
          exact ⟨d, x, hg, v1, (RepL.pu (g' := false) h1 hp.1).2, hp.1⟩
        · rw [ha] at hn; cases hn
      · have hq : q ≠ k.1 := fun z => he (Subtype.ext (by rw [<- k1]; exact z))
        have hg : kwa ((q, d) :: kvs) k.1 = kwa kvs k.1 := by unfold kwa; rw [List.find?_cons_of_neg (by simp [hq])]
        have ha : atKey (e :: es) k = atKey es k := by
          obtain ⟨ek, ev⟩ := e
          have he : ¬ ek = k := he
          simp [atKey, he]
        rw [hg, ha]
        exact ih
section
variable {X:Cx} {Z:Fx0} {pn:List Nat} {q qa:Bool} {kc vc a b:Ex} {o ke ve ea eb:Expr} {pos pos' apos cpos:Pos}
theorem vw7 {i:Nat} (hu:X.A.units + 64 < cLine) (ho:PE X o (qzc i)) (hk:QV X Z true kc ke) (hv:QV X Z true vc ve) (hK:X.K=Z.K:=by rfl) (hm:M2 X o "setdefault" apos ke ve cpos:=by exact ⟨rfl,rfl,rfl,rfl⟩):QE X Z false (qjx i kc vc) (.Call (.Attribute o "setdefault" apos) [ke,ve] [] cpos) :=
 jky (hK▸qjh hu ho hk hv hm) fun σ H Q h_z=>ex8 h_z fun E L r m w hc xc k=>by
  unfold qjx at hc
  by_cases hD:vzf E[i]?=true
  rotate_left
  ·rw [if_neg hD] at hc;cases hc
  rw [if_pos hD] at hc
  obtain ⟨kvs0,h0,hu0⟩:∃ kvs,E[i]?=some (some (.rt,.dct kvs))/\unm kvs=true:=by
   unfold vzf at hD
   split at hD
   ·rename_i kvs h;exact ⟨kvs,h,hD⟩
   ·cases hD
  obtain ⟨x0,a1,a2,a3,a4⟩:=m.get h0
  obtain ⟨l0,xs0,el0,⟨es0,ep0,hH0,_⟩⟩:=vj2 (w.ok x0 (jkr a1)) a3 hu0
  refine ⟨x0.v,a4,l0,el0,⟨es0,ep0,hH0⟩,?_⟩
  refine jwd m w hc xc fun E2 s2 h2 y L2 H2 e3 e4 m2 w2 ok2 fr2 sr2 st2 sm2=>?_
  refine jwd m2 w2 h2 (xc.step st2) fun E3 s3 h3 t L3 H3 e5 e6 m3 w3 ok3 fr3 sr3 st3 sm3=>?_
  split at h3
  rotate_left
  ·cases h3
  rename_i kvs hE
  split at h3
  rotate_left
  ·cases h3
  rename_i hcond
  obtain ⟨hkey,hlen,hunm,hpv,hps⟩:=hcond
  obtain ⟨z,b1,b2,b3,b4⟩:=m3.get hE
  have hzv:z.v=x0.v:=by rw [a4] at b4;exact (oq9 (oq9 b4)).symm
  have okz:RepR Z.K H3 (.dct kvs) z.v z.as:=by
   have:=w3.ok z (jkr b1)
   unfold Sl.ok at this
   rw [b2,b3] at this
   exact this
  obtain ⟨l,xs,bs,c1,c2,c3,c4⟩:=okz
  have hll:l=l0:=by
   have:V.ref l=V.ref l0:=by rw [<- c1,hzv,el0]
   injection this
  subst hll
  obtain ⟨es,ep,d1,d2,d3,d4,d5,d6,d7⟩:=DcA.un c3 hunm
  have ok2':y.ok Z.K H3:=RepO.kp ok2 (Kp.of_same (sm3 rfl))
  obtain ⟨b,eb,pb⟩:=kq0 ok2' (by rw [e4];exact hkey)
  have hk6:jvf 6 y.d=true:=by
   have:jwa y.d=true:=by rw [e4];exact hkey
   unfold jwa at this
   rw [Bool.and_eq_true] at this
   exact this.1
  have ht:=vvt ok3 (by rw [e6];exact hpv)
  obtain ⟨g1,g2⟩:=qvi (k:=⟨y.d,hk6⟩) c2 d5 d7 hps
  have hyk:(⟨y.d,hk6⟩:Kd).1=s2.2:=e4
  have hle:es.length < sizeLine:=by
   have:=congrArg List.length d5
   rw [List.length_map,List.length_map] at this
   rw [<- this];exact hlen
  refine ⟨b,⟨y.d,hk6⟩,es,ep,eb,d1,d2,d3,d4,d6,pb,fun p hp=>?_,fun hn rr ep' hrr=>?_⟩
  ·obtain ⟨d,v',q1,q2,q3,q4⟩:=g1 p hp
   rw [hyk] at q1
   rw [q1] at h3
   cases oq9 h3
   exact ⟨v',q2,k _ _ rfl ⟨.dp,d,v',[]⟩ L3 H3 rfl rfl m3 (w3.consPu q3 rfl) (jxl (x:=⟨.dp,d,v',[]⟩) (st2.trans st3) (fun b hb=>nomatch hb) rfl) fun z=>nomatch z⟩
  ·have q1:=g2 hn
   rw [hyk] at q1
   rw [q1] at h3
   cases oq9 h3
   have hmem:=vj6 es (⟨y.d,hk6⟩:Kd)
   rw [hn] at hmem
   have hnm:y.d∉es.map (·.1.1):=of_decide_eq_false hmem.symm
   rw [storedH_new hn]
   have rt:RepL Z.K H3 true s3.2 t.v []:=by rw [<- e6];exact (RepL.pu (g':=true) (RepO.wk ok3) (by rw [e6];exact hpv)).2
   have rp:=kvl (q:=s2.2) rt c2
   rw [List.append_nil] at rp
   obtain ⟨w4,st4⟩:=qq5 (ep':=ep') (T:=[]) (i:=i) (y:=z) (es':=es++[(⟨y.d,hk6⟩,b,rr)]) (xs':=xs++[t.v]) (cs:=bs) (kvs':=kvs++[(s2.2,s3.2)]) (by simpa using w3) b1 d1 b2 c4 c1 rp (fun a h=>.inl h) d2 (by rw [List.length_append,List.length_singleton];omega) (by
    rw [List.map_append,List.nodup_append]
    refine ⟨d4,List.nodup_cons.mpr ⟨List.not_mem_nil,List.nodup_nil⟩,fun p hp' q hq e=>?_⟩
    have:q=⟨y.d,hk6⟩:=List.mem_singleton.mp hq
    subst this e
    obtain ⟨n,hn1,hn2⟩:=List.mem_map.mp hp'
    exact hnm (List.mem_map.mpr ⟨n,hn1,by rw [hn2]⟩)) (by rw [List.map_append,List.map_append,d5,<- e4];rfl) (fun n hn'=>by
    rcases List.mem_append.mp hn' with z | z
    ·exact d6 n z
    ·rw [List.mem_singleton.mp z];exact pb) (by rw [List.map_append];exact kv7 d7 hrr)
   have ht2:RepL Z.K (upd H3 l (jxk l (es++[(⟨y.d,hk6⟩,b,rr)]) ep')) false s3.2 t.v []:=by
    rw [<- e6]
    refine ht.kp ⟨fun a zs e=>?_,fun a o u e=>?_,fun a ha=>nomatch ha⟩
    ·rw [jjw (fun z=>by subst z;rw [d1] at e;cases e)];exact e
    ·rw [jjw (fun z=>by subst z;rw [d1] at e;cases e)];exact e
   have mm:=m3.set (x:=⟨.rt,.dct (kvs++[(s2.2,s3.2)]),z.v,l :: bs⟩) i
   rw [jxn b4] at mm
   exact k _ _ rfl ⟨.dp,s3.2,t.v,[]⟩ _ _ rfl rfl mm (w4.consPu ht2 rfl) (jxl (x:=⟨.dp,s3.2,t.v,[]⟩) ((st2.trans st3).trans (by simpa using st4)) (fun b hb=>nomatch hb) rfl) fun z=>nomatch z
end
end Q
noncomputable section
namespace Q
open PySem PySem.Spec PyProof.Rows L2 L3
def spM (K:PySem.W.Frag) (mg:Str->Option Value) (n:Nat) (f:Fn):Sp:=fun vs H Q E=>∃ (xs:List Sl) (y:Sl) (r:Res Sd),vs=xs.map Sl.v++[y.v]/\xs.length=n/\World K H ((xs++[y]).map some)/\f ((xs++[y]).map Sl.sd)=some r /\
 (∀ E' c,r=.exc E' c->∀ C H',mg c=some (.ref C)->Step H ((xs++[y]).map some) H' []->E (.ref C) none H') /\
 ∀ E' a,r=.ok E' a->∃ sd,E'[n]?=some (some sd)/\∀ (x y':Sl) H',x.o=a.1->x.d=a.2->y'.o=sd.1->y'.d=sd.2->y'.v=y.v->World K H' [some x,some y']->Step H ((xs++[y]).map some) H' [some x,some y']->Q x.v H'
theorem qkm {K:PySem.W.Frag} {mg:Str->Option Value} {n:Nat} {f:Fn} {ps:List Str} (hn:ps.length=n + 1):∀ vs H Q E,spM K mg n f vs H Q E->vs.length=ps.length:=fun vs H Q E ⟨xs,y,r,e,hl,_⟩=>by rw [e,List.length_append,List.length_map,hl,hn];rfl
theorem kqe {L:Ls} {x y:Sl} {i:Nat} (h:L[i]?=some (some y)):(sls [some x,some y]).Sublist (sls (some x :: L)):=by
 have:y∈sls L:=mem_sls.mpr (jkr h)
 show (x :: [y]).Sublist (x :: sls L)
 exact (List.singleton_sublist.mpr this).cons₂ x
theorem qvo {X:Cx} {K:PySem.W.Frag} {mg:Str->Option Value} {N:List Str} {n nn:Nat} {B:Sm} {body:List Stmt} {H:Hp} {vs:List V} {Q:VK} {E:XK} (hN:N.length=nn) (t:QSs X ⟨K,mg,E⟩ [n] B body) (h:spM K mg n (fn nn B) vs H Q E) :
  ∃ t,PSs X body t/\t { nx:=fun _ H'=>Q .non H',rt:=Q } (L2.start N vs) H:=by
 refine ⟨_,t,?_⟩
 obtain ⟨xs,y,r,rfl,hl,w,hf,hx,hk⟩:=h
 unfold fn at hf
 rw [List.length_map,List.map_map] at hf
 have m:=kj4 (xs++[y]) (nn - (xs++[y]).length)
 have e1:L2.start N (xs.map Sl.v++[y.v])=(xs++[y]).map (fun x=>some x.v)++List.replicate (nn - (xs++[y]).length) none:=by
  unfold L2.start
  rw [show xs.map Sl.v++[y.v]=(xs++[y]).map Sl.v by simp,List.map_map,List.length_map,hN]
  rfl
 have hy0:(L2.start N (xs.map Sl.v++[y.v]))[n]?=some (some y.v):=by
  rw [e1,List.getElem?_append_left (by simp [hl])]
  simp [hl]
 have wL:World K H ((xs++[y]).map some++List.replicate (nn - (xs++[y]).length) none):=w.same (by simp)
 have sL:Step H ((xs++[y]).map some) H ((xs++[y]).map some++List.replicate (nn - (xs++[y]).length) none):=Step.refl.same (List.Perm.refl _) (by simp)
 have fin:∀ {E1:En} {σ':L2.St} {L':Ls} {sd:Sd},E1[n]?=some (some sd)->Pn [n] (L2.start N (xs.map Sl.v++[y.v])) σ'->Mt E1 σ' L'->∃ y':Sl,L'[n]?=some (some y')/\y'.o=sd.1/\y'.d=sd.2/\y'.v=y.v:=fun hE p m'=>by
  obtain ⟨y',a1,a2,a3,a4⟩:=m'.get hE
  refine ⟨y',a1,a2,a3,?_⟩
  have:=p n (List.mem_singleton.mpr rfl)
  rw [a4,hy0] at this
  exact oq9 (oq9 this)
 cases hB:B ((xs++[y]).map (fun x=>some x.sd)++List.replicate (nn - (xs++[y]).length) none) with
 | none=>rw [show (some∘Sl.sd)=(fun x:Sl=>some x.sd) from rfl,hB] at hf;cases hf
 | some g =>
  rw [show (some∘Sl.sd)=(fun x:Sl=>some x.sd) from rfl,hB] at hf
  refine ⟨_,_,g,e1▸m,wL,hB,?_⟩
  cases g with
  | nx E1 =>
   cases oq9 hf
   intro σ' L' H' p m' w' s'
   obtain ⟨sd,hE,hk⟩:=hk _ _ rfl
   obtain ⟨y',b1,b2,b3,b4⟩:=fin hE p m'
   have wx:World K H' (some (⟨.dp,.non,.non,[]⟩:Sl) :: L'):=w'.consPu (show RepL K H' false .non .non [] from jk4) rfl
   have sx:Step H ((xs++[y]).map some) H' (some (⟨.dp,.non,.non,[]⟩:Sl) :: L'):=jxl (x:=⟨.dp,.non,.non,[]⟩) (sL.trans s') (fun b hb=>(nomatch hb)) rfl
   exact hk ⟨.dp,.non,.non,[]⟩ y' H' rfl rfl b2 b3 b4 (wx.sub (kqe b1)) (sx.sub (kqe b1))
  | rt E1 a =>
   cases oq9 hf
   intro x σ' L' H' e2 e3 p m' w' s'
   obtain ⟨sd,hE,hk⟩:=hk _ _ rfl
   obtain ⟨y',b1,b2,b3,b4⟩:=fin hE p m'
   exact hk x y' H' e2 e3 b2 b3 b4 (w'.sub (kqe b1)) ((sL.trans s').sub (kqe b1))
  | xc E1 c =>
   cases oq9 hf
   intro C σ' L' H' hm _ m' w' s'
   exact hx _ _ rfl C H' hm ((sL.trans s').sub (by simp))
  | ct E1=>cases hf
  | bk E1=>cases hf
def tAM (Z:Fx0) (q:Bool) (cs:List Ex) (i:Nat):TA:=fun σ H Q=>∃ E L r,Mt E σ L/\World Z.K H L/\jv0 cs E=some r/\Xc Z σ H L r /\
 ∀ E' ys,r=.ok E' ys->∀ (xs:List Sl) L' H',xs.map Sl.sd=ys->Mt E' σ L'->World Z.K H' (xs.map some++L')->Step H L H' (xs.map some++L')->(q=true->jw1 H H'/\∀ b∈jjb (xs.map some),H b=none)->∃ v,σ[i]?=some (some v)/\Q (xs.map Sl.v++[v]) H'
section
variable {X:Cx} {Z:Fx0} {q:Bool} {c:Ex} {cs:List Ex} {e:Expr} {es:List Expr} {pos p:Pos} {x:Str} {ps:List Str} {k n i:Nat} {f:Fn}
theorem wkq (h:PE X e (qzc i)) (hst:starEach [e] X.env=(false,eval e X.env) :: starEach [] X.env:=by rfl):PA X [e] (tAM Z q [] i):=kvq (jjr h jkp hst) fun σ H Q h_z=>ex8 h_z fun E L r m w hc xc k=>by
 cases oq9 hc
 obtain ⟨v,hv,q⟩:=k _ _ rfl [] L H rfl m w Step.refl fun _=>⟨fun _ _ z=>z,fun _ z=>(nomatch z)⟩
 exact ⟨v,hv,q⟩
theorem vzc (h:QE X Z q c e) (hs:PA X es (tAM Z q cs i)) (hst:starEach (e :: es) X.env=(false,eval e X.env) :: starEach es X.env:=by rfl):PA X (e :: es) (tAM Z q (c :: cs) i) :=
 kvq (jjr h hs hst) fun σ H Q h_z=>ex8 h_z fun E L r m w hc xc k=>by
  refine kx2 m w (show bnd (c E) _=some r from hc) xc fun E1 s h1 x L1 H1 e1 e2 m1 w1 st sm=>?_
  have s1:Step H L H1 L1:=st.trans Step.drop
  rcases jkc h1 with ⟨E2,ys,h2,h3⟩ | ⟨E2,cc,h2,h3⟩
  ·cases oq9 h3
   refine ⟨E1,L1,_,m1,w1.tail,h2,(fun _ _ z=>by cases z),fun E' ys' z xs L2 H2 e3 m2 w2 st2 sm2=>?_⟩
   injection z with z1 z2
   subst z1 z2
   obtain ⟨w3,st3⟩:=vzg (T:=[some x]) w1 st2 w2
   refine k _ _ rfl (x :: xs) L2 H2 (by rw [List.map_cons,e3];simp [Sl.sd,e1,e2]) m2 w3 (st.trans st3) fun hq=>?_
   obtain ⟨a1,a2⟩:=sm hq
   obtain ⟨b1,b2⟩:=sm2 hq
   refine ⟨jjd a1 b1,fun b hb=>?_⟩
   rw [List.map_cons,jj7] at hb
   rcases List.mem_append.mp hb with z | z
   ·exact a2 b z
   ·exact jkv a1 (b2 b z)
  ·exact ⟨E1,L1,_,m1,w1.tail,h2,(xc.step s1).map h3,fun E' s' z=>by cases z⟩
theorem qww {L:Ls} {y:Sl} (h:L[i]?=some (some y)):(sls L).Perm (y :: sls (L.set i none)):=by
 have:=(jxu h).filterMap id
 exact this
theorem qq3 (D:jqm X.prog X.w X.K X.mg X.base k x ps (spM Z.K Z.mg n f)) (hr:Room k X.A) (g:qk7 X Z.EX) (ha:PA X (e :: es) (tAM Z q cs i)) (hn:cs.length=n:=by rfl) (hg:Gl X x:=by rfl) (hdb:(x == ("__debug__":Str))=false:=by decide)
  (he:starEach (e :: es) X.env=(false,eval e X.env) :: starEach es X.env:=by rfl) (hpl:(backTo pos (starEach es X.env)).any (·.1)=false:=by rfl) :
  QE X Z false (kkb f i cs) (.Call (.Name x p) (e :: es) [] pos):=jky (qzm D hr g ha hg hdb he hpl) fun σ H Q h_z=>ex8 h_z fun E L r m w hc xc kk=>by
 rcases jkc (show bnd (jv0 cs E) _=some r from hc) with ⟨E1,ys,h1,h2⟩ | ⟨E1,cc,h1,h2⟩
 rotate_left
 ·exact ⟨E,L,_,m,w,h1,xc.map h2,fun E' s' z=>by cases z⟩
 refine ⟨E,L,_,m,w,h1,(fun _ _ z=>by cases z),fun E' ys' z xs L1 H1 e1 m1 w1 st sm=>?_⟩
 injection z with z1 z2
 subst z1 z2
 have hlen:xs.length=n:=by rw [<- hn,<- jwz h1,<- e1,List.length_map]
 have hyl:ys.length=n:=by rw [<- hn];exact jwz h1
 split at h2
 rotate_left
 ·cases h2
 rename_i x0 hE
 obtain ⟨o0,d0⟩:=x0
 obtain ⟨y,a1,a2,a3,a4⟩:=m1.get hE
 refine ⟨y.v,a4,?_⟩
 dsimp only
 rw [List.append_nil]
 obtain ⟨wl,sl⟩:=jx1 w1
 have pm:(sls ((xs.map Sl.let).map some++L1)).Perm (sls ((xs.map Sl.let++[y]).map some++L1.set i none)):=by
  have e2:∀ A B:Ls,sls (A++B)=sls A++sls B:=fun A B=>List.filterMap_append ..
  rw [List.map_append,List.append_assoc,e2,e2]
  exact List.Perm.append_left _ (qww a1)
 have wl2:=wl.same pm
 have sl2:Step H L H1 ((xs.map Sl.let++[y]).map some++L1.set i none):=(st.trans sl).trans (Step.refl.same (List.Perm.refl _) pm)
 cases hf:f (letAll ys++[(o0,d0)]) with
 | none=>rw [hf] at h2;cases h2
 | some fr =>
  rw [hf] at h2
  refine ⟨xs.map Sl.let,y,fr,by rw [List.map_map];rfl,by rw [List.length_map];exact hlen,wl2.left,?_,fun E' c ee C H' hm s'=>?_,fun E' a ee=>?_⟩
  ·rw [List.map_append,kqu,e1]
   show f (letAll ys++[(y.o,y.d)])=some fr
   rw [a2,a3]
   exact hf
  ·subst ee
   cases oq9 h2
   obtain ⟨w2,s2⟩:=stay wl2 s' ⟨fun _ z=>(nomatch z),List.nodup_nil,fun _ z=>(nomatch z)⟩
   exact xc _ _ rfl C _ H' hm (qqm i m1) w2 (sl2.trans s2)
  ·subst ee
   dsimp only at h2
   split at h2
   rotate_left
   ·cases h2
   rename_i x' hE'
   cases oq9 h2
   rw [hyl] at hE'
   refine ⟨x',hE',fun x y' H' e2 e3 e4 e5 e6 w' s'=>?_⟩
   obtain ⟨w2,s2⟩:=stay wl2 s' w'
   have pm2:([some x,some y']++L1.set i none).Perm (some y' :: (some x :: L1.set i none)):=List.Perm.swap ..
   have w3:=(w2.perm pm2).set (i:=i + 1)
   rw [List.set_cons_succ,List.set_set] at w3
   have s3:Step H L H' (some x :: L1.set i (some y')):=by
    have:=(sl2.trans (s2.perm (List.Perm.refl _) pm2)).trans (Step.set (i:=i + 1))
    rw [List.set_cons_succ,List.set_set] at this
    exact this
   have mm:=kjo (i:=i) (x:=y') (s:=x') m1 e4 e5
   rw [e6,jxn a4] at mm
   exact kk _ _ rfl x _ H' e2 e3 mm w3 s3 fun z=>nomatch z
end
end Q
noncomputable section
namespace Q
open PySem PySem.Spec PyProof.Rows L2 L3
abbrev vvh (K:PySem.W.Frag) (UC:Addr) (tb:XK->TS) (ts:TS):TS:=fun D σ H=>∃ E:XK,tb E D σ H/\∀ x Cv H',E Cv none H'->H' x=none->∃ C,Cv=.ref C/\PySem.W.exmOne K (.ref C) (.ref UC)=some true/\XCls K C/\ts D σ H'
theorem vkc {X:Cx} {ux:Str} {np hpos pos:Pos} {UC:Addr} {st b0:Stmt} {suite:List Stmt} {tb:XK->TS} {ts:TS} (top:qk2 X) (hU:X.mg ux=some (.ref UC)) (hb:PSX X st tb)
  (hs:∀ x,PSs (tX X x) (b0 :: suite) ts) (hg:Gl X ux:=by rfl) (hdb:(ux == ("__debug__":Str))=false:=by decide) :
  PS X (.Try [st] [.ExceptHandler (some (.Name ux np)) none (b0 :: suite) hpos] [] [] pos) (vvh X.K UC tb ts):=by
 intro pins s σ H D I ⟨E,h1,h2⟩
 refine wpAny_Try_except (wpAny_execs_cons (wpAny_mono (hb E pins s σ H D I h1) (fun f s1 q=>?_) (fun e s1 q=>?_)))
 ·cases f with
  | next=>exact wpAny_execs_nil (wpAny_execs_nil q)
  | ret v=>exact q
  | brk=>exact q
  | cont=>exact q
 ·obtain ⟨H',x,Cv,rfl,I1,f1,q1⟩:=q
  refine kw2 top rfl I1 f1 fun L T s2 _ t2=>jwj t2 fun s3 t3=>?_
  obtain ⟨C,rfl,hm,xc,ht⟩:=h2 x Cv H' q1 t3.fx.1
  refine wpAny_handleBy_cons (codeAny_handlers_test ?_) (fun z=>nomatch z)
  obtain ⟨vs,ho,hv⟩:=t3.f.ex
  have I3:Inv (tX X x) pins σ H' s3:=kzr t3.inv
  refine jxd I3 hg hU ?_ hdb
  have at3:PySem.W.InstAt s3.heap x { cls:=.ref C,data:=.fields vs } C none:=⟨ho,rfl,rfl,trivial⟩
  refine Lk (PySem.W.exm_one t3.inv.kIn at3.type hm) ?_
  show codeAny _ _ _ _ s3
  refine codeAny_handlers_suite (jwj t3 fun s4 t4=>?_)
  have I4:Inv (tX X x) pins σ H' s4:=kzr t4.inv
  refine wpAny_mono (hs x pins s4 _ _ _ I4 ht) (fun f s6 q=>?_) fun _ _ z=>z.elim
  have bk:∀ {σ6:L2.St} {H6:Hp},Inv (tX X x) pins σ6 H6 s6->Inv X pins σ6 H6 s6:=fun z=>qvb I.ok z
  cases f with
  | next =>
   obtain ⟨σ6,H6,I6,q6⟩:=q
   exact ⟨_,_,bk I6,q6⟩
  | brk =>
   obtain ⟨σ6,H6,I6,q6⟩:=q
   exact ⟨_,_,bk I6,q6⟩
  | cont =>
   obtain ⟨σ6,H6,I6,q6⟩:=q
   exact ⟨_,_,bk I6,q6⟩
  | ret v =>
   obtain ⟨v',σ6,H6,I6,r6,q6⟩:=q
   exact ⟨v',_,_,bk I6,r6,q6⟩
section
variable {X:Cx} {Z:Fx0} {pn:List Nat} {q:Bool} {b:Ex} {e:Expr} {pos:Pos}
theorem qkg {UC:Addr} {cs:List Str} {B h:Sm} {tb:XK->TS} {D:Ends} {σ:L2.St} {H:Hp} (hK:X.K=Z.K) (ca:kkd X.K Z.mg UC cs)
  (hb:∀ (EX:XK) E L r,Mt E σ L->World Z.K H L->B E=some r->(∀ E' c,r=.xc E' c->∀ C L' H',Z.mg c=some (.ref C)->Mt E' σ L'->World Z.K H' L'->Step H L H' L'->EX (.ref C) none H')->((∀ E' c,r≠.xc E' c)->FlP Z pn D σ H L r)->tb EX D σ H)
  (hr:tS Z pn (kqh cs B h) D σ H):vvh X.K UC tb (tS ⟨Z.K,Z.mg,fun _ _ _=>False⟩ pn h) D σ H:=by
 obtain ⟨E,L,r,m,w,hr,k⟩:=hr
 have hr:kqh cs B h E=some r:=hr
 cases hB:B E with
 | none=>unfold kqh at hr;rw [hB] at hr;cases hr
 | some rb =>
  refine ⟨fun Cv _ H'=>∃ E1 c C L1,rb=.xc E1 c/\Cv=.ref C/\Z.mg c=some (.ref C)/\Mt E1 σ L1/\World Z.K H' L1/\Step H L H' L1,hb _ E L rb m w hB (fun E' c e C L' H' hm m' w' st=>⟨E',c,C,L',e,rfl,hm,m',w',st⟩) (fun hne=>?_),?_⟩
  ·unfold kqh at hr
   rw [hB] at hr
   cases rb with
   | xc E1 c1=>exact absurd rfl (hne E1 c1)
   | nx E1=>cases oq9 hr;exact k
   | ct E1=>cases oq9 hr;exact k
   | bk E1=>cases oq9 hr;exact k
   | rt E1 x=>cases oq9 hr;exact k
  ·rintro x Cv H' ⟨E1,c,C,L1,rfl,rfl,hm,m1,w1,st1⟩ hx
   unfold kqh at hr
   rw [hB] at hr
   dsimp only at hr
   by_cases hc:c∈cs
   ·rw [if_pos hc] at hr
    obtain ⟨C',g1,g2,g3,g4⟩:=ca c hc
    rw [hm] at g1
    cases oq9 g1
    refine ⟨C,rfl,g3,g4,?_⟩
    cases hh:h E1 with
    | none=>rw [hh] at hr;cases hr
    | some rh =>
     rw [hh] at hr
     have k2:=k.step st1 Pn.refl
     refine ⟨E1,L1,rh,m1,w1,hh,?_⟩
     cases rh with
     | xc E2 c2=>cases hr
     | nx E2=>cases oq9 hr;exact k2
     | ct E2=>cases oq9 hr;exact k2
     | bk E2=>cases oq9 hr;exact k2
     | rt E2 x=>cases oq9 hr;exact k2
   ·rw [if_neg hc] at hr;cases hr
theorem vw4 {ux:Str} {np hpos tpos:Pos} {UC:Addr} {b0:Stmt} {suite:List Stmt} {cs:List Str} {h:Sm} (top:qk2 X) (hU:X.mg ux=some (.ref UC)) (hK:X.K=Z.K) (ca:kkd X.K Z.mg UC cs) (hb:QEX X Z q b e)
  (hs:∀ x,QSs (tX X x) ⟨Z.K,Z.mg,fun _ _ _=>False⟩ pn h (b0 :: suite)) (hsw:swapsWith e none pos.line X.env=pure false:=by rfl) (hg:Gl X ux:=by rfl) (hdb:(ux == ("__debug__":Str))=false:=by decide) :
  QS X Z pn (kqh cs (qx0 b) h) (.Try [.Expr e pos] [.ExceptHandler (some (.Name ux np)) none (b0 :: suite) hpos] [] [] tpos) :=
 jwn (vkc top hU (qx6 hb hsw) hs hg hdb) fun D σ H hr=>qkg hK ca (fun EX E L r m w hB hx hk=>by
  have hB:ofE (b E) (fun E _=>some (.nx E))=some r:=hB
  rcases jww hB with ⟨E1,s,h1,h2⟩ | ⟨E1,c,h1,rfl⟩
  ·cases oq9 h2
   refine ⟨E,L,_,m,w,h1,(fun _ _ z=>by cases z),fun E' s' z x L' H' e1 e2 m' w' st sm=>?_⟩
   injection z with z1 z2
   subst z1 z2
   exact hk (fun _ _ z=>nomatch z) σ L' H' Pn.refl m' w'.tail (st.trans Step.drop)
  ·exact ⟨E,L,_,m,w,h1,(fun E' c' e C L' H' hm m' w' st=>by injection e with z1 z2;subst z1 z2;exact hx _ _ rfl C L' H' hm m' w' st),fun E' s' z=>by cases z⟩) hr
end
end Q
namespace Q
open PySem PySem.Spec PyProof.Rows L2 L3
theorem qv3 {P:Program} {w:PySem.World} {K:PySem.W.Frag} {mg mb:Str->Option Value} {CX:CXT} {k:Nat} {fa a:Addr} {fd:FuncData} {x:Str} {sp:Sp} {s₁:Shared} {vs:List Value} {ns:List Int}
  (KX:K.In s₁.heap) (hns:s₁.heap.Ns mainGlobals mg) (hb:s₁.heap.Ns builtinsNs mb) (hbb:∀ x:Str,x≠"__name__"->mb x=bootBuiltins x) (hlim:s₁.heap.NoLimit) (hg:s₁.gens=#[])
  (ha:s₁.heap.get? a=some { cls:=.type "list",data:=.seq vs.toArray }) (hi:IntsAre vs ns) (hl:ns.length<=sizeLine) (hr:Room k callerA)
  (F:∀ base:Heap,K.In base->base.Ns mainGlobals mg->FnOk P w K mg base CX k fa fd [x] sp) (hbind:∀ (s:Shared) (u:Value),BindsTo s fd ⟨[u],[]⟩ [(x,u)])
  (hsp:∀ H:Hp,wkd H->LsR K H a (ns.map V.int)->sp [.ref a] H (fun v _=>v=.bl true) fun _ _ _=>False)
  (hCX:∀ H e s',CX [] H s₁ (fun _ _ _=>False) e s'->False) :
  codeAny (model P w) callerA (.call (.ref fa) ⟨[.ref a],[]⟩) (fun r s'=>r=.ok (.ret (.bool true))/\OldK s₁.heap s'.heap/\s'.os=s₁.os/\AllBare s'.gens) s₁:=by
 have rv:=kv9 hi
 have lenV:=hi.length
 have core:∀ H:Hp,wkd H->LsR K H a (ns.map V.int)->HOk P w H s₁.heap->(∀ b,H b≠none->b=a)->(H a≠none->K.lookup a=none) ->
   codeAny (model P w) callerA (.call (.ref fa) ⟨[.ref a],[]⟩) (fun r s'=>r=.ok (.ret (.bool true))/\OldK s₁.heap s'.heap/\s'.os=s₁.os/\AllBare s'.gens) s₁:=by
  intro H hO hS hok hA hK
  have base_of:∀ {b:Addr} {o:Obj},s₁.heap.get? b=some o->H b=none->(qxw s₁.heap H).get? b=some o:=fun e n=>qxv e n
  have noA:∀ {b:Addr} {o:Obj} {es:Array DictEntry} {ep:Nat},s₁.heap.get? b=some o->o.data=.dict es ep->H b=none:=fun {b o es ep} e d=>by
   cases q:H b with
   | none=>rfl
   | some u =>
    have e':b=a:=hA b (by rw [q];simp)
    subst e'
    rw [ha] at e;cases e
    have d':Data.seq vs.toArray _=Data.dict es ep:=d
    cases d'
  have nsK:∀ {b:Addr} {m:Str->Option Value},s₁.heap.Ns b m->(qxw s₁.heap H).Ns b m:=fun {b m} ⟨o,es,ep,e,d,r⟩=>⟨o,es,ep,base_of e (noA e d),d,r⟩
  have hKb:K.In (qxw s₁.heap H):=fun b o e=>base_of (KX b o e) (by
   cases q:H b with
   | none=>rfl
   | some u =>
    have e':b=a:=hA b (by rw [q];simp)
    subst e'
    rw [hK (by rw [q];simp)] at e;cases e)
  have hM:Mod K mg (qxw s₁.heap H):=⟨hKb,nsK hns,⟨mb,nsK hb,hbb⟩,let ⟨mc,h1,h2⟩:=hlim;⟨mc,nsK h1,h2⟩⟩
  have e0:Env0 P w K mg (qxw s₁.heap H) callerA [] s₁ H:=⟨rfl,hM,fun b o e=>vkx e,Nat.le_of_eq (qvg _ _),trivial,fun b hb=>absurd (show b∈([]:List Addr) from hb) (by simp),hok,.of_eq hg⟩
  refine codeAny_mono ((F _ hKb (nsK hns)).run callerA [] s₁ H ⟨[.ref a],[]⟩ [.ref a] [.ref a] _ _ hr e0 (hbind s₁ (.ref a)) (.cons rfl .nil) (hsp H hO hS)) fun r s' h=>?_
  cases r with
  | error e=>exact (hCX H e s' h).elim
  | ok fl =>
   cases fl with
   | next=>exact False.elim h
   | brk=>exact False.elim h
   | cont=>exact False.elim h
   | ret u =>
    obtain ⟨v,H',os,bare,un,hok',r',q⟩:=h
    have q':v=.bl true:=q
    subst q'
    obtain rfl:u=Value.bool true:=r'
    refine ⟨rfl,OldK.of_keep fun b o e=>?_,os,bare⟩
    cases q:H b with
    | none=>exact un.keep b o e q (by intro z;exact absurd (show b∈([]:List Addr) from z) (by simp)) (by simp)
    | some u =>
     rcases hO b with z | ⟨ob,xs,z⟩
     ·rw [q] at z;cases z
     ·have z2:=un.frzs b ob _ z
      obtain ⟨e1,_⟩:=hok b _ z
      obtain ⟨e2,_⟩:=hok' b _ z2
      rw [e] at e1;cases e1
      exact e2
 cases hk:K.lookup a with
 | some o =>
  have e:=KX a o hk
  rw [ha] at e
  cases e
  refine core (fun _=>none) (fun _=>.inl rfl) (.inr ⟨vs.toArray,_,hk,by rw [List.size_toArray,lenV];exact hl,by simpa using rv⟩) (fun b u z=>by have z':(none:Option HO)=some u:=z;cases z') (fun b z=>absurd rfl z) fun z=>absurd rfl z
 | none =>
  refine core (fun b=>if b=a then some (.frz { cls:=.type "list",data:=.seq vs.toArray } (.lst (ns.map V.int))) else none) (fun b=>?_) (.inl (.inr ⟨{ cls:=.type "list",data:=.seq vs.toArray },if_pos rfl⟩)) (fun b u z=>?_) (fun b z=>?_) fun _=>hk
  ·by_cases hb:b=a
   ·exact .inr ⟨_,_,if_pos hb⟩
   ·exact .inl (if_neg hb)
  ·by_cases hb:b=a
   ·have z':=(if_pos hb).symm.trans z
    cases z'
    subst hb
    exact ⟨ha,by rw [List.length_map];exact hl,vs,_,rv,ha⟩
   ·have z':=(if_neg hb).symm.trans z
    cases z'
  ·by_cases hb:b=a
   ·exact hb
   ·exact absurd (if_neg hb) z
@[elab_as_elim] theorem qwj {P:List Value->Prop} (us:List Value) (e:us.length=1) (h:∀ a,P [a]):P us:=by
 cases us with
 | nil=>cases e
 | cons a us=>cases List.eq_nil_of_length_eq_zero (Nat.succ.inj e);exact h a
@[elab_as_elim] theorem vq1 {P:List Value->Prop} (us:List Value) (e:us.length=2) (h:∀ a b,P [a,b]):P us:=by
 cases us with
 | nil=>cases e
 | cons a us=>exact qwj (P:=fun l=>P (a :: l)) us (Nat.succ.inj e) fun b=>h a b
@[elab_as_elim] theorem qzu {P:List Value->Prop} (us:List Value) (e:us.length=3) (h:∀ a b c,P [a,b,c]):P us:=by
 cases us with
 | nil=>cases e
 | cons a us=>exact vq1 (P:=fun l=>P (a :: l)) us (Nat.succ.inj e) fun b c=>h a b c
@[elab_as_elim] theorem vq0 {P:List Value->Prop} (us:List Value) (e:us.length=4) (h:∀ a b c d,P [a,b,c,d]):P us:=by
 cases us with
 | nil=>cases e
 | cons a us=>exact qzu (P:=fun l=>P (a :: l)) us (Nat.succ.inj e) fun b c d=>h a b c d
@[elab_as_elim] theorem len5 {P:List Value->Prop} (us:List Value) (e:us.length=5) (h:∀ a b c d f,P [a,b,c,d,f]):P us:=by
 cases us with
 | nil=>cases e
 | cons a us=>exact vq0 (P:=fun l=>P (a :: l)) us (Nat.succ.inj e) fun b c d f=>h a b c d f
@[elab_as_elim] theorem len6 {P:List Value->Prop} (us:List Value) (e:us.length=6) (h:∀ a b c d f g,P [a,b,c,d,f,g]):P us:=by
 cases us with
 | nil=>cases e
 | cons a us=>exact len5 (P:=fun l=>P (a :: l)) us (Nat.succ.inj e) fun b c d f g=>h a b c d f g
theorem jzg {K:PySem.W.Frag} {H:Hp} {g:Bool}:∀ (ns:List Int),RepA K H g (ns.map D.int) (ns.map V.int) []
 | []=>by unfold RepA;exact ⟨rfl,rfl⟩
 | n :: ns=>by
  rw [List.map_cons,List.map_cons]
  unfold RepA
  exact ⟨_,_,[],[],rfl,rfl,jj2,jzg ns⟩
theorem vxf {K:PySem.W.Frag} {mg:Str->Option Value} {f:Fn} {H:Hp} {a:Addr} {ns:List Int} (h:∃ E o,f [(.no,.lst (ns.map D.int))]=some (.ok E (o,.bl true))) (hs:LsR K H a (ns.map V.int)) (hO:wkd H) :
  spF K mg 1 f [.ref a] H (fun v _=>v=.bl true) fun _ _ _=>False:=by
 obtain ⟨E,o,h⟩:=h
 have key:∃ as,RepL K H true (.lst (ns.map D.int)) (.ref a) as/\(∀ b∈as,False):=by
  rcases hs with (hs | ⟨ob,hs⟩) | hs
  ·rcases hO a with z | ⟨_,_,z⟩<;>(rw [hs] at z;cases z)
  ·refine ⟨[],?_,fun b hb=>nomatch hb⟩
   unfold RepL
   exact ⟨a,ns.map V.int,[],rfl,jzg ns,.inr ⟨rfl,.inl ⟨ob,hs⟩,rfl⟩⟩
  ·refine ⟨[],?_,fun b hb=>nomatch hb⟩
   unfold RepL
   exact ⟨a,ns.map V.int,[],rfl,jzg ns,.inr ⟨rfl,.inr hs,rfl⟩⟩
 obtain ⟨as,r,hn⟩:=key
 refine ⟨[⟨.no,.lst (ns.map D.int),.ref a,as⟩],_,rfl,rfl,?_,h,(fun E' c z=>by cases z),fun E' s z x H' e1 e2 w' st=>?_⟩
 ·exact ⟨fun x hx=>by rw [oq9 (List.mem_singleton.mp hx)];exact r,by simp [Sl.own],fun b hb=>by simp [Sl.own] at hb⟩
 ·injection z with z1 z2
  subst z2
  exact kxc w'.head e2
section
open PySem.W PySem.Calls
theorem walkQ {l:OpenLaw} {n k:Nat} {q:Program} {jqz:List Str} {XP:(Str->Option Value)->Heap->Prop} {YP:PySem.World->Heap->Prop} {d:DefRec} {K:Params->Frag} {f:Fn} {x:Str}
  (hn:l.most=some n) (hn2:n<=sizeLine) (hdf:d.params.defaults=[]) (hr:Room k callerA)
  (hY:∀ (w:PySem.World) (h:Heap),YP w h->(K w.params).In h)
  (F:∀ (w:PySem.World) (mg:Str->Option Value) (fa:Addr) (h:Heap),(K w.params).In h->h.Ns mainGlobals mg->mg d.name=some (.ref fa) ->
   ∃ fd:FuncData,(∀ (s:Shared) (u:Value),BindsTo s fd ⟨[u],[]⟩ [(x,u)])/\∀ base:Heap,(K w.params).In base->base.Ns mainGlobals mg->FnOk l.prog w (K w.params) mg base (CXE l.prog w) k fa fd [x] (spF (K w.params) mg 1 f))
  (hsp:∀ (ns:List Int),ns.length<=n->(∀ i∈ns,Builtin.Int.intBits i<=1048576)->∃ E o,f [(.no,.lst (ns.map D.int))]=some (.ok E (o,.bl true))) :
  WalkO q jqz XP YP l.row.toRowW d [] (fun f vs=>PySem.call f vs):=by
 intro w s0 s1 mg mb G Y fa o pm cd doc dV kV ho hd hcd hD hmg hg args vals as hpre hlay hrd hwl hlo
 obtain rfl:dV=.none:=Dflts.none hD hdf
 obtain rfl:kV=.none:=Dflts.noKw hD
 obtain ⟨a,vs,ns,rfl,rfl,hobj,hints,hlen⟩:=Att.script_of hn hpre hwl
 have hbits:=kxq hlay
 have KX:=hY w _ Y
 obtain ⟨fd,hb,hF⟩:=F w mg fa _ KX G.T.g hmg
 refine enter_call (codeAny_mono (qv3 KX G.T.g G.T.b G.T.builtins G.T.nolimit hg hobj hints (Nat.le_trans hlen hn2) hr hF hb (fun H hO hS=>vxf (hsp ns hlen hbits) hS hO) (fun _ _ _ ⟨_,_,_,_,_,_,_,_,_,_,_,_,_,_,_,z⟩=>z)) fun r s' hq=>?_)
 obtain ⟨rfl,h2,h3,h4⟩:=hq
 exact ⟨.inl ⟨.bool true,.bool true,[],rfl,fun _=>rfl,.bool true,Att.post_true l _,fun _=>⟨List.Pairwise.nil,fun _ hm=>(nomatch hm)⟩⟩,h2,h3,h4⟩
end
end Q
namespace Q
open PySem
def out (f:Fn) (xs:List Sd):Option (Sd ⊕ Str):=match f xs with
 | some (.ok _ y)=>some (.inl y)
 | some (.exc _ c)=>some (.inr c)
 | none=>none
theorem qzt (n:Nat) (h:300<=n):(10:Nat) ^ 70 < 2 ^ n:=Nat.lt_of_lt_of_le (show (10:Nat) ^ 70 < 2 ^ 240 by decide) (Nat.pow_le_pow_right (by decide) (by omega))
theorem vx9:(10:Nat) ^ 70 < 2 ^ 4096:=qzt 4096 (by decide)
theorem mul_l {o1 o2:Own} {a b:Int} (h1:-18446744073709551616 < a) (h2:a < 18446744073709551616):qju (o1,.int a) (o2,.int b)=some (.dp,.int (a * b)):=by
 have:jzy a b=true:=by
  have:kwy a=true:=by unfold kwy;rw [decide_eq_true (show -(2 ^ 64) < a by omega),decide_eq_true (show a < 2 ^ 64 by omega)];rfl
  unfold jzy;rw [this];rfl
 show (if jzy a b=true then _ else _)=_
 rw [if_pos this]
theorem mul_r {o1 o2:Own} {a b:Int} (h1:-18446744073709551616 < b) (h2:b < 18446744073709551616):qju (o1,.int a) (o2,.int b)=some (.dp,.int (a * b)):=by
 have:jzy a b=true:=by
  have:kwy b=true:=by unfold kwy;rw [decide_eq_true (show -(2 ^ 64) < b by omega),decide_eq_true (show b < 2 ^ 64 by omega)];rfl
  unfold jzy;rw [this,Bool.or_true];rfl
 show (if jzy a b=true then _ else _)=_
 rw [if_pos this]
theorem wjn {o1 o2:Own} {a b:Int} (h1:-(10 ^ 70) < a) (h2:a < 10 ^ 70) (h3:-(10 ^ 70) < b) (h4:b < 10 ^ 70):qju (o1,.int a) (o2,.int b)=some (.dp,.int (a * b)):=by
 have lg:∀ {c:Int},c.natAbs < 10 ^ 70->c.natAbs.log2 < 2000000:=fun {c} h=>by
  rcases Nat.eq_zero_or_pos c.natAbs with h0 | hp
  ·rw [h0];decide
  ·exact Nat.lt_trans ((Nat.log2_lt (Nat.ne_of_gt hp)).mpr (Nat.lt_trans h vx9)) (by decide)
 have ha:a.natAbs.log2 < 2000000:=lg (by omega)
 have hb:b.natAbs.log2 < 2000000:=lg (by omega)
 have:jzy a b=true:=by unfold jzy;rw [decide_eq_true ha,decide_eq_true hb];simp
 show (if jzy a b=true then _ else _)=_
 rw [if_pos this]
theorem add_i {o1 o2:Own} {a b:Int}:jk7 (o1,.int a) (o2,.int b)=some (.dp,.int (a + b)):=rfl
theorem sub_i {a b:Int}:fSub (.int a) (.int b)=some (.int (a - b)):=rfl
theorem div_i {a b:Int} (h:0 < b) (h2:b < 10 ^ 70):qk5 (.int a) (.int b)=some (.int (a / b)):=by
 have hb:b.natAbs.log2 < 9000:=by
  exact (Nat.log2_lt (by omega)).mpr (Nat.lt_trans (show b.natAbs < 10 ^ 70 by omega) (qzt 9000 (by decide)))
 show (if 0 < b/\b.natAbs.log2 < 9000 then some (a / b) else none).map _=_
 rw [if_pos ⟨h,hb⟩];rfl
theorem mod_i {a b:Int} (h:0 < b):jvg (.int a) (.int b)=some (.int (a % b)):=by
 show (if 0 < b then some (a % b) else none).map _=_
 rw [if_pos h];rfl
theorem pow_i {a b:Int} (h1:0<=b) (h2:b<=1000) (h3:-1000000 < a) (h4:a < 1000000):vj0 (.int a) (.int b)=some (.int (a ^ b.toNat)):=by
 show (if 0<=b/\b<=1000000/\a.natAbs < 2 ^ 64 then some (a ^ b.toNat) else none).map _=_
 rw [if_pos ⟨h1,by omega,by omega⟩];rfl
theorem qvs {a b:Int}:fEq (.int a) (.int b)=some (.bl (a == b)):=rfl
theorem kqx {a b:Str}:fEq (.str a) (.str b)=some (.bl (a == b)):=rfl
theorem lt_ii {a b:Int}:fLt (.int a) (.int b)=some (.bl (decide (a < b))):=rfl
theorem gt_ii {a b:Int}:fGt (.int a) (.int b)=some (.bl (decide (b < a))):=rfl
theorem le_ii {a b:Int}:fLe (.int a) (.int b)=some (.bl (decide (a<=b))):=rfl
theorem ge_ii {a b:Int}:fGe (.int a) (.int b)=some (.bl (decide (b<=a))):=rfl
theorem kw7 {xs:List D} {i:Int} {d:D} (h0:0<=i) (h:xs[i.toNat]?=some d):jwb (.lst xs) (.int i)=some d:=by
 show ((ixN xs.length i).bind fun j=>xs[j]?)=some d
 have hl:i.toNat < xs.length:=(List.getElem?_eq_some_iff.mp h).1
 unfold ixN
 rw [if_pos h0,if_pos (by omega)]
 exact h
theorem ix_t {xs:List D} {i:Int} {d:D} (h0:0<=i) (h:xs[i.toNat]?=some d):jwb (.tup xs) (.int i)=some d:=by
 show ((ixN xs.length i).bind fun j=>xs[j]?)=some d
 have hl:i.toNat < xs.length:=(List.getElem?_eq_some_iff.mp h).1
 unfold ixN
 rw [if_pos h0,if_pos (by omega)]
 exact h
theorem len_l {xs:List D}:jwq (.lst xs)=some (.int xs.length):=rfl
theorem len_t {xs:List D}:jwq (.tup xs)=some (.int xs.length):=rfl
end Q
namespace Q
open PySem
theorem qv9 (ns:List Int) (i:Int) (h0:0<=i) (h1:i < ns.length):jwb (.lst (ns.map D.int)) (.int i)=some (.int (ns.getD i.toNat 0)):=by
 have:i.toNat < ns.length:=by omega
 refine kw7 h0 ?_
 simp [this]
theorem wjq (xs:List D) (i:Int) (h0:0<=i) (h1:i < xs.length):jwb (.lst xs) (.int i)=some (xs.getD i.toNat .non):=by
 have:i.toNat < xs.length:=by omega
 refine kw7 h0 ?_
 simp [this]
theorem qxr (xs:List D) (i:Int) (h0:0<=i) (h1:i < xs.length):jwb (.tup xs) (.int i)=some (xs.getD i.toNat .non):=by
 have:i.toNat < xs.length:=by omega
 refine ix_t h0 ?_
 simp [this]
theorem kjx (xs:List D) (i:Int) (h0:0<=i) (h1:i < xs.length):xs.getD i.toNat .non∈xs:=by
 have:i.toNat < xs.length:=by omega
 rw [List.getD_eq_getElem?_getD,List.getElem?_eq_getElem this]
 exact List.getElem_mem this
theorem kwu {o1 o2:Own} {a b:List D} (h1:o1≠.dp) (h2:o2≠.dp) (hl:a.length + b.length < 10000):jk7 (o1,.lst a) (o2,.lst b)=some (.rt,.lst (a++b)):=by
 show (if a.length + b.length<=big/\jqz (o1,.lst a)/\jqz (o2,.lst b) then _ else _)=_
 rw [if_pos ⟨by unfold big;omega,by cases o1<;>simp_all [jqz],by cases o2<;>simp_all [jqz]⟩]
theorem kqd {o:Own} {xs:List D} (h:o≠.dp):jvt (o,.lst xs)=some (.no,.tup xs):=by
 show (if jqz (o,.lst xs) then _ else _)=_
 rw [if_pos (by cases o<;>simp_all [jqz])]
end Q
namespace Q
open PySem
abbrev XP:=Str->Prop
theorem nd {α:Sort _} {a b:α} (h:a=b):a=b:=h
@[irreducible] noncomputable def Eo {α:Type} (m:Option (Res α)) (P:En->α->Prop) (X:XP):Prop:=match m with
 | some (.ok E a)=>P E a
 | some (.exc _ c)=>X c
 | none=>False
@[irreducible] noncomputable def Vo {α:Type} (m:Option α) (P:α->Prop):Prop:=match m with
 | some a=>P a
 | none=>False
@[irreducible] noncomputable def Oo (f:Fn) (xs:List Sd) (P:Sd->Prop) (X:XP):Prop:=match f xs with
 | some (.ok _ y)=>P y
 | some (.exc _ c)=>X c
 | none=>False
@[irreducible] noncomputable def Po (r:Option Fl) (N C:En->Prop) (R:Sd->Prop) (X:XP):Prop:=match r with
 | some (.nx E)=>N E
 | some (.ct E)=>C E
 | some (.rt _ x)=>R x
 | some (.xc _ c)=>X c
 | _=>False
abbrev noX:XP:=fun _=>False
section
variable {α β:Type} {P:En->α->Prop} {X:XP} {N C:En->Prop} {R:Sd->Prop} {E:En}
theorem kk5 {a:α}:Eo (some (.ok E a)) P X=P E a:=nd (by with_unfolding_all rfl)
theorem qvv {c:Str}:Eo (some (.exc E c):Option (Res α)) P X=X c:=nd (by with_unfolding_all rfl)
theorem qvt:Eo (none:Option (Res α)) P X=False:=nd (by with_unfolding_all rfl)
theorem jjt {m:Option (Res β)} {f:En->β->Option (Res α)}:Eo (bnd m f) P X=Eo m (fun E a=>Eo (f E a) P X) X:=by
 cases m with
 | none=>with_unfolding_all rfl
 | some r=>cases r<;>with_unfolding_all rfl
theorem vo_some {a:α} {P:α->Prop}:Vo (some a) P=P a:=nd (by with_unfolding_all rfl)
theorem vo_map {x:Option β} {f:β->α} {P:α->Prop}:Vo (x.map f) P=Vo x (fun a=>P (f a)):=by cases x<;>with_unfolding_all rfl
theorem jz4 {x:Option α}:Eo (val E x) P X=Vo x (P E):=by cases x<;>with_unfolding_all rfl
theorem wjd {E:En}:Po (some (.nx E)) N C R X=N E:=nd (by with_unfolding_all rfl)
theorem wjc {E:En} {x:Sd}:Po (some (.rt E x)) N C R X=R x:=nd (by with_unfolding_all rfl)
theorem kky {m:Option (Res α)} {f:En->α->Option Fl}:Po (ofE m f) N C R X=Eo m (fun E a=>Po (f E a) N C R X) X:=by
 cases m with
 | none=>with_unfolding_all rfl
 | some r=>cases r<;>with_unfolding_all rfl
theorem vwn {a b:Sm}:Po (jji a b E) N C R X=Po (a E) (fun E=>Po (b E) N C R X) C R X:=by
 unfold jji Po
 cases a E with
 | none=>with_unfolding_all rfl
 | some r=>cases r<;>with_unfolding_all rfl
theorem vwo {x:Option β} {f:β->Fl}:Po (x.map f) N C R X=Vo x (fun a=>Po (some (f a)) N C R X):=by cases x<;>with_unfolding_all rfl
theorem Eo.mono {m:Option (Res α)} {P':En->α->Prop} (h:Eo m P X) (k:∀ E a,P E a->P' E a):Eo m P' X:=by
 cases m with
 | none=>with_unfolding_all exact h
 | some r=>cases r with
  | ok E a=>with_unfolding_all exact k E a h
  | exc E c=>with_unfolding_all exact h
theorem Oo.mono {f:Fn} {xs:List Sd} {P P':Sd->Prop} (h:Oo f xs P X) (k:∀ y,P y->P' y):Oo f xs P' X:=by
 unfold Oo at h ⊢
 cases hf:f xs with
 | none=>rw [hf] at h;with_unfolding_all exact h
 | some r=>rw [hf] at h;cases r with
  | ok E a=>with_unfolding_all exact k a h
  | exc E c=>with_unfolding_all exact h
theorem Oo.out {f:Fn} {xs:List Sd} {P:Sd->Prop} (h:Oo f xs P noX):∃ E y,f xs=some (.ok E y)/\P y:=by
 unfold Oo at h
 cases hf:f xs with
 | none=>rw [hf] at h;with_unfolding_all exact (show False from h).elim
 | some r=>rw [hf] at h;cases r with
  | ok E a=>with_unfolding_all exact ⟨E,a,rfl,h⟩
  | exc E c=>with_unfolding_all exact (show False from h).elim
theorem jvd {n:Nat} {b:Sm} {xs:List Sd} {P:Sd->Prop} (h:Po (b (xs.map some++List.replicate (n - xs.length) none)) (fun _=>P (.dp,.non)) (fun _=>False) P X):Oo (fn n b) xs P X:=by
 unfold Oo fn
 unfold Po at h
 cases hb:b (xs.map some++List.replicate (n - xs.length) none) with
 | none=>rw [hb] at h;with_unfolding_all exact h
 | some r=>rw [hb] at h;cases r<;>with_unfolding_all exact h
theorem vqk {f:Fn} {cs:List Ex} {P:En->Sd->Prop}:Eo (jjv f cs E) P X=Eo (jv0 cs E) (fun E xs=>Oo f (letAll xs) (P E) X) X:=by
 unfold jjv
 rw [jjt]
 congr 1
 funext E xs
 unfold Oo
 cases f (letAll xs) with
 | none=>with_unfolding_all rfl
 | some r=>cases r<;>with_unfolding_all rfl
def vzj (d:D) {α:Type} (a b:Option α):Option α:=match d with
 | .bl k=>if k=true then a else b
 | _=>none
theorem vqs (a b:Ex):vqt a b E=bnd (a E) fun E x=>vzj x.2 (b E) (some (.ok E (.dp,.bl false))):=by
 unfold vqt vzj
 congr 1
 funext E x
 cases x.2 with
 | bl k=>cases k<;>with_unfolding_all rfl
 | _=>with_unfolding_all rfl
theorem vz1 (a b:Ex):cOr a b E=bnd (a E) fun E x=>vzj x.2 (some (.ok E (.dp,.bl true))) (b E):=by
 unfold cOr vzj
 congr 1
 funext E x
 cases x.2 with
 | bl k=>cases k<;>with_unfolding_all rfl
 | _=>with_unfolding_all rfl
theorem kx5 {tg:Tg} {b:Sm} (I:En->List D->Prop) (hs:∀ E d ds,I E (d :: ds)->Vo (tg.put d E) fun E1=>Po (b E1) (fun E2=>I E2 ds) (fun E2=>I E2 ds) R X) (h1:∀ E,I E []->N E):∀ ds E,I E ds->Po (qwk tg b ds E) N C R X
 | [],E,h=>by with_unfolding_all exact h1 E h
 | d :: ds,E,h=>by
  have h2:=hs E d ds h
  unfold qwk
  cases hp:tg.put d E with
  | none=>rw [hp] at h2;with_unfolding_all exact (show False from h2).elim
  | some E1 =>
   rw [hp] at h2
   have h2:Po (b E1) (fun E2=>I E2 ds) (fun E2=>I E2 ds) R X:=by with_unfolding_all exact h2
   dsimp only
   cases hb:b E1 with
   | none=>rw [hb] at h2;with_unfolding_all exact (show False from h2).elim
   | some r =>
    rw [hb] at h2
    cases r with
    | nx E2=>with_unfolding_all exact kx5 I hs h1 ds E2 h2
    | ct E2=>with_unfolding_all exact kx5 I hs h1 ds E2 h2
    | rt E2 x=>with_unfolding_all exact h2
    | xc E2 c=>with_unfolding_all exact h2
    | bk E2=>with_unfolding_all exact (show False from h2).elim
theorem jwv {it:Ev (List D)} {tg:Tg} {b:Sm} (I:En->List D->Prop) (h0:Eo (it E) I X) (hs:∀ E d ds,I E (d :: ds)->Vo (tg.put d E) fun E1=>Po (b E1) (fun E2=>I E2 ds) (fun E2=>I E2 ds) R X) (h1:∀ E,I E []->N E):Po (jzn it tg b E) N C R X:=by
 show Po (ofE (it E) fun E ds=>qwk tg b ds E) N C R X
 rw [kky]
 with_unfolding_all exact h0.mono fun E ds h=>kx5 I hs h1 ds E h
theorem kze {t:Ts} {b:Sm} (I:Nat->En->Prop) (hs:∀ n E,I n E->Eo (t E) (fun E1 k=>if k=true then Po (b E1) (fun E2=>∃ m,m < n/\I m E2) (fun E2=>∃ m,m < n/\I m E2) R X else N E1) X):∀ n E,I n E->Po (sWhile t b E) N C R X:=by
 intro n
 induction n using Nat.strongRecOn with
 | _ n ih =>
  intro E h
  have h2:=hs n E h
  rw [sWhile]
  cases ht:t E with
  | none=>rw [ht] at h2;with_unfolding_all exact (show False from h2).elim
  | some r =>
   rw [ht] at h2
   cases r with
   | exc E1 c=>with_unfolding_all exact h2
   | ok E1 k =>
    cases k with
    | false=>with_unfolding_all exact h2
    | true =>
     have h2:Po (b E1) (fun E2=>∃ m,m < n/\I m E2) (fun E2=>∃ m,m < n/\I m E2) R X:=by with_unfolding_all exact h2
     dsimp only
     cases hb:b E1 with
     | none=>rw [hb] at h2;with_unfolding_all exact (show False from h2).elim
     | some r =>
      rw [hb] at h2
      cases r with
      | nx E2=>exact (show ∃ m,m < n/\I m E2 by with_unfolding_all exact h2).elim fun m hh=>ih m hh.1 E2 hh.2
      | ct E2=>exact (show ∃ m,m < n/\I m E2 by with_unfolding_all exact h2).elim fun m hh=>ih m hh.1 E2 hh.2
      | rt E2 x=>with_unfolding_all exact h2
      | xc E2 c=>with_unfolding_all exact h2
      | bk E2=>with_unfolding_all exact (show False from h2).elim
theorem qvu {tg:Tg} {t:Ts} {c:Ex} {P:En->List Sd->Prop} (J:En->List D->List Sd->Prop) (hs:∀ B d ds acc,J B (d :: ds) acc->Vo (tg.put d B) fun B1=>Eo (t B1) (fun B2 k=>if k=true then Eo (c B2) (fun B3 y=>J B3 ds (acc++[y])) X else J B2 ds acc) X) (h1:∀ B acc,J B [] acc->P B acc):∀ ds B acc,J B ds acc->Eo (lcL tg t c ds B acc) P X
 | [],B,acc,h=>by with_unfolding_all exact h1 B acc h
 | d :: ds,B,acc,h=>by
  have h2:=hs B d ds acc h
  unfold lcL
  cases hp:tg.put d B with
  | none=>rw [hp] at h2;with_unfolding_all exact (show False from h2).elim
  | some B1 =>
   rw [hp] at h2
   have h2:Eo (t B1) (fun B2 k=>if k=true then Eo (c B2) (fun B3 y=>J B3 ds (acc++[y])) X else J B2 ds acc) X:=by with_unfolding_all exact h2
   dsimp only
   rw [jjt]
   refine h2.mono fun B2 k h3=>?_
   cases k with
   | false=>with_unfolding_all exact qvu J hs h1 ds B2 acc h3
   | true =>
    show Eo (bnd (c B2) _) P X
    rw [jjt]
    with_unfolding_all exact Eo.mono (P:=fun B3 y=>J B3 ds (acc++[y])) h3 fun B3 y h4=>qvu J hs h1 ds B3 _ h4
theorem qjv {o:Own} {k:Nat} {r:List Nat} {it:Ev (List D)} {tg:Tg} {t:Ts} {c:Ex} {P:En->Sd->Prop} (J:En->En->List D->List Sd->Prop) (h0:Eo (it E) (fun E1 ds=>J E1 (vq5 k r E1) ds []) X)
  (hs:∀ E1 B d ds acc,J E1 B (d :: ds) acc->Vo (tg.put d B) fun B1=>Eo (t B1) (fun B2 k=>if k=true then Eo (c B2) (fun B3 y=>J E1 B3 ds (acc++[y])) X else J E1 B2 ds acc) X) (h1:∀ E1 B acc,J E1 B [] acc->Eo (mkL o (kkq k r B E1) acc) P X):Eo (cLC o k r it tg t c E) P X:=by
 unfold cLC
 rw [jjt]
 refine h0.mono fun E1 ds hJ=>?_
 have:=qvu (P:=fun B acc=>Eo (mkL o (kkq k r B E1) acc) P X) (J E1) (hs E1) (h1 E1) ds _ _ hJ
 cases hl:lcL tg t c ds (vq5 k r E1) [] with
 | none=>rw [hl] at this;with_unfolding_all exact (show False from this).elim
 | some q=>rw [hl] at this;cases q<;>with_unfolding_all exact this
end
theorem mulT_i {o1:Own} {a:Int} {y:Sd}:jjn (o1,.int a) y=qju (o1,.int a) y:=by
 unfold jjn;with_unfolding_all rfl
theorem mulT_l {o1:Own} {a:List D} {y:Sd}:jjn (o1,.lst a) y=qju (o1,.lst a) y:=by
 unfold jjn;with_unfolding_all rfl
def sl (q:Option (Option Sd)):Option Sd:=match q with
 | some (some x)=>some x
 | _=>none
theorem sl_some {x:Sd}:sl (some (some x))=some x:=nd (by with_unfolding_all rfl)
def wka (d:D) (a b:Prop):Prop:=match d with
 | .bl k=>if k=true then a else b
 | _=>False
theorem andP_bl {k:Bool} {a b:Prop}:wka (.bl k) a b=if k=true then a else b:=nd (by with_unfolding_all rfl)
def Wo {α:Type} (m:Option α) (E:En) (P:En->α->Prop):Prop:=Vo m (P E)
theorem wo_some {α:Type} {a:α} {E:En} {P:En->α->Prop}:Wo (some a) E P=P E a:=by unfold Wo;exact vo_some
theorem wo_map {α β:Type} {x:Option β} {f:β->α} {E:En} {P:En->α->Prop}:Wo (x.map f) E P=Wo x E (fun E a=>P E (f a)):=by unfold Wo;exact vo_map
def Oe (f:Fn) (xs:List Sd) (E:En) (P:En->Sd->Prop) (X:XP):Prop:=Oo f xs (P E) X
def intP (d:D) (P:Int->Prop):Prop:=match d with
 | .int i=>P i
 | _=>False
def Ie (d:D) (E:En) (P:En->Int->Prop):Prop:=intP d (P E)
theorem ie_i {i:Int} {E:En} {P:En->Int->Prop}:Ie (.int i) E P=P E i:=nd (by with_unfolding_all rfl)
section
variable {P:En->Sd->Prop} {T:En->Bool->Prop} {X:XP} {N C:En->Prop} {R:Sd->Prop} {E:En} {e:Option Sd} {a b c:Ex} {t u:Ts} {i:Nat}
theorem w_seq {a b:Sm}:Po (jji a b (e :: E)) N C R X=Po (a (e :: E)) (fun E=>Po (b E) N C R X) C R X:=vwn
theorem w_asg:Po (jjq i c (e :: E)) N C R X=Eo (c (e :: E)) (fun E x=>N (E.set i (some x))) X:=by unfold jjq;rw [kky];with_unfolding_all rfl
theorem w_ret:Po (jkz c (e :: E)) N C R X=Eo (c (e :: E)) (fun _ x=>R x) X:=by unfold jkz;rw [kky];with_unfolding_all rfl
theorem w_pass:Po (jqv (e :: E)) N C R X=N (e :: E):=nd (by with_unfolding_all rfl)
theorem w_cont:Po (vjs (e :: E)) N C R X=C (e :: E):=nd (by with_unfolding_all rfl)
theorem w_if {a b:Sm}:Po (sIf t a b (e :: E)) N C R X=Eo (t (e :: E)) (fun E k=>if k=true then Po (a E) N C R X else Po (b E) N C R X) X:=by
 unfold sIf;rw [kky];congr 1;funext E k;cases k<;>with_unfolding_all rfl
theorem w_tup {is:List Nat}:Po (vjr is c (e :: E)) N C R X=Eo (c (e :: E)) (fun E x=>Vo (Tg.put (.t is) x.2 E) N) X:=by
 unfold vjr;rw [kky];congr 1;funext E x;rw [vwo];with_unfolding_all rfl
theorem w_vV:Eo (vV i (e :: E)) P X=Wo (sl (e :: E)[i]?) (e :: E) P:=by
 unfold vV Wo
 cases (e :: E)[i]? with
 | none=>with_unfolding_all rfl
 | some q=>cases q<;>with_unfolding_all rfl
theorem w_cV:Eo (cV i (e :: E)) P X=Wo (sl (e :: E)[i]?) (e :: E) (fun E x=>P (E.set i (some (.no,x.2))) (.no,x.2)):=by
 unfold cV Wo
 cases (e :: E)[i]? with
 | none=>with_unfolding_all rfl
 | some q=>cases q<;>with_unfolding_all rfl
theorem w_cMv:Eo (cMv i (e :: E)) P X=Wo (sl (e :: E)[i]?) (e :: E) (fun E x=>P (E.set i none) x):=by
 unfold cMv Wo
 cases (e :: E)[i]? with
 | none=>with_unfolding_all rfl
 | some q=>cases q<;>with_unfolding_all rfl
theorem w_cC {d:D}:Eo (cC d (e :: E)) P X=P (e :: E) (.dp,d):=nd (by with_unfolding_all rfl)
theorem w_vE:Eo (vE c (e :: E)) P X=Eo (c (e :: E)) (fun E x=>P E (.no,x.2)) X:=by unfold vE;rw [jjt];with_unfolding_all rfl
theorem w_cH:Eo (cH c (e :: E)) P X=Eo (c (e :: E)) (fun E x=>if x.1=.no then P E (.no,x.2) else if x.2.pure=true then P E (.dp,x.2) else False) X:=by
 unfold cH
 rw [jjt]
 congr 1
 funext E x
 by_cases h:x.1=.no
 ·rw [if_pos h,if_pos h];with_unfolding_all rfl
 ·rw [if_neg h,if_neg h]
  by_cases h2:x.2.pure=true
  ·rw [if_pos h2,if_pos h2];with_unfolding_all rfl
  ·rw [if_neg h2,if_neg h2];with_unfolding_all rfl
theorem w_f1 {f:Sd->Option Sd}:Eo (cF1 f a (e :: E)) P X=Eo (a (e :: E)) (fun E x=>Wo (f x) E P) X:=by
 unfold cF1;rw [jjt];congr 1;funext E x;exact jz4
theorem w_f2 {f:Sd->Sd->Option Sd}:Eo (cF2 f a b (e :: E)) P X=Eo (a (e :: E)) (fun E x=>Eo (b E) (fun E y=>Wo (f x y) E P) X) X:=by
 unfold cF2;rw [jjt];congr 1;funext E x;rw [jjt];congr 1;funext E y;exact jz4
theorem w_ix:Eo (jjf a b (e :: E)) P X=Eo (a (e :: E)) (fun E x=>Eo (b E) (fun E y=>Wo (jwb x.2 y.2) E (fun E d=>P E (sub x.1,d))) X) X:=by
 unfold jjf;rw [jjt];congr 1;funext E x;rw [jjt];congr 1;funext E y;rw [jz4];exact vo_map
theorem w_tE:Eo (tE c (e :: E)) T X=Eo (c (e :: E)) (fun E x=>Wo (truth x.2) E T) X:=by
 unfold tE;rw [jjt];congr 1;funext E x;exact jz4
theorem w_tEQ:Eo (tEQ c (e :: E)) T X=Eo (c (e :: E)) (fun E x=>Wo (truthQ x.2) E T) X:=by
 unfold tEQ;rw [jjt];congr 1;funext E x;exact jz4
theorem w_tNot:Eo (tNot t (e :: E)) T X=Eo (t (e :: E)) (fun E k=>T E (!k)) X:=by unfold tNot;rw [jjt];with_unfolding_all rfl
theorem w_tAnd:Eo (tAnd t u (e :: E)) T X=Eo (t (e :: E)) (fun E k=>if k=true then Eo (u E) T X else T E false) X:=by
 unfold tAnd;rw [jjt];congr 1;funext E k;cases k<;>with_unfolding_all rfl
theorem w_tOr:Eo (tOr t u (e :: E)) T X=Eo (t (e :: E)) (fun E k=>if k=true then T E true else Eo (u E) T X) X:=by
 unfold tOr;rw [jjt];congr 1;funext E k;cases k<;>with_unfolding_all rfl
theorem w_tYes:Eo (tYes (e :: E)) T X=T (e :: E) true:=nd (by with_unfolding_all rfl)
theorem w_cIf:Eo (cIf t a b (e :: E)) P X=Eo (t (e :: E)) (fun E k=>if k=true then Eo (a E) P X else Eo (b E) P X) X:=by
 unfold cIf;rw [jjt];congr 1;funext E k;cases k<;>with_unfolding_all rfl
theorem w_cAnd:Eo (vqt a b (e :: E)) P X=Eo (a (e :: E)) (fun E x=>wka x.2 (Eo (b E) P X) (P E (.dp,.bl false))) X:=by
 rw [vqs,jjt];congr 1;funext E x
 cases x.2 with
 | bl k=>cases k<;>with_unfolding_all rfl
 | _=>with_unfolding_all rfl
theorem w_cOr:Eo (cOr a b (e :: E)) P X=Eo (a (e :: E)) (fun E x=>wka x.2 (P E (.dp,.bl true)) (Eo (b E) P X)) X:=by
 rw [vz1,jjt];congr 1;funext E x
 cases x.2 with
 | bl k=>cases k<;>with_unfolding_all rfl
 | _=>with_unfolding_all rfl
theorem w_call {f:Fn} {cs:List Ex}:Eo (jjv f cs (e :: E)) P X=Eo (jv0 cs (e :: E)) (fun E xs=>Oe f (letAll xs) E P X) X:=by with_unfolding_all exact vqk
theorem w_partS {P:En->Option Int->Prop}:Eo (qjy (some c) (e :: E)) P X=Eo (c (e :: E)) (fun E x=>Ie x.2 E (fun E i=>P E (some i))) X:=by
 show Eo (bnd (c (e :: E)) _) P X=_
 rw [jjt];congr 1;funext E x
 unfold Ie
 cases x.2<;>with_unfolding_all rfl
theorem w_sl {lo hi:Option Ex}:Eo (cSl a lo hi (e :: E)) P X=Eo (a (e :: E)) (fun E x=>Eo (qjy lo E) (fun E l=>Eo (qjy hi E) (fun E h=>Wo (fSl x l h) E P) X) X) X:=by
 unfold cSl;rw [jjt];congr 1;funext E x;rw [jjt];congr 1;funext E l;rw [jjt];congr 1;funext E h;exact jz4
theorem w_idx:Eo (vqr a b (e :: E)) P X=Eo (a (e :: E)) (fun E x=>if isSq x.2=true then Eo (b E) (fun E y=>Wo (kk4 x.2 y.2) E (fun E d=>P E (.dp,d))) X else False) X:=by
 unfold vqr;rw [jjt];congr 1;funext E x
 cases isSq x.2 with
 | false=>with_unfolding_all rfl
 | true =>
  show Eo (bnd (b E) _) P X=_
  rw [jjt]
  rw [if_pos rfl]
  congr 1;funext E y;rw [jz4];unfold pu2;exact vo_map
theorem w_itS {P:En->List D->Prop}:Eo (itS c (e :: E)) P X=Eo (c (e :: E)) (fun E x=>Wo (seqOf x.2) E P) X:=by
 unfold itS
 rw [jjt]
 congr 1
 funext E x
 exact jz4
theorem w_itEn {P:En->List D->Prop}:Eo (vv3 c (e :: E)) P X=Eo (c (e :: E)) (fun E x=>Wo (lstOf x.2) E (fun E ds=>P E (jz6 0 ds))) X:=by
 unfold vv3
 rw [jjt]
 congr 1
 funext E x
 rw [jz4]
 exact vo_map
end
theorem args_nil {e:Option Sd} {E:En} {P:En->List Sd->Prop} {X:XP}:Eo (jv0 [] (e :: E)) P X=P (e :: E) []:=nd (by with_unfolding_all rfl)
theorem args_cons {e:Option Sd} {E:En} {c:Ex} {cs:List Ex} {P:En->List Sd->Prop} {X:XP}:Eo (jv0 (c :: cs) (e :: E)) P X=Eo (c (e :: E)) (fun E x=>Eo (jv0 cs E) (fun E xs=>P E (x :: xs)) X) X:=by
 show Eo (bnd (c (e :: E)) fun E x=>bnd (jv0 cs E) fun E xs=>some (.ok E (x :: xs))) P X=_
 rw [jjt]
 congr 1
 funext E x
 rw [jjt]
 with_unfolding_all rfl
theorem eo_tup {e:Option Sd} {E:En} {cs:List Ex} {P:En->Sd->Prop} {X:XP}:Eo (jwc .no cs (e :: E)) P X=Eo (jv0 cs (e :: E)) (fun E xs=>P E (.no,.tup (xs.map (·.2)))) X:=by
 unfold jwc
 rw [jjt]
 with_unfolding_all rfl
theorem eo_lst {e:Option Sd} {E:En} {cs:List Ex} {P:En->Sd->Prop} {X:XP}:Eo (jvb .rt cs (e :: E)) P X=Eo (jv0 cs (e :: E)) (fun E xs=>P E (.rt,.lst (xs.map (·.2)))) X:=by
 unfold jvb
 rw [jjt]
 with_unfolding_all rfl
theorem jzk {c:Ex} {E:En} {P:En->List D->Prop} {X:XP} (h:Eo (c E) (fun E x=>∃ n:Int,x.2=.int n/\n<=1000/\-1000<=n/\P E (jjh 0 n)) X):Eo (jzd c E) P X:=by
 unfold jzd
 rw [jjt]
 refine h.mono ?_
 rintro E ⟨o,d⟩ ⟨n,rfl,h1,h2,h3⟩
 have:jka n=true:=by unfold jka;rw [decide_eq_true (by omega),decide_eq_true (by omega)];with_unfolding_all rfl
 show Eo (if jka n=true/\n.toNat<=big then _ else _) P X
 rw [if_pos ⟨this,by unfold big;omega⟩]
 with_unfolding_all exact h3
theorem vj7 {i:Nat} {c:Ex} {E:En} {o:Own} {xs:List D} {N C:En->Prop} {R:Sd->Prop} {X:XP} (h0:E[i]?=some (some (o,.lst xs)))
  (h:Eo (c E) (fun E1 x=>∃ o ys,E1[i]?=some (some (o,.lst ys))/\o≠.no/\ys.length < 10000/\N (E1.set i (some (if o=.dp/\jws x then .dp else .rt,.lst (ys++[x.2]))))) X):Po (jqw jz1 i c E) N C R X:=by
 unfold jqw
 rw [h0,if_pos (show vq9 (some (some (o,.lst xs)))=true from rfl),kky]
 refine h.mono ?_
 rintro E1 x ⟨o,ys,h1,h2,h3,h4⟩
 rw [h1]
 dsimp only
 have hg:jz1 ys x.2=some (ys++[x.2]):=by unfold jz1;rw [if_pos (by unfold big;omega)]
 rw [if_neg h2,hg]
 with_unfolding_all exact h4
theorem jw0 {i:Nat} {c:Ex} {E:En} {xs:List D} {N C:En->Prop} {R:Sd->Prop} {X:XP} (h0:E[i]?=some (some (.rt,.lst xs)))
  (h:Eo (c E) (fun E1 x=>∃ ys,E1[i]?=some (some (.rt,.lst ys))/\ys.length < 10000/\N (E1.set i (some (.rt,.lst (ys++[x.2]))))) X):Po (jqw jz1 i c E) N C R X :=
 vj7 h0 (h.mono fun E1 x ⟨ys,h1,h2,h3⟩=>⟨.rt,ys,h1,by decide,h2,by rw [if_neg (by rintro ⟨z,_⟩;cases z)];with_unfolding_all exact h3⟩)
theorem rng_ok {n:Int} (h1:-1000<=n) (h2:n<=1000):(jka n=true/\n.toNat<=big)=True:=by
 have:jka n=true:=by unfold jka;rw [decide_eq_true (by omega),decide_eq_true (by omega)];with_unfolding_all rfl
 with_unfolding_all exact eq_true ⟨this,by unfold big;omega⟩
theorem rng2_ok {m n:Int} (h1:-1000<=n) (h2:n<=1000) (h3:-1000<=m) (h4:m<=1000):(jka m=true/\jka n=true/\(n - m).toNat<=big)=True:=by
 have a1:jka n=true:=by unfold jka;rw [decide_eq_true (by omega),decide_eq_true (by omega)];with_unfolding_all rfl
 have a2:jka m=true:=by unfold jka;rw [decide_eq_true (by omega),decide_eq_true (by omega)];with_unfolding_all rfl
 with_unfolding_all exact eq_true ⟨a2,a1,by unfold big;omega⟩
theorem kqy {α:Type} {p:Prop} [Decidable p] {a:Option (Res α)} {P:En->α->Prop} {X:XP}:Eo (if p then a else none) P X=(p/\Eo a P X):=by
 by_cases h:p
 ·rw [if_pos h];with_unfolding_all exact propext ⟨fun z=>⟨h,z⟩,fun z=>z.2⟩
 ·rw [if_neg h];with_unfolding_all exact propext ⟨fun z=>z.elim,fun z=>h z.1⟩
theorem w_R1 {c:Ex} {e:Option Sd} {E:En} {P:En->List D->Prop} {X:XP}:Eo (jzd c (e :: E)) P X=Eo (c (e :: E)) (fun E x=>Ie x.2 E fun E n=>(jka n=true/\n.toNat<=big)/\P E (jjh 0 n)) X:=by
 unfold jzd;rw [jjt];congr 1;funext E x
 cases x.2 with
 | int n=>with_unfolding_all exact kqy
 | _=>with_unfolding_all rfl
theorem w_LR1 {c:Ex} {e:Option Sd} {E:En} {P:En->Sd->Prop} {X:XP}:Eo (vj4 c (e :: E)) P X=Eo (c (e :: E)) (fun E x=>Ie x.2 E fun E n=>(jka n=true/\n.toNat<=big)/\P E (.rt,.lst (jjh 0 n))) X:=by
 unfold vj4;rw [jjt];congr 1;funext E x
 cases x.2 with
 | int n=>with_unfolding_all exact kqy
 | _=>with_unfolding_all rfl
theorem w_R2 {c c':Ex} {e:Option Sd} {E:En} {P:En->List D->Prop} {X:XP}:Eo (vze c c' (e :: E)) P X=Eo (c (e :: E)) (fun E x=>Eo (c' E) (fun E y=>Ie x.2 E fun E m=>Ie y.2 E fun E n=>(jka m=true/\jka n=true/\(n - m).toNat<=big)/\P E (jjh m n)) X) X:=by
 unfold vze;rw [jjt];congr 1;funext E x;rw [jjt];congr 1;funext E y
 cases x.2 with
 | int m=>cases y.2 with
  | int n=>with_unfolding_all exact kqy
  | _=>with_unfolding_all rfl
 | _=>with_unfolding_all rfl
theorem vzw {o:Own} {xs:List D} {lo hi:Option Int} (h:o≠.dp):fSl (o,.lst xs) lo hi=some (.rt,.lst (vqo xs lo hi)):=by
 show (if jqz (o,.lst xs) then _ else _)=_
 rw [if_pos (by cases o<;>simp_all [jqz])]
theorem sub_no:sub .no=.no:=nd (by with_unfolding_all rfl)
theorem sub_rt:sub .rt=.no:=nd (by with_unfolding_all rfl)
theorem Oo.use {ι:Sort _} {f:Fn} {xs:List Sd} {g:ι->Sd} {S:ι->Prop} {E:En} {P:En->Sd->Prop} {X:XP} (h:Oo f xs (fun y=>∃ i,y=g i/\S i) X) (k:∀ i,S i->P E (g i)):Oe f xs E P X:=h.mono fun y ⟨i,e,s⟩=>e▸k i s
theorem Oo.via {f:Fn} {xs:List Sd} {S:Sd->Prop} {E:En} {P:En->Sd->Prop} {X:XP} (h:Oo f xs S X) (k:∀ y,S y->P E y):Oe f xs E P X:=h.mono k
theorem jxa {E:En} {ys:List Sd} {P:En->Sd->Prop} {X:XP}:Eo (mkL .rt E ys) P X=P E (.rt,.lst (ys.map (·.2))):=nd (by with_unfolding_all rfl)
theorem w_rz {c:Str} {e:Option Sd} {E:En} {N C:En->Prop} {R:Sd->Prop} {X:XP}:Po (sRz c (e :: E)) N C R X=X c:=nd (by with_unfolding_all rfl)
def Ox (f:Fn) (xs:List Sd) (E:En) (P:En->Sd->Prop) (Y:En->Str->Prop):Prop:=Oo f xs (P E) (Y E)
theorem Oo.ox {f:Fn} {xs:List Sd} {S:Sd->Prop} {W:XP} {E:En} {P:En->Sd->Prop} {Y:En->Str->Prop} (h:Oo f xs S W) (k:∀ y,S y->P E y) (l:∀ c,W c->Y E c):Ox f xs E P Y:=by
 unfold Ox Oo at *
 cases hf:f xs with
 | none=>rw [hf] at h;with_unfolding_all exact h
 | some r=>rw [hf] at h;cases r with
  | ok E a=>with_unfolding_all exact k a h
  | exc E c=>with_unfolding_all exact l c h
theorem vwp {i:Nat} {m:Option Fl} {N C:En->Prop} {R:Sd->Prop} {X:XP}:Po (qzb i m) N C R X=Po m (fun E=>N (E.set i none)) (fun E=>C (E.set i none)) R noX:=by
 cases m with
 | none=>with_unfolding_all rfl
 | some r=>cases r<;>with_unfolding_all rfl
theorem w_tryA {cs:List Str} {i j:Nat} {f:Fn} {as:List Ex} {h:Sm} {e:Option Sd} {E:En} {N C:En->Prop} {R:Sd->Prop} {X:XP}:Po (qwz cs i (jjq j (jza f as)) h (e :: E)) N C R X =
  Eo (jv0 as (e :: E)) (fun E xs=>Ox f (letAll xs) E (fun E y=>N (E.set j (some y))) (fun E c=>c∈cs/\Po (h (E.set i (some (.no,.obj c [])))) (fun E=>N (E.set i none)) (fun E=>C (E.set i none)) R noX)) noX:=by
 unfold qwz jjq jza
 cases jv0 as (e :: E) with
 | none=>with_unfolding_all rfl
 | some r =>
  cases r with
  | exc E1 c=>with_unfolding_all rfl
  | ok E1 xs =>
   rw [kk5]
   unfold Ox Oo
   dsimp only
   cases f (letAll xs) with
   | none=>with_unfolding_all rfl
   | some r =>
    cases r with
    | ok E2 y=>with_unfolding_all rfl
    | exc E2 c =>
     dsimp only [ofE]
     by_cases hc:c∈cs
     ·rw [if_pos hc,vwp]
      with_unfolding_all exact propext ⟨fun z=>⟨hc,z⟩,fun z=>z.2⟩
     ·rw [if_neg hc]
      with_unfolding_all exact propext ⟨fun z=>(show False from z).elim,fun z=>absurd z.1 hc⟩
theorem qzx {t:List (Str×Bool)} {c:Str} {k:Bool} {fs:List (Str×D)} (h:t.lookup c=some k):kwg t (.obj c fs)=some (.bl k):=by unfold kwg;dsimp only;rw [h];rfl
theorem Oo.any {f:Fn} {xs:List Sd} {P:Sd->Prop} {X:XP} (h:Oo f xs P noX):Oo f xs P X:=by
 unfold Oo at *
 cases hf:f xs with
 | none=>rw [hf] at h;with_unfolding_all exact h
 | some r=>rw [hf] at h;cases r with
  | ok E a=>with_unfolding_all exact h
  | exc E c=>with_unfolding_all exact (show False from h).elim
end Q
namespace Q
open PySem
section
variable {c kc vc:Ex} {e:Option Sd} {E:En} {X:XP} {N C:En->Prop} {R:Sd->Prop}
theorem vv8 {P:En->Sd->Prop}:Eo (qw7 kc vc (e :: E)) P X=Eo (kc (e :: E)) (fun E k=>Eo (vc E) (fun E v=>jwa k.2=true/\P E (.rt,.dct [(k.2,v.2)])) X) X:=by
 unfold qw7
 rw [jjt];congr 1;funext E k
 rw [jjt];congr 1;funext E v
 rw [kqy,kk5]
end
theorem vxb {o:Own} {kvs:List (D×D)} (h:kvs.length<=10000) (hu:unm kvs=true):jz3 (o,.dct kvs)=some (.rt,.lst (kvs.map (·.1))):=by
 unfold jz3
 dsimp only
 rw [if_pos ⟨by unfold big;omega,hu⟩]
end Q
namespace Q
open PySem
section
variable {a b c kc vc:Ex} {cs:List Ex} {e:Option Sd} {E:En} {X:XP} {N C:En->Prop} {R:Sd->Prop} {P:En->Sd->Prop} {i r n:Nat} {t:Ts}
theorem qqx {kvs:List (D×D)} (h:unm kvs=true):kwf (.dct kvs)=some (.int kvs.length):=if_pos h
theorem vjq (h0:vzf E[i]?=true) (h:Eo (kc E) (fun E1 k=>Eo (vc E1) (fun E2 v=>∃ kvs,E2[i]?=some (some (.rt,.dct kvs))/\(jwa k.2=true/\kvs.length < 10000/\unm kvs=true/\v.2.pure=true/\D.pures (kvs.map (·.2))=true) /\
  (∀ d,kwa kvs k.2=some d->P E2 (.dp,d))/\(kwa kvs k.2=none->P (E2.set i (some (.rt,.dct (kvs++[(k.2,v.2)])))) (.dp,v.2))) X) X):Eo (qjx i kc vc E) P X:=by
 unfold qjx
 rw [if_pos h0,jjt]
 refine h.mono ?_
 intro E1 k h1
 rw [jjt]
 refine h1.mono ?_
 rintro E2 v ⟨kvs,e2,hc,h3,h4⟩
 rw [e2]
 dsimp only
 rw [if_pos ⟨hc.1,by unfold big;omega,hc.2.2⟩]
 cases hg:kwa kvs k.2 with
 | none=>dsimp only;rw [kk5];exact h4 hg
 | some d=>dsimp only;rw [kk5];exact h3 d hg
def qje (s:Option (Option Sd)) (Q:Sd->Prop):Prop:=match s with
 | some (some x)=>Q x
 | _=>False
def Om (m:Option Fl) (n:Nat) (N:En->Prop) (P:Sd->Sd->Prop) (X:XP):Prop:=match m with
 | some (.nx E)=>N E
 | some (.rt E x)=>qje E[n]? (P x)
 | some (.xc _ c)=>X c
 | _=>False
def Oom (f:Fn) (xs:List Sd) (n:Nat) (P:Sd->Sd->Prop) (X:XP):Prop:=match f xs with
 | some (.ok E y)=>qje E[n]? (P y)
 | some (.exc _ c)=>X c
 | none=>False
theorem qqg {nn:Nat} {b:Sm} {xs:List Sd} {P:Sd->Sd->Prop} (h:Om (b (xs.map some++List.replicate (nn - xs.length) none)) n (fun E=>qje E[n]? (P (.dp,.non))) P X):Oom (fn nn b) xs n P X:=by
 unfold Oom fn
 cases hb:b (xs.map some++List.replicate (nn - xs.length) none) with
 | none=>rw [hb] at h;exact h.elim
 | some f =>
  rw [hb] at h
  cases f with
  | nx E=>exact h
  | rt E x=>exact h
  | xc E c=>exact h
  | ct E=>exact h.elim
  | bk E=>exact h.elim
theorem kvu {a b:Sm} {P:Sd->Sd->Prop} (h:Om (a E) n (fun E=>Om (b E) n N P X) P X):Om (jji a b E) n N P X:=by
 unfold jji
 cases ha:a E with
 | none=>rw [ha] at h;exact h.elim
 | some f =>
  rw [ha] at h
  cases f with
  | nx E=>exact h
  | rt E x=>exact h
  | xc E c=>exact h
  | ct E=>exact h.elim
  | bk E=>exact h.elim
theorem qqh {P:Sd->Sd->Prop} (h:Eo (c E) (fun E x=>qje E[n]? (P x)) X):Om (jkz c E) n N P X:=by
 unfold jkz
 cases hc:c E with
 | none=>rw [hc,qvt] at h;exact h.elim
 | some f =>
  rw [hc] at h
  cases f with
  | ok E x=>rw [kk5] at h;exact h
  | exc E c=>rw [qvv] at h;exact h
theorem vx2 {a b:Sm} {P:Sd->Sd->Prop} (h:Eo (t E) (fun E k=>if k=true then Om (a E) n N P X else Om (b E) n N P X) X):Om (sIf t a b E) n N P X:=by
 unfold sIf
 cases hc:t E with
 | none=>rw [hc,qvt] at h;exact h.elim
 | some f =>
  rw [hc] at h
  cases f with
  | ok E k =>
   rw [kk5] at h
   cases k with
   | true=>rw [if_pos rfl] at h;exact h
   | false=>rw [if_neg (by decide)] at h;exact h
  | exc E c=>rw [qvv] at h;exact h
theorem qxj {m:Option Fl} {P:Sd->Sd->Prop} (h:Po m N (fun _=>False) (fun _=>False) X):Om m n N P X:=by
 cases m with
 | none=>with_unfolding_all exact h
 | some f =>
  cases f with
  | nx E=>rw [wjd] at h;exact h
  | rt E x=>rw [wjc] at h;exact h.elim
  | xc E c=>with_unfolding_all exact h
  | ct E=>with_unfolding_all exact h
  | bk E=>with_unfolding_all exact h
theorem qj5 {f:Fn} (h:Eo (jv0 cs E) (fun E1 xs=>∃ x,E1[i]?=some (some x)/\Oom f (letAll xs++[x]) xs.length (fun y x'=>P (E1.set i (some x')) y) X) X):Eo (kkb f i cs E) P X:=by
 unfold kkb
 rw [jjt]
 refine h.mono ?_
 rintro E1 xs ⟨x,e1,h1⟩
 rw [e1]
 dsimp only
 unfold Oom at h1
 cases hf:f (letAll xs++[x]) with
 | none=>rw [hf] at h1;exact h1.elim
 | some rr =>
  rw [hf] at h1
  cases rr with
  | exc E' c=>dsimp only;rw [qvv];exact h1
  | ok E' y =>
   dsimp only at h1 ⊢
   unfold qje at h1
   cases hs:E'[xs.length]? with
   | none=>rw [hs] at h1;exact h1.elim
   | some s =>
    rw [hs] at h1
    cases s with
    | none=>exact h1.elim
    | some x'=>dsimp only at h1 ⊢;rw [kk5];exact h1
theorem Oom.mono {f:Fn} {xs:List Sd} {P Q:Sd->Sd->Prop} {X Y:XP} (h:Oom f xs n P X) (hp:∀ y x,P y x->Q y x) (hx:∀ c,X c->Y c):Oom f xs n Q Y:=by
 unfold Oom at h ⊢
 cases hf:f xs with
 | none=>rw [hf] at h;exact h.elim
 | some rr =>
  rw [hf] at h
  cases rr with
  | exc E' c=>exact hx c h
  | ok E' y =>
   dsimp only at h ⊢
   unfold qje at h ⊢
   cases hs:E'[n]? with
   | none=>rw [hs] at h;exact h.elim
   | some s =>
    rw [hs] at h
    cases s with
    | none=>exact h.elim
    | some x'=>exact hp _ _ h
theorem vv7 {cs:List Str} {f:Fn} {as:List Ex} {h:Sm}:Po (kqh cs (qx0 (jza f as)) h (e :: E)) N C R X =
  Eo (jv0 as (e :: E)) (fun E xs=>Ox f (letAll xs) E (fun E _=>N E) (fun E c=>c∈cs/\Po (h E) N C R noX)) noX:=by
 unfold kqh qx0 jza
 cases jv0 as (e :: E) with
 | none=>with_unfolding_all rfl
 | some r =>
  cases r with
  | exc E1 c=>with_unfolding_all rfl
  | ok E1 xs =>
   rw [kk5]
   unfold Ox Oo
   dsimp only
   cases f (letAll xs) with
   | none=>with_unfolding_all rfl
   | some r =>
    cases r with
    | ok E2 y=>with_unfolding_all rfl
    | exc E2 c =>
     dsimp only [ofE]
     by_cases hc:c∈cs
     ·rw [if_pos hc]
      cases h E1 with
      | none=>with_unfolding_all exact propext ⟨fun z=>⟨hc,z⟩,fun z=>z.2⟩
      | some r=>cases r<;>with_unfolding_all exact propext ⟨fun z=>⟨hc,z⟩,fun z=>z.2⟩
     ·rw [if_neg hc]
      with_unfolding_all exact propext ⟨fun z=>(show False from z).elim,fun z=>absurd z.1 hc⟩
end
end Q
noncomputable section
namespace C
open PySem Q
def jzp:Fn:=fn 4
  (jji (jjq 3 (cH (jjf (vV 0) (vE (cC (.int 1))))))
  (jji (sIf (tE (cF2 (pu2 fEq) (vV 3) (vE (cC (.str "any"))))) (jkz (cC (.bl true))) jqv)
  (jji (sIf (tE (cF2 (pu2 fEq) (vV 3) (vE (cC (.str "fresh"))))) (jkz (cF2 (pu2 jq8) (vV 2) (vV 1))) jqv)
  (jkz (cF2 (pu2 fEq) (jjf (vV 1) (vV 3)) (vV 2))))))
def jve:Fn:=fn 3
  (jji (sIf (tE (cF2 (f2First fIsNon) (vV 0) (vE (cC .non)))) (jkz (cC .non)) jqv)
  (jkz (cIf (tE (cF2 (pu2 fEq) (vV 0) (vE (cC (.str "new"))))) (cV 2) (cH (jjf (vV 1) (vV 0))))))
def jvz:Fn:=fn 3
  (jkz (cF1 jvt (vE (cLC .rt 1 [1,2] (itS (cH (jjf (vV 0) (vE (cC (.int 3)))))) (.n 0) tYes (jjv jve [(cV 0),(cV 1),(cV 2)])))))
def m_first_standing:Fn:=fn 1
  (jkz (jwc .no [(cC (.int 0)),(cF2 jjn (vE (jwc .no [(cC .non)])) (jjf (jjf (jjf (vV 0) (vE (cC (.int 1)))) (vE (cC (.int 0)))) (vE (cC (.int 0)))))]))
def jkw:Fn:=fn 2
  (jkz (cH (jjf (jjf (jjf (vV 0) (vE (cC (.int 1)))) (jjf (vV 1) (vE (cC (.int 0))))) (vE (cC (.int 2))))))
def m_fitting:Fn:=fn 6
  (jji (jjq 4 (cH (jjf (vV 1) (vE (cC (.int 1))))))
  (jji (jjq 5 (jjv jkw [(cV 0),(cV 1)]))
  (jkz (cLC .rt 2 [2,4,3] (vv3 (cV 5)) (.t [0,1]) (tAnd (tE (cF2 (pu2 fEq) (jjf (vV 1) (vE (cC (.int 0)))) (vV 2))) (tEQ (vE (jjv jzp [(cV 1),(cV 3),(cV 4)])))) (cV 0)))))
def m_behind:Fn:=fn 5
  (jji (jjq 4 (cH (jjf (vE (jjv jkw [(cV 0),(cV 1)])) (vV 2))))
  (jkz (jwc .no [(cH (jjf (vV 4) (vE (cC (.int 2))))),(jjv jvz [(cV 4),(cH (jjf (vV 1) (vE (cC (.int 1))))),(cV 3)])])))
def jko:Fn:=fn 4
  (jji (jjq 2 (cF2 jjn (vE (cC (.int 1000))) (vE (cF2 (pu2 vj0) (vE (cC (.int 10))) (vE (cC (.int 64)))))))
  (jji (jjq 3 (cF2 jk7 (vE (cF2 jjn (vE (cF2 jjn (vV 1) (vV 1))) (vV 1))) (vE (cC (.int 7)))))
  (jji (sIf (tE (cF2 (pu2 fLt) (vV 1) (vE (cF1 (pu1 jwq) (vV 0))))) (jjq 3 (cH (jjf (vV 0) (vV 1)))) (sIf (tE (cF2 (pu2 fGt) (vE (cF1 (pu1 jwq) (vV 0))) (vE (cC (.int 0))))) (jjq 3 (cF2 jjn (vE (cF2 jk7 (vE (cF2 (pu2 jvg) (jjf (vV 0) (vE (cF2 (pu2 jvg) (vV 1) (vE (cF1 (pu1 jwq) (vV 0)))))) (vE (cC (.int 1000003))))) (vE (cC (.int 1))))) (vV 3))) jqv))
  (jkz (cF2 (pu2 jvg) (vE (cF2 jjn (vE (cF2 (pu2 jvg) (vV 3) (vV 2))) (vE (cF2 (pu2 vj0) (vE (cC (.int 7919))) (vE (cC (.int 15))))))) (vV 2))))))
def m__law_digits:Fn:=fn 4
  (jji (jjq 2 (jvb .rt []))
  (jji (jzn (itS (cV 1)) (.n 3) (jji (jqw jz1 2 (cF2 (pu2 jvg) (vV 0) (vV 3)))
  (jjq 0 (cF2 (pu2 qk5) (vV 0) (vV 3)))))
  (jkz (cMv 2))))
def m__law_signs:Fn:=fn 11
  (jji (jjq 2 (cC (.str "abcdefghijklmnopqrstuvwxyz")))
  (jji (vjr [3,4,5] (jjv m__law_digits [(cV 0),(jvb .rt [(cC (.int 8)),(cC (.int 840)),(cC (.int 8))])]))
  (jji (jjq 4 (cF2 (pu2 jvg) (vV 4) (vE (cF2 jk7 (vV 3) (vE (cC (.int 1)))))))
  (jji (jjq 6 (jvb .rt []))
  (jji (jzn (jzd (vV 1)) (.n 7) (jji (jjq 8 (cC (.str "")))
  (jji (jzn (jzd (vE (cF2 jk7 (vV 3) (vE (cC (.int 1)))))) (.n 9) (jji (jjq 10 (cF2 jk7 (vE (cF2 (pu2 qk5) (vV 0) (vE (cF2 jk7 (vE (cC (.int 53761))) (vE (cF2 jjn (vE (cF2 jjn (vE (cC (.int 26))) (vV 9))) (vV 9))))))) (vE (cF2 jjn (vE (cF2 jjn (vV 7) (vE (cF2 jk7 (vV 5) (vE (cC (.int 1))))))) (vE (cF1 (pu1 qwm) (vE (cF2 (pu2 fEq) (vV 9) (vV 4)))))))))
  (jjq 8 (cF2 jk7 (vV 8) (jjf (vV 2) (vE (cF2 (pu2 jvg) (vV 10) (vE (cC (.int 26))))))))))
  (jqw jz1 6 (cV 8)))))
  (jkz (cF1 jzl (vV 6))))))))
def jkn (dr:Fn):Fn:=fn 15
  (jji (jjq 3 (jjv m__law_digits [(jjv dr [(cV 0),(cV 1)]),(cF2 jk7 (vE (cF2 jk7 (vE (jvb .rt [(cC (.int 4)),(cC (.int 8)),(cC (.int 12))])) (vE (cF2 jjn (vE (jvb .rt [(cC (.int 12))])) (vE (cC (.int 4))))))) (vE (cF2 jjn (vE (jvb .rt [(cC (.int 2))])) (vE (cC (.int 4))))))]))
  (jji (jjq 4 (cF2 jk7 (vE (cC (.int 1))) (jjf (vV 3) (vE (cC (.int 0))))))
  (jji (jjq 5 (cLC .rt 1 [3] (jzd (vV 4)) (.n 0) tYes (cF2 (pu2 jvg) (jjf (vV 1) (vE (cF2 jk7 (vE (cC (.int 3))) (vV 0)))) (vE (cF2 jk7 (vE (cC (.int 3))) (vE (cF1 (pu1 qwm) (vE (cF2 (pu2 fEq) (jjf (vV 1) (vE (cC (.int 1)))) (vE (cC (.int 3))))))))))))
  (jji (jjq 6 (cLC .dp 1 [] (jzd (vV 4)) (.n 0) tYes (jvb .dp [])))
  (jji (jzn (jzd (vE (cF2 jk7 (vE (cC (.int 3))) (jjf (vV 3) (vE (cC (.int 2))))))) (.n 7) (jji (jjq 8 (jjv m__law_digits [(jjv dr [(cV 0),(cF2 jk7 (vE (cF2 jk7 (vV 1) (vE (cC (.int 1))))) (vV 7))]),(cF2 jk7 (vE (jvb .rt [(cC (.int 12)),(cC (.int 6)),(cC (.int 60)),(cC (.int 12))])) (vE (cF2 jjn (vE (jvb .rt [(cC (.int 60))])) (vE (cC (.int 3))))))]))
  (jji (jjq 9 (cH (jjf (vV 5) (vE (cF2 (pu2 jvg) (jjf (vV 8) (vE (cC (.int 0)))) (vV 4))))))
  (jji (jjq 10 (cF2 (pu2 jvg) (jjf (vV 8) (vE (cC (.int 3)))) (vV 4)))
  (jji (jjq 11 (cF2 jk7 (vE (jvb .rt [(cC (.str "new")),(cC .non)])) (vE (vj4 (vV 9)))))
  (jji (jjq 12 (cF1 jvt (vE (cLC .rt 1 [11] (itS (cSl (vV 8) (some (vE (cC (.int 4)))) (some (vE (cF2 jk7 (vE (cC (.int 4))) (jjf (vV 5) (vV 10))))))) (.n 0) tYes (cH (jjf (vV 1) (vE (cF2 (pu2 jvg) (vV 0) (vE (cF1 (pu1 jwq) (vV 1)))))))))))
  (jji (jjq 13 (cH (jjf (vE (cF2 jk7 (vE (jvb .rt [(cC (.str "fresh")),(cC (.str "any"))])) (vE (vj4 (vV 9))))) (vE (cF2 (pu2 jvg) (jjf (vV 8) (vE (cC (.int 2)))) (vE (cF2 jk7 (vE (cC (.int 2))) (vV 9))))))))
  (vzy 6 (vE (cF2 (pu2 jvg) (jjf (vV 8) (vE (cC (.int 0)))) (vV 4))) (jwc .no [(cH (jjf (vV 2) (vE (cF2 (pu2 jvg) (jjf (vV 8) (vE (cC (.int 1)))) (vE (cF1 (pu1 jwq) (vV 2))))))),(cV 13),(cV 10),(cV 12)])))))))))
  (jji (sFz 6 (jjq 14 (cLC .rt 1 [5,3,6] (jzd (vV 4)) (.n 0) tYes (jwc .no [(cH (jjf (vV 1) (vV 0))),(cF2 (pu2 fEq) (jjf (vV 2) (vE (cF2 jk7 (vE (cC (.int 7))) (vV 0)))) (vE (cC (.int 1)))),(cH (jjf (vV 3) (vV 0)))]))))
  (jkz (jwc .no [(jwc .no [(cF1 jzz (vV 2)),(cV 14)]),(cF2 jk7 (vE (cF2 jk7 (vV 1) (vE (cC (.int 4))))) (jjf (vV 3) (vE (cC (.int 2)))))]))))))))
def m__law_copy:Fn:=fn 1
  (jkz (jwc .no [(cF1 jzz (jjf (vV 0) (vE (cC (.int 0))))),(cLC .rt 1 [] (itS (cH (jjf (vV 0) (vE (cC (.int 1)))))) (.n 0) tYes (jwc .no [(cH (jjf (vV 0) (vE (cC (.int 0))))),(cH (jjf (vV 0) (vE (cC (.int 1))))),(cF1 jzz (jjf (vV 0) (vE (cC (.int 2)))))]))]))
def jq7:Fn:=fn 3
  (jji (sIf (tE (cF2 (pu2 fEq) (jjf (vV 0) (vE (cC (.int 1)))) (vE (cC (.str "fresh"))))) (jkz (cF2 (pu2 jq8) (vV 2) (vV 1))) jqv)
  (jkz (cOr (vE (cF2 (pu2 fEq) (jjf (vV 0) (vE (cC (.int 1)))) (vE (cC (.str "any"))))) (cF2 (pu2 fEq) (jjf (vV 1) (jjf (vV 0) (vE (cC (.int 1))))) (vV 2)))))
def jkl:Fn:=fn 5
  (jji (jjq 3 (jvb .rt []))
  (jji (jzn (itS (cH (jjf (vV 0) (vE (cC (.int 3)))))) (.n 4) (sIf (tOr (tE (cF2 (f2First fIsNon) (vV 4) (vE (cC .non)))) (tE (cF2 (pu2 fEq) (vV 4) (vE (cC (.str "new")))))) (jqw jz1 3 (cH (jjf (vE (jvb .rt [(cV 2),(cC .non)])) (vE (cF1 (pu1 qwm) (vE (cF2 (f2First fIsNon) (vV 4) (vE (cC .non))))))))) (jqw jz1 3 (cH (jjf (vV 1) (vV 4))))))
  (jkz (cF1 jvt (vV 3)))))
def m__law_fitting:Fn:=fn 5
  (jji (jjq 4 (cH (jjf (jjf (jjf (vV 0) (vE (cC (.int 1)))) (jjf (vV 1) (vE (cC (.int 0))))) (vE (cC (.int 2))))))
  (jkz (cLC .rt 1 [4,2,1,3] (jzd (vE (cF1 (pu1 jwq) (vV 4)))) (.n 0) (tAnd (tE (cF2 (pu2 fEq) (jjf (jjf (vV 1) (vV 0)) (vE (cC (.int 0)))) (vV 2))) (tEQ (vE (jjv jq7 [(cH (jjf (vV 1) (vV 0))),(cH (jjf (vV 3) (vE (cC (.int 1))))),(cV 4)])))) (cV 0))))
def m__law_behind:Fn:=fn 5
  (jji (jjq 4 (cH (jjf (jjf (jjf (jjf (vV 0) (vE (cC (.int 1)))) (jjf (vV 1) (vE (cC (.int 0))))) (vE (cC (.int 2)))) (vV 2))))
  (jkz (jwc .no [(cH (jjf (vV 4) (vE (cC (.int 2))))),(jjv jkl [(cV 4),(cH (jjf (vV 1) (vE (cC (.int 1))))),(cV 3)])])))
def m__law_draw2:Fn:=fn 6
  (jji (jjq 2 (cF2 jjn (vE (cC (.int 1000))) (vE (cF2 (pu2 vj0) (vE (cC (.int 10))) (vE (cC (.int 64)))))))
  (jji (sIf (tE (cF2 (pu2 fLt) (vV 1) (vE (cF1 (pu1 jwq) (vV 0))))) (jkz (cF2 (pu2 jvg) (vE (cF2 jjn (vE (cF2 (pu2 jvg) (jjf (vV 0) (vV 1)) (vV 2))) (vE (cF2 (pu2 vj0) (vE (cC (.int 7919))) (vE (cC (.int 15))))))) (vV 2))) jqv)
  (jji (jjq 3 (cF2 jk7 (vE (cF2 jk7 (vE (cF2 jjn (vV 1) (vV 1))) (vE (cF2 jjn (vE (cC (.int 7))) (vV 1))))) (vE (cC (.int 11)))))
  (jji (sIf (tE (cF2 (pu2 fNe) (vV 0) (vE (jvb .rt [])))) (jjq 3 (cF2 jk7 (vV 3) (vE (cF2 jjn (vE (cF2 (pu2 jvg) (jjf (vV 0) (vE (cF2 (pu2 jvg) (vV 1) (vE (cF1 (pu1 jwq) (vV 0)))))) (vE (cC (.int 1000003))))) (vE (cF2 jk7 (vE (cF2 jjn (vE (cC (.int 2))) (vV 1))) (vE (cC (.int 1))))))))) jqv)
  (jji (jjq 4 (cC (.int 0)))
  (jji (jzn (jzd (vE (cC (.int 8)))) (.n 5) (jji (jjq 3 (cF2 (pu2 jvg) (vE (cF2 jk7 (vE (cF2 jk7 (vE (cF2 jk7 (vE (cF2 jjn (vV 3) (vV 3))) (vE (cF2 jjn (vE (cC (.int 48271))) (vV 3))))) (vE (cF2 jjn (vE (cC (.int 69621))) (vV 5))))) (vV 1))) (vE (cC (.int 2147483629)))))
  (jjq 4 (cF2 jk7 (vE (cF2 jjn (vV 4) (vE (cC (.int 998244353))))) (vE (cF2 (pu2 jvg) (vE (cF2 jjn (vV 3) (vE (cC (.int 16807))))) (vE (cC (.int 2147483587)))))))))
  (jkz (cF2 (pu2 jvg) (vV 4) (vV 2)))))))))
end C
local macro_rules
 | `(tactic| simp! only [$ts,*])=>`(tactic| simp (config:={ maxSteps:=1000000,failIfUnchanged:=false,implicitDefEqProofs:=true }) (disch:=omega) only [↓Q.w_seq,↓Q.w_asg,↓Q.w_ret,↓Q.w_pass,↓Q.w_cont,↓Q.w_if,↓Q.w_tup,↓Q.w_vV,↓Q.w_cV,↓Q.w_cMv,↓Q.w_cC,↓Q.w_vE,↓Q.w_cH,↓Q.w_f1,↓Q.w_f2,↓Q.w_ix,↓Q.w_tE,↓Q.w_tEQ,↓Q.w_tNot,↓Q.w_tAnd,↓Q.w_tOr,↓Q.w_tYes,↓Q.w_cIf,↓Q.w_cAnd,↓Q.w_cOr,↓Q.w_call,↓Q.w_partS,↓Q.w_sl,↓Q.w_idx,↓Q.w_itS,↓Q.w_itEn,↓Q.w_rz,↓Q.w_tryA,↓Q.w_R1,↓Q.w_R2,↓Q.w_LR1,Q.rng_ok,Q.rng2_ok,true_and,↓Q.ie_i,Q.isSq,Q.sl_some,↓Q.andP_bl,↓Q.vo_some,↓Q.vo_map,↓Q.wo_some,↓Q.wo_map,↓Q.args_nil,↓Q.args_cons,↓Q.eo_tup,↓Q.eo_lst,Q.letAll,Q.pu2,Q.pu1,Q.f2First,Q.fIsNon,Q.fNotNon,Q.isNon,List.map_cons,List.map_nil,List.cons_append,List.nil_append,List.length_cons,List.length_nil,List.length_map,Nat.reduceAdd,Nat.reduceSub,List.replicate,List.set_cons_zero,List.set_cons_succ,List.getElem?_cons_zero,List.getElem?_cons_succ,Q.len_l,Q.len_t,Q.lt_ii,Q.gt_ii,Q.le_ii,Q.ge_ii,Q.add_i,Q.sub_i,Q.div_i,Q.mod_i,Q.pow_i,Q.mulT_i,Q.mulT_l,Q.mul_l,Q.mul_r,Option.map_some,Q.truth,Q.truthQ,Q.D.pure,↓reduceIte,if_true,if_false,ite_true,ite_false,Q.sub_no,Q.sub_rt,Bool.false_eq_true,reduceCtorEq,Bool.not_true,Bool.not_false,Q.Tg.put,Q.setAll,Q.seqOf,Q.lstOf,$ts,*])
namespace C
open Q PySem
abbrev most:Int:=1000 * 10 ^ 64
abbrev iL (ns:List Int):D:=.lst (ns.map D.int)
def Dr (dr:Fn):Prop:=∀ (ns:List Int) (k:Int),0<=k->k<=1000->Oo dr [(.no,iL ns),(.no,.int k)] (fun y=>∃ i,y=(.dp,.int i)/\0<=i/\i < most) noX
def Digs:List Int->List Int->Prop
 | [],[]=>True
 | b :: bs,d :: ds=>0<=d/\d < b/\Digs bs ds
 | _,_=>False
theorem kk7 (x:Int):∀ (bs:List Int) (hb:∀ b∈bs,0 < b/\b < 1000000000000) (hl:bs.length < 1000),Oo m__law_digits [(.no,.int x),(.no,iL bs)] (fun y=>∃ ds,y=(.rt,iL ds)/\Digs bs ds) noX:=by
 intro bs hb hl
 unfold m__law_digits
 refine jvd ?_
 simp! only []
 refine jwv (fun E rest=>∃ x o ys l d0 bs1 bs2,E=[some (o,.int x),some (.no,d0),some (.rt,iL ys),l]/\rest=bs2.map D.int/\bs=bs1++bs2/\Digs bs1 ys/\ys.length=bs1.length) ?_ ?_ ?_
 ·simp! only []
  exact ⟨x,.no,[],none,_,[],bs,rfl,rfl,rfl,trivial,rfl⟩
 ·rintro E d ds ⟨x,o,ys,l,d0,bs1,bs2,rfl,hr,he,hd,hy⟩
  cases bs2 with
  | nil=>cases hr
  | cons b bs2 =>
   rw [List.map_cons] at hr
   injection hr with e1 e2
   subst e1 e2
   have hbb:=hb b (by rw [he];simp)
   simp! only []
   refine vj7 rfl ?_
   simp! only [mod_i hbb.1]
   refine ⟨.rt,_,rfl,by decide,?_,?_⟩
   ·rw [List.length_map]
    have:=congrArg List.length he
    rw [List.length_append] at this
    omega
   ·simp! only [div_i hbb.1]
    refine ⟨_,_,ys++[x % b],_,_,bs1++[b],bs2,by simp [iL,jws];exact ⟨⟨rfl,rfl⟩,rfl,rfl⟩,rfl,by rw [he];simp,?_,by simp [hy]⟩
    have h1:=Int.emod_nonneg x (show b≠0 by omega)
    have h2:=Int.emod_lt_of_pos x hbb.1
    clear he hb
    induction bs1 generalizing ys with
    | nil=>cases ys with
     | nil=>exact ⟨h1,h2,trivial⟩
     | cons y ys=>exact hd.elim
    | cons c bs1 ih=>cases ys with
     | nil=>exact hd.elim
     | cons y ys=>exact ⟨hd.1,hd.2.1,ih ys hd.2.2 (by simpa using hy)⟩
 ·rintro E ⟨x,o,ys,l,d0,bs1,bs2,rfl,hr,he,hd,hy⟩
  cases bs2 with
  | cons b bs2=>cases hr
  | nil =>
   rw [List.append_nil] at he
   subst he
   simp! only []
   exact ⟨ys,rfl,hd⟩
end C
namespace C
open Q PySem
def Each (G:D->Sd->Prop):List D->List Sd->Prop
 | [],[]=>True
 | d :: ds,y :: ys=>G d y/\Each G ds ys
 | _,_=>False
theorem Each.snoc {G:D->Sd->Prop} {d:D} {y:Sd} (h:G d y):∀ {ds:List D} {ys:List Sd},Each G ds ys->Each G (ds++[d]) (ys++[y])
 | [],[],_=>⟨h,trivial⟩
 | _ :: _,_ :: _,r=>⟨r.1,Each.snoc h r.2⟩
theorem kk6 {X:XP} {E:En} {o:Own} {r:List Nat} {it:Ev (List D)} {c:Ex} {P:En->Sd->Prop} (rest:En) (G:D->Sd->Prop) (h0:Eo (it E) (fun E1 ds=>r.map (at' E1)=rest/\(∀ d∈ds,Eo (c (some (.no,d) :: rest)) (fun B y=>(∃ q,B=q :: rest)/\G d y) X)/\∀ ys,Each G ds ys->Eo (mkL o (back r rest (clr r E1)) ys) P X) X):Eo (cLC o 1 r it (.n 0) tYes c E) P X:=by
 refine qjv (fun E1 B ds2 acc=>∃ ds ds1 q,ds=ds1++ds2/\B=q :: rest/\Each G ds1 acc/\(∀ d∈ds,Eo (c (some (.no,d) :: rest)) (fun B y=>(∃ q,B=q :: rest)/\G d y) X)/\∀ ys,Each G ds ys->Eo (mkL o (back r rest (clr r E1)) ys) P X) ?_ ?_ ?_
 ·refine h0.mono fun E1 ds ⟨h1,h2,h3⟩=>⟨ds,[],none,rfl,by rw [<- h1];rfl,trivial,h2,h3⟩
 ·rintro E1 B d ds2 acc ⟨ds,ds1,q,e,rfl,hE,h2,h3⟩
  have hp:(Tg.n 0).put d (q :: rest)=some (some (.no,d) :: rest):=rfl
  rw [hp,vo_some,show tYes (some (Own.no,d) :: rest)=some (.ok (some (Own.no,d) :: rest) true) from rfl,kk5,if_pos rfl]
  refine (h2 d (by rw [e];simp)).mono ?_
  rintro B y ⟨⟨q',rfl⟩,hG⟩
  exact ⟨ds,ds1++[d],q',by rw [e];simp,rfl,hE.snoc hG,h2,h3⟩
 ·rintro E1 B acc ⟨ds,ds1,q,e,rfl,hE,h2,h3⟩
  rw [List.append_nil] at e
  subst e
  exact h3 acc hE
theorem kwj {G:D->Sd->Prop} {S:Int->Prop} (hG:∀ d y,G d y->∃ i,y.2=.int i/\S i):∀ {ds:List D} {ys:List Sd},Each G ds ys->∃ ps:List Int,ys.map (·.2)=ps.map D.int/\ps.length=ds.length/\∀ p∈ps,S p
 | [],[],_=>⟨[],rfl,rfl,fun _ h=>nomatch h⟩
 | d :: ds,y :: ys,r=>by
  obtain ⟨i,e,s⟩:=hG d y r.1
  obtain ⟨ps,h1,h2,h3⟩:=kwj hG r.2
  exact ⟨i :: ps,by simp [e,h1],by simp [h2],fun p hp=>(List.mem_cons.mp hp).elim (fun z=>z▸s) (h3 p)⟩
theorem qkt {n:Int}:jjh n n=[]:=by unfold jjh;rw [Int.sub_self];rfl
theorem kkx {k n:Int} (h:k < n):jjh k n=.int k :: jjh (k + 1) n:=by
 unfold jjh
 have:(n - k).toNat=(n - (k + 1)).toNat + 1:=by omega
 rw [this,List.range_succ_eq_map,List.map_cons,List.map_map]
 congr 1
 ·simp
 ·apply List.map_congr_left
  intro i _
  simp only [Function.comp]
  congr 1
  omega
theorem jvr {k n:Int} {d:D} {ds:List D} (hk:k<=n) (h:d :: ds=jjh k n):k < n/\d=.int k/\ds=jjh (k + 1) n:=by
 by_cases hl:k < n
 ·rw [kkx hl] at h
  injection h with h1 h2
  exact ⟨hl,h1,h2⟩
 ·have:k=n:=by omega
  subst this
  rw [qkt] at h
  cases h
theorem jxp {k n:Int} (hk:k<=n) (h:[]=jjh k n):k=n:=by
 by_cases hl:k < n
 ·rw [kkx hl] at h;cases h
 ·omega
theorem qqn {k n:Int} {d:D} (h:d∈jjh k n):∃ i:Int,k<=i/\i < n/\d=.int i:=by
 unfold jjh at h
 obtain ⟨j,hj,rfl⟩:=List.mem_map.mp h
 have:=List.mem_range.mp hj
 exact ⟨k + j,by omega,by omega,rfl⟩
theorem qqv {k n:Int} (h:k<=n):((jjh k n).length:Int)=n - k:=by
 unfold jjh;rw [List.length_map,List.length_range];omega
theorem vz2 {o1 o2:Own} {a b:Str} (h:a.cps.size + b.cps.size<=10000):jk7 (o1,.str a) (o2,.str b)=some (.dp,.str (a++b)):=by
 show (if a.cps.size + b.cps.size<=big then _ else _)=_
 rw [if_pos (by unfold big;omega)]
theorem qwy (a b:Str):(a++b).cps.size=a.cps.size + b.cps.size:=by
 show (a.cps++b.cps).size=_
 exact Array.size_append
theorem qkj:∀ (ss:List Str),kkg (ss.map D.str)=some ss
 | []=>rfl
 | s :: ss=>by rw [List.map_cons,kkg,qkj ss];rfl
theorem qws {o:Own} {ss:List Str} (h:ss.length < 64):jzl (o,.lst (ss.map D.str))=some (.rt,.lst ((kja ss).map D.str)):=by
 unfold jzl
 dsimp only
 rw [qkj]
 dsimp only
 rw [if_pos h]
theorem kzt (a:Str):∀ r,(qxs a r).length=r.length + 1
 | []=>rfl
 | b :: r=>by unfold qxs;split<;>simp [kzt a r]
theorem kvd:∀ r,(kja r).length=r.length
 | []=>rfl
 | a :: r=>by rw [kja,kzt,kvd r];rfl
theorem wk3 {a b c:Int} {ds:List Int} (h:Digs [a,b,c] ds):∃ x y z,ds=[x,y,z]/\0<=x/\x < a/\0<=y/\y < b/\0<=z/\z < c:=by
 match ds,h with
 | [x,y,z],⟨h1,h2,h3,h4,h5,h6,_⟩=>exact ⟨x,y,z,rfl,h1,h2,h3,h4,h5,h6⟩
theorem Digs.get:∀ {bs ds:List Int} (h:Digs bs ds) (i:Nat) (b:Int),bs[i]?=some b->∃ d,ds[i]?=some d/\0<=d/\d < b
 | b :: bs,d :: ds,h,0,c,e=>by
  have e:b=c:=by simpa using e
  subst e
  exact ⟨d,rfl,h.1,h.2.1⟩
 | b :: bs,d :: ds,h,i + 1,c,e=>by
  obtain ⟨x,h1,h2⟩:=Digs.get h.2.2 i c (by simpa using e)
  exact ⟨x,by simpa using h1,h2⟩
 | [],_,_,i,c,e=>by simp at e
theorem Digs.len:∀ {bs ds:List Int} (h:Digs bs ds),ds.length=bs.length
 | [],[],_=>rfl
 | b :: bs,d :: ds,h=>by rw [List.length_cons,List.length_cons,Digs.len h.2.2]
abbrev sL (ss:List Str):D:=.lst (ss.map D.str)
end C
namespace C
open Q PySem
theorem dg {bs hs:List Int} (h:Digs bs hs) (i:Int) (h0:0<=i) (h1:i < bs.length):∃ v,jwb (iL hs) (.int i)=some (.int v)/\0<=v/\v < bs.getD i.toNat 0:=by
 have hl:i.toNat < bs.length:=by omega
 obtain ⟨d,e,d0,d1⟩:=h.get i.toNat bs[i.toNat] (List.getElem?_eq_getElem hl)
 refine ⟨d,kw7 h0 (by rw [List.getElem?_map,e];rfl),d0,?_⟩
 rw [List.getD_eq_getElem?_getD,List.getElem?_eq_getElem hl]
 exact d1
theorem ixI (ks:List Int) (S:Int->Prop) (hS:∀ k∈ks,S k) (i:Int) (h0:0<=i) (h1:i < ks.length):∃ v,jwb (iL ks) (.int i)=some (.int v)/\S v/\ks[i.toNat]?=some v:=by
 have hl:i.toNat < ks.length:=by omega
 refine ⟨ks[i.toNat],kw7 h0 (by rw [List.getElem?_map,List.getElem?_eq_getElem hl];rfl),hS _ (List.getElem_mem hl),List.getElem?_eq_getElem hl⟩
def Gd (n:Int) (g:D):Prop:=g=.str "fresh"\/g=.str "any"\/∃ i:Int,0<=i/\i < n/\g=.int i
def Fd (n:Int) (g:D):Prop:=g=.str "new"\/g=.non\/∃ i:Int,0<=i/\i < n/\g=.int i
def St (own:Int) (d:D):Prop:=∃ (z:Str) (g:D) (to:Int) (fs:List D),d=.tup [.str z,g,.int to,.tup fs]/\Gd own g/\(∀ f∈fs,Fd own f)/\fs.length<=3
def Rm (d:D):Prop:=∃ (kp:Int) (gd:Bool) (ss:List D),d=.tup [.int kp,.bl gd,.lst ss]/\0<=kp/\kp<=3/\(∀ s∈ss,St kp s)/\ss.length<=14
def Rms (rs:List D):Prop:=1<=rs.length/\rs.length<=4/\∀ r∈rs,Rm r
def Sx (sgs:List Str) (kps:List Int) (d:D):Prop:=∃ (z:Str) (g:D) (to:Int) (fs:List D),d=.tup [.str z,g,.int to,.tup fs]/\z∈sgs/\0<=to/\to < kps.length/\(fs.length:Int)=kps.getD to.toNat 0
def Rx (sgs:List Str) (kps:List Int) (rs:List D):Prop:=rs.length=kps.length/\∀ i:Nat,i < kps.length->∃ (gd:Bool) (ss:List D),rs[i]?=some (.tup [.int (kps.getD i 0),.bl gd,.lst ss])/\∀ s∈ss,Sx sgs kps s
end C
namespace C
open Q PySem
def At (d:D):Prop:=d=.non\/∃ i,d=.int i
theorem At.flat {d:D} {n:Nat} (h:At d):d.flat n=true:=by
 rcases h with rfl | ⟨i,rfl⟩<;>cases n<;>simp [D.flat]
theorem jqf {n:Nat}:∀ {ks:List D},(∀ k∈ks,k.flat n=true)->D.flats n ks=true
 | [],_=>by cases n<;>simp [D.flats]
 | k :: ks,h=>by rw [D.flats,h k List.mem_cons_self,jqf fun e he=>h e (lc9 _ he)];rfl
theorem At.flats {n:Nat} {ks:List D} (h:∀ k∈ks,At k):D.flats n ks=true:=jqf fun k hk=>(h k hk).flat
mutual
theorem jx7:∀ {n:Nat} (d:D),d.flat n=true->peq d d=true
 | n,.non,_=>by simp [peq]
 | n,.bl b,_=>by simp [peq]
 | n,.int b,_=>by simp [peq]
 | n,.str b,_=>by simp [peq]
 | 0,.tup xs,h=>by simp [D.flat] at h
 | 0,.lst xs,h=>by simp [D.flat] at h
 | n + 1,.tup xs,h=>by rw [peq];exact peqs_refl xs (by simpa [D.flat] using h)
 | n + 1,.lst xs,h=>by rw [peq];exact peqs_refl xs (by simpa [D.flat] using h)
 | n,.dct _,h=>by cases n<;>simp [D.flat] at h
 | n,.obj _ _,h=>by cases n<;>simp [D.flat] at h
theorem peqs_refl:∀ {n:Nat} (ds:List D),D.flats n ds=true->peqs ds ds=true
 | _,[],_=>by simp [peqs]
 | n,d :: ds,h=>by
  rw [D.flats,Bool.and_eq_true] at h
  rw [peqs,jx7 d h.1,peqs_refl ds h.2];rfl
end
theorem eq_self {d:D} (h:d.flat 40=true):fEq d d=some (.bl true):=by unfold fEq;rw [h,jx7 d h];rfl
theorem qql {d:D} (h:d.flat 40=true):fNe d d=some (.bl false):=by unfold fNe;rw [h,jx7 d h];rfl
theorem qz0 {a b:D} (ha:At a) (hb:At b):fEq a b=some (.bl (peq a b)):=by
 unfold fEq;rw [ha.flat,hb.flat];rfl
theorem qzr {a:D} {ks:List D} (ha:At a) (hb:∀ k∈ks,At k):jq8 a (.tup ks)=some (.bl (!ks.any fun z=>peq z a)):=by
 show kwe a (.tup ks)=_
 unfold kwe
 have:fIn a (.tup ks)=some (.bl (ks.any fun z=>peq z a)):=by
  show (if a.flat 30 && D.flats 30 ks then _ else _)=_
  rw [ha.flat,At.flats hb];rfl
 rw [this];rfl
def qvp (ks:List D) (d g:D):Bool:=match g with
 | .int i=>peq (ks.getD i.toNat .non) d
 | .str s=>if s="fresh" then !ks.any fun z=>peq z d else true
 | _=>true
theorem s1:((Str.ofString "fresh") == (Str.ofString "any"))=false:=by decide
theorem s2:((Str.ofString "any") == (Str.ofString "fresh"))=false:=by decide
theorem s3 (a:Str):(a == a)=true:=by simp
theorem s4:¬ (Str.ofString "any")=(Str.ofString "fresh"):=by decide
theorem ix0 (c g r f:D):jwb (.tup [c,g,r,f]) (.int 0)=some c:=rfl
theorem ix1 (c g r f:D):jwb (.tup [c,g,r,f]) (.int 1)=some g:=rfl
theorem ix2 (c g r f:D):jwb (.tup [c,g,r,f]) (.int 2)=some r:=rfl
theorem ix3 (c g r f:D):jwb (.tup [c,g,r,f]) (.int 3)=some f:=rfl
theorem p0 (a b:D):jwb (.tup [a,b]) (.int 0)=some a:=rfl
theorem p1 (a b:D):jwb (.tup [a,b]) (.int 1)=some b:=rfl
theorem t0 (a b c:D):jwb (.tup [a,b,c]) (.int 0)=some a:=rfl
theorem t1 (a b c:D):jwb (.tup [a,b,c]) (.int 1)=some b:=rfl
theorem t2 (a b c:D):jwb (.tup [a,b,c]) (.int 2)=some c:=rfl
theorem vzh (i:Int) (z:Str):fEq (.int i) (.str z)=some (.bl false):=by simp [fEq,D.flat,peq]
theorem vqh {ks:List D} {d g c r f:D} (hk:∀ k∈ks,At k) (hd:At d) (hg:Gd ks.length g):Oo jzp [(.no,.tup [c,g,r,f]),(.no,.tup ks),(.no,d)] (fun y=>∃ _:Unit,y=(.dp,.bl (qvp ks d g))/\True) noX:=by
 have hn:=qzr hd hk
 unfold jzp
 refine jvd ?_
 rcases hg with rfl | rfl | ⟨i,h0,h1,rfl⟩
 ·simp! only [ix1,kqx,s1,s3,hn]
  exact ⟨(),by simp [qvp],trivial⟩
 ·simp! only [ix1,kqx,s2,s3,s4,hn]
  exact ⟨(),by simp [qvp,s4],trivial⟩
 ·simp! only [ix1,vzh,qxr ks i h0 h1,qz0 (hk _ (kjx ks i h0 h1)) hd]
  first | trivial | exact ⟨(),trivial⟩ | exact ⟨(),rfl,trivial⟩
theorem qxp {ks:List D} {d g c r f:D} (hk:∀ k∈ks,At k) (hd:At d) (hg:Gd ks.length g):Oo jq7 [(.no,.tup [c,g,r,f]),(.no,.tup ks),(.no,d)] (fun y=>∃ _:Unit,y=(.dp,.bl (qvp ks d g))/\True) noX:=by
 have hn:=qzr hd hk
 unfold jq7
 refine jvd ?_
 rcases hg with rfl | rfl | ⟨i,h0,h1,rfl⟩
 ·simp! only [ix1,kqx,s1,s3,hn]
  exact ⟨(),by simp [qvp],trivial⟩
 ·simp! only [ix1,kqx,s2,s3,s4,hn]
  exact ⟨(),by simp [qvp,s4],trivial⟩
 ·simp! only [ix1,vzh,qxr ks i h0 h1,qz0 (hk _ (kjx ks i h0 h1)) hd]
  first | trivial | exact ⟨(),trivial⟩ | exact ⟨(),rfl,trivial⟩
def jwx (ks:List D) (d f:D):D:=match f with
 | .int i=>ks.getD i.toNat .non
 | .str _=>d
 | _=>.non
theorem qxx {ks:List D} {d f:D} (hk:∀ k∈ks,At k) (hd:At d) (hf:Fd ks.length f):At (jwx ks d f):=by
 rcases hf with rfl | rfl | ⟨i,h0,h1,rfl⟩
 ·exact hd
 ·exact .inl rfl
 ·exact hk _ (kjx ks i h0 h1)
theorem vqf {ks:List D} {d f:D} (hf:Fd ks.length f):Oo jve [(.no,f),(.no,.tup ks),(.no,d)] (fun y=>y.2=jwx ks d f) noX:=by
 unfold jve
 refine jvd ?_
 rcases hf with rfl | rfl | ⟨i,h0,h1,rfl⟩
 ·simp! only [kqx,s3]
  rfl
 ·simp! only []
  rfl
 ·simp! only [vzh,qxr ks i h0 h1]
  rfl
theorem jz7 {G:D->Sd->Prop} {h:D->D} (hG:∀ d y,G d y->y.2=h d):∀ {ds:List D} {ys:List Sd},Each G ds ys->ys.map (·.2)=ds.map h
 | [],[],_=>rfl
 | d :: ds,y :: ys,r=>by rw [List.map_cons,List.map_cons,hG d y r.1,jz7 hG r.2]
theorem qvq {ks:List D} {d c g r:D} {fs:List D} (hf:∀ f∈fs,Fd ks.length f):Oo jvz [(.no,.tup [c,g,r,.tup fs]),(.no,.tup ks),(.no,d)] (fun y=>∃ _:Unit,y=(.no,.tup (fs.map (jwx ks d)))/\True) noX:=by
 unfold jvz
 refine jvd ?_
 simp! only []
 refine kk6 [some (.no,.tup ks),some (.no,d)] (fun f y=>y.2=jwx ks d f) ?_
 simp! only [ix3]
 refine ⟨rfl,fun f h=>?_,fun ys hy=>?_⟩
 ·simp! only []
  exact (vqf (hf f h)).via fun y hy=>⟨⟨_,rfl⟩,hy⟩
 ·rw [jxa,jz7 (h:=jwx ks d) (fun d y h=>h) hy]
  simp only [back,clr,at',List.map_cons,List.map_nil,List.set_cons_zero,List.set_cons_succ]
  simp! only [kqd (o:=.no) (xs:=fs.map (jwx ks d)) (by decide)]
  first | trivial | exact ⟨(),trivial⟩ | exact ⟨(),rfl,trivial⟩
theorem qjm {ks:List D} {d c g r:D} {fs:List D} (hf:∀ f∈fs,Fd ks.length f) (hl:fs.length<=1000):Oo jkl [(.no,.tup [c,g,r,.tup fs]),(.no,.tup ks),(.no,d)] (fun y=>∃ _:Unit,y=(.no,.tup (fs.map (jwx ks d)))/\True) noX:=by
 unfold jkl
 refine jvd ?_
 simp! only []
 refine jwv (fun E rest=>∃ fs1 l,E=[some (.no,.tup [c,g,r,.tup fs]),some (.no,.tup ks),some (.no,d),some (.rt,.lst (fs1.map (jwx ks d))),l]/\fs=fs1++rest) ?_ ?_ ?_
 ·simp! only [ix3]
  exact ⟨[],_,rfl,rfl⟩
 ·rintro E f ds ⟨fs1,l,rfl,he⟩
  have hlen:fs1.length < 1000:=by have:=congrArg List.length he;simp at this;omega
  have fin:∀ z:D,z=jwx ks d f->fs1.map (jwx ks d)++[z]=(fs1++[f]).map (jwx ks d):=fun z e=>by rw [e];simp
  have done:fs=(fs1++[f])++ds:=by rw [he];simp
  rcases hf f (by rw [he];simp) with rfl | rfl | ⟨i,h0,h1,rfl⟩
  ·simp! only [kqx,s3]
   refine jw0 rfl ?_
   have hi:qwm (.bl false)=some (.int 0):=rfl
   have hx:jwb (.lst [d,.non]) (.int 0)=some d:=rfl
   simp! only [hi,hx]
   refine ⟨_,rfl,by rw [List.length_map];omega,fs1++[.str "new"],_,by rw [fin d rfl],done⟩
  ·simp! only [kqx,s3]
   refine jw0 rfl ?_
   have hi:qwm (.bl true)=some (.int 1):=rfl
   have hx:jwb (.lst [d,.non]) (.int 1)=some .non:=rfl
   simp! only [hi,hx]
   refine ⟨_,rfl,by rw [List.length_map];omega,fs1++[.non],_,by rw [fin .non rfl],done⟩
  ·simp! only [vzh]
   refine jw0 rfl ?_
   simp! only [qxr ks i h0 h1]
   refine ⟨_,rfl,by rw [List.length_map];omega,fs1++[.int i],_,by rw [fin (ks.getD i.toNat .non) rfl],done⟩
 ·rintro E ⟨fs1,l,rfl,he⟩
  rw [List.append_nil] at he
  subst he
  simp! only [kqd (o:=.rt) (xs:=fs.map (jwx ks d)) (by decide)]
  first | trivial | exact ⟨(),trivial⟩ | exact ⟨(),rfl,trivial⟩
abbrev jxc (ss:List Str) (rs:List D):D:=.tup [sL ss,.lst rs]
def kxo (z:Str) (ks:List D) (d s:D):Bool:=match s with
 | .tup [.str w,g,_,_]=>(w == z) && qvp ks d g
 | _=>false
def jvw (p:D->Bool):Nat->List D->List D
 | _,[]=>[]
 | k,s :: r=>if p s=true then .int k :: jvw p (k + 1) r else jvw p (k + 1) r
theorem kz2 {ss:List Str} {rs ks st:List D} {kp:D} {gd:D} {room:Int} (h0:0<=room) (hr:rs[room.toNat]?=some (.tup [kp,gd,.lst st])):Oo jkw [(.no,jxc ss rs),(.no,.tup [.int room,.tup ks])] (fun y=>∃ _:Unit,y=(.no,.lst st)/\True) noX:=by
 have hi:jwb (.lst rs) (.int room)=some (.tup [kp,gd,.lst st]):=kw7 h0 hr
 unfold jkw
 refine jvd ?_
 simp! only [p0,p1,t2,hi]
 first | trivial | exact ⟨(),trivial⟩ | exact ⟨(),rfl,trivial⟩
theorem qjt {ss:List Str} {rs ks st:List D} {gd d:D} {room:Int} {z:Str} (h0:0<=room) (hr:rs[room.toNat]?=some (.tup [.int ks.length,gd,.lst st])) (hst:∀ s∈st,St ks.length s) (hk:∀ k∈ks,At k) (hd:At d) :
  Oo m_fitting [(.no,jxc ss rs),(.no,.tup [.int room,.tup ks]),(.no,.str z),(.no,d)] (fun y=>∃ _:Unit,y=(.rt,.lst (jvw (kxo z ks d) 0 st))/\True) noX:=by
 unfold m_fitting
 refine jvd ?_
 simp! only [p1]
 refine (kz2 h0 hr).use ?_
 intro _ _
 simp! only []
 refine qjv (fun E1 B ds acc=>∃ k q0 q1,B=q0 :: q1 :: [some (.no,.str z),some (.no,.tup ks),some (.no,d)]/\ds=jz6 k (st.drop k)/\acc.map (·.2)++jvw (kxo z ks d) k (st.drop k)=jvw (kxo z ks d) 0 st) ?_ ?_ ?_
 ·simp! only []
  exact ⟨0,none,none,rfl,rfl,rfl⟩
 ·rintro E1 B e ds acc ⟨k,q0,q1,rfl,hds,hacc⟩
  cases hs:st.drop k with
  | nil=>rw [hs] at hds;cases hds
  | cons s r =>
   have hr':st.drop (k + 1)=r:=by rw [<- List.drop_drop,hs];rfl
   rw [hs,jz6] at hds
   injection hds with e1 e2
   subst e1 e2
   rw [hs,jvw] at hacc
   obtain ⟨w,g,to,fs,rfl,hg,hf,hl⟩:=hst s (List.mem_of_mem_drop (by rw [hs];exact List.mem_cons_self))
   have hc:kxo z ks d (.tup [.str w,g,.int to,.tup fs])=((w == z) && qvp ks d g):=rfl
   simp! only [ix0,kqx]
   cases hw:(w == z) with
   | false =>
    rw [hc,hw,Bool.false_and,if_neg (by decide)] at hacc
    simp! only []
    exact ⟨k + 1,_,_,rfl,by rw [hr'],by rw [hr'];exact hacc⟩
   | true =>
    simp! only []
    refine (vqh hk hd hg).use ?_
    intro _ _
    simp! only []
    rw [hc,hw,Bool.true_and] at hacc
    cases hb:qvp ks d g with
    | false =>
     rw [hb,if_neg (by decide)] at hacc
     simp! only []
     exact ⟨k + 1,_,_,rfl,by rw [hr'],by rw [hr'];exact hacc⟩
    | true =>
     rw [hb,if_pos rfl] at hacc
     simp! only []
     refine ⟨k + 1,_,_,rfl,by rw [hr'],?_⟩
     rw [hr',List.map_append,List.append_assoc]
     exact hacc
 ·rintro E1 B acc ⟨k,q0,q1,rfl,hds,hacc⟩
  cases hs:st.drop k with
  | cons s r=>rw [hs] at hds;cases hds
  | nil =>
   rw [hs,jvw,List.append_nil] at hacc
   rw [jxa,hacc]
   first | trivial | exact ⟨(),trivial⟩ | exact ⟨(),rfl,trivial⟩
theorem kxe {ss:List Str} {rs ks st:List D} {gd d:D} {room:Int} {z:Str} (h0:0<=room) (hr:rs[room.toNat]?=some (.tup [.int ks.length,gd,.lst st])) (hst:∀ s∈st,St ks.length s) (hl:st.length<=1000) (hk:∀ k∈ks,At k) (hd:At d) :
  Oo m__law_fitting [(.no,jxc ss rs),(.no,.tup [.int room,.tup ks]),(.no,.str z),(.no,d)] (fun y=>∃ _:Unit,y=(.rt,.lst (jvw (kxo z ks d) 0 st))/\True) noX:=by
 have hi:jwb (.lst rs) (.int room)=some (.tup [.int ks.length,gd,.lst st]):=kw7 h0 hr
 unfold m__law_fitting
 refine jvd ?_
 simp! only [p0,p1,t2,hi]
 refine qjv (fun E1 B ds acc=>∃ k:Nat,∃ q0,B=q0 :: [some (.no,.lst st),some (.no,.str z),some (.no,.tup [.int room,.tup ks]),some (.no,d)]/\k<=st.length/\ds=jjh k st.length/\acc.map (·.2)++jvw (kxo z ks d) k (st.drop k)=jvw (kxo z ks d) 0 st) ?_ ?_ ?_
 ·simp! only []
  exact ⟨0,none,rfl,Nat.zero_le _,rfl,rfl⟩
 ·rintro E1 B e ds acc ⟨k,q0,rfl,hkl,hds,hacc⟩
  obtain ⟨hlt,rfl,rfl⟩:=jvr (by omega) hds
  have hlt:k < st.length:=by omega
  have hs:st.drop k=st[k] :: st.drop (k + 1):=List.drop_eq_getElem_cons hlt
  rw [hs,jvw] at hacc
  obtain ⟨w,g,to,fs,es,hg,hf,hl⟩:=hst st[k] (List.getElem_mem hlt)
  have hix:jwb (.lst st) (.int k)=some (.tup [.str w,g,.int to,.tup fs]):=kw7 (by omega) (by rw [Int.toNat_natCast,List.getElem?_eq_getElem hlt,es])
  have hc:kxo z ks d st[k]=((w == z) && qvp ks d g):=by rw [es];rfl
  have hk1:((k:Int) + 1)=((k + 1:Nat):Int):=by omega
  simp! only [hix,ix0,kqx]
  cases hw:(w == z) with
  | false =>
   rw [hc,hw,Bool.false_and,if_neg (by decide)] at hacc
   simp! only []
   exact ⟨k + 1,_,rfl,hlt,by rw [hk1],hacc⟩
  | true =>
   simp! only [hix,p1]
   refine (qxp hk hd hg).use ?_
   intro _ _
   simp! only []
   rw [hc,hw,Bool.true_and] at hacc
   cases hb:qvp ks d g with
   | false =>
    rw [hb,if_neg (by decide)] at hacc
    simp! only []
    exact ⟨k + 1,_,rfl,hlt,by rw [hk1],hacc⟩
   | true =>
    rw [hb,if_pos rfl] at hacc
    simp! only []
    refine ⟨k + 1,_,rfl,hlt,by rw [hk1],?_⟩
    rw [List.map_append,List.append_assoc]
    exact hacc
 ·rintro E1 B acc ⟨k,q0,rfl,hkl,hds,hacc⟩
  have:=jxp (by omega) hds
  have:k=st.length:=by omega
  subst this
  rw [List.drop_length,jvw,List.append_nil] at hacc
  rw [jxa,hacc]
  first | trivial | exact ⟨(),trivial⟩ | exact ⟨(),rfl,trivial⟩
def jxj (ks:List D) (d s:D):D:=match s with
 | .tup [_,_,to,.tup fs]=>.tup [to,.tup (fs.map (jwx ks d))]
 | _=>.non
theorem qwb {ss:List Str} {rs ks st:List D} {kp gd d:D} {room:Int} {k:Nat} (h0:0<=room) (hr:rs[room.toNat]?=some (.tup [kp,gd,.lst st])) (hst:∀ s∈st,St ks.length s) (hk:k < st.length) :
  Oo m_behind [(.no,jxc ss rs),(.no,.tup [.int room,.tup ks]),(.no,.int k),(.no,d)] (fun y=>∃ _:Unit,y=(.no,jxj ks d st[k])/\True) noX:=by
 obtain ⟨w,g,to,fs,es,hg,hf,hl⟩:=hst st[k] (List.getElem_mem hk)
 have hix:jwb (.lst st) (.int k)=some (.tup [.str w,g,.int to,.tup fs]):=kw7 (by omega) (by rw [Int.toNat_natCast,List.getElem?_eq_getElem hk,es])
 unfold m_behind
 refine jvd ?_
 simp! only []
 refine (kz2 h0 hr).use ?_
 intro _ _
 simp! only [hix,ix2,p1]
 refine (qvq hf).use ?_
 intro _ _
 simp! only []
 rw [es]
 first | trivial | exact ⟨(),trivial⟩ | exact ⟨(),rfl,trivial⟩
theorem qjo {ss:List Str} {rs ks st:List D} {kp gd d:D} {room:Int} {k:Nat} (h0:0<=room) (hr:rs[room.toNat]?=some (.tup [kp,gd,.lst st])) (hst:∀ s∈st,St ks.length s) (hk:k < st.length) :
  Oo m__law_behind [(.no,jxc ss rs),(.no,.tup [.int room,.tup ks]),(.no,.int k),(.no,d)] (fun y=>∃ _:Unit,y=(.no,jxj ks d st[k])/\True) noX:=by
 obtain ⟨w,g,to,fs,es,hg,hf,hl⟩:=hst st[k] (List.getElem_mem hk)
 have hix:jwb (.lst st) (.int k)=some (.tup [.str w,g,.int to,.tup fs]):=kw7 (by omega) (by rw [Int.toNat_natCast,List.getElem?_eq_getElem hk,es])
 have hi:jwb (.lst rs) (.int room)=some (.tup [kp,gd,.lst st]):=kw7 h0 hr
 unfold m__law_behind
 refine jvd ?_
 simp! only [p0,p1,t2,hi,hix,ix2]
 refine (qjm hf (by omega)).use ?_
 intro _ _
 simp! only []
 rw [es]
 first | trivial | exact ⟨(),trivial⟩ | exact ⟨(),rfl,trivial⟩
end C
namespace C
open Q PySem
theorem kzi {α:Type} [DecidableEq α]:∀ {l m:List α},l.Nodup->(∀ x∈l,x∈m)->l.length<=m.length
 | [],_,_,_=>Nat.zero_le _
 | a :: l,m,nd,h=>by
  rw [List.nodup_cons] at nd
  have ha:=h a List.mem_cons_self
  have:=kzi (l:=l) (m:=m.erase a) nd.2 fun x hx=>(List.mem_erase_of_ne (by rintro rfl;exact nd.1 hx)).mpr (h x (lc9 _ hx))
  have hl:=List.length_erase_of_mem ha
  have:0 < m.length:=List.length_pos_of_mem ha
  simp only [List.length_cons]
  omega
theorem vql {G:D->Sd->Prop} (hG:∀ d y,G d y->y.2=d) {ds:List D} {ys:List Sd} (h:Each G ds ys):ys.map (·.2)=ds:=by
 rw [jz7 (h:=id) hG h,List.map_id]
theorem kw4 {o:Own} {xs:List D} (h:o≠.dp):jzz (o,.lst xs)=some (.rt,.lst xs):=by
 show (if jqz (o,.lst xs) then _ else _)=_
 rw [if_pos (by cases o<;>simp_all [jqz])]
theorem vqp {ss:List Str} {rs:List D} (hr:∀ r∈rs,Rm r):Oo m__law_copy [(.no,jxc ss rs)] (fun y=>∃ _:Unit,y=(.no,jxc ss rs)/\True) noX:=by
 unfold m__law_copy
 refine jvd ?_
 simp! only [p0,p1,kw4 (o:=.no) (xs:=ss.map D.str) (by decide)]
 refine kk6 [] (fun d y=>y.2=d) ?_
 simp! only [p1]
 refine ⟨fun d hd=>?_,fun ys hy=>?_⟩
 ·obtain ⟨kp,gd,st,rfl,_⟩:=hr d hd
  simp! only [t0,t1,t2,kw4 (o:=.no) (xs:=st) (by decide)]
  exact ⟨⟨_,rfl⟩,trivial⟩
 ·rw [jxa,vql (fun d y h=>h) hy]
  simp only [back,clr]
  simp! only []
  first | trivial | exact ⟨(),trivial⟩ | exact ⟨(),rfl,trivial⟩
theorem qzs {o1 o2:Own} {a:D} {k:Int} (h1:o1≠.dp) (h0:0<=k) (hk:k<=1000):jjn (o1,.tup [a]) (o2,.int k)=some (.no,.tup (List.replicate k.toNat a)):=by
 show (if -(2 ^ 63)<=k/\k < 2 ^ 63/\[a].length * k.toNat<=big/\jqz (o1,.tup [a]) then _ else _)=_
 rw [if_pos ⟨by omega,by omega,by unfold big;simp;omega,by cases o1<;>simp_all [jqz]⟩]
 congr 3
 induction k.toNat with
 | zero=>rfl
 | succ n ih=>rw [List.replicate_succ,List.flatten_cons,ih,List.replicate_succ];rfl
theorem qxz {ss:List Str} {rs:List D} {kp:Int} {gd:D} {st:D} (hr:rs[0]?=some (.tup [.int kp,gd,st])) (h0:0<=kp) (h1:kp<=1000):Oo m_first_standing [(.no,jxc ss rs)] (fun y=>∃ _:Unit,y=(.no,.tup [.int 0,.tup (List.replicate kp.toNat .non)])/\True) noX:=by
 have hi:jwb (.lst rs) (.int 0)=some (.tup [.int kp,gd,st]):=kw7 (by decide) hr
 unfold m_first_standing
 refine jvd ?_
 simp! only [p1,hi,t0,qzs (o1:=.no) (o2:=.no) (a:=.non) (k:=kp) (by decide) h0 h1]
 first | trivial | exact ⟨(),trivial⟩ | exact ⟨(),rfl,trivial⟩
end C
namespace C
open Q PySem
def wr (x:Int):Int:=if x<=0 then x else x - 10 ^ 60
theorem in_i {p:Int} {ks:List Int}:fInQ (.int p) (iL ks)=some (.bl (ks.any fun w=>w == p)):=by
 show (if (D.int p).flat 30 && D.flats 30 (ks.map D.int) then some (D.bl ((ks.map D.int).any fun w=>peq w (.int p))) else none)=_
 rw [show (D.int p).flat 30=true from rfl,jqf (ks:=ks.map D.int) (fun k hk=>by obtain ⟨w,_,rfl⟩:=List.mem_map.mp hk;rfl),List.any_map]
 rfl
theorem kv3 {p:Int} {ks:List Int}:(ks.any fun w=>w == p)=decide (p∈ks):=by
 rw [Bool.eq_iff_iff]
 simp
end C
namespace C
open Q PySem
def bnd1 (own k:Int):Int:=own + (if k=own then 1 else 0)
def Cs (kps:List Int) (b:Int) (c:D):Prop:=c=.non\/∃ (to:Int) (fs:List Int),c=.tup [.int to,.tup (fs.map D.int)]/\0<=to/\to < kps.length/\(∀ f∈fs,0<=f/\f < b)/\fs.Nodup/\(fs.length:Int)=kps.getD to.toNat 0
end C
namespace C
open Q PySem
theorem qvr {α:Type} {p:α->Bool}:∀ {l:List α},l.any p=true->l.findIdx? p=some (l.findIdx p)
 | [],h=>by cases h
 | a :: l,h=>by
  rw [List.findIdx?_cons,List.findIdx_cons]
  cases hp:p a with
  | true=>simp
  | false =>
   rw [List.any_cons,hp,Bool.false_or] at h
   rw [qvr h]
   simp
theorem wjz {α:Type} {p:α->Bool} {l:List α} (h:l.any p=true):l.findIdx p < l.length:=by
 obtain ⟨x,hx,hp⟩:=List.any_eq_true.mp h
 exact List.findIdx_lt_length_of_exists ⟨x,hx,hp⟩
abbrev iT (ks:List Int):D:=.tup (ks.map D.int)
def vx8 (ks:List Int) (p:Int) (f:Int):Int:=(ks++[p]).getD f.toNat 0
def wk5 (ks:List Int) (p:Int) (c:D):D:=match c with
 | .tup [to,.tup fs]=>.tup [to,.tup (fs.map fun f=>match f with | .int i=>.int (vx8 ks p i) | _=>.non)]
 | _=>.non
def vz0 (ss:List Str) (st:List D) (ks:List Int) (z:Str) (p:Int):D:=match st[ss.findIdx fun w=>w == z]? with
 | some (.lst cs)=>cs.getD (ks.findIdx fun w=>w == p) .non
 | _=>.non
def wj1 (ss:List Str) (st:List D) (ks:List Int) (z:Str) (p:Int):D:=if (ss.any fun w=>w == z)=true then wk5 ks p (vz0 ss st ks z p) else .non
def Cas (kps:List Int) (n:Nat) (own:Int) (st:List D):Prop:=st.length=n/\∀ c∈st,∃ cs:List D,c=.lst cs/\(cs.length:Int)=own + 1/\∀ k:Nat,k < cs.length->∃ z,cs[k]?=some z/\Cs kps (bnd1 own k) z
end C
namespace C
open Q PySem
theorem kzj (ns:List Int):fNe (iL ns) (.lst [])=some (.bl (!ns.isEmpty)):=by
 unfold fNe
 have:(iL ns).flat 40=true:=by
  show D.flats 39 (ns.map D.int)=true
  exact jqf fun k hk=>by obtain ⟨w,_,rfl⟩:=List.mem_map.mp hk;rfl
 rw [this,show (D.lst []).flat 40=true from rfl]
 cases ns with
 | nil=>simp [peq,peqs]
 | cons a r=>simp [peq,peqs]
theorem kj5:Dr m__law_draw2:=by
 intro ns k h0 h1
 have hkk:k * k<=1000 * 1000:=Int.mul_le_mul h1 h1 h0 (by decide)
 have hkk0:0<=k * k:=Int.mul_nonneg h0 h0
 have hp:((7919:Int) ^ (Int.toNat 15))=7919 ^ 15:=rfl
 have hm:(1000 * (10:Int) ^ (Int.toNat 64))=most:=rfl
 have hm0:(0:Int) < most:=by decide
 have hb:∀ x:Int,qju (.no,.int (x % most)) (.no,.int (7919 ^ 15))=some (.dp,.int (x % most * 7919 ^ 15)):=fun x=>by
  have:=Int.emod_nonneg x (show most≠0 by decide)
  have:=Int.emod_lt_of_pos x hm0
  unfold most at *
  exact wjn (by omega) (by omega) (by decide) (by decide)
 have fin:∀ x:Int,∃ i,((Own.dp,D.int (x % most)):Sd)=(.dp,.int i)/\0<=i/\i < most:=fun x=>⟨_,rfl,Int.emod_nonneg _ (by decide),Int.emod_lt_of_pos _ hm0⟩
 have loop:∀ (N C':En->Prop) (x:Int),0<=x->x < 10000000000->∀ o3 o4:Own,Po (jzn (jzd (vE (cC (.int 8)))) (.n 5) (jji (jjq 3 (cF2 (pu2 jvg) (vE (cF2 jk7 (vE (cF2 jk7 (vE (cF2 jk7 (vE (cF2 jjn (vV 3) (vV 3))) (vE (cF2 jjn (vE (cC (.int 48271))) (vV 3))))) (vE (cF2 jjn (vE (cC (.int 69621))) (vV 5))))) (vV 1))) (vE (cC (.int 2147483629)))))
  (jjq 4 (cF2 jk7 (vE (cF2 jjn (vV 4) (vE (cC (.int 998244353))))) (vE (cF2 (pu2 jvg) (vE (cF2 jjn (vV 3) (vE (cC (.int 16807))))) (vE (cC (.int 2147483587))))))))
  [some (.no,iL ns),some (.no,.int k),some (.dp,.int most),some (o3,.int x),some (o4,.int 0),none]) (fun E=>Po (jkz (cF2 (pu2 jvg) (vV 4) (vV 2)) E) N C' (fun y=>∃ i,y=(.dp,.int i)/\0<=i/\i < most) noX) C' (fun y=>∃ i,y=(.dp,.int i)/\0<=i/\i < most) noX:=by
  intro N C' x x0 x1 o3 o4
  refine jwv (fun E rest=>∃ x f o3 o4 l5 j,E=[some (.no,iL ns),some (.no,.int k),some (.dp,.int most),some (o3,.int x),some (o4,.int f),l5]/\0<=x/\x < 10000000000/\0<=j/\j<=8/\rest=jjh j 8) ?_ ?_ ?_
  ·simp! only []
   exact ⟨x,0,_,_,_,0,rfl,x0,x1,by decide,by decide,rfl⟩
  ·rintro E d ds ⟨x,f,o3,o4,l5,j,rfl,x0,x1,j0,j1,hr⟩
   obtain ⟨hj,rfl,rfl⟩:=jvr j1 hr
   simp! only []
   have g1:=Int.emod_nonneg (x * x + 48271 * x + 69621 * j + k) (show (2147483629:Int)≠0 by decide)
   have g2:=Int.emod_lt_of_pos (x * x + 48271 * x + 69621 * j + k) (show (0:Int) < 2147483629 by decide)
   generalize (x * x + 48271 * x + 69621 * j + k) % 2147483629=y at g1 g2
   simp! only []
   exact ⟨y,_,_,_,_,j + 1,rfl,g1,by omega,by omega,by omega,rfl⟩
  ·rintro E ⟨x,f,o3,o4,l5,j,rfl,x0,x1,j0,j1,hr⟩
   simp! only [mod_i hm0]
   exact fin _
 unfold m__law_draw2
 refine jvd ?_
 by_cases c1:k < ns.length
 ·have hi:=qv9 ns k h0 c1
  simp! only [decide_eq_true c1,hi,hm,hp,mod_i hm0,hb]
  exact fin _
 ·cases he:ns.isEmpty with
  | true =>
   simp! only [decide_eq_false c1,hm,kzj,he]
   exact loop _ _ (k * k + 7 * k + 11) (by omega) (by omega) _ _
  | false =>
   have c2:(0:Int) < ns.length:=by
    cases ns with
    | nil=>cases he
    | cons a r=>simp
   have hq0:=Int.emod_nonneg k (show (ns.length:Int)≠0 by omega)
   have hq1:=Int.emod_lt_of_pos k c2
   have hi:=qv9 ns (k % ns.length) hq0 hq1
   have v0:=Int.emod_nonneg (ns.getD (k % ns.length).toNat 0) (show (1000003:Int)≠0 by decide)
   have v1:=Int.emod_lt_of_pos (ns.getD (k % ns.length).toNat 0) (show (0:Int) < 1000003 by decide)
   have w0:0<=ns.getD (k % ns.length).toNat 0 % 1000003 * (2 * k + 1):=Int.mul_nonneg v0 (by omega)
   have w1:ns.getD (k % ns.length).toNat 0 % 1000003 * (2 * k + 1)<=1000003 * 2001:=Int.mul_le_mul (by omega) (by omega) (by omega) (by decide)
   simp! only [decide_eq_false c1,hm,kzj,he,mod_i c2,hi]
   exact loop _ _ _ (by omega) (by omega) _ _
end C
namespace C
open Q PySem
def Sok (kps:List Int) (s:D):Prop:=∃ (room:Int) (ks:List D),s=.tup [.int room,.tup ks]/\0<=room/\room < kps.length/\(ks.length:Int)=kps.getD room.toNat 0/\∀ k∈ks,At k
theorem kqi {sgs:List Str} {kps:List Int} {rs:List D} {s:D} (hR:Rms rs) (hx:Rx sgs kps rs) (h:Sok kps s):∃ (room:Int) (ks st:List D) (gd:D),s=.tup [.int room,.tup ks]/\0<=room/\rs[room.toNat]?=some (.tup [.int ks.length,gd,.lst st])/\(∀ s∈st,St ks.length s)/\(∀ k∈ks,At k)/\(∀ s∈st,Sx sgs kps s)/\st.length<=14:=by
 obtain ⟨room,ks,rfl,r0,r1,hl,hka⟩:=h
 obtain ⟨gd,st,e,hsx⟩:=hx.2 room.toNat (by omega)
 obtain ⟨kp,gd',st',e',_,_,hst,hsl⟩:=hR.2.2 _ (List.mem_of_getElem? e)
 injection e' with e'
 injection e' with a1 a2
 injection a1 with a1
 injection a2 with b1 b2
 injection b2 with c1 c2
 injection c1 with c1
 subst c1 a1
 rw [<- hl] at e hst
 exact ⟨room,ks,st,.bl gd,rfl,r0,e,hst,hka,hsx,hsl⟩
theorem qjd {sgs:List Str} {kps:List Int} {ks st:List D} {p:Int} {k:Nat} (hst:∀ s∈st,St ks.length s) (hka:∀ k∈ks,At k) (hsx:∀ s∈st,Sx sgs kps s) (hk:k < st.length):Sok kps (jxj ks (.int p) st[k]):=by
 obtain ⟨z,g,to,fs,es,hg,hf,_⟩:=hst st[k] (List.getElem_mem hk)
 obtain ⟨z',g',to',fs',es',_,t0,t1,hfl⟩:=hsx st[k] (List.getElem_mem hk)
 rw [es] at es'
 injection es' with es'
 injection es' with _ e2
 injection e2 with _ e3
 injection e3 with e4 e5
 injection e5 with e6 _
 injection e4 with e4
 injection e6 with e6
 subst e4 e6
 rw [es]
 refine ⟨to,fs.map (jwx ks (.int p)),rfl,t0,t1,by rw [List.length_map];exact hfl,fun d hd=>?_⟩
 obtain ⟨f,hf',rfl⟩:=List.mem_map.mp hd
 exact qxx hka (.inr ⟨p,rfl⟩) (hf f hf')
theorem kwc {p:D->Bool}:∀ {r:List D} {k:Nat} {d:D},d∈jvw p k r->∃ j:Nat,d=.int j/\k<=j/\j < k + r.length
 | [],_,_,h=>by unfold jvw at h;cases h
 | s :: r,k,d,h=>by
  unfold jvw at h
  split at h
  ·rcases List.mem_cons.mp h with rfl | h
   ·exact ⟨k,rfl,Nat.le_refl _,by simp⟩
   ·obtain ⟨j,e,j0,j1⟩:=kwc h
    exact ⟨j,e,by omega,by simp;omega⟩
  ·obtain ⟨j,e,j0,j1⟩:=kwc h
   exact ⟨j,e,by omega,by simp;omega⟩
theorem room_flat {n:Nat} {d:D} (h:Rm d):d.flat (n + 4)=true:=by
 obtain ⟨kp,gd,st,rfl,_,_,h,_⟩:=h
 show D.flats (n + 3) [.int kp,.bl gd,.lst st]=true
 refine jqf fun d hd=>?_
 simp only [List.mem_cons,List.not_mem_nil,or_false] at hd
 rcases hd with rfl | rfl | rfl
 ·rfl
 ·rfl
 ·show D.flats (n + 2) st=true
  refine jqf fun s hs=>?_
  obtain ⟨z,g,to,fs,rfl,hg,hf,_⟩:=h s hs
  show D.flats (n + 1) [.str z,g,.int to,.tup fs]=true
  refine jqf fun d hd=>?_
  simp only [List.mem_cons,List.not_mem_nil,or_false] at hd
  rcases hd with rfl | rfl | rfl | rfl
  ·rfl
  ·rcases hg with rfl | rfl | ⟨i,_,_,rfl⟩<;>rfl
  ·rfl
  ·show D.flats n fs=true
   exact jqf fun f hf'=>by rcases hf f hf' with rfl | rfl | ⟨i,_,_,rfl⟩<;>cases n<;>rfl
end C
noncomputable section
namespace C
open Q PySem
def Rd (kps:List Int) (ss:List Str) (rs:List D) (s:D) (w:Str×Int) (s':D):Prop:=(s=.non/\s'=.non)\/∃ (room:Int) (ks:List Int) (st:List D) (kp gd:D),s=.tup [.int room,iT ks]/\0<=room/\rs[room.toNat]?=some (.tup [kp,gd,.lst st])/\Cas kps ss.length ks.length st/\ks.length<=3/\s'=wj1 ss st ks w.1 w.2
abbrev st0:D:=.tup [.int 0,iT []]
def qvh (rs:List D) (s:D):Bool:=match s with
 | .tup [.int room,_]=>(match rs[room.toNat]? with
  | some (.tup [_,.bl b,_])=>b
  | _=>false)
 | _=>false
end C
noncomputable section
namespace C
open Q PySem
noncomputable section
def kke (K:List D) (d:D):List D:=if d∈K then K else K++[d]
def qk4:D->List D
 | .tup [_,.tup ks]=>ks
 | _=>[]
def vz8 (rs:List D):D->List D
 | .tup [.int r,_]=>(match rs.getD r.toNat .non with
  | .tup [_,_,.lst st]=>st
  | _=>[])
 | _=>[]
def bh (ks st:List D) (p:Int):D->D
 | .int k=>jxj ks (.int p) (st.getD k.toNat .non)
 | _=>.non
def kxd (rs:List D) (w:Str×Int) (s:D):List D:=(jvw (kxo w.1 (qk4 s) (.int w.2)) 0 (vz8 rs s)).map (bh (qk4 s) (vz8 rs s) w.2)
end
def SokV (kps:List Int) (V:List D) (s:D):Prop:=∃ (room:Int) (ks:List D),s=.tup [.int room,.tup ks]/\0<=room/\room < kps.length/\(ks.length:Int)=kps.getD room.toNat 0/\(∀ k∈ks,At k)/\∀ k∈ks,k∈V
theorem SokV.ok {kps:List Int} {V:List D} {s:D} (h:SokV kps V s):Sok kps s:=by
 obtain ⟨room,ks,e,r0,r1,hl,ha,_⟩:=h
 exact ⟨room,ks,e,r0,r1,hl,ha⟩
def Kin (kps:List Int) (V K:List D):Prop:=K.Nodup/\∀ s∈K,SokV kps V s
theorem kxj {kps:List Int} {V K:List D} {d:D} (h:Kin kps V K) (hd:SokV kps V d):Kin kps V (kke K d):=by
 unfold kke
 by_cases z:d∈K
 ·rw [if_pos z];exact h
 ·rw [if_neg z]
  refine ⟨List.nodup_append.mpr ⟨h.1,List.nodup_cons.mpr ⟨List.not_mem_nil,List.nodup_nil⟩,fun a ha b hb e=>?_⟩,fun s hs=>?_⟩
  ·rw [List.mem_singleton.mp hb] at e
   exact z (e▸ha)
  ·rcases List.mem_append.mp hs with q | q
   ·exact h.2 s q
   ·rw [List.mem_singleton.mp q];exact hd
def tps (V:List D):Nat->List (List D)
 | 0=>[[]]
 | n + 1=>V.flatMap fun v=>(tps V n).map (v :: ·)
theorem qki {V:List D}:∀ {ks:List D},(∀ k∈ks,k∈V)->ks∈tps V ks.length
 | [],_=>List.mem_singleton.mpr rfl
 | k :: ks,h=>List.mem_flatMap.mpr ⟨k,h k List.mem_cons_self,List.mem_map.mpr ⟨ks,qki fun e he=>h e (lc9 _ he),rfl⟩⟩
theorem kxm {α β:Type} {f:α->List β} {c:Nat}:∀ {l:List α},(∀ a∈l,(f a).length<=c)->(l.flatMap f).length<=l.length * c
 | [],_=>Nat.zero_le _
 | a :: l,h=>by
  rw [List.flatMap_cons,List.length_append,List.length_cons,Nat.succ_mul]
  have:=kxm (l:=l) fun b hb=>h b (lc9 _ hb)
  have:=h a List.mem_cons_self
  omega
theorem kvc {V:List D} (hV:V.length<=6):∀ n,(tps V n).length<=6 ^ n
 | 0=>Nat.le_refl _
 | n + 1=>by
  have h1:=kxm (l:=V) (f:=fun v=>(tps V n).map (v :: ·)) (c:=6 ^ n) fun a _=>by rw [List.length_map];exact kvc hV n
  have h2:=Nat.mul_le_mul_right (6 ^ n) hV
  have h3:6 ^ (n + 1)=6 * 6 ^ n:=by rw [Nat.pow_succ,Nat.mul_comm]
  show (V.flatMap fun v=>(tps V n).map (v :: ·)).length<=_
  omega
theorem jz0 {kps:List Int} {V K:List D} (h:Kin kps V K) (hk:kps.length<=4) (hk3:∀ k∈kps,k<=3) (hV:V.length<=6):K.length<=1036:=by
 have h1:=kzi (l:=K) (m:=(List.range 4).flatMap fun (r:Nat)=>(tps V 0++(tps V 1++(tps V 2++tps V 3))).map fun ks=>D.tup [.int (r:Int),.tup ks]) h.1 fun s hs=>by
  obtain ⟨room,ks,e,r0,r1,hl,ha,hv⟩:=h.2 s hs
  have h3:ks.length<=3:=by
   have:=hk3 (kps.getD room.toNat 0) (by rw [List.getD_eq_getElem?_getD,List.getElem?_eq_getElem (by omega)];exact List.getElem_mem _)
   omega
  have hm:=qki hv
  refine List.mem_flatMap.mpr ⟨room.toNat,List.mem_range.mpr (by omega),List.mem_map.mpr ⟨ks,?_,by rw [e,Int.toNat_of_nonneg r0]⟩⟩
  rw [List.mem_append,List.mem_append,List.mem_append]
  have:ks.length=0\/ks.length=1\/ks.length=2\/ks.length=3:=by omega
  rcases this with z | z | z | z<;>rw [z] at hm
  ·exact .inl hm
  ·exact .inr (.inl hm)
  ·exact .inr (.inr (.inl hm))
  ·exact .inr (.inr (.inr hm))
 have h2:=kxm (l:=List.range 4) (f:=fun (r:Nat)=>(tps V 0++(tps V 1++(tps V 2++tps V 3))).map fun ks=>D.tup [.int (r:Int),.tup ks]) (c:=259) fun a _=>by
  rw [List.length_map,List.length_append,List.length_append,List.length_append]
  have a0:=kvc hV 0
  have a1:=kvc hV 1
  have a2:=kvc hV 2
  have a3:=kvc hV 3
  have:(6:Nat) ^ 0=1/\(6:Nat) ^ 1=6/\(6:Nat) ^ 2=36/\(6:Nat) ^ 3=216:=⟨rfl,rfl,rfl,rfl⟩
  omega
 rw [List.length_range] at h2
 exact Nat.le_trans h1 h2
theorem vjm {rs ks st:List D} {room:Int} {kp gd:D} (hr:rs[room.toNat]?=some (.tup [kp,gd,.lst st])):vz8 rs (.tup [.int room,.tup ks])=st:=by
 unfold vz8
 dsimp only
 rw [List.getD_eq_getElem?_getD,hr]
 rfl
theorem qjp {room:D} {ks:List D}:qk4 (.tup [room,.tup ks])=ks:=rfl
theorem vqx {ks st:List D} {p:Int} {k:Nat} (h:k < st.length):bh ks st p (.int k)=jxj ks (.int p) st[k]:=by
 unfold bh
 dsimp only
 rw [Int.toNat_natCast,List.getD_eq_getElem?_getD,List.getElem?_eq_getElem h]
 rfl
theorem vqg {ks V:List D} {d f:D} (hk:∀ k∈ks,k∈V) (hd:d∈V) (hn:D.non∈V) (hf:Fd ks.length f):jwx ks d f∈V:=by
 rcases hf with rfl | rfl | ⟨i,h0,h1,rfl⟩
 ·exact hd
 ·exact hn
 ·exact hk _ (kjx ks i h0 h1)
theorem kjb {sgs:List Str} {kps:List Int} {ks st V:List D} {p:Int} {k:Nat} (hst:∀ s∈st,St ks.length s) (hka:∀ k∈ks,At k) (hV:∀ k∈ks,k∈V) (hn:D.non∈V) (hp:D.int p∈V) (hsx:∀ s∈st,Sx sgs kps s) (hk:k < st.length):SokV kps V (jxj ks (.int p) st[k]):=by
 obtain ⟨room,ks',e,r0,r1,hl,ha⟩:=qjd (p:=p) hst hka hsx hk
 refine ⟨room,ks',e,r0,r1,hl,ha,fun d hd=>?_⟩
 obtain ⟨z,g,to,fs,es,hg,hf,_⟩:=hst st[k] (List.getElem_mem hk)
 rw [es] at e
 have e:D.tup [.int to,.tup (fs.map (jwx ks (.int p)))]=.tup [.int room,.tup ks']:=e
 injection e with e
 injection e with _ e
 injection e with e _
 injection e with e
 subst e
 obtain ⟨f,hf',rfl⟩:=List.mem_map.mp hd
 exact vqg hV hp hn (hf f hf')
theorem qxm {sgs:List Str} {kps:List Int} {rs V:List D} {w:Str×Int} {s:D} (hR:Rms rs) (hx:Rx sgs kps rs) (hn:D.non∈V) (hp:D.int w.2∈V) (h:SokV kps V s):∀ d∈kxd rs w s,SokV kps V d:=by
 intro d hd
 obtain ⟨room',ks',e',_,_,_,_,hV⟩:=id h
 obtain ⟨room,ks,st,gd,rfl,r0,er,hst,hka,hsx,hsl⟩:=kqi hR hx h.ok
 injection e' with e'
 injection e' with _ e'
 injection e' with e' _
 injection e' with e'
 subst e'
 unfold kxd at hd
 rw [vjm er,qjp] at hd
 obtain ⟨c,hc,rfl⟩:=List.mem_map.mp hd
 obtain ⟨j,rfl,_,hj⟩:=kwc hc
 rw [vqx (by omega)]
 exact kjb hst hka hV hn hp hsx (by omega)
theorem qv7 {kps:List Int} {s:D} (h:Sok kps s):jwa s=true:=by
 obtain ⟨room,ks,rfl,_,_,_,ha⟩:=h
 have:∀ {l:List D},(∀ k∈l,At k)->keyDs 4 l=true:=by
  intro l
  induction l with
  | nil=>intro _;rfl
  | cons a l ih =>
   intro h
   have h1:jvf 4 a=true:=by rcases h a List.mem_cons_self with rfl | ⟨i,rfl⟩<;>rfl
   show (jvf 4 a && keyDs 4 l)=true
   rw [h1,ih fun k hk=>h k (lc9 _ hk)];rfl
 show ((true && (keyDs 4 ks && true)) && true)=true
 rw [this ha];rfl
end C
namespace C
open Q PySem
theorem vq6 {kps : List Int} {V : List D} : ∀ {kvs : List (D × D)}, Kin kps V (kvs.map (·.1)) -> unm kvs = true
  | [], _ => rfl
  | (k, _) :: r, h => by
    obtain ⟨_, _, e, _⟩ := h.2 k (by simp)
    subst e
    rfl
theorem kqw {ss:List Str} {kps:List Int} {rs V:List D} {kp:Int} {gd st0:D} (hR:Rms rs) (hx:Rx ss kps rs) (hn:D.non∈V) (hr0:rs[0]?=some (.tup [.int kp,gd,st0])) (hk0:0<=kp):Kin kps V [.tup [.int 0,.tup (List.replicate kp.toNat .non)]]:=by
 have h1:=hR.1
 have h2:=hx.1
 obtain ⟨gd',st',e,_⟩:=hx.2 0 (by omega)
 rw [hr0] at e
 injection e with e
 injection e with e
 injection e with e _
 injection e with e
 refine ⟨List.nodup_cons.mpr ⟨List.not_mem_nil,List.nodup_nil⟩,fun s hs=>?_⟩
 rw [List.mem_singleton.mp hs]
 refine ⟨0,_,rfl,by decide,by omega,?_,fun k hk=>.inl (List.eq_of_mem_replicate hk),fun k hk=>by rw [List.eq_of_mem_replicate hk];exact hn⟩
 rw [List.length_replicate,show (0:Int).toNat=0 from rfl,<- e];omega
end C
namespace C
open Q PySem
noncomputable section
end
end C
noncomputable section
namespace B
open Q PySem C
abbrev Sn:=Option (Int×List Int)
def nms:Sn->List Int
 | none=>[]
 | some p=>p.2
end B
noncomputable section
namespace B
open PySem Q
def kqt:Fn:=fn 5
  (jji (jjq 2 (jvb .rt []))
  (jji (sIf (tE (cF2 (pu2 fEq) (vE (cF2 (pu2 jvg) (vV 0) (vE (cC (.int 2))))) (vE (cC (.int 1))))) (jji (jjq 0 (cF2 (pu2 qk5) (vV 0) (vE (cC (.int 2)))))
  (jji (jzn (jzd (vV 1)) (.n 3) (jji (jqw jz1 2 (cF2 (pu2 jvg) (vV 0) (vE (cC (.int 2147483647)))))
  (jjq 0 (cF2 (pu2 qk5) (vV 0) (vE (cC (.int 2147483647)))))))
  (jkz (cMv 2)))) jqv)
  (jji (jjq 4 (cF2 jk7 (vE (cF2 (pu2 jvg) (vE (cF2 (pu2 qk5) (vV 0) (vE (cC (.int 2))))) (vE (cC (.int 2147483647))))) (vE (cC (.int 48271)))))
  (jji (jzn (jzd (vE (cF2 jk7 (vV 1) (vE (cC (.int 1)))))) (.n 3) (jji (jjq 4 (cF2 (pu2 jvg) (vE (cF2 jk7 (vE (cF2 jk7 (vE (cF2 jjn (vV 4) (vV 4))) (vE (cF2 jjn (vE (cC (.int 48271))) (vV 4))))) (vV 3))) (vE (cC (.int 2147483647)))))
  (jqw jz1 2 (cF2 (pu2 jvg) (vE (cF2 jk7 (vE (cF2 jjn (vV 4) (vE (cC (.int 40692))))) (vE (cF2 jjn (vE (cC (.int 7))) (vV 3))))) (vE (cC (.int 2147483399)))))))
  (jkz (cSl (vV 2) (some (vE (cC (.int 1)))) none))))))
def m__law_signs:Fn:=fn 7
  (jji (jjq 1 (cC (.str "abcdefghijklmnopqrstuvwxyz")))
  (jji (jjq 2 (jjv kqt [(cV 0),(cC (.int 9))]))
  (jji (jjq 3 (wk6 "" (vE (cLC .rt 1 [1] (itS (cSl (vV 2) none (some (vE (cF2 jk7 (vE (cC (.int 1))) (vE (cF2 (pu2 jvg) (vV 0) (vE (cC (.int 8)))))))))) (.n 0) tYes (cH (jjf (vV 1) (vE (cF2 (pu2 jvg) (vV 0) (vE (cC (.int 26)))))))))))
  (jji (jjq 4 (cF2 (pu2 jvg) (vE (cF2 (pu2 qk5) (vV 0) (vE (cC (.int 8))))) (vE (cF1 (pu1 jwq) (vV 3)))))
  (jji (jjq 5 (jvb .rt []))
  (jji (jzn (jzd (jjf (vE (jvb .rt [(cC (.int 1)),(cC (.int 2)),(cC (.int 1)),(cC (.int 2)),(cC (.int 2)),(cC (.int 1)),(cC (.int 2)),(cC (.int 3))])) (vE (cF2 (pu2 jvg) (vE (cF2 (pu2 qk5) (vV 0) (vE (cC (.int 64))))) (vE (cC (.int 8))))))) (.n 6) (jqw jz1 5 (cF2 jk7 (vE (cF2 jk7 (vE (cSl (vV 3) none (some (vV 4)))) (jjf (vV 1) (vE (cF2 jk7 (vE (cF2 (pu2 jvg) (jjf (vV 2) (vE (cC (.int 8)))) (vE (cC (.int 24))))) (vV 6)))))) (vE (cSl (vV 3) (some (vE (cF2 jk7 (vV 4) (vE (cC (.int 1)))))) none)))))
  (jkz (cMv 5))))))))
end B
namespace B
open Q PySem C
def St (n:Int) (xs:List Int):Prop:=(xs.length:Int)=n/\∀ x∈xs,0<=x/\x < 2147483647
end B
namespace B
open Q PySem C
def jwx (S:Sn) (c:Int):D:=if c∈nms S then .int ((nms S).findIdx fun w=>w == c:Nat) else .non
end B
noncomputable section
noncomputable section
namespace F
open Q PySem C
def m_names_held:Fn:=fn 3
  (jji (jjq 1 (jvb .rt []))
  (jji (jzn (itS (cV 0)) (.n 2) (sIf (tAnd (tE (cF2 (f2First fNotNon) (vV 2) (vE (cC .non)))) (tE (cF2 (pu2 jq8) (vV 2) (vV 1)))) (jqw jz1 1 (cV 2)) jqv))
  (jkz (cMv 1))))
def jk9:Fn:=fn 2
  (jkz (cF1 jvt (vE (cLC .rt 1 [0] (itS (cV 1)) (.n 0) tYes (cIf (tE (cF2 (f2First fIsNon) (vV 0) (vE (cC .non)))) (cC .non) (vqr (vV 1) (vV 0)))))))
def jk2:Fn:=fn 4
  (jji (sIf (tE (cF2 (f2First fIsNon) (vV 0) (vE (cC .non)))) (jkz (cC .non)) jqv)
  (jji (jjq 2 (jjv m_names_held [(cH (jjf (vV 0) (vE (cC (.int 1)))))]))
  (jji (jjq 3 (jwc .no [(cH (jjf (vV 0) (vE (cC (.int 0))))),(jjv jk9 [(cV 2),(cH (jjf (vV 0) (vE (cC (.int 1)))))])]))
  (jkz (jwc .no [(qjx 1 (vV 3) (vE (cF1 (pu1 kwf) (vV 1)))),(cF1 jvt (vV 2))])))))
def jkk (rz:Sm):Fn:=fn 5
  (jji (jjq 4 (jjv C.m_fitting [(cV 0),(cV 1),(cV 2),(cV 3)]))
  (jji (sIf (tE (cF2 (pu2 fGt) (vE (cF1 (pu1 jwq) (vV 4))) (vE (cC (.int 1))))) rz jqv)
  (jkz (cIf (tEQ (vV 4)) (jjv C.m_behind [(cV 0),(cV 1),(cH (jjf (vV 4) (vE (cC (.int 0))))),(cV 3)]) (cC .non)))))
def jkj (rz:Sm):Fn:=fn 5
  (jji (jjq 4 (vj4 (vE (cF2 jk7 (vE (cF1 (pu1 jwq) (vE (jjv m_names_held [(cH (jjf (vV 1) (vE (cC (.int 1)))))])))) (vE (cC (.int 1)))))))
  (jkz (cLC .rt 1 [0,1,2,3] (itS (cV 4)) (.n 0) tYes (kkb jk2 4 [(jjv (jkk rz) [(cV 1),(cV 2),(cV 3),(cV 0)])]))))
def m_plain_of (rz:Sm):Fn:=fn 5
  (jji (jjq 1 (qw7 (jjv C.m_first_standing [(cV 0)]) (cC (.int 0))))
  (jji (jjq 2 (jvb .rt []))
  (jji (sWhile (tE (cF2 (pu2 fLt) (vE (cF1 (pu1 jwq) (vV 2))) (vE (cF1 (pu1 kwf) (vV 1))))) (jji (jjq 3 (cH (jjf (vE (cF1 jz3 (vV 1))) (vE (cF1 (pu1 jwq) (vV 2))))))
  (jji (jjq 4 (cLC .rt 1 [0,3,1] (itS (cH (jjf (vV 0) (vE (cC (.int 0)))))) (.n 0) tYes (kkb (jkj rz) 3 [(cV 1),(cV 2),(cV 0)])))
  (jqw jz1 2 (jwc .no [(cF1 (pu1 jwq) (vE (jjv m_names_held [(cH (jjf (vV 3) (vE (cC (.int 1)))))]))),(cH (jjf (jjf (jjf (vV 0) (vE (cC (.int 1)))) (jjf (vV 3) (vE (cC (.int 0))))) (vE (cC (.int 1))))),(cV 4)])))))
  (jkz (jwc .no [(jwc .no [(cF1 jzz (jjf (vV 0) (vE (cC (.int 0))))),(cV 2)]),(cF1 jz3 (vV 1))])))))
def kjv (acc:List Int):D->List Int
 | .int i=>if i∈acc then acc else acc++[i]
 | _=>acc
def jvj (ks:List D):List Int:=ks.foldl kjv []
theorem vqc (acc:List Int) (d:D):(kjv acc d).length<=acc.length + 1:=by
 unfold kjv
 split
 ·split<;>simp
 ·omega
theorem kzx:∀ (ks:List D) (acc:List Int),(ks.foldl kjv acc).length<=acc.length + ks.length
 | [],_=>by simp
 | k :: ks,acc=>by
  rw [List.foldl_cons,List.length_cons]
  have:=kzx ks (kjv acc k)
  have:=vqc acc k
  omega
theorem jxb (ks:List D):(jvj ks).length<=ks.length:=by
 have:=kzx ks []
 rw [List.length_nil,Nat.zero_add] at this
 exact this
theorem vqb {acc:List Int} {d:D} {i:Int} (h:i∈acc):i∈kjv acc d:=by
 unfold kjv
 split
 ·split
  ·exact h
  ·exact ll9 _ h
 ·exact h
theorem kzv:∀ {ks:List D} {acc:List Int} {i:Int},i∈acc->i∈ks.foldl kjv acc
 | [],_,_,h=>h
 | k :: ks,acc,i,h=>kzv (ks:=ks) (vqb h)
theorem qvn:∀ {ks:List D} {acc:List Int} {i:Int},D.int i∈ks->i∈ks.foldl kjv acc
 | k :: ks,acc,i,h=>by
  rw [List.foldl_cons]
  rcases List.mem_cons.mp h with rfl | h
  ·refine kzv ?_
   unfold kjv
   dsimp only
   split
   ·assumption
   ·simp
  ·exact qvn h
theorem qqk {ks:List D} {i:Int} (h:D.int i∈ks):i∈jvj ks:=qvn h
theorem qzq {p:Int} {ks:List Int}:jq8 (.int p) (iL ks)=some (.bl (!decide (p∈ks))):=by
 have h:=in_i (p:=p) (ks:=ks)
 rw [kv3] at h
 have h:fIn (.int p) (iL ks)=some (.bl (decide (p∈ks))):=h
 show (fIn (.int p) (iL ks)).bind _=_
 rw [h]
 rfl
theorem jx8 {ks:List D} (hk:∀ k∈ks,At k) (hl:ks.length<=100):Oo m_names_held [(.no,.tup ks)] (fun y=>∃ _:Unit,y=(.rt,iL (jvj ks))/\True) noX:=by
 unfold m_names_held
 refine jvd ?_
 simp! only []
 refine jwv (fun E rest=>∃ (k1:List D) (l2:Option Sd),E=[some (.no,.tup ks),some (.rt,iL (jvj k1)),l2]/\ks=k1++rest) ?_ ?_ ?_
 ·simp! only []
  exact ⟨[],_,rfl,rfl⟩
 ·rintro E d ds ⟨k1,l2,rfl,he⟩
  have hlen:=congrArg List.length he
  rw [List.length_append,List.length_cons] at hlen
  have hb:=jxb k1
  have hsn:jvj (k1++[d])=kjv (jvj k1) d:=by unfold jvj;rw [List.foldl_append];rfl
  rcases hk d (by rw [he];simp) with rfl | ⟨i,rfl⟩
  ·simp! only []
   exact ⟨k1++[.non],_,by rw [hsn];rfl,by rw [he];simp⟩
  ·by_cases hm:i∈jvj k1
   ·have hq:=qzq (p:=i) (ks:=jvj k1)
    rw [decide_eq_true hm] at hq
    simp! only [hq]
    exact ⟨k1++[.int i],_,by rw [hsn];unfold kjv;dsimp only;rw [if_pos hm],by rw [he];simp⟩
   ·have hq:=qzq (p:=i) (ks:=jvj k1)
    rw [decide_eq_false hm] at hq
    simp! only [hq]
    refine jw0 rfl ?_
    simp! only []
    have e4:(jvj k1).map D.int++[D.int i]=(jvj (k1++[.int i])).map D.int:=by
     rw [hsn,show kjv (jvj k1) (.int i)=jvj k1++[i] from if_neg hm,List.map_append]
     rfl
    exact ⟨_,rfl,by simp;omega,k1++[.int i],_,by rw [e4],by rw [he];simp⟩
 ·rintro E ⟨k1,l2,rfl,he⟩
  rw [List.append_nil] at he
  subst he
  simp! only []
  first | trivial | exact ⟨(),trivial⟩ | exact ⟨(),rfl,trivial⟩
def plc (ns:List Int):D->D
 | .int i=>.int (ns.findIdx fun w=>w == i:Nat)
 | d=>d
def pr (ks:List D):List D:=ks.map (plc (jvj ks))
theorem qzy {p:Int} {ks:List Int} (h:(ks.any fun w=>w == p)=true):kk4 (iL ks) (.int p)=some (.int (ks.findIdx fun w=>w == p:Nat)):=by
 show (if (D.int p).flat 30 && D.flats 30 (ks.map D.int) then ((ks.map D.int).findIdx? fun w=>peq w (.int p)).map fun (j:Nat)=>D.int (j:Int) else none)=_
 rw [show (D.int p).flat 30=true from rfl,jqf (ks:=ks.map D.int) (fun k hk=>by obtain ⟨w,_,rfl⟩:=List.mem_map.mp hk;rfl),List.findIdx?_map]
 have:ks.findIdx? ((fun w=>peq w (.int p))∘D.int)=ks.findIdx? fun w=>w == p:=rfl
 rw [this,qvr h]
 rfl
theorem qqa {ks:List D} (hk:∀ k∈ks,At k):Oo jk9 [(.no,iL (jvj ks)),(.no,.tup ks)] (fun y=>∃ _:Unit,y=(.no,.tup (pr ks))/\True) noX:=by
 unfold jk9
 refine jvd ?_
 simp! only []
 refine kk6 [some (.no,iL (jvj ks))] (fun d y=>y.2=plc (jvj ks) d) ?_
 simp! only []
 refine ⟨rfl,fun d hd=>?_,fun ys hy=>?_⟩
 ·rcases hk d hd with rfl | ⟨i,rfl⟩
  ·simp! only []
   exact ⟨⟨_,rfl⟩,rfl⟩
  ·have hm:((jvj ks).any fun w=>w == i)=true:=by rw [kv3];exact decide_eq_true (qqk hd)
   simp! only [qzy hm]
   exact ⟨⟨_,rfl⟩,rfl⟩
 ·rw [jxa,jz7 (h:=plc (jvj ks)) (fun d y h=>h) hy]
  simp only [back,clr,at',List.map_cons,List.map_nil,List.set_cons_zero,List.set_cons_succ]
  simp! only [kqd (o:=.no) (xs:=ks.map (plc (jvj ks))) (by decide)]
  first | trivial | exact ⟨(),trivial⟩ | exact ⟨(),rfl,trivial⟩
def kkf:Nat->List D->List (D×D)
 | _,[]=>[]
 | n,d :: K=>(d,.int n) :: kkf (n + 1) K
def jze (K:List D):List (D×D):=kkf 0 K
theorem qk9:∀ (a b:List D) (n:Nat),kkf n (a++b)=kkf n a++kkf (n + a.length) b
 | [],b,n=>by simp [kkf]
 | d :: a,b,n=>by
  rw [List.cons_append,kkf,kkf,qk9 a b (n + 1),List.cons_append,List.length_cons]
  congr 3
  omega
theorem kww:∀ (K:List D) (n:Nat),(kkf n K).length=K.length
 | [],_=>rfl
 | d :: K,n=>by rw [kkf,List.length_cons,kww K,List.length_cons]
theorem kqc:∀ (K:List D) (n:Nat),(kkf n K).map (·.1)=K
 | [],_=>rfl
 | d :: K,n=>by rw [kkf,List.map_cons,kqc K]
theorem kxu:∀ (K:List D) (n:Nat),D.pures ((kkf n K).map (·.2))=true
 | [],_=>rfl
 | d :: K,n=>by
  rw [kkf,List.map_cons]
  show (D.pure (.int n) && D.pures ((kkf (n + 1) K).map (·.2)))=true
  rw [kxu K]
  rfl
theorem qk8:∀ (K:List D) (n:Nat) (p:D),kwa (kkf n K) p=if p∈K then some (.int (n + K.idxOf p:Nat)) else none
 | [],_,p=>by simp [kkf,kwa]
 | d :: K,n,p=>by
  by_cases h:d=p
  ·subst h
   unfold kwa
   rw [kkf,List.find?_cons_of_pos (by simp),if_pos List.mem_cons_self]
   simp
  ·have ih:=qk8 K (n + 1) p
   have e:kwa (kkf n (d :: K)) p=kwa (kkf (n + 1) K) p:=by
    unfold kwa
    rw [kkf,List.find?_cons_of_neg (by simpa using h)]
   rw [e,ih]
   by_cases hm:p∈K
   ·rw [if_pos hm,if_pos (lc9 _ hm),List.idxOf_cons,show (d == p)=false by simpa using h]
    congr 2
    simp
    omega
   ·rw [if_neg hm,if_neg (fun z=>by rcases List.mem_cons.mp z with z | z;exact h z.symm;exact hm z)]
theorem qka (K:List D) (p:D):jze (K++[p])=jze K++[(p,.int K.length)]:=by
 unfold jze
 rw [qk9,Nat.zero_add]
 rfl
theorem vqe (K:List D) (p:D):((kke K p).idxOf p:Int)=if p∈K then (K.idxOf p:Int) else K.length:=by
 unfold kke
 by_cases h:p∈K
 ·rw [if_pos h,if_pos h]
 ·rw [if_neg h,if_neg h,List.idxOf_append,if_neg h]
  simp
def jxi (K:List D) (s:D):List D×D:=match s with
 | .tup [room,.tup ks]=>(kke K (.tup [room,.tup (pr ks)]),.tup [.int ((kke K (.tup [room,.tup (pr ks)])).idxOf (.tup [room,.tup (pr ks)]):Nat),iT (jvj ks)])
 | _=>(K,.non)
theorem vqq {ks K:List D} {room:Int} (hk:∀ k∈ks,At k) (hl:ks.length<=6) (hK:K.length < 9000) (hkey:jwa (.tup [.int room,.tup (pr ks)])=true) (hu:unm (jze K)=true) :
  Oom jk2 [(.no,.tup [.int room,.tup ks]),(.rt,.dct (jze K))] 1 (fun y x'=>y=(.no,(jxi K (.tup [.int room,.tup ks])).2)/\x'=(.rt,.dct (jze (jxi K (.tup [.int room,.tup ks])).1))) noX:=by
 unfold jk2
 refine qqg ?_
 refine kvu (vx2 ?_)
 simp! only []
 refine qxj ?_
 simp! only []
 refine kvu (qxj ?_)
 simp! only [p1]
 refine (jx8 hk (by omega)).use ?_
 intro _ _
 simp! only []
 refine kvu (qxj ?_)
 simp! only [p0,p1]
 refine (qqa hk).use ?_
 intro _ _
 simp! only []
 refine qqh ?_
 simp! only []
 refine vjq hu ?_
 simp! only [qqx hu]
 have hz:=qk8 K 0 (.tup [.int room,.tup (pr ks)])
 have hzl:(jze K).length=K.length:=kww K 0
 refine ⟨jze K,rfl,⟨hkey,by rw [hzl];omega,hu,kxu _ _⟩,fun d hd=>?_,fun hn=>?_⟩
 ·have hm:(D.tup [.int room,.tup (pr ks)])∈K:=by
   by_cases hm:(D.tup [.int room,.tup (pr ks)])∈K
   ·exact hm
   ·rw [if_neg hm] at hz
    unfold jze at hd
    rw [hz] at hd
    cases hd
  rw [if_pos hm,Nat.zero_add] at hz
  unfold jze at hd
  rw [hz] at hd
  cases oq9 hd
  have e1:kke K (.tup [.int room,.tup (pr ks)])=K:=by unfold kke;rw [if_pos hm]
  simp! only [kqd (o:=.no) (xs:=(jvj ks).map D.int) (by decide)]
  show _/\_
  unfold jxi
  dsimp only
  rw [e1]
  exact ⟨rfl,rfl⟩
 ·have hm:(D.tup [.int room,.tup (pr ks)])∉K:=fun hm=>by
   rw [if_pos hm] at hz
   unfold jze at hn
   rw [hz] at hn
   cases hn
  have e1:kke K (.tup [.int room,.tup (pr ks)])=K++[.tup [.int room,.tup (pr ks)]]:=by unfold kke;rw [if_neg hm]
  have e2:=vqe K (.tup [.int room,.tup (pr ks)])
  rw [if_neg hm] at e2
  simp! only [kqd (o:=.no) (xs:=(jvj ks).map D.int) (by decide),hzl]
  show _/\_
  unfold jxi
  dsimp only
  rw [e2,e1,qka]
  exact ⟨rfl,rfl⟩
theorem qw1 {K:List D}:Oom jk2 [(.no,.non),(.rt,.dct (jze K))] 1 (fun y x'=>y.2=.non/\x'=(.rt,.dct (jze K))) noX:=by
 unfold jk2
 refine qqg ?_
 refine kvu (vx2 ?_)
 simp! only []
 refine qqh ?_
 simp! only []
 first | rfl | exact ⟨rfl,rfl⟩
end F
noncomputable section
namespace F
open Q PySem C
def obD (rs:List D) (s:D) (z:Str) (p:Int):Option D:=match kxd rs (z,p) s with
 | []=>some .non
 | [d]=>some d
 | _=>none
def vv6 (rz:Sm):Prop:=∀ (e:Option Sd) (E:En) (N C:En->Prop) (R:Sd->Prop) (X:XP),X "NotSingle"->Po (rz (e :: E)) N C R X
theorem vzz:vv6 (sRz "NotSingle"):=fun e E N C R X h=>by rw [w_rz];exact h
theorem vkv {rz:Sm} {ss:List Str} {rs V:List D} {kps:List Int} {s:D} {z:Str} {p:Int} {X:XP} (hR:Rms rs) (hx:Rx ss kps rs) (hs:SokV kps V s) (hz:obD rs s z p=none->vv6 rz/\X "NotSingle") :
  Oo (jkk rz) [(.no,jxc ss rs),(.no,s),(.no,.str z),(.no,.int p)] (fun y=>obD rs s z p=some y.2) X:=by
 obtain ⟨room,ks,st,gd,rfl,r0,er,hst,hka,hsx,hsl⟩:=kqi hR hx hs.ok
 have hat:At (.int p):=.inr ⟨p,rfl⟩
 have hnx:kxd rs (z,p) (.tup [.int room,.tup ks])=(jvw (kxo z ks (.int p)) 0 st).map (bh ks st p):=by unfold kxd;rw [vjm er,qjp]
 unfold jkk
 refine jvd ?_
 simp! only []
 refine (qjt r0 er hst hka hat).any.use ?_
 intro _ _
 unfold obD at hz ⊢
 rw [hnx] at hz ⊢
 cases hf:jvw (kxo z ks (.int p)) 0 st with
 | nil =>
  have hgt:fGt (.int (([]:List D).length:Nat)) (.int 1)=some (.bl false):=rfl
  simp! only [hgt]
  first | rfl | trivial
 | cons c r =>
  rw [hf] at hz
  obtain ⟨j,rfl,_,hj⟩:=kwc (show c∈jvw (kxo z ks (.int p)) 0 st by rw [hf];exact List.mem_cons_self)
  have hj:j < st.length:=by omega
  cases r with
  | nil =>
   have hx0:jwb (.lst [.int j]) (.int 0)=some (.int j):=rfl
   have hgt:fGt (.int (([.int j]:List D).length:Nat)) (.int 1)=some (.bl false):=rfl
   simp! only [hgt,hx0]
   rw [if_neg (by decide),if_pos (by rfl)]
   refine (qwb r0 er hst hj).any.use ?_
   intro _ _
   rw [vqx hj]
  | cons c2 r2 =>
   have hgt:fGt (.int ((.int j :: c2 :: r2:List D).length:Nat)) (.int 1)=some (.bl true):=by
    show some (D.bl (decide ((1:Int) < ((.int j :: c2 :: r2:List D).length:Nat))))=_
    rw [decide_eq_true (by simp;omega)]
   simp! only [hgt]
   rw [if_pos (decide_eq_true (by omega))]
   obtain ⟨h1,h2⟩:=hz rfl
   exact h1 _ _ _ _ _ _ h2
def V4:List D:=[.non,.int 0,.int 1,.int 2,.int 3]
theorem vx6 {ss:List Str} {rs:List D} {kps:List Int} {s d:D} {z:Str} {p:Int} (hR:Rms rs) (hx:Rx ss kps rs) (hs:SokV kps V4 s) (hp:D.int p∈V4) (h:obD rs s z p=some d):d=.non\/SokV kps V4 d:=by
 have hn:=qxm (w:=(z,p)) hR hx (by simp [V4]) hp hs
 unfold obD at h
 split at h
 ·cases h;exact .inl rfl
 ·rename_i d' e
  cases h
  exact .inr (hn d (by rw [e];exact List.mem_singleton.mpr rfl))
 ·cases h
theorem vqi {ns:List Int} {i:Int} (h:i∈ns):(ns.findIdx fun w=>w == i) < ns.length:=wjz (by rw [kv3];exact decide_eq_true h)
theorem wjb {ks:List D} (hk:∀ k∈ks,At k) (hl:ks.length<=3):(∀ d∈pr ks,At d)/\∀ d∈pr ks,d∈V4:=by
 have key:∀ d∈pr ks,d=.non\/∃ i:Nat,d=.int i/\i < 3:=fun d hd=>by
  unfold pr at hd
  obtain ⟨k,hk',rfl⟩:=List.mem_map.mp hd
  rcases hk k hk' with rfl | ⟨i,rfl⟩
  ·exact .inl rfl
  ·have:=vqi (qqk hk')
   have:=jxb ks
   exact .inr ⟨_,rfl,by omega⟩
 refine ⟨fun d hd=>?_,fun d hd=>?_⟩
 ·rcases key d hd with rfl | ⟨i,rfl,_⟩
  ·exact .inl rfl
  ·exact .inr ⟨_,rfl⟩
 ·rcases key d hd with rfl | ⟨i,rfl,hi⟩
  ·simp [V4]
  ·have:i=0\/i=1\/i=2:=by omega
   rcases this with rfl | rfl | rfl<;>simp [V4]
theorem wjp {kps:List Int} {room:Int} (h3:∀ k∈kps,k<=3) (r0:0<=room) (r1:room < kps.length):kps.getD room.toNat 0<=3:=by
 have:room.toNat < kps.length:=by omega
 refine h3 _ ?_
 rw [List.getD_eq_getElem?_getD,List.getElem?_eq_getElem this]
 exact List.getElem_mem _
theorem jw3 {kps:List Int} {room:Int} {ks:List D} (h3:∀ k∈kps,k<=3) (h:SokV kps V4 (.tup [.int room,.tup ks])):SokV kps V4 (.tup [.int room,.tup (pr ks)])/\ks.length<=3:=by
 obtain ⟨room',ks',e,r0,r1,hl,ha,hV⟩:=h
 injection e with e
 injection e with e1 e
 injection e with e2 _
 injection e1 with e1
 injection e2 with e2
 subst e1 e2
 have:=wjp h3 r0 r1
 have hl3:ks.length<=3:=by omega
 obtain ⟨q1,q2⟩:=wjb ha hl3
 exact ⟨⟨room,pr ks,rfl,r0,r1,by unfold pr;rw [List.length_map];exact hl,q1,q2⟩,hl3⟩
theorem kqz {kps:List Int} {K:List D} {d:D} (h3:∀ k∈kps,k<=3) (hK:Kin kps V4 K) (hd:d=.non\/SokV kps V4 d):Kin kps V4 (jxi K d).1:=by
 rcases hd with rfl | hd
 ·exact hK
 ·obtain ⟨room,ks,rfl,_⟩:=id hd
  exact kxj hK (jw3 h3 hd).1
theorem kzo {kps:List Int} {K:List D} (hK:Kin kps V4 K):unm (jze K)=true:=vq6 (kps:=kps) (V:=V4) (by unfold jze;rw [kqc];exact hK)
def jql (rs:List D) (s:D) (z:Str):List D->List D->Option (List D×List D)
 | [],K=>some (K,[])
 | .int p :: ps,K=>match obD rs s z p with
  | none=>none
  | some d=>(jql rs s z ps (jxi K d).1).map fun r=>(r.1,(jxi K d).2 :: r.2)
 | _ :: _,_=>none
theorem kqk {kps:List Int} {K:List D} {d:D} (hk4:kps.length<=4) (h3:∀ k∈kps,k<=3) (hK:Kin kps V4 K) (hd:d=.non\/SokV kps V4 d) :
  Oom jk2 [(.no,d),(.rt,.dct (jze K))] 1 (fun y x'=>y.2=(jxi K d).2/\x'=(.rt,.dct (jze (jxi K d).1))) noX:=by
 rcases hd with rfl | hd
 ·exact qw1
 ·obtain ⟨room,ks,rfl,r0,r1,hl,ha,hV⟩:=id hd
  obtain ⟨q1,q2⟩:=jw3 h3 hd
  have:=jz0 hK hk4 h3 (by decide)
  exact (vqq ha (by omega) (by omega) (qv7 q1.ok) (kzo hK)).mono (fun y x h=>⟨by rw [h.1],h.2⟩) fun c h=>h.elim
theorem qz2 {rz:Sm} {ss:List Str} {rs K:List D} {kps:List Int} {s:D} {z:Str} {X:XP} (hR:Rms rs) (hx:Rx ss kps rs) (h3:∀ k∈kps,k<=3) (hs:SokV kps V4 s) (hK:Kin kps V4 K)
  (hz:jql rs s z (jjh 0 ((jvj (qk4 s)).length + 1)) K=none->vv6 rz/\X "NotSingle") :
  Oom (jkj rz) [(.no,jxc ss rs),(.no,s),(.no,.str z),(.rt,.dct (jze K))] 3 (fun y x'=>∃ K' cs,jql rs s z (jjh 0 ((jvj (qk4 s)).length + 1)) K=some (K',cs)/\y=(.rt,.lst cs)/\x'=(.rt,.dct (jze K'))/\Kin kps V4 K') X:=by
 have hk4:kps.length<=4:=by have:=hx.1;have:=hR.2.1;omega
 obtain ⟨room,ks,rfl,r0,r1,hl,ha,hV⟩:=id hs
 have hl3:=(jw3 h3 hs).2
 rw [qjp] at hz ⊢
 have hnl:=jxb ks
 have hpv:∀ d∈jjh 0 (((jvj ks).length:Int) + 1),∃ p:Int,d=.int p/\d∈V4:=fun d hd=>by
  unfold jjh at hd
  obtain ⟨i,hi,rfl⟩:=List.mem_map.mp hd
  have hi:=List.mem_range.mp hi
  refine ⟨_,rfl,?_⟩
  have:i=0\/i=1\/i=2\/i=3:=by omega
  rcases this with rfl | rfl | rfl | rfl<;>simp [V4]
 generalize hps:jjh 0 (((jvj ks).length:Int) + 1)=ps at hz hpv
 unfold jkj
 refine qqg ?_
 refine kvu (qxj ?_)
 simp! only [p1]
 refine (jx8 ha (by omega)).any.use ?_
 intro _ _
 simp! only []
 refine qqh ?_
 rw [hps]
 refine qjv (fun E1 B ds acc=>E1=[some (.no,jxc ss rs),some (.no,.tup [.int room,.tup ks]),some (.no,.str z),some (.rt,.dct (jze K)),some (.no,.lst ps)]/\∃ q K1,B=[q,some (.no,jxc ss rs),some (.no,.tup [.int room,.tup ks]),some (.no,.str z),some (.rt,.dct (jze K1))]/\Kin kps V4 K1/\(∀ d∈ds,∃ p:Int,d=.int p/\d∈V4)/\jql rs (.tup [.int room,.tup ks]) z ps K=(jql rs (.tup [.int room,.tup ks]) z ds K1).map fun r=>(r.1,acc.map (·.2)++r.2)) ?_ ?_ ?_
 ·simp! only []
  exact ⟨none,K,rfl,hK,hpv,by simp⟩
 ·rintro E1 B d ds acc ⟨rfl,q,K1,rfl,hK1,hds,hc⟩
  obtain ⟨p,rfl,hpV⟩:=hds d List.mem_cons_self
  simp! only []
  refine qj5 ?_
  simp! only []
  refine (vkv hR hx hs (fun hn=>hz (by rw [hc,jql,hn];rfl))).via ?_
  intro y hy
  simp! only []
  have hd:=vx6 hR hx hs hpV hy
  refine ⟨_,rfl,(kqk hk4 h3 hK1 hd).mono (fun y' x' h=>?_) fun c h=>h.elim⟩
  obtain ⟨h1,rfl⟩:=h
  refine ⟨_,(jxi K1 y.2).1,rfl,kqz h3 hK1 hd,fun d hd=>hds d (lc9 _ hd),?_⟩
  rw [hc,jql,hy]
  simp [Option.map_map,Function.comp_def,h1]
 ·rintro E1 B acc ⟨rfl,q,K1,rfl,hK1,_,hc⟩
  rw [jxa]
  simp only [kkq,back,clr,at',List.drop,List.map_cons,List.map_nil,List.set_cons_zero,List.set_cons_succ]
  exact ⟨K1,acc.map (·.2),by rw [hc];simp [jql],rfl,rfl,hK1⟩
end F
noncomputable section
namespace F
open Q PySem C
def kka (rs:List D) (s:D) (z:Str) (K:List D):Option (List D×List D):=jql rs s z (jjh 0 ((jvj (qk4 s)).length + 1)) K
def jqg (rs:List D) (s:D):List Str->List D->Option (List D×List D)
 | [],K=>some (K,[])
 | z :: zs,K=>match kka rs s z K with
  | none=>none
  | some r=>(jqg rs s zs r.1).map fun q=>(q.1,.lst r.2 :: q.2)
def qvh (rs:List D) (s:D):D:=match s with
 | .tup [.int room,_]=>(match rs[room.toNat]? with
  | some (.tup [_,g,_])=>g
  | _=>.non)
 | _=>.non
def kx0 (rs:List D) (s:D) (st:List D):D:=.tup [.int (jvj (qk4 s)).length,qvh rs s,.lst st]
def qkl (ss:List Str) (rs K rooms:List D):Option (List D×List D):=(jqg rs (K.getD rooms.length .non) ss K).map fun r=>(r.1,rooms++[kx0 rs (K.getD rooms.length .non) r.2])
inductive Run (ss:List Str) (rs:List D):List D->List D->Option (List D×List D)->Prop
 | stop {K rooms:List D}:¬ rooms.length < K.length->Run ss rs K rooms (some (K,rooms))
 | fail {K rooms:List D}:rooms.length < K.length->qkl ss rs K rooms=none->Run ss rs K rooms none
 | go {K rooms K' rooms':List D} {r:Option (List D×List D)}:rooms.length < K.length->qkl ss rs K rooms=some (K',rooms')->Run ss rs K' rooms' r->Run ss rs K rooms r
theorem Run.det {ss:List Str} {rs K rooms:List D} {r r':Option (List D×List D)} (h:Run ss rs K rooms r):Run ss rs K rooms r'->r=r':=by
 induction h with
 | stop h =>
  intro h'
  cases h' with
  | stop=>rfl
  | fail h1=>exact absurd h1 h
  | go h1=>exact absurd h1 h
 | fail h e =>
  intro h'
  cases h' with
  | stop h1=>exact absurd h h1
  | fail=>rfl
  | go _ e'=>rw [e] at e';cases e'
 | go h e _ ih =>
  intro h'
  cases h' with
  | stop h1=>exact absurd h h1
  | fail _ e'=>rw [e] at e';cases e'
  | go _ e' h2 =>
   rw [e] at e'
   cases e'
   exact ih h2
theorem qjw {K:List D} {d:D}:K.length<=(jxi K d).1.length:=by
 unfold jxi
 split
 ·unfold kke;split<;>simp
 ·exact Nat.le_refl _
theorem jxh {rs:List D} {s:D} {z:Str}:∀ {ps K:List D} {r:List D×List D},jql rs s z ps K=some r->K.length<=r.1.length
 | [],K,r,h=>by rw [jql] at h;cases h;exact Nat.le_refl _
 | .int p :: ps,K,r,h=>by
  rw [jql] at h
  split at h
  ·cases h
  ·rename_i d _
   obtain ⟨q,hq,rfl⟩:=Option.map_eq_some_iff.mp h
   have h1:=jxh hq
   have:=qjw (K:=K) (d:=d)
   exact Nat.le_trans this h1
 | .non :: _,_,_,h=>by cases h
 | .bl _ :: _,_,_,h=>by cases h
 | .str _ :: _,_,_,h=>by cases h
 | .tup _ :: _,_,_,h=>by cases h
 | .lst _ :: _,_,_,h=>by cases h
 | .dct _ :: _,_,_,h=>by cases h
 | .obj _ _ :: _,_,_,h=>by cases h
theorem kjc {rs:List D} {s:D}:∀ {zs:List Str} {K:List D} {r:List D×List D},jqg rs s zs K=some r->K.length<=r.1.length
 | [],K,r,h=>by rw [jqg] at h;cases h;exact Nat.le_refl _
 | z :: zs,K,r,h=>by
  rw [jqg] at h
  split at h
  ·cases h
  ·rename_i q hq
   obtain ⟨q2,hq2,rfl⟩:=Option.map_eq_some_iff.mp h
   have h1:=jxh hq
   have h2:=kjc hq2
   exact Nat.le_trans h1 h2
theorem kxk {rs ks st:List D} {room:Int} {kp gd:D} (hr:rs[room.toNat]?=some (.tup [kp,gd,.lst st])):qvh rs (.tup [.int room,.tup ks])=gd:=by
 unfold qvh
 dsimp only
 rw [hr]
theorem kvo {rz:Sm} {ss:List Str} {rs:List D} {kps:List Int} {kp:Int} {gd st0:D} {X:XP} (hR:Rms rs) (hx:Rx ss kps rs) (h3:∀ k∈kps,k<=3) (hr0:rs[0]?=some (.tup [.int kp,gd,st0])) (hk0:0<=kp) (hk3:kp<=3)
  (hX:Run ss rs [.tup [.int 0,.tup (List.replicate kp.toNat .non)]] [] none->vv6 rz/\X "NotSingle") :
  Oo (m_plain_of rz) [(.no,jxc ss rs)] (fun y=>∃ K rooms,y=(.no,.tup [jxc ss rooms,.lst K])/\Run ss rs [.tup [.int 0,.tup (List.replicate kp.toNat .non)]] [] (some (K,rooms))) X:=by
 have k4:kps.length<=4:=by have:=hx.1;have:=hR.2.1;omega
 have hin:Kin kps V4 [.tup [.int 0,.tup (List.replicate kp.toNat .non)]]:=kqw hR hx (by simp [V4]) hr0 hk0
 generalize hs0:(D.tup [.int 0,.tup (List.replicate kp.toNat .non)])=s0 at *
 unfold m_plain_of
 refine jvd ?_
 simp! only [↓vv8]
 refine (qxz (gd:=gd) (st:=st0) hr0 hk0 (by omega)).any.use ?_
 intro _ _
 simp! only []
 rw [hs0]
 refine ⟨qv7 (hin.2 s0 List.mem_cons_self).ok,?_⟩
 refine kze (fun n E=>∃ (K rooms:List D) (l3 l4:Option Sd),E=[some (.no,jxc ss rs),some (.rt,.dct (jze K)),some (.rt,.lst rooms),l3,l4]/\Kin kps V4 K/\rooms.length<=K.length/\n=2000 - rooms.length/\∀ r,Run ss rs K rooms r->Run ss rs [s0] [] r) ?_ 2000 _ ⟨[s0],[],_,_,rfl,hin,Nat.zero_le _,rfl,fun r h=>h⟩
 rintro n E ⟨K,rooms,l3,l4,rfl,hK,hle,rfl,hrun⟩
 have hkl:=jz0 hK k4 h3 (by decide)
 have hzl:(jze K).length=K.length:=kww K 0
 have hu:=kzo hK
 have hlist:∀ o,jz3 (o,.dct (jze K))=some (.rt,.lst K):=fun o=>by
  rw [vxb (by rw [hzl];omega) hu]
  unfold jze
  rw [kqc]
 by_cases hlt:rooms.length < K.length
 ·have hd:decide ((rooms.length:Int) < (K.length:Int))=true:=decide_eq_true (by omega)
  have hix:jwb (.lst K) (.int rooms.length)=some (K.getD rooms.length .non):=kw7 (by omega) (by rw [Int.toNat_natCast,List.getElem?_eq_getElem hlt,List.getD_eq_getElem?_getD,List.getElem?_eq_getElem hlt];rfl)
  have hs:SokV kps V4 (K.getD rooms.length .non):=hK.2 _ (by rw [List.getD_eq_getElem?_getD,List.getElem?_eq_getElem hlt];exact List.getElem_mem _)
  have hstep:qkl ss rs K rooms=(jqg rs (K.getD rooms.length .non) ss K).map fun r=>(r.1,rooms++[kx0 rs (K.getD rooms.length .non) r.2]):=rfl
  generalize K.getD rooms.length .non=s at hix hs hstep
  have hfail:jqg rs s ss K=none->vv6 rz/\X "NotSingle":=fun e=>hX (hrun _ (.fail hlt (by rw [hstep,e];rfl)))
  simp! only [qqx hu,hzl,hd,hlist,hix]
  refine qjv (fun E1 B ds acc=>E1=[some (.no,jxc ss rs),some (.rt,.dct (jze K)),some (.rt,.lst rooms),some (.no,s),l4]/\∃ (q:Option Sd) (K1:List D) (zs:List Str),B=[q,some (.no,jxc ss rs),some (.no,s),some (.rt,.dct (jze K1))]/\ds=zs.map D.str/\Kin kps V4 K1/\K.length<=K1.length/\jqg rs s ss K=(jqg rs s zs K1).map fun r=>(r.1,acc.map (·.2)++r.2)) ?_ ?_ ?_
  ·simp! only [p0]
   exact ⟨none,K,ss,rfl,rfl,hK,Nat.le_refl _,by simp⟩
  ·rintro E1 B d ds acc ⟨rfl,q,K1,zs,rfl,hds,hK1,hg,hc⟩
   cases zs with
   | nil=>cases hds
   | cons z zs =>
    rw [List.map_cons] at hds
    injection hds with e1 e2
    subst e1 e2
    simp! only []
    refine qj5 ?_
    simp! only []
    refine ⟨_,rfl,(qz2 hR hx h3 hs hK1 (fun hn=>hfail (by rw [hc,jqg,show kka rs s z K1=none from hn];rfl))).mono (fun y x' h=>?_) fun c h=>h⟩
    obtain ⟨K2,cs,hcs,rfl,rfl,hK2⟩:=h
    refine ⟨_,K2,zs,rfl,rfl,hK2,Nat.le_trans hg (jxh hcs),?_⟩
    rw [hc,jqg,show kka rs s z K1=some (K2,cs) from hcs]
    simp [Option.map_map,Function.comp_def]
  ·rintro E1 B acc ⟨rfl,q,K1,zs,rfl,hds,hK1,hg,hc⟩
   cases zs with
   | cons=>cases hds
   | nil =>
    rw [jxa]
    simp only [kkq,back,clr,at',List.drop,List.map_cons,List.map_nil,List.set_cons_zero,List.set_cons_succ]
    obtain ⟨room,ks,st,gd',rfl,r0,er,hst,hka,hsx,hsl⟩:=kqi hR hx hs.ok
    have hl3:=(jw3 h3 hs).2
    have hir:jwb (.lst rs) (.int room)=some (.tup [.int ks.length,gd',.lst st]):=kw7 r0 er
    refine jw0 rfl ?_
    simp! only [p0,p1]
    refine (jx8 hka (by omega)).any.use ?_
    intro _ _
    simp! only [p0,p1,t1,hir]
    have hkl1:=jz0 hK1 k4 h3 (by decide)
    refine ⟨_,rfl,by omega,_,?_,K1,_,_,_,rfl,hK1,?_,rfl,fun r h=>hrun r (.go hlt ?_ h)⟩
    ·simp;omega
    ·simp;omega
    ·rw [hstep,hc]
     simp [jqg,kx0,kxk er,qk4]
 ·have hd:decide ((rooms.length:Int) < (K.length:Int))=false:=decide_eq_false (by omega)
  simp! only [qqx hu,hzl,hd,hlist,p0,kw4 (o:=.no) (xs:=ss.map D.str) (by decide)]
  exact ⟨K,rooms,rfl,hrun _ (.stop hlt)⟩
theorem kx6 {rz:Sm} {ss:List Str} {rs:List D} {kps:List Int} {kp:Int} {gd st0:D} {X:XP} (hR:Rms rs) (hx:Rx ss kps rs) (h3:∀ k∈kps,k<=3) (hr0:rs[0]?=some (.tup [.int kp,gd,st0])) (hk0:0<=kp) (hk3:kp<=3) (hrz:vv6 rz)
  (hX:Run ss rs [.tup [.int 0,.tup (List.replicate kp.toNat .non)]] [] none->X "NotSingle") :
  Oo (m_plain_of rz) [(.no,jxc ss rs)] (fun y=>∃ K rooms,y=(.no,.tup [jxc ss rooms,.lst K])/\Run ss rs [.tup [.int 0,.tup (List.replicate kp.toNat .non)]] [] (some (K,rooms))) X:=kvo hR hx h3 hr0 hk0 hk3 fun h=>⟨hrz,hX h⟩
end F
noncomputable section
namespace F
open Q PySem C
theorem vkj {a b:D} (ha:At a) (hb:At b):peq a b=decide (a=b):=by
 rcases ha with rfl | ⟨i,rfl⟩<;>rcases hb with rfl | ⟨j,rfl⟩
 ·simp [peq]
 ·simp [peq]
 ·simp [peq]
 ·show (i == j)=_
  by_cases h:i=j
  ·subst h;simp
  ·rw [decide_eq_false (fun z=>h (by injection z))];simpa using h
theorem vki {as:List D}:∀ {bs:List D},(∀ k∈as,At k)->(∀ k∈bs,At k)->peqs as bs=decide (as=bs):=by
 induction as with
 | nil=>intro bs _ _;cases bs<;>simp [peqs]
 | cons a as ih =>
  intro bs ha hb
  cases bs with
  | nil=>simp [peqs]
  | cons b bs =>
   show (peq a b && peqs as bs)=_
   rw [vkj (ha a List.mem_cons_self) (hb b List.mem_cons_self),ih (fun k hk=>ha k (lc9 _ hk)) (fun k hk=>hb k (lc9 _ hk))]
   by_cases h1:a=b<;>by_cases h2:as=bs<;>simp [h1,h2]
theorem kzg {kps:List Int} {V:List D} {a b:D} (ha:SokV kps V a) (hb:SokV kps V b):peq a b=decide (a=b):=by
 obtain ⟨r,ks,rfl,_,_,_,h1,_⟩:=ha
 obtain ⟨r',ks',rfl,_,_,_,h2,_⟩:=hb
 show ((r == r') && (peqs ks ks' && true))=_
 rw [vki h1 h2]
 by_cases e1:r=r'<;>by_cases e2:ks=ks'<;>simp [e1,e2]
theorem kk3 {kps:List Int} {V:List D} {a:D} {n:Nat} (ha:SokV kps V a):a.flat (n + 2)=true:=by
 obtain ⟨r,ks,rfl,_,_,_,h1,_⟩:=ha
 show (true && (D.flats n ks && true))=true
 rw [At.flats h1]
 rfl
theorem kjz {kps:List Int} {K:List D} {n:Nat} (hK:∀ s∈K,SokV kps V4 s):D.flats (n + 2) K=true:=jqf fun k hk=>kk3 (hK k hk)
theorem qj7 {kps:List Int} {x:D} (hx:SokV kps V4 x):∀ {K:List D},(∀ s∈K,SokV kps V4 s)->(K.any fun z=>peq z x)=decide (x∈K)
 | [],_=>by simp
 | k :: K,h=>by
  rw [List.any_cons,kzg (h k List.mem_cons_self) hx,qj7 hx (fun s hs=>h s (lc9 _ hs))]
  by_cases e1:k=x
  ·simp [e1]
  ·have e3:¬ x=k:=fun z=>e1 z.symm
   by_cases e2:x∈K<;>simp [e1,e2,e3]
theorem qxl {kps:List Int} {x:D} {K:List D} (hx:SokV kps V4 x) (hK:∀ s∈K,SokV kps V4 s):jq8 x (.lst K)=some (.bl (!decide (x∈K))):=by
 have h:fIn x (.lst K)=some (.bl (decide (x∈K))):=by
  show (if x.flat 30 && D.flats 30 K then some (D.bl (K.any fun z=>peq z x)) else none)=_
  rw [kk3 hx,kjz hK,qj7 hx hK]
  rfl
 show (fIn x (.lst K)).bind _=_
 rw [h]
 rfl
theorem kwd {kps:List Int} {x:D} (hx:SokV kps V4 x):∀ {K:List D},(∀ s∈K,SokV kps V4 s)->x∈K->(K.findIdx? fun z=>peq z x)=some (K.idxOf x)
 | [],_,h=>by cases h
 | k :: K,hK,h=>by
  rw [List.findIdx?_cons,kzg (hK k List.mem_cons_self) hx,List.idxOf_cons]
  by_cases e:k=x
  ·simp [e]
  ·have hm:x∈K:=by
    rcases List.mem_cons.mp h with z | z
    ·exact absurd z.symm e
    ·exact z
   rw [kwd hx (fun s hs=>hK s (lc9 _ hs)) hm,show (k == x)=false by simpa using e]
   simp [e]
theorem qxt {kps:List Int} {x:D} {K:List D} (hx:SokV kps V4 x) (hK:∀ s∈K,SokV kps V4 s) (hm:x∈K):kk4 (.lst K) x=some (.int (K.idxOf x:Nat)):=by
 show (if x.flat 30 && D.flats 30 K then (K.findIdx? fun w=>peq w x).map fun (j:Nat)=>D.int (j:Int) else none)=_
 rw [kk3 hx,kjz hK,kwd hx hK hm]
 rfl
theorem qqo {K:List D} {p:D}:p∈kke K p:=by
 unfold kke
 split
 ·assumption
 ·simp
end F
noncomputable section
namespace F
open Q PySem C
structure Tx (n m:Nat) (d:D):Prop where
 fl:d.flat m=true
 sh:(D.dat d).showable=true
 ln:(D.dat d).shown.length<=n
theorem Tx.mono {n n' m:Nat} {d:D} (h:Tx n m d) (hn:n<=n'):Tx n' m d:=⟨h.fl,h.sh,by have:=h.ln;omega⟩
theorem txs {n m:Nat}:∀ {ds:List D},(∀ d∈ds,Tx n m d)->D.flats m ds=true/\PyData.showableAll (D.dats ds)=true/\piled (PyData.shownAll (D.dats ds))<=ds.length * (n + 2)/\(PyData.shownAll (D.dats ds)).length=ds.length
 | [],_=>⟨rfl,rfl,by simp [D.dats,PyData.shownAll,piled],rfl⟩
 | d :: ds,h=>by
  obtain ⟨h1,h2,h3,h4⟩:=txs (ds:=ds) fun d hd=>h d (lc9 _ hd)
  have hd:=h d List.mem_cons_self
  refine ⟨?_,?_,?_,?_⟩
  ·show (D.flat m d && D.flats m ds)=true
   rw [hd.fl,h1];rfl
  ·show ((D.dat d).showable && PyData.showableAll (D.dats ds))=true
   rw [hd.sh,h2];rfl
  ·show piled ((D.dat d).shown :: PyData.shownAll (D.dats ds))<=_
   rw [piled_cons,List.length_cons,Nat.succ_mul]
   have:=hd.ln
   omega
  ·show ((D.dat d).shown :: PyData.shownAll (D.dats ds)).length=_
   rw [List.length_cons,h4,List.length_cons]
theorem qvl:∀ (ts:List Str) (k:Nat) (acc:Str),(textFrom k acc ts).length<=acc.length + piled ts
 | [],_,acc=>by show acc.length<=acc.length + 0;omega
 | t :: ts,k,acc=>by
  have h:=qvl ts (k + 1) (acc++(if k > 0 then ", " else "":String)++t)
  rw [Str.length_append,Str.length_append] at h
  have e:(((if k > 0 then ", " else "":String):Str)).length<=2:=by split<;>decide +kernel
  rw [piled_cons]
  show (textFrom (k + 1) (acc++(if k > 0 then ", " else "":String)++t) ts).length<=_
  omega
theorem kva {n m c:Nat} {ds:List D} (h:∀ d∈ds,Tx n m d) (hc:ds.length<=c):Tx (2 + c * (n + 2)) (m + 1) (.lst ds):=by
 obtain ⟨h1,h2,h3,h4⟩:=txs h
 refine ⟨h1,h2,?_⟩
 show (textFrom 0 "[" (PyData.shownAll (D.dats ds))++("]":Str)).length<=_
 rw [Str.length_append]
 have:=qvl (PyData.shownAll (D.dats ds)) 0 "["
 have e1:("[":Str).length=1:=by decide +kernel
 have e2:("]":Str).length=1:=by decide +kernel
 have:ds.length * (n + 2)<=c * (n + 2):=Nat.mul_le_mul_right _ hc
 omega
theorem kj9 {n m c:Nat} {ds:List D} (h:∀ d∈ds,Tx n m d) (hc:ds.length<=c):Tx (3 + c * (n + 2)) (m + 1) (.tup ds):=by
 obtain ⟨h1,h2,h3,h4⟩:=txs h
 refine ⟨h1,h2,?_⟩
 generalize hts:PyData.shownAll (D.dats ds)=ts at h3 h4
 show (tupleText (PyData.shownAll (D.dats ds))).length<=_
 rw [hts]
 unfold tupleText
 rw [Str.length_append,Str.length_append]
 have e1:("(":Str).length=1:=by decide +kernel
 have e2:(((if ts.length == 1 then ",)" else ")":String):Str)).length<=2:=by split<;>decide +kernel
 have e3:(Str.join ", " ts).length<=piled ts:=by
  cases ts with
  | nil=>exact Nat.le_of_eq rfl
  | cons a r =>
   have:=join_length_add (a :: r) (by simp)
   omega
 have:ds.length * (n + 2)<=c * (n + 2):=Nat.mul_le_mul_right _ hc
 omega
theorem kvb {i:Int} {m:Nat} (h0:0<=i) (h1:i < 2048):Tx 10 m (.int i):=by
 obtain ⟨n,rfl⟩:=Int.eq_ofNat_of_zero_le h0
 have hn:n < 2048:=by omega
 have key:∀ k:Fin 2048,(PyData.int (k.val:Int)).showable=true/\(PyData.int (k.val:Int)).shown.length<=10:=by decide +kernel
 have:=key ⟨n,hn⟩
 exact ⟨by cases m<;>rfl,this.1,this.2⟩
theorem tx_bl {b:Bool} {m:Nat}:Tx 10 m (.bl b):=⟨by cases m<;>rfl,rfl,by cases b<;>decide +kernel⟩
def ltr:List Nat:=("abcdefghijklmnopqrstuvwxyz":Str).cps.toList
def Sg (z:Str):Prop:=z.cps.size<=8/\∀ c∈z.cps.toList,c∈ltr
theorem vky:∀ c∈ltr,(Builtin.Str.reprChar 39 c).length=1/\(Builtin.Str.reprChar 34 c).length=1:=by decide +kernel
theorem kzw {q:Nat}:∀ {l:List Nat} {n:Nat},(∀ c∈l,(Builtin.Str.reprChar q c).length=1)->l.foldl (fun n c=>n + (Builtin.Str.reprChar q c).length) n=n + l.length
 | [],n,_=>rfl
 | c :: l,n,h=>by
  rw [List.foldl_cons,kzw fun c hc=>h c (lc9 _ hc),h c List.mem_cons_self,List.length_cons]
  omega
theorem vva {z:Str} {m:Nat} (h:Sg z):Tx 10 m (.str z):=by
 refine ⟨by cases m<;>rfl,rfl,?_⟩
 show (reprText z).length<=10
 rw [<- reprLen_eq,<- Array.foldl_toList]
 have hq:∀ c∈z.cps.toList,(Builtin.Str.reprChar (reprQuote z) c).length=1:=fun c hc=>by
  have:=vky c (h.2 c hc)
  unfold reprQuote
  split
  ·exact this.2
  ·exact this.1
 rw [kzw hq]
 have:=h.1
 rw [Array.length_toList]
 omega
theorem vxo (i:Int) (h0:0<=i) (h1:i < 26):∃ c∈ltr,jwb (.str "abcdefghijklmnopqrstuvwxyz") (.int i)=some (.str ⟨#[c]⟩):=by
 obtain ⟨n,rfl⟩:=Int.eq_ofNat_of_zero_le h0
 have h26:ltr.length=26:=by decide +kernel
 have hn:n < ltr.length:=by omega
 refine ⟨ltr[n],List.getElem_mem _,?_⟩
 have hs:(("abcdefghijklmnopqrstuvwxyz":Str).cps.size:Int)=26:=by decide +kernel
 show ((Q.ixN ("abcdefghijklmnopqrstuvwxyz":Str).cps.size n).bind fun j=>(ltr[j]?).map fun c=>D.str ⟨#[c]⟩)=_
 unfold Q.ixN
 rw [if_pos h0,if_pos (by omega)]
 show ((ltr[n]?).map fun c=>D.str ⟨#[c]⟩)=_
 rw [List.getElem?_eq_getElem hn]
 rfl
theorem qkp (x n:Int) (hx:0<=x) (h0:0<=n) (h1:n<=3):Oo C.m__law_signs [(.no,.int x),(.no,.int n)] (fun y=>∃ ss,y=(.rt,sL ss)/\(ss.length:Int)=n/\∀ z∈ss,Sg z) noX:=by
 unfold C.m__law_signs
 refine jvd ?_
 simp! only []
 refine (kk7 x [8,840,8] (by decide) (by decide)).via ?_
 rintro _ ⟨ds,rfl,hd⟩
 obtain ⟨sz,at_,st,rfl,a1,a2,a3,a4,a5,a6⟩:=wk3 hd
 simp! only []
 have b1:=Int.emod_nonneg at_ (show sz + 1≠0 by omega)
 have b2:=Int.emod_lt_of_pos at_ (show 0 < sz + 1 by omega)
 refine jwv (fun E rest=>∃ k ss l7 l8 l9 l10 o0 o1 o2 o3 o4 o5,E=[some (o0,.int x),some (o1,.int n),some (o2,.str "abcdefghijklmnopqrstuvwxyz"),some (o3,.int sz),some (o4,.int (at_ % (sz + 1))),some (o5,.int st),some (.rt,sL ss),l7,l8,l9,l10]/\0<=k/\k<=n/\rest=jjh k n/\(ss.length:Int)=k/\∀ z∈ss,Sg z) ?_ ?_ ?_
 ·refine jzk ?_
  simp! only []
  exact ⟨n,rfl,by omega,by omega,0,[],_,_,_,_,_,_,_,_,_,_,rfl,by omega,h0,rfl,rfl,fun z hz=>nomatch hz⟩
 ·rintro E d ds ⟨k,ss,l7,l8,l9,l10,o0,o1,o2,o3,o4,o5,rfl,k0,k1,hr,hl,hS⟩
  obtain ⟨hk,rfl,rfl⟩:=jvr k1 hr
  simp! only []
  refine jwv (fun E rest=>∃ j z l9 l10 o8,E=[some (o0,.int x),some (o1,.int n),some (o2,.str "abcdefghijklmnopqrstuvwxyz"),some (o3,.int sz),some (o4,.int (at_ % (sz + 1))),some (o5,.int st),some (.rt,sL ss),some (.no,.int k),some (o8,.str z),l9,l10]/\0<=j/\j<=sz + 1/\rest=jjh j (sz + 1)/\(z.cps.size:Int)=j/\∀ c∈z.cps.toList,c∈ltr) ?_ ?_ ?_
  ·refine jzk ?_
   simp! only []
   exact ⟨sz + 1,rfl,by omega,by omega,0,"",_,_,_,rfl,by omega,by omega,rfl,rfl,fun c hc=>nomatch hc⟩
  ·rintro E d ds ⟨j,z,l9,l10,o8,rfl,j0,j1,hr,hz,hzl⟩
   obtain ⟨hj,rfl,rfl⟩:=jvr j1 hr
   have jj0:0<=j * j:=Int.mul_nonneg j0 j0
   have jj1:j * j<=8 * 8:=Int.mul_le_mul (by omega) (by omega) j0 (by decide)
   have kk0:0<=k * (st + 1):=Int.mul_nonneg k0 (by omega)
   have kk1:k * (st + 1)<=3 * 9:=Int.mul_le_mul (by omega) (by omega) (by omega) (by decide)
   have e1:26 * j * j=26 * (j * j):=Int.mul_assoc _ _ _
   have hdv:qk5 (.int x) (.int (53761 + 26 * j * j))=some (.int (x / (53761 + 26 * j * j))):=div_i (by omega) (by omega)
   have key:∀ kb:Bool,∃ w,qwm (.bl kb)=some (.int w)/\0<=w/\w<=1:=fun kb=>by cases kb;exact ⟨0,rfl,by decide,by decide⟩;exact ⟨1,rfl,by decide,by decide⟩
   simp! only [qvs,hdv]
   obtain ⟨w,hw,w0,w1⟩:=key (j == at_ % (sz + 1))
   simp! only [hw]
   generalize x / (53761 + 26 * j * j) + k * (st + 1) * w=t
   have t0:=Int.emod_nonneg t (show (26:Int)≠0 by decide)
   have t1:=Int.emod_lt_of_pos t (show (0:Int) < 26 by decide)
   obtain ⟨ch,hch,hc⟩:=vxo (t % 26) t0 t1
   simp! only [hc]
   have hs:((⟨#[ch]⟩:Str).cps.size)=1:=rfl
   simp! only [vz2 (a:=z) (b:=⟨#[ch]⟩) (by rw [hs];omega)]
   refine ⟨j + 1,z++⟨#[ch]⟩,_,_,_,rfl,by omega,by omega,rfl,by rw [qwy,hs];omega,fun c hc=>?_⟩
   have hc:c∈(z.cps++#[ch]).toList:=hc
   rw [Array.toList_append] at hc
   rcases List.mem_append.mp hc with q | q
   ·exact hzl c q
   ·have:c=ch:=by simpa using q
    rw [this];exact hch
  ·rintro E ⟨j,z,l9,l10,o8,rfl,j0,j1,hr,hz,hzl⟩
   refine jw0 rfl ?_
   simp! only []
   refine ⟨_,rfl,by rw [List.length_map];omega,?_⟩
   rw [show ss.map D.str++[D.str z]=(ss++[z]).map D.str by simp]
   refine ⟨k + 1,ss++[z],_,_,_,_,_,_,_,_,_,_,rfl,by omega,by omega,rfl,by simp;omega,fun y hy=>?_⟩
   rcases List.mem_append.mp hy with q | q
   ·exact hS y q
   ·rw [List.mem_singleton.mp q]
    exact ⟨by omega,hzl⟩
 ·rintro E ⟨k,ss,l7,l8,l9,l10,o0,o1,o2,o3,o4,o5,rfl,k0,k1,hr,hl,hS⟩
  have:=jxp k1 hr
  subst this
  simp! only [qws (o:=.rt) (ss:=ss) (by omega)]
  exact ⟨kja ss,rfl,by rw [kvd];exact hl,fun z hz=>hS z ((jw6 ss).mem_iff.mp hz)⟩
theorem qkd {i:Int} (h:D.int i∈V4):0<=i/\i < 2048:=by
 simp [V4] at h
 omega
theorem qvm:∀ {ks:List D} {acc:List Int} {i:Int},i∈ks.foldl kjv acc->i∈acc\/D.int i∈ks
 | [],_,_,h=>.inl h
 | k :: ks,acc,i,h=>by
  rw [List.foldl_cons] at h
  rcases qvm h with z | z
  ·unfold kjv at z
   split at z
   ·split at z
    ·exact .inl z
    ·rcases List.mem_append.mp z with y | y
     ·exact .inl y
     ·rw [List.mem_singleton.mp y];exact .inr List.mem_cons_self
   ·exact .inl z
  ·exact .inr (lc9 _ z)
theorem vx7 {ks:List D} {i:Int} (h:i∈jvj ks):D.int i∈ks:=by
 rcases qvm h with z | z
 ·cases z
 ·exact z
theorem vzm {ns:List Int} {m:Nat} (h:∀ i∈ns,0<=i/\i < 2048) (hl:ns.length<=3):Tx 39 (m + 1) (iT ns):=kj9 (n:=10) (c:=3) (fun d hd=>by
 obtain ⟨i,hi,rfl⟩:=List.mem_map.mp hd
 exact kvb (h i hi).1 (h i hi).2) (by simpa using hl)
theorem vjh {kps:List Int} {K:List D} {d:D} {m:Nat} (hk4:kps.length<=4) (h3:∀ k∈kps,k<=3) (hK:Kin kps V4 K) (hd:d=.non\/SokV kps V4 d):Tx 85 (m + 2) (jxi K d).2:=by
 rcases hd with rfl | hd
 ·refine ⟨rfl,rfl,?_⟩
  show (PyData.none).shown.length<=85
  decide +kernel
 ·have hin:=kqz h3 hK (.inr hd)
  obtain ⟨room,ks,rfl,r0,r1,hl,ha,hV⟩:=id hd
  have hl3:=(jw3 h3 hd).2
  have hlen:=jz0 hin hk4 h3 (by decide)
  have hix:(kke K (.tup [.int room,.tup (pr ks)])).idxOf (.tup [.int room,.tup (pr ks)]) < (kke K (.tup [.int room,.tup (pr ks)])).length:=List.idxOf_lt_length_of_mem qqo
  have hlen:(kke K (.tup [.int room,.tup (pr ks)])).length<=1036:=hlen
  have hnl:=jxb ks
  show Tx 85 (m + 2) (.tup [.int _,iT (jvj ks)])
  refine kj9 (n:=39) (c:=2) (fun d hd=>?_) (by simp)
  simp only [List.mem_cons,List.not_mem_nil,or_false] at hd
  rcases hd with rfl | rfl
  ·exact (kvb (by omega) (by omega)).mono (by omega)
  ·exact vzm (fun i hi=>qkd (hV _ (vx7 hi))) (by omega)
theorem kxx {ss:List Str} {rs:List D} {kps:List Int} {s:D} {z:Str} {m:Nat} (hR:Rms rs) (hx:Rx ss kps rs) (hk4:kps.length<=4) (h3:∀ k∈kps,k<=3) (hs:SokV kps V4 s):∀ {ps K:List D} {r:List D×List D},(∀ d∈ps,d∈V4)->Kin kps V4 K->jql rs s z ps K=some r->Kin kps V4 r.1/\r.2.length=ps.length/\∀ c∈r.2,Tx 85 (m + 2) c
 | [],K,r,_,hK,h=>by rw [jql] at h;cases h;exact ⟨hK,rfl,fun c hc=>nomatch hc⟩
 | .int p :: ps,K,r,hp,hK,h=>by
  rw [jql] at h
  split at h
  ·cases h
  ·rename_i d hob
   obtain ⟨q,hq,rfl⟩:=Option.map_eq_some_iff.mp h
   have hd:=vx6 hR hx hs (hp _ List.mem_cons_self) hob
   obtain ⟨a1,a2,a3⟩:=kxx (m:=m) hR hx hk4 h3 hs (fun d hd=>hp d (lc9 _ hd)) (kqz h3 hK hd) hq
   refine ⟨a1,by simp [a2],fun c hc=>?_⟩
   rcases List.mem_cons.mp hc with rfl | hc
   ·exact vjh hk4 h3 hK hd
   ·exact a3 c hc
 | .non :: _,_,_,_,_,h=>by cases h
 | .bl _ :: _,_,_,_,_,h=>by cases h
 | .str _ :: _,_,_,_,_,h=>by cases h
 | .tup _ :: _,_,_,_,_,h=>by cases h
 | .lst _ :: _,_,_,_,_,h=>by cases h
 | .dct _ :: _,_,_,_,_,h=>by cases h
 | .obj _ _ :: _,_,_,_,_,h=>by cases h
theorem kxw {ss:List Str} {rs:List D} {kps:List Int} {s:D} {m:Nat} (hR:Rms rs) (hx:Rx ss kps rs) (hk4:kps.length<=4) (h3:∀ k∈kps,k<=3) (hs:SokV kps V4 s):∀ {zs:List Str} {K:List D} {r:List D×List D},Kin kps V4 K->jqg rs s zs K=some r->Kin kps V4 r.1/\r.2.length=zs.length/\∀ c∈r.2,Tx 350 (m + 3) c
 | [],K,r,hK,h=>by rw [jqg] at h;cases h;exact ⟨hK,rfl,fun c hc=>nomatch hc⟩
 | z :: zs,K,r,hK,h=>by
  rw [jqg] at h
  split at h
  ·cases h
  ·rename_i q hq
   obtain ⟨q2,hq2,rfl⟩:=Option.map_eq_some_iff.mp h
   have hkl:(jvj (qk4 s)).length<=3:=by
    obtain ⟨room,ks,rfl,_⟩:=id hs
    have:=(jw3 h3 hs).2
    have:=jxb ks
    rw [qjp];omega
   have hpv:∀ d∈jjh 0 (((jvj (qk4 s)).length:Int) + 1),d∈V4:=fun d hd=>by
    unfold jjh at hd
    obtain ⟨i,hi,rfl⟩:=List.mem_map.mp hd
    have hi:=List.mem_range.mp hi
    have:i=0\/i=1\/i=2\/i=3:=by omega
    rcases this with rfl | rfl | rfl | rfl<;>simp [V4]
   obtain ⟨a1,a2,a3⟩:=kxx (m:=m) hR hx hk4 h3 hs hpv hK hq
   obtain ⟨b1,b2,b3⟩:=kxw (m:=m) hR hx hk4 h3 hs a1 hq2
   refine ⟨b1,by simp [b2],fun c hc=>?_⟩
   rcases List.mem_cons.mp hc with rfl | hc
   ·refine kva (n:=85) (c:=4) a3 ?_
    rw [a2]
    unfold jjh
    rw [List.length_map,List.length_range]
    omega
   ·exact b3 c hc
theorem vjg {ss:List Str} {rs:List D} {kps:List Int} {s:D} {st:List D} {m:Nat} (hx:Rx ss kps rs) (h3:∀ k∈kps,k<=3) (hs:SokV kps V4 s) (hl:st.length<=3) (hst:∀ c∈st,Tx 350 (m + 3) c):Tx 3183 (m + 5) (kx0 rs s st):=by
 obtain ⟨room,ks,rfl,r0,r1,hkl,ha,hV⟩:=id hs
 have hl3:=(jw3 h3 hs).2
 have hnl:=jxb ks
 obtain ⟨gd,ss',er,_⟩:=hx.2 room.toNat (by omega)
 have hg:qvh rs (.tup [.int room,.tup ks])=.bl gd:=kxk er
 unfold kx0
 rw [hg,qjp]
 refine kj9 (n:=1058) (c:=3) (fun d hd=>?_) (by simp)
 simp only [List.mem_cons,List.not_mem_nil,or_false] at hd
 rcases hd with rfl | rfl | rfl
 ·exact (kvb (by omega) (by omega)).mono (by omega)
 ·exact tx_bl.mono (by omega)
 ·exact kva (n:=350) (c:=3) hst hl
theorem vvb {ss:List Str} {rs:List D} {kps:List Int} {m:Nat} (hs3:ss.length<=3) (hR:Rms rs) (hx:Rx ss kps rs) (hk4:kps.length<=4) (h3:∀ k∈kps,k<=3) {K rooms:List D} {r:Option (List D×List D)} (h:Run ss rs K rooms r) :
  Kin kps V4 K->rooms.length<=K.length->(∀ d∈rooms,Tx 3183 (m + 5) d)->∀ q,r=some q->Kin kps V4 q.1/\q.2.length<=q.1.length/\∀ d∈q.2,Tx 3183 (m + 5) d:=by
 induction h with
 | stop h=>intro hK hl ht q e;cases e;exact ⟨hK,hl,ht⟩
 | fail=>intro _ _ _ q e;cases e
 | @go K rooms K' rooms' r hlt e _ ih =>
  intro hK hl ht q eq
  unfold qkl at e
  obtain ⟨p,hp,e2⟩:=Option.map_eq_some_iff.mp e
  have hs:SokV kps V4 (K.getD rooms.length .non):=hK.2 _ (by rw [List.getD_eq_getElem?_getD,List.getElem?_eq_getElem hlt];exact List.getElem_mem _)
  obtain ⟨a1,a2,a3⟩:=kxw (m:=m) hR hx hk4 h3 hs hK hp
  have hg:=kjc hp
  cases e2
  refine ih a1 (by simp;omega) (fun d hd=>?_) q eq
  rcases List.mem_append.mp hd with z | z
  ·exact ht d z
  ·rw [List.mem_singleton.mp z]
   exact vjg hx h3 hs (by omega) a3
theorem qwn {kps:List Int} {K:List D} {m:Nat} (hk4:kps.length<=4) (h3:∀ k∈kps,k<=3) (hK:Kin kps V4 K):Tx 90134 (m + 3) (.lst K):=by
 have hlen:=jz0 hK hk4 h3 (by decide)
 refine kva (n:=85) (c:=1036) (fun d hd=>?_) hlen
 obtain ⟨room,ks,rfl,r0,r1,hl,ha,hV⟩:=id (hK.2 d hd)
 have hl3:=(jw3 h3 (hK.2 _ hd)).2
 refine kj9 (n:=39) (c:=2) (fun d hd=>?_) (by simp)
 simp only [List.mem_cons,List.not_mem_nil,or_false] at hd
 rcases hd with rfl | rfl
 ·exact (kvb r0 (by omega)).mono (by omega)
 ·refine kj9 (n:=10) (c:=3) (fun d hd=>?_) hl3
  rcases ha d hd with rfl | ⟨i,rfl⟩
  ·exact ⟨by cases m<;>rfl,rfl,by decide +kernel⟩
  ·exact kvb (qkd (hV _ hd)).1 (qkd (hV _ hd)).2
end F
noncomputable section
noncomputable section
noncomputable section
noncomputable section
namespace Nk39
open PySem Q
def jzp:Fn:=fn 4
  (jji (jjq 3 (cH (jjf (vV 0) (vE (cC (.int 1))))))
  (jji (sIf (tE (cF2 (pu2 fEq) (vV 3) (vE (cC (.str "any"))))) (jkz (cC (.bl true))) jqv)
  (jji (sIf (tE (cF2 (pu2 fEq) (vV 3) (vE (cC (.str "fresh"))))) (jkz (cF2 (pu2 jq8) (vV 2) (vV 1))) jqv)
  (jkz (cF2 (pu2 fEq) (jjf (vV 1) (vV 3)) (vV 2))))))
def jve:Fn:=fn 3
  (jji (sIf (tE (cF2 (f2First fIsNon) (vV 0) (vE (cC .non)))) (jkz (cC .non)) jqv)
  (jkz (cIf (tE (cF2 (pu2 fEq) (vV 0) (vE (cC (.str "new"))))) (cV 2) (cH (jjf (vV 1) (vV 0))))))
def jvz:Fn:=fn 3
  (jkz (cF1 jvt (vE (cLC .rt 1 [1,2] (itS (cH (jjf (vV 0) (vE (cC (.int 3)))))) (.n 0) tYes (jjv jve [(cV 0),(cV 1),(cV 2)])))))
def m_first_standing:Fn:=fn 1
  (jkz (jwc .no [(cC (.int 0)),(cF2 jjn (vE (jwc .no [(cC .non)])) (jjf (jjf (jjf (vV 0) (vE (cC (.int 1)))) (vE (cC (.int 0)))) (vE (cC (.int 0)))))]))
def jkw:Fn:=fn 2
  (jkz (cH (jjf (jjf (jjf (vV 0) (vE (cC (.int 1)))) (jjf (vV 1) (vE (cC (.int 0))))) (vE (cC (.int 2))))))
def m_fitting:Fn:=fn 6
  (jji (jjq 4 (cH (jjf (vV 1) (vE (cC (.int 1))))))
  (jji (jjq 5 (jjv jkw [(cV 0),(cV 1)]))
  (jkz (cLC .rt 2 [2,4,3] (vv3 (cV 5)) (.t [0,1]) (tAnd (tE (cF2 (pu2 fEq) (jjf (vV 1) (vE (cC (.int 0)))) (vV 2))) (tEQ (vE (jjv jzp [(cV 1),(cV 3),(cV 4)])))) (cV 0)))))
def m_behind:Fn:=fn 5
  (jji (jjq 4 (cH (jjf (vE (jjv jkw [(cV 0),(cV 1)])) (vV 2))))
  (jkz (jwc .no [(cH (jjf (vV 4) (vE (cC (.int 2))))),(jjv jvz [(cV 4),(cH (jjf (vV 1) (vE (cC (.int 1))))),(cV 3)])])))
def m_names_held:Fn:=fn 3
  (jji (jjq 1 (jvb .rt []))
  (jji (jzn (itS (cV 0)) (.n 2) (sIf (tAnd (tE (cF2 (f2First fNotNon) (vV 2) (vE (cC .non)))) (tE (cF2 (pu2 jq8) (vV 2) (vV 1)))) (jqw jz1 1 (cV 2)) jqv))
  (jkz (cMv 1))))
def jk9:Fn:=fn 2
  (jkz (cF1 jvt (vE (cLC .rt 1 [0] (itS (cV 1)) (.n 0) tYes (cIf (tE (cF2 (f2First fIsNon) (vV 0) (vE (cC .non)))) (cC .non) (vqr (vV 1) (vV 0)))))))
def jk2:Fn:=fn 4
  (jji (sIf (tE (cF2 (f2First fIsNon) (vV 0) (vE (cC .non)))) (jkz (cC .non)) jqv)
  (jji (jjq 2 (jjv m_names_held [(cH (jjf (vV 0) (vE (cC (.int 1)))))]))
  (jji (jjq 3 (jwc .no [(cH (jjf (vV 0) (vE (cC (.int 0))))),(jjv jk9 [(cV 2),(cH (jjf (vV 0) (vE (cC (.int 1)))))])]))
  (jkz (jwc .no [(qjx 1 (vV 3) (vE (cF1 (pu1 kwf) (vV 1)))),(cF1 jvt (vV 2))])))))
def jkk:Fn:=fn 5
  (jji (jjq 4 (jjv m_fitting [(cV 0),(cV 1),(cV 2),(cV 3)]))
  (jji (sIf (tE (cF2 (pu2 fGt) (vE (cF1 (pu1 jwq) (vV 4))) (vE (cC (.int 1))))) (sRz "NotSingle") jqv)
  (jkz (cIf (tEQ (vV 4)) (jjv m_behind [(cV 0),(cV 1),(cH (jjf (vV 4) (vE (cC (.int 0))))),(cV 3)]) (cC .non)))))
def jkj:Fn:=fn 5
  (jji (jjq 4 (vj4 (vE (cF2 jk7 (vE (cF1 (pu1 jwq) (vE (jjv m_names_held [(cH (jjf (vV 1) (vE (cC (.int 1)))))])))) (vE (cC (.int 1)))))))
  (jkz (cLC .rt 1 [0,1,2,3] (itS (cV 4)) (.n 0) tYes (kkb jk2 4 [(jjv jkk [(cV 1),(cV 2),(cV 3),(cV 0)])]))))
def m_plain_of:Fn:=fn 5
  (jji (jjq 1 (qw7 (jjv m_first_standing [(cV 0)]) (cC (.int 0))))
  (jji (jjq 2 (jvb .rt []))
  (jji (sWhile (tE (cF2 (pu2 fLt) (vE (cF1 (pu1 jwq) (vV 2))) (vE (cF1 (pu1 kwf) (vV 1))))) (jji (jjq 3 (cH (jjf (vE (cF1 jz3 (vV 1))) (vE (cF1 (pu1 jwq) (vV 2))))))
  (jji (jjq 4 (cLC .rt 1 [0,3,1] (itS (cH (jjf (vV 0) (vE (cC (.int 0)))))) (.n 0) tYes (kkb jkj 3 [(cV 1),(cV 2),(cV 0)])))
  (jqw jz1 2 (jwc .no [(cF1 (pu1 jwq) (vE (jjv m_names_held [(cH (jjf (vV 3) (vE (cC (.int 1)))))]))),(cH (jjf (jjf (jjf (vV 0) (vE (cC (.int 1)))) (jjf (vV 3) (vE (cC (.int 0))))) (vE (cC (.int 1))))),(cV 4)])))))
  (jkz (jwc .no [(jwc .no [(cF1 jzz (jjf (vV 0) (vE (cC (.int 0))))),(cV 2)]),(cF1 jz3 (vV 1))])))))
def jv8:Fn:=fn 1
  (jji (kqh ["NotSingle"] (qx0 (jza m_plain_of [(cV 0)])) (jkz (cC (.bl false))))
  (jkz (cC (.bl true))))
def jko:Fn:=fn 6
  (jji (jjq 2 (cF2 jjn (vE (cC (.int 1000))) (vE (cF2 (pu2 vj0) (vE (cC (.int 10))) (vE (cC (.int 64)))))))
  (jji (sIf (tE (cF2 (pu2 fLt) (vV 1) (vE (cF1 (pu1 jwq) (vV 0))))) (jkz (cF2 (pu2 jvg) (vE (cF2 jjn (vE (cF2 (pu2 jvg) (jjf (vV 0) (vV 1)) (vV 2))) (vE (cF2 (pu2 vj0) (vE (cC (.int 7919))) (vE (cC (.int 15))))))) (vV 2))) jqv)
  (jji (jjq 3 (cF2 jk7 (vE (cF2 jk7 (vE (cF2 jjn (vV 1) (vV 1))) (vE (cF2 jjn (vE (cC (.int 7))) (vV 1))))) (vE (cC (.int 11)))))
  (jji (sIf (tE (cF2 (pu2 fNe) (vV 0) (vE (jvb .rt [])))) (jjq 3 (cF2 jk7 (vV 3) (vE (cF2 jjn (vE (cF2 (pu2 jvg) (jjf (vV 0) (vE (cF2 (pu2 jvg) (vV 1) (vE (cF1 (pu1 jwq) (vV 0)))))) (vE (cC (.int 1000003))))) (vE (cF2 jk7 (vE (cF2 jjn (vE (cC (.int 2))) (vV 1))) (vE (cC (.int 1))))))))) jqv)
  (jji (jjq 4 (cC (.int 0)))
  (jji (jzn (jzd (vE (cC (.int 8)))) (.n 5) (jji (jjq 3 (cF2 (pu2 jvg) (vE (cF2 jk7 (vE (cF2 jk7 (vE (cF2 jk7 (vE (cF2 jjn (vV 3) (vV 3))) (vE (cF2 jjn (vE (cC (.int 48271))) (vV 3))))) (vE (cF2 jjn (vE (cC (.int 69621))) (vV 5))))) (vV 1))) (vE (cC (.int 2147483629)))))
  (jjq 4 (cF2 jk7 (vE (cF2 jjn (vV 4) (vE (cC (.int 998244353))))) (vE (cF2 (pu2 jvg) (vE (cF2 jjn (vV 3) (vE (cC (.int 16807))))) (vE (cC (.int 2147483587)))))))))
  (jkz (cF2 (pu2 jvg) (vV 4) (vV 2)))))))))
def m__law_digits:Fn:=fn 4
  (jji (jjq 2 (jvb .rt []))
  (jji (jzn (itS (cV 1)) (.n 3) (jji (jqw jz1 2 (cF2 (pu2 jvg) (vV 0) (vV 3)))
  (jjq 0 (cF2 (pu2 qk5) (vV 0) (vV 3)))))
  (jkz (cMv 2))))
def m__law_signs:Fn:=fn 11
  (jji (jjq 2 (cC (.str "abcdefghijklmnopqrstuvwxyz")))
  (jji (vjr [3,4,5] (jjv m__law_digits [(cV 0),(jvb .rt [(cC (.int 8)),(cC (.int 840)),(cC (.int 8))])]))
  (jji (jjq 4 (cF2 (pu2 jvg) (vV 4) (vE (cF2 jk7 (vV 3) (vE (cC (.int 1)))))))
  (jji (jjq 6 (jvb .rt []))
  (jji (jzn (jzd (vV 1)) (.n 7) (jji (jjq 8 (cC (.str "")))
  (jji (jzn (jzd (vE (cF2 jk7 (vV 3) (vE (cC (.int 1)))))) (.n 9) (jji (jjq 10 (cF2 jk7 (vE (cF2 (pu2 qk5) (vV 0) (vE (cF2 jk7 (vE (cC (.int 53761))) (vE (cF2 jjn (vE (cF2 jjn (vE (cC (.int 26))) (vV 9))) (vV 9))))))) (vE (cF2 jjn (vE (cF2 jjn (vV 7) (vE (cF2 jk7 (vV 5) (vE (cC (.int 1))))))) (vE (cF1 (pu1 qwm) (vE (cF2 (pu2 fEq) (vV 9) (vV 4)))))))))
  (jjq 8 (cF2 jk7 (vV 8) (jjf (vV 2) (vE (cF2 (pu2 jvg) (vV 10) (vE (cC (.int 26))))))))))
  (jqw jz1 6 (cV 8)))))
  (jkz (cF1 jzl (vV 6))))))))
def m__law_copy:Fn:=fn 1
  (jkz (jwc .no [(cF1 jzz (jjf (vV 0) (vE (cC (.int 0))))),(cLC .rt 1 [] (itS (cH (jjf (vV 0) (vE (cC (.int 1)))))) (.n 0) tYes (jwc .no [(cH (jjf (vV 0) (vE (cC (.int 0))))),(cH (jjf (vV 0) (vE (cC (.int 1))))),(cF1 jzz (jjf (vV 0) (vE (cC (.int 2)))))]))]))
def jq7:Fn:=fn 3
  (jji (sIf (tE (cF2 (pu2 fEq) (jjf (vV 0) (vE (cC (.int 1)))) (vE (cC (.str "fresh"))))) (jkz (cF2 (pu2 jq8) (vV 2) (vV 1))) jqv)
  (jkz (cOr (vE (cF2 (pu2 fEq) (jjf (vV 0) (vE (cC (.int 1)))) (vE (cC (.str "any"))))) (cF2 (pu2 fEq) (jjf (vV 1) (jjf (vV 0) (vE (cC (.int 1))))) (vV 2)))))
def jkl:Fn:=fn 5
  (jji (jjq 3 (jvb .rt []))
  (jji (jzn (itS (cH (jjf (vV 0) (vE (cC (.int 3)))))) (.n 4) (sIf (tOr (tE (cF2 (f2First fIsNon) (vV 4) (vE (cC .non)))) (tE (cF2 (pu2 fEq) (vV 4) (vE (cC (.str "new")))))) (jqw jz1 3 (cH (jjf (vE (jvb .rt [(cV 2),(cC .non)])) (vE (cF1 (pu1 qwm) (vE (cF2 (f2First fIsNon) (vV 4) (vE (cC .non))))))))) (jqw jz1 3 (cH (jjf (vV 1) (vV 4))))))
  (jkz (cF1 jvt (vV 3)))))
def m__law_fitting:Fn:=fn 5
  (jji (jjq 4 (cH (jjf (jjf (jjf (vV 0) (vE (cC (.int 1)))) (jjf (vV 1) (vE (cC (.int 0))))) (vE (cC (.int 2))))))
  (jkz (cLC .rt 1 [4,2,1,3] (jzd (vE (cF1 (pu1 jwq) (vV 4)))) (.n 0) (tAnd (tE (cF2 (pu2 fEq) (jjf (jjf (vV 1) (vV 0)) (vE (cC (.int 0)))) (vV 2))) (tEQ (vE (jjv jq7 [(cH (jjf (vV 1) (vV 0))),(cH (jjf (vV 3) (vE (cC (.int 1))))),(cV 4)])))) (cV 0))))
def m__law_behind:Fn:=fn 5
  (jji (jjq 4 (cH (jjf (jjf (jjf (jjf (vV 0) (vE (cC (.int 1)))) (jjf (vV 1) (vE (cC (.int 0))))) (vE (cC (.int 2)))) (vV 2))))
  (jkz (jwc .no [(cH (jjf (vV 4) (vE (cC (.int 2))))),(jjv jkl [(cV 4),(cH (jjf (vV 1) (vE (cC (.int 1))))),(cV 3)])])))
def jqs:Fn:=fn 2
  (jji (jjq 1 (jvb .rt [(cF1 (pu1 (kwg [("NotSingle",true)])) (vV 0)),(cF1 (pu1 (kwg [("NotSingle",true)])) (vV 0)),(cF1 (pu1 (kwg [("NotSingle",false)])) (vV 0))]))
  (jji (jjq 1 (cF2 jk7 (vV 1) (vE (jvb .rt [(cF1 (pu1 (kwg [("NotSingle",false)])) (vV 0)),(cF1 (pu1 (kwg [("NotSingle",false)])) (vV 0)),(cF1 (pu1 (kwg [("NotSingle",false)])) (vV 0))]))))
  (jji (jjq 1 (cF2 jk7 (vV 1) (vE (jvb .rt [(cF1 (pu1 (kwg [("NotSingle",false)])) (vV 0)),(cF1 (pu1 (kwg [("NotSingle",false)])) (vV 0)),(cF1 (pu1 (kwg [("NotSingle",false)])) (vV 0))]))))
  (jkz (cF2 jk7 (vV 1) (vE (jvb .rt [(cF1 (pu1 (kwg [("NotSingle",false)])) (vV 0))])))))))
def jva:Fn:=fn 3
  (jji (sIf (tE (cF2 (pu2 fLt) (vV 0) (vE (cC (.int 2))))) (jkz (cC (.str "new"))) jqv)
  (jji (sIf (tOr (tE (cF2 (pu2 fEq) (vV 0) (vE (cC (.int 2))))) (tE (cF2 (pu2 fEq) (vV 2) (vE (cC (.int 0)))))) (jkz (cC .non)) jqv)
  (jkz (cF2 (pu2 jvg) (vV 1) (vV 2)))))
def jkn:Fn:=fn 16
  (jji (jjq 3 (jjv m__law_digits [(jjv jko [(cV 0),(cV 1)]),(cF2 jk7 (vE (cF2 jk7 (vE (cF2 jk7 (vE (jvb .rt [(cC (.int 3)),(cC (.int 2))])) (vE (cF2 jjn (vE (jvb .rt [(cC (.int 12))])) (vE (cC (.int 3))))))) (vE (cF2 jjn (vE (jvb .rt [(cC (.int 5))])) (vE (cC (.int 9))))))) (vE (cF2 jjn (vE (jvb .rt [(cC (.int 2))])) (vE (cC (.int 3))))))]))
  (jji (jjq 4 (cF2 jk7 (vE (cC (.int 1))) (jjf (vV 3) (vE (cC (.int 0))))))
  (jji (jjq 5 (cF2 jk7 (vE (jvb .rt [(cF2 (pu2 jvg) (jjf (vV 3) (vE (cC (.int 2)))) (vE (cC (.int 2))))])) (vE (cLC .rt 1 [3] (vze (vE (cC (.int 1))) (vV 4)) (.n 0) tYes (cF2 jk7 (vE (cC (.int 1))) (vE (cF2 (pu2 jvg) (jjf (vV 1) (vE (cF2 jk7 (vE (cC (.int 2))) (vV 0)))) (vE (cF2 jk7 (vE (cC (.int 2))) (jjf (vV 1) (vE (cC (.int 1)))))))))))))
  (jji (jjq 6 (jvb .rt []))
  (jji (jzn (jzd (vV 4)) (.n 7) (jji (jjq 8 (jvb .rt []))
  (jji (jzn (jzd (vE (cF1 (pu1 jwq) (vV 2)))) (.n 9) (jji (jjq 10 (jjv jko [(cV 0),(cF2 jk7 (vE (cF2 jk7 (vE (cF2 jk7 (vV 1) (vE (cC (.int 1))))) (vE (cF2 jjn (vV 7) (vE (cF1 (pu1 jwq) (vV 2))))))) (vV 9))]))
  (jji (jjq 10 (jjv m__law_digits [(cV 10),(cF2 jk7 (vE (jvb .rt [(cC (.int 10))])) (vE (cF2 jjn (vE (jvb .rt [(cC (.int 60))])) (vE (cC (.int 9))))))]))
  (jji (jjq 11 (cF2 jk7 (vE (vj4 (jjf (vV 5) (vV 7)))) (vE (jvb .rt [(cC (.str "any")),(cC (.str "fresh"))]))))
  (jzn (jzd (jjf (vE (jvb .rt [(cC (.int 1)),(cC (.int 1)),(cC (.int 1)),(cC (.int 1)),(cC (.int 1)),(cC (.int 2)),(cC (.int 2)),(cC (.int 2)),(cC (.int 2)),(cC (.int 3))])) (jjf (vV 10) (vE (cC (.int 0)))))) (.n 12) (jji (jjq 13 (cF2 (pu2 jvg) (jjf (vV 10) (vE (cF2 jk7 (vE (cC (.int 4))) (vV 12)))) (vV 4)))
  (jji (jjq 14 (cSl (vV 3) (some (vE (cF2 jk7 (vE (cC (.int 5))) (vE (cF2 jjn (vE (cC (.int 3))) (vV 13)))))) (some (vE (cF2 jk7 (vE (cF2 jk7 (vE (cC (.int 5))) (vE (cF2 jjn (vE (cC (.int 3))) (vV 13))))) (jjf (vV 5) (vV 13)))))))
  (jji (jjq 15 (cF1 jvt (vE (cLC .rt 2 [10,12,5,7] (vv3 (cV 14)) (.t [0,1]) tYes (jjv jva [(cV 1),(cF2 jk7 (jjf (vV 2) (vE (cF2 jk7 (vE (cC (.int 7))) (vV 3)))) (vV 0)),(cH (jjf (vV 4) (vV 5)))])))))
  (jqw jz1 8 (jwc .no [(cH (jjf (vV 2) (vV 9))),(cH (jjf (vV 11) (vE (cF2 (pu2 jvg) (jjf (vV 10) (vE (cF2 jk7 (vE (cC (.int 1))) (vV 12)))) (vE (cF1 (pu1 jwq) (vV 11))))))),(cV 13),(cV 15)]))))))))))
  (jqw jz1 6 (jwc .no [(cH (jjf (vV 5) (vV 7))),(cF2 (pu2 fEq) (jjf (vV 3) (vE (cF2 jk7 (vE (cC (.int 14))) (vV 7)))) (vE (cC (.int 1)))),(cV 8)])))))
  (jkz (jwc .no [(cF1 jzz (vV 2)),(cV 6)])))))))
def jkb:Fn:=fn 3
  (jji (jjq 1 (jvb .rt []))
  (jji (jzn (itS (cV 0)) (.n 2) (sIf (tAnd (tE (cF2 (f2First fNotNon) (vV 2) (vE (cC .non)))) (tE (cF2 (pu2 jq8) (vV 2) (vV 1)))) (jqw jz1 1 (cV 2)) jqv))
  (jkz (cMv 1))))
def jvp:Fn:=fn 13
  (jji (jjq 1 (jvb .rt [(jwc .no [(cC (.int 0)),(cF2 jjn (vE (jwc .no [(cC .non)])) (jjf (jjf (jjf (vV 0) (vE (cC (.int 1)))) (vE (cC (.int 0)))) (vE (cC (.int 0)))))])]))
  (jji (jjq 2 (jvb .rt []))
  (jji (sWhile (tE (cF2 (pu2 fLt) (vE (cF1 (pu1 jwq) (vV 2))) (vE (cF1 (pu1 jwq) (vV 1))))) (jji (jjq 3 (cH (jjf (vV 1) (vE (cF1 (pu1 jwq) (vV 2))))))
  (jji (jjq 4 (jvb .rt []))
  (jji (jzn (itS (cH (jjf (vV 0) (vE (cC (.int 0)))))) (.n 5) (jji (jjq 6 (jvb .rt []))
  (jji (jzn (jzd (vE (cF2 jk7 (vE (cF1 (pu1 jwq) (vE (jjv jkb [(cH (jjf (vV 3) (vE (cC (.int 1)))))])))) (vE (cC (.int 1)))))) (.n 7) (jji (jjq 8 (jjv m__law_fitting [(cV 0),(cV 3),(cV 5),(cV 7)]))
  (jji (sIf (tE (cF2 (pu2 fGt) (vE (cF1 (pu1 jwq) (vV 8))) (vE (cC (.int 1))))) (jkz (cC .non)) jqv)
  (jji (sIf (tE (cF2 (pu2 fEq) (vV 8) (vE (jvb .rt [])))) (jji (jqw jz1 6 (cC .non))
  vjs) jqv)
  (jji (vjr [9,10] (jjv m__law_behind [(cV 0),(cV 3),(cH (jjf (vV 8) (vE (cC (.int 0))))),(cV 7)]))
  (jji (jjq 11 (jjv jkb [(cV 10)]))
  (jji (jjq 12 (jwc .no [(cV 9),(cF1 jvt (vE (cLC .rt 1 [11] (itS (cV 10)) (.n 0) tYes (cIf (tE (cF2 (f2First fIsNon) (vV 0) (vE (cC .non)))) (cC .non) (vqr (vV 1) (vV 0))))))]))
  (jji (sIf (tE (cF2 (pu2 jq8) (vV 12) (vV 1))) (jqw jz1 1 (cV 12)) jqv)
  (jqw jz1 6 (jwc .no [(vqr (vV 1) (vV 12)),(cF1 jvt (vV 11))]))))))))))
  (jqw jz1 4 (cV 6)))))
  (jqw jz1 2 (jwc .no [(cF1 (pu1 jwq) (vE (jjv jkb [(cH (jjf (vV 3) (vE (cC (.int 1)))))]))),(cH (jjf (jjf (jjf (vV 0) (vE (cC (.int 1)))) (jjf (vV 3) (vE (cC (.int 0))))) (vE (cC (.int 1))))),(cV 4)]))))))
  (jkz (jwc .no [(jwc .no [(cF1 jzz (jjf (vV 0) (vE (cC (.int 0))))),(cV 2)]),(cV 1)])))))
def jv9:Fn:=fn 4
  (jji (jjq 1 (cC .non))
  (jji (jjq 2 (jvb .rt []))
  (jji (qwz ["NotSingle"] 3 (jjq 1 (jza m_plain_of [(cV 0)])) (jjq 2 (jjv jqs [(cV 3)])))
  (jkz (jwc .no [(cV 1),(cLC .rt 1 [2] (jzd (vE (cF1 (pu1 jwq) (vV 2)))) (.n 0) (tEQ (jjf (vV 1) (vV 0))) (cV 0))])))))
def m_law:Fn:=fn 8
  (jji (jjq 1 (jjv m__law_signs [(jjv jko [(cV 0),(cC (.int 0))]),(cF2 jk7 (vE (cC (.int 1))) (vE (cF2 (pu2 jvg) (vE (jjv jko [(cV 0),(cC (.int 1))])) (vE (cC (.int 3))))))]))
  (jji (jjq 2 (jjv jkn [(cV 0),(cC (.int 2)),(cV 1)]))
  (jji (jjq 3 (jjv m__law_copy [(cV 2)]))
  (jji (jjq 4 (jjv jvp [(cV 2)]))
  (jji (jjq 5 (jjv jv8 [(cV 3)]))
  (jji (vjr [6,7] (jjv jv9 [(cV 3)]))
  (jji (sIf (tOr (tNot (tEQ (vE (cF1 (pu1 (vxx "bool")) (vV 5))))) (tOr (tE (cF2 (pu2 fNe) (vV 5) (vE (cF2 (f2First fNotNon) (vV 4) (vE (cC .non)))))) (tE (cF2 (pu2 fNe) (vV 3) (vV 2))))) (jkz (cC (.bl false))) jqv)
  (jji (sIf (tE (cF2 (f2First fIsNon) (vV 4) (vE (cC .non)))) (jkz (vqt (vE (cF2 (f2First fIsNon) (vV 6) (vE (cC .non)))) (cF2 (pu2 fEq) (vV 7) (vE (jvb .rt [(cC (.int 0)),(cC (.int 1))]))))) jqv)
  (jkz (vqt (vE (cF2 (pu2 fEq) (vV 6) (vV 4))) (vqt (vE (cF2 (pu2 fEq) (vE (cF1 (pu1 qwl) (vV 6))) (vE (cF1 (pu1 qwl) (vV 4))))) (cF2 (pu2 fEq) (vV 7) (vE (jvb .rt []))))))))))))))
end Nk39
noncomputable section
namespace Nk39
open Q PySem C F
theorem h1:m_fitting=C.m_fitting:=rfl
theorem h2:m_behind=C.m_behind:=rfl
theorem h3':m_first_standing=C.m_first_standing:=rfl
theorem h4:m_plain_of=F.m_plain_of (sRz "NotSingle"):=rfl
theorem h5:m__law_fitting=C.m__law_fitting:=rfl
theorem h6:m__law_behind=C.m__law_behind:=rfl
theorem h7:jkb=F.m_names_held:=rfl
theorem h8:m__law_signs=C.m__law_signs:=rfl
theorem h9:m__law_digits=C.m__law_digits:=rfl
theorem h10:m__law_copy=C.m__law_copy:=rfl
def qxh (ss:List Str):Option (List D×List D)->D
 | none=>.non
 | some r=>.tup [jxc ss r.2,.lst r.1]
theorem vzt {kps:List Int} {V ks:List D} {room:Int} (h:SokV kps V (.tup [.int room,.tup ks])):∀ k∈ks,k∈V:=by
 obtain ⟨room',ks',e,r0,r1,hl,ha,hV⟩:=h
 injection e with e
 injection e with e1 e
 injection e with e2 _
 injection e2 with e2
 subst e2
 exact hV
theorem vxz {ss:List Str} {rs:List D} {kps:List Int} {kp:Int} {gd st0:D} (hs3:ss.length<=3) (hR:Rms rs) (hx:Rx ss kps rs) (h3:∀ k∈kps,k<=3) (hr0:rs[0]?=some (.tup [.int kp,gd,st0])) (hk0:0<=kp) (hk3:kp<=3) :
  Oo jvp [(.no,jxc ss rs)] (fun y=>∃ r,Run ss rs [.tup [.int 0,.tup (List.replicate kp.toNat .non)]] [] r/\y.2=qxh ss r) noX:=by
 have k4:kps.length<=4:=by have:=hx.1;have:=hR.2.1;omega
 have hin:Kin kps V4 [.tup [.int 0,.tup (List.replicate kp.toNat .non)]]:=kqw hR hx (by simp [V4]) hr0 hk0
 have hi0:jwb (.lst rs) (.int 0)=some (.tup [.int kp,gd,st0]):=kw7 (by decide) hr0
 unfold jvp
 simp only [h5,h6,h7]
 refine jvd ?_
 simp! only [p1,hi0,t0,qzs (o1:=.no) (a:=.non) (k:=kp) (by decide) hk0 (by omega)]
 generalize hs0:(D.tup [.int 0,.tup (List.replicate kp.toNat .non)])=s0 at *
 refine kze (fun n E=>∃ (K rooms:List D) (l3 l4 l5 l6 l7 l8 l9 l10 l11 l12:Option Sd),E=[some (.no,jxc ss rs),some (.rt,.lst K),some (.rt,.lst rooms),l3,l4,l5,l6,l7,l8,l9,l10,l11,l12]/\Kin kps V4 K/\rooms.length<=K.length/\n=2000 - rooms.length/\∀ r,Run ss rs K rooms r->Run ss rs [s0] [] r) ?_ 2000 _ ⟨[s0],[],_,_,_,_,_,_,_,_,_,_,rfl,hin,Nat.zero_le _,rfl,fun r h=>h⟩
 rintro n E ⟨K,rooms,l3,l4,l5,l6,l7,l8,l9,l10,l11,l12,rfl,hK,hle,rfl,hrun⟩
 have hkl:=jz0 hK k4 h3 (by decide)
 by_cases hlt:rooms.length < K.length
 ·have hd:decide ((rooms.length:Int) < (K.length:Int))=true:=decide_eq_true (by omega)
  have hix:jwb (.lst K) (.int rooms.length)=some (K.getD rooms.length .non):=kw7 (by omega) (by rw [Int.toNat_natCast,List.getElem?_eq_getElem hlt,List.getD_eq_getElem?_getD,List.getElem?_eq_getElem hlt];rfl)
  have hs:SokV kps V4 (K.getD rooms.length .non):=hK.2 _ (by rw [List.getD_eq_getElem?_getD,List.getElem?_eq_getElem hlt];exact List.getElem_mem _)
  have hstep:qkl ss rs K rooms=(jqg rs (K.getD rooms.length .non) ss K).map fun r=>(r.1,rooms++[kx0 rs (K.getD rooms.length .non) r.2]):=rfl
  generalize K.getD rooms.length .non=s at hix hs hstep
  have hfail:jqg rs s ss K=none->Run ss rs [s0] [] none:=fun e=>hrun _ (.fail hlt (by rw [hstep,e];rfl))
  obtain ⟨room,ks,st,gd',rfl,r0,er,hst,hka,hsx,hsl⟩:=kqi hR hx hs.ok
  have hl3:=(jw3 h3 hs).2
  have hnl:=jxb ks
  simp! only [hd,hix]
  refine jwv (fun E rest=>∃ (K1 acc:List D) (zs:List Str) (l5 l6 l7 l8 l9 l10 l11 l12:Option Sd),E=[some (.no,jxc ss rs),some (.rt,.lst K1),some (.rt,.lst rooms),some (.no,.tup [.int room,.tup ks]),some (.rt,.lst acc),l5,l6,l7,l8,l9,l10,l11,l12]/\rest=zs.map D.str/\Kin kps V4 K1/\K.length<=K1.length/\acc.length + zs.length=ss.length/\jqg rs (.tup [.int room,.tup ks]) ss K=(jqg rs (.tup [.int room,.tup ks]) zs K1).map fun r=>(r.1,acc++r.2)) ?_ ?_ ?_
  ·simp! only [p0]
   exact ⟨K,[],ss,_,_,_,_,_,_,_,_,rfl,rfl,hK,Nat.le_refl _,by simp,by simp⟩
  ·rintro E d ds ⟨K1,acc,zs,l5,l6,l7,l8,l9,l10,l11,l12,rfl,hds,hK1,hg,hal,hc⟩
   cases zs with
   | nil=>cases hds
   | cons z zs =>
    rw [List.map_cons] at hds
    injection hds with e1 e2
    subst e1 e2
    rw [List.length_cons] at hal
    have hpv0:∀ d∈jjh 0 (((jvj ks).length:Int) + 1),∃ p:Int,d=.int p/\d∈V4:=fun d hd=>by
     unfold jjh at hd
     obtain ⟨i,hi,rfl⟩:=List.mem_map.mp hd
     have hi:=List.mem_range.mp hi
     refine ⟨_,rfl,?_⟩
     have:i=0\/i=1\/i=2\/i=3:=by omega
     rcases this with rfl | rfl | rfl | rfl<;>simp [V4]
    have hrl:(jjh 0 (((jvj ks).length:Int) + 1)).length<=4:=by unfold jjh;rw [List.length_map,List.length_range];omega
    have hfail1:kka rs (.tup [.int room,.tup ks]) z K1=none->Run ss rs [s0] [] none:=fun e=>hfail (by rw [hc,jqg,e];rfl)
    simp! only []
    refine jwv (fun E rest=>∃ (K2 cs:List D) (l7 l8 l9 l10 l11 l12:Option Sd),E=[some (.no,jxc ss rs),some (.rt,.lst K2),some (.rt,.lst rooms),some (.no,.tup [.int room,.tup ks]),some (.rt,.lst acc),some (.no,.str z),some (.rt,.lst cs),l7,l8,l9,l10,l11,l12]/\(∀ d∈rest,∃ p:Int,d=.int p/\d∈V4)/\Kin kps V4 K2/\K1.length<=K2.length/\cs.length + rest.length<=4/\kka rs (.tup [.int room,.tup ks]) z K1=(jql rs (.tup [.int room,.tup ks]) z rest K2).map fun r=>(r.1,cs++r.2)) ?_ ?_ ?_
    ·refine jzk ?_
     simp! only [p1]
     refine (jx8 hka (by omega)).use ?_
     intro _ _
     simp! only []
     exact ⟨_,rfl,by omega,by omega,K1,[],_,_,_,_,_,_,rfl,hpv0,hK1,Nat.le_refl _,by simpa using hrl,by simp [kka,qk4]⟩
    ·rintro E d ds2 ⟨K2,cs,l7,l8,l9,l10,l11,l12,rfl,hpv,hK2,hg2,hcl,hc2⟩
     obtain ⟨p,rfl,hpV⟩:=hpv d List.mem_cons_self
     have hpv2:∀ d∈ds2,∃ p:Int,d=.int p/\d∈V4:=fun d hd=>hpv d (lc9 _ hd)
     rw [List.length_cons] at hcl
     have hat:At (.int p):=.inr ⟨p,rfl⟩
     have hnx:kxd rs (z,p) (.tup [.int room,.tup ks])=(jvw (kxo z ks (.int p)) 0 st).map (bh ks st p):=by unfold kxd;rw [vjm er,qjp]
     simp! only []
     refine (kxe r0 er hst (by omega) hka hat).use ?_
     intro _ _
     cases hf:jvw (kxo z ks (.int p)) 0 st with
     | nil =>
      have hob:obD rs (.tup [.int room,.tup ks]) z p=some .non:=by unfold obD;rw [hnx,hf];rfl
      have heq:fEq (.lst []) (.lst [])=some (.bl true):=rfl
      simp! only [heq]
      rw [if_neg (by decide)]
      refine jw0 rfl ?_
      simp! only []
      refine ⟨_,rfl,by omega,K2,cs++[.non],_,_,_,_,_,_,rfl,hpv2,hK2,hg2,by simp;omega,?_⟩
      rw [hc2,jql,hob]
      simp [jxi,Option.map_map,Function.comp_def]
     | cons c r =>
      obtain ⟨j,rfl,_,hj⟩:=kwc (show c∈jvw (kxo z ks (.int p)) 0 st by rw [hf];exact List.mem_cons_self)
      have hj:j < st.length:=by omega
      cases r with
      | cons c2 r2 =>
       have hob:obD rs (.tup [.int room,.tup ks]) z p=none:=by unfold obD;rw [hnx,hf];rfl
       simp! only []
       rw [if_pos (decide_eq_true (by omega))]
       simp! only []
       exact ⟨none,hfail1 (by rw [hc2,jql,hob];rfl),rfl⟩
      | nil =>
       have hb:=kjb (p:=p) (V:=V4) hst hka (vzt hs) (by simp [V4]) hpV hsx hj
       have hob:obD rs (.tup [.int room,.tup ks]) z p=some (jxj ks (.int p) st[j]):=by unfold obD;rw [hnx,hf,List.map_cons,List.map_nil,vqx hj]
       obtain ⟨room',ks',eb,r0',r1',hl',ha',hV'⟩:=id hb
       rw [eb] at hb hob
       obtain ⟨hp1,hl3'⟩:=jw3 h3 hb
       have hx0:jwb (.lst [.int j]) (.int 0)=some (.int j):=rfl
       have heq:fEq (.lst [.int j]) (.lst [])=some (.bl false):=rfl
       simp! only [heq,hx0]
       rw [if_neg (by decide)]
       refine (qjo r0 er hst hj).use ?_
       intro _ _
       rw [eb]
       simp! only []
       refine (jx8 ha' (by omega)).use ?_
       intro _ _
       simp! only []
       refine kk6 [some (.rt,iL (jvj ks'))] (fun d y=>y.2=plc (jvj ks') d) ?_
       simp! only []
       refine ⟨rfl,fun d hd=>?_,fun ys hy=>?_⟩
       ·rcases ha' d hd with rfl | ⟨i,rfl⟩
        ·simp! only []
         exact ⟨⟨_,rfl⟩,rfl⟩
        ·have hm:((jvj ks').any fun w=>w == i)=true:=by rw [kv3];exact decide_eq_true (qqk hd)
         simp! only [qzy hm]
         exact ⟨⟨_,rfl⟩,rfl⟩
       ·rw [jxa,jz7 (h:=plc (jvj ks')) (fun d y h=>h) hy]
        simp only [back,clr,at',List.map_cons,List.map_nil,List.set_cons_zero,List.set_cons_succ]
        have hnin:=qxl hp1 hK2.2
        have hidx:=qxt hp1 (kxj hK2 hp1).2 qqo
        have hkl2:=jz0 hK2 k4 h3 (by decide)
        have hgo:=kxj hK2 hp1
        simp! only [kqd (o:=.no) (xs:=ks'.map (plc (jvj ks'))) (by decide)]
        have fin:kka rs (.tup [.int room,.tup ks]) z K1=(jql rs (.tup [.int room,.tup ks]) z ds2 (kke K2 (.tup [.int room',.tup (pr ks')]))).map fun r=>(r.1,cs++[.tup [.int ((kke K2 (.tup [.int room',.tup (pr ks')])).idxOf (.tup [.int room',.tup (pr ks')]):Nat),iT (jvj ks')]]++r.2):=by
         rw [hc2,jql,hob]
         simp [jxi,Option.map_map,Function.comp_def]
        by_cases hm:(D.tup [.int room',.tup (pr ks')])∈K2
        ·have e1:kke K2 (.tup [.int room',.tup (pr ks')])=K2:=by unfold kke;rw [if_pos hm]
         rw [e1] at hidx hgo fin
         rw [decide_eq_true hm] at hnin
         have hnin:jq8 (.tup [.int room',.tup (ks'.map (plc (jvj ks')))]) (.lst K2)=some (.bl (!true)):=hnin
         have hidx:kk4 (.lst K2) (.tup [.int room',.tup (ks'.map (plc (jvj ks')))])=_:=hidx
         simp! only [hnin]
         refine jw0 rfl ?_
         simp! only [hidx,kqd (o:=.rt) (xs:=(jvj ks').map D.int) (by decide)]
         exact ⟨_,rfl,by omega,K2,_,_,_,_,_,_,_,rfl,hpv2,hK2,hg2,by simp;omega,fin⟩
        ·have e1:kke K2 (.tup [.int room',.tup (pr ks')])=K2++[.tup [.int room',.tup (pr ks')]]:=by unfold kke;rw [if_neg hm]
         rw [e1] at hidx hgo fin
         rw [decide_eq_false hm] at hnin
         have hnin:jq8 (.tup [.int room',.tup (ks'.map (plc (jvj ks')))]) (.lst K2)=some (.bl (!false)):=hnin
         have hidx:kk4 (.lst (K2++[.tup [.int room',.tup (ks'.map (plc (jvj ks')))]])) (.tup [.int room',.tup (ks'.map (plc (jvj ks')))])=_:=hidx
         simp! only [hnin]
         refine jw0 rfl ?_
         simp! only []
         refine ⟨_,rfl,by omega,?_⟩
         refine jw0 rfl ?_
         simp! only [hidx,kqd (o:=.rt) (xs:=(jvj ks').map D.int) (by decide)]
         exact ⟨_,rfl,by omega,_,_,_,_,_,_,_,_,rfl,hpv2,hgo,by simp;omega,by simp;omega,fin⟩
    ·rintro E ⟨K2,cs,l7,l8,l9,l10,l11,l12,rfl,hpv,hK2,hg2,hcl,hc2⟩
     refine jw0 rfl ?_
     simp! only []
     refine ⟨_,rfl,by omega,K2,acc++[.lst cs],zs,_,_,_,_,_,_,_,_,rfl,rfl,hK2,by omega,by simp;omega,?_⟩
     rw [hc,jqg,hc2]
     simp [jql,Option.map_map,Function.comp_def]
  ·rintro E ⟨K1,acc,zs,l5,l6,l7,l8,l9,l10,l11,l12,rfl,hds,hK1,hg,hal,hc⟩
   cases zs with
   | cons=>cases hds
   | nil =>
    have hir:jwb (.lst rs) (.int room)=some (.tup [.int ks.length,gd',.lst st]):=kw7 r0 er
    refine jw0 rfl ?_
    simp! only [p0,p1]
    refine (jx8 hka (by omega)).use ?_
    intro _ _
    simp! only [p0,p1,t1,hir]
    have hkl1:=jz0 hK1 k4 h3 (by decide)
    refine ⟨_,rfl,by omega,_,?_,K1,_,_,_,_,_,_,_,_,_,_,_,rfl,hK1,?_,rfl,fun r h=>hrun r (.go hlt ?_ h)⟩
    ·simp;omega
    ·simp;omega
    ·rw [hstep,hc]
     simp [jqg,kx0,kxk er,qk4]
 ·have hd:decide ((rooms.length:Int) < (K.length:Int))=false:=decide_eq_false (by omega)
  simp! only [hd,p0,kw4 (o:=.no) (xs:=ss.map D.str) (by decide)]
  exact ⟨_,hrun _ (.stop hlt),rfl⟩
end Nk39
noncomputable section
namespace Nk39
open Q PySem C F
theorem hd2:jko=C.m__law_draw2:=rfl
theorem vqj {way num here:Int} (hh:0<=here):Oo jva [(.no,.int way),(.no,.int num),(.no,.int here)] (fun y=>Fd here y.2) noX:=by
 unfold jva
 refine jvd ?_
 by_cases h1:way < 2
 ·have e1:decide (way < 2)=true:=decide_eq_true h1
  simp! only [e1]
  exact .inl rfl
 ·have e1:decide (way < 2)=false:=decide_eq_false h1
  cases h2:(way == 2) with
  | true =>
   simp! only [e1,qvs,h2]
   exact .inr (.inl rfl)
  | false =>
   cases h3:(here == 0) with
   | true =>
    simp! only [e1,qvs,h2,h3]
    exact .inr (.inl rfl)
   | false =>
    have hn:here≠0:=by simpa using h3
    have q0:=Int.emod_nonneg num hn
    have q1:=Int.emod_lt_of_pos num (show 0 < here by omega)
    simp! only [e1,qvs,h2,h3,mod_i (a:=num) (b:=here) (by omega)]
    exact .inr (.inr ⟨_,q0,q1,rfl⟩)
theorem kw3 (ns:List Int) (ss:List Str) (hs:1<=ss.length) (hs2:ss.length<=3):Oo jkn [(.no,iL ns),(.no,.int 2),(.no,sL ss)] (fun y=>∃ rs,y=(.no,jxc ss rs)/\Rms rs/\∃ kps:List Int,Rx ss kps rs/\∀ k∈kps,0<=k/\k<=3) noX:=by
 have m1:qju (.no,.lst [.int 12]) (.no,.int 3)=some (.rt,.lst [.int 12,.int 12,.int 12]):=rfl
 have m2:qju (.no,.lst [.int 5]) (.no,.int 9)=some (.rt,.lst [.int 5,.int 5,.int 5,.int 5,.int 5,.int 5,.int 5,.int 5,.int 5]):=rfl
 have m3:qju (.no,.lst [.int 2]) (.no,.int 3)=some (.rt,.lst [.int 2,.int 2,.int 2]):=rfl
 have m4:qju (.no,.lst [.int 60]) (.no,.int 9)=some (.rt,.lst [.int 60,.int 60,.int 60,.int 60,.int 60,.int 60,.int 60,.int 60,.int 60]):=rfl
 have p1':jk7 (.no,.lst [.int 3,.int 2]) (.no,.lst [.int 12,.int 12,.int 12])=some (.rt,.lst [.int 3,.int 2,.int 12,.int 12,.int 12]):=rfl
 have p2':jk7 (.no,.lst [.int 3,.int 2,.int 12,.int 12,.int 12]) (.no,.lst [.int 5,.int 5,.int 5,.int 5,.int 5,.int 5,.int 5,.int 5,.int 5])=some (.rt,.lst [.int 3,.int 2,.int 12,.int 12,.int 12,.int 5,.int 5,.int 5,.int 5,.int 5,.int 5,.int 5,.int 5,.int 5]):=rfl
 have p3':jk7 (.no,.lst [.int 3,.int 2,.int 12,.int 12,.int 12,.int 5,.int 5,.int 5,.int 5,.int 5,.int 5,.int 5,.int 5,.int 5]) (.no,.lst [.int 2,.int 2,.int 2])=some (.rt,.lst [.int 3,.int 2,.int 12,.int 12,.int 12,.int 5,.int 5,.int 5,.int 5,.int 5,.int 5,.int 5,.int 5,.int 5,.int 2,.int 2,.int 2]):=rfl
 have p4':jk7 (.no,.lst [.int 10]) (.no,.lst [.int 60,.int 60,.int 60,.int 60,.int 60,.int 60,.int 60,.int 60,.int 60])=some (.rt,.lst [.int 10,.int 60,.int 60,.int 60,.int 60,.int 60,.int 60,.int 60,.int 60,.int 60]):=rfl
 unfold jkn
 simp only [h9,hd2]
 refine jvd ?_
 simp! only []
 refine (kj5 ns 2 (by decide) (by decide)).use ?_
 intro x _
 simp! only [m1,m2,m3,p1',p2',p3']
 refine (kk7 x [3,2,12,12,12,5,5,5,5,5,5,5,5,5,2,2,2] (by decide) (by decide)).use ?_
 intro hs' hd
 obtain ⟨v0,e0,a0,b0⟩:=dg hd 0 (by decide) (by decide)
 obtain ⟨v1,e1,a1,b1⟩:=dg hd 1 (by decide) (by decide)
 obtain ⟨v2,e2,a2,b2⟩:=dg hd 2 (by decide) (by decide)
 have b0:v0 < 3:=b0
 have b1:v1 < 2:=b1
 simp! only [e0,e2,mod_i (a:=v2) (b:=2) (by decide)]
 refine kk6 [some (.rt,iL hs')] (fun _ y=>∃ i,y=(.dp,.int i)/\0<=i/\i<=3) ?_
 simp! only []
 refine ⟨rfl,fun d hd'=>?_,fun ys hy=>?_⟩
 ·obtain ⟨i,i0,i1,rfl⟩:=qqn hd'
  obtain ⟨w,ew,aw,bw⟩:=dg hd (2 + i) (by omega) (by simp;omega)
  have q0:=Int.emod_nonneg w (show 2 + v1≠0 by omega)
  have q1:=Int.emod_lt_of_pos w (show 0 < 2 + v1 by omega)
  simp! only [ew,e1,mod_i (a:=w) (b:=2 + v1) (by omega)]
  exact ⟨⟨_,rfl⟩,_,rfl,by omega,by omega⟩
 obtain ⟨ks0,h1,h2,h3⟩:=kwj (S:=fun i=>0<=i/\i<=3) (fun d y ⟨i,h,s⟩=>⟨i,by rw [h],s⟩) hy
 have hkl0:(ks0.length:Int)=v0:=by rw [h2,qqv (by omega)];omega
 rw [jxa,h1]
 simp only [back,clr,at',List.map_cons,List.map_nil,List.set_cons_zero,List.set_cons_succ]
 have w0:=Int.emod_nonneg v2 (show (2:Int)≠0 by decide)
 have w1:=Int.emod_lt_of_pos v2 (show (0:Int) < 2 by decide)
 obtain ⟨ks,hks,hkl,hk3⟩:∃ ks:List Int,[D.int (v2 % 2)]++ks0.map D.int=ks.map D.int/\(ks.length:Int)=1 + v0/\∀ k∈ks,0<=k/\k<=3:=⟨v2 % 2 :: ks0,rfl,by simp;omega,fun k hk=>by
  rcases List.mem_cons.mp hk with rfl | hk
  ·omega
  ·exact h3 k hk⟩
 have hadd:jk7 (.no,.lst [.int (v2 % 2)]) (.no,.lst (ks0.map D.int))=some (.rt,iL ks):=by rw [kwu (by decide) (by decide) (by simp;omega),hks]
 simp! only [hadd]
 refine jwv (fun E rest=>∃ (r:Nat) (rs:List D) (l7 l8 l9 l10 l11 l12 l13 l14 l15:Option Sd),E=[some (.no,iL ns),some (.no,.int 2),some (.no,sL ss),some (.rt,iL hs'),some (.dp,.int (1 + v0)),some (.rt,iL ks),some (.rt,.lst rs),l7,l8,l9,l10,l11,l12,l13,l14,l15]/\rest=jjh r (1 + v0)/\(r:Int)<=1 + v0/\rs.length=r/\∀ i:Nat,i < r->∃ (gd:Bool) (st:List D),rs[i]?=some (.tup [.int (ks.getD i 0),.bl gd,.lst st])/\(∀ s∈st,St (ks.getD i 0) s/\Sx ss ks s)/\st.length<=9) ?_ ?_ ?_
 ·refine jzk ?_
  simp! only []
  exact ⟨_,rfl,by omega,by omega,0,[],_,_,_,_,_,_,_,_,_,rfl,rfl,by omega,rfl,fun i hi=>absurd hi (Nat.not_lt_zero _)⟩
 ·rintro E d ds ⟨r,rs,l7,l8,l9,l10,l11,l12,l13,l14,l15,rfl,hr,hrn,hrl,hrs⟩
  obtain ⟨hlt,rfl,rfl⟩:=jvr hrn hr
  obtain ⟨here,eh,⟨hh0,hh1⟩,hhg⟩:=ixI ks _ hk3 r (by omega) (by omega)
  have hhg:ks[r]?=some here:=by simpa using hhg
  have hge:ks.getD r 0=here:=by rw [List.getD_eq_getElem?_getD,hhg];rfl
  have hrl4:=qqv (k:=0) (n:=here) hh0
  have s2:jk7 (.no,.lst (jjh 0 here)) (.no,.lst [.str "any",.str "fresh"])=some (.rt,.lst (jjh 0 here++[.str "any",.str "fresh"])):=kwu (by decide) (by decide) (by simp;omega)
  obtain ⟨g14,e14,_,_⟩:=dg hd (14 + r) (by omega) (by simp;omega)
  simp! only []
  refine jwv (fun E rest=>∃ (j:Nat) (st:List D) (l9 l10 l11 l12 l13 l14 l15:Option Sd),E=[some (.no,iL ns),some (.no,.int 2),some (.no,sL ss),some (.rt,iL hs'),some (.dp,.int (1 + v0)),some (.rt,iL ks),some (.rt,.lst rs),some (.no,.int r),some (.rt,.lst st),l9,l10,l11,l12,l13,l14,l15]/\rest=jjh j ss.length/\j<=ss.length/\(∀ s∈st,St here s/\Sx ss ks s)/\st.length<=3 * j) ?_ ?_ ?_
  ·refine jzk ?_
   simp! only []
   exact ⟨ss.length,by simp,by omega,by omega,0,[],_,_,_,_,_,_,_,rfl,rfl,by omega,(fun s hs=>nomatch hs),by simp⟩
  ·rintro E d ds2 ⟨j,st,l9,l10,l11,l12,l13,l14,l15,rfl,hr2,hj,hst,hstl⟩
   obtain ⟨hjlt,rfl,rfl⟩:=jvr (by omega) hr2
   have hjl:j < ss.length:=by omega
   have hsx:jwb (sL ss) (.int j)=some (.str ss[j]):=kw7 (by omega) (by simp [hjl])
   have hrj:(r:Int) * (ss.length:Int)<=2 * 3:=Int.mul_le_mul (by omega) (by omega) (by omega) (by decide)
   have hrj0:0<=(r:Int) * (ss.length:Int):=Int.mul_nonneg (by omega) (by omega)
   simp! only []
   refine (kj5 ns (2 + 1 + r * ss.length + j) (by omega) (by omega)).use ?_
   intro x2 _
   simp! only [m4,p4']
   refine (kk7 x2 [10,60,60,60,60,60,60,60,60,60] (by decide) (by decide)).use ?_
   intro ys2 hdy
   obtain ⟨y0,f0,g0,g0'⟩:=dg hdy 0 (by decide) (by decide)
   have g0':y0 < 10:=g0'
   obtain ⟨cnt,ecnt,⟨c0,c3⟩,_⟩:=ixI [1,1,1,1,1,2,2,2,2,3] (fun c=>0<=c/\c<=3) (by decide) y0 g0 (by simpa using g0')
   have ecnt:jwb (.lst [.int 1,.int 1,.int 1,.int 1,.int 1,.int 2,.int 2,.int 2,.int 2,.int 3]) (.int y0)=some (.int cnt):=ecnt
   simp! only [eh,s2]
   refine jwv (fun E rest=>∃ (k:Nat) (st2:List D) (l12 l13 l14 l15:Option Sd),E=[some (.no,iL ns),some (.no,.int 2),some (.no,sL ss),some (.rt,iL hs'),some (.dp,.int (1 + v0)),some (.rt,iL ks),some (.rt,.lst rs),some (.no,.int r),some (.rt,.lst st2),some (.no,.int j),some (.rt,iL ys2),some (.rt,.lst (jjh 0 here++[.str "any",.str "fresh"])),l12,l13,l14,l15]/\rest=jjh k cnt/\(k:Int)<=cnt/\(∀ s∈st2,St here s/\Sx ss ks s)/\st2.length<=3 * j + k) ?_ ?_ ?_
   ·refine jzk ?_
    simp! only [f0,ecnt]
    exact ⟨cnt,rfl,by omega,by omega,0,st,_,_,_,_,rfl,rfl,by omega,hst,by omega⟩
   ·rintro E d ds3 ⟨k,st2,l12,l13,l14,l15,rfl,hr3,hkc,hst2,hst2l⟩
    obtain ⟨hklt,rfl,rfl⟩:=jvr hkc hr3
    obtain ⟨y4,f4,g4,_⟩:=dg hdy (4 + k) (by omega) (by simp;omega)
    obtain ⟨y7,f7,g7,_⟩:=dg hdy (7 + k) (by omega) (by simp;omega)
    obtain ⟨y1,f1,g1,_⟩:=dg hdy (1 + k) (by omega) (by simp;omega)
    have r0:=Int.emod_nonneg y4 (show 1 + v0≠0 by omega)
    have r1:=Int.emod_lt_of_pos y4 (show 0 < 1 + v0 by omega)
    obtain ⟨kto,et,⟨ht0,ht1⟩,hkto⟩:=ixI ks _ hk3 (y4 % (1 + v0)) r0 (by omega)
    simp! only [f4,mod_i (a:=y4) (b:=1 + v0) (by omega),et,vzw (o:=.rt) (xs:=hs'.map D.int) (lo:=some (5 + 3 * (y4 % (1 + v0)))) (hi:=some (5 + 3 * (y4 % (1 + v0)) + kto)) (by decide)]
    obtain ⟨ws,hws,hwl⟩:∃ ws:List Int,vqo (hs'.map D.int) (some (5 + 3 * (y4 % (1 + v0)))) (some (5 + 3 * (y4 % (1 + v0)) + kto))=ws.map D.int/\(ws.length:Int)=kto:=by
     have hhl:hs'.length=17:=hd.len
     refine ⟨(hs'.drop (5 + 3 * (y4 % (1 + v0))).toNat).take kto.toNat,?_,?_⟩
     ·unfold vqo qwh
      dsimp only
      rw [if_neg (by omega),if_neg (by omega),List.length_map,hhl,List.map_take,List.map_drop]
      congr 1
      ·omega
      ·congr 1
       omega
     ·rw [List.length_take,List.length_drop,hhl]
      omega
    rw [hws]
    refine qjv (fun E1 B ds acc=>E1=[some (.no,iL ns),some (.no,.int 2),some (.no,sL ss),some (.rt,iL hs'),some (.dp,.int (1 + v0)),some (.rt,iL ks),some (.rt,.lst rs),some (.no,.int r),some (.rt,.lst st2),some (.no,.int j),some (.rt,iL ys2),some (.rt,.lst (jjh 0 here++[.str "any",.str "fresh"])),some (.no,.int k),some (.dp,.int (y4 % (1 + v0))),some (.no,iL ws),l15]/\(∃ q0 q1,B=[q0,q1,some (.rt,iL ys2),some (.no,.int k),some (.rt,iL ks),some (.no,.int r)])/\∃ (n:Nat) (ws2:List Int),ds=jz6 n (ws2.map D.int)/\acc.length=n/\n + ws2.length=ws.length/\∀ y∈acc,Fd here y.2) ?_ ?_ ?_
    ·simp! only []
     exact ⟨⟨none,none,rfl⟩,0,ws,rfl,rfl,by omega,fun y hy=>nomatch hy⟩
    ·rintro E1 B d ds4 acc ⟨rfl,⟨q0,q1,rfl⟩,n,ws2,hds,hal,hnw,hacc⟩
     cases ws2 with
     | nil=>cases hds
     | cons w ws2 =>
      rw [List.map_cons,jz6] at hds
      injection hds with e5 e6
      subst e5 e6
      rw [List.length_cons] at hnw
      simp! only [f7,eh]
      refine (vqj hh0).via ?_
      intro y hy
      simp! only []
      refine ⟨⟨_,_,rfl⟩,n + 1,ws2,rfl,by simp [hal],by omega,fun y' hy'=>?_⟩
      rcases List.mem_append.mp hy' with z | z
      ·exact hacc y' z
      ·rw [List.mem_singleton.mp z];exact hy
    ·rintro E1 B acc ⟨rfl,⟨q0,q1,rfl⟩,n,ws2,hds,hal,hnw,hacc⟩
     cases ws2 with
     | cons=>cases hds
     | nil =>
      rw [jxa]
      simp only [kkq,back,clr,at',List.drop,List.map_cons,List.map_nil,List.set_cons_zero,List.set_cons_succ]
      have hfs:∀ f∈acc.map (·.2),Fd here f:=fun f hf=>by
       obtain ⟨y,hy,rfl⟩:=List.mem_map.mp hf
       exact hacc y hy
      have hfl:((acc.map (·.2)).length:Int)=kto:=by
       rw [List.length_map]
       have:([]:List Int).length=0:=rfl
       omega
      generalize acc.map (·.2)=fl at hfs hfl
      have hln:(((jjh 0 here++[.str "any",.str "fresh"]:List D).length:Nat):Int)=2 + here:=by simp;omega
      have t0':=Int.emod_nonneg y1 (show 2 + here≠0 by omega)
      have t1':=Int.emod_lt_of_pos y1 (show 0 < 2 + here by omega)
      have hix:=wjq (jjh 0 here++[.str "any",.str "fresh"]) (y1 % (2 + here)) t0' (by omega)
      have hmem:=kjx (jjh 0 here++[.str "any",.str "fresh"]) (y1 % (2 + here)) t0' (by omega)
      generalize (jjh 0 here++[.str "any",.str "fresh"]:List D).getD (y1 % (2 + here)).toNat .non=g at hix hmem
      have hgd:Gd here g:=by
       rcases List.mem_append.mp hmem with z | z
       ·obtain ⟨i,i0,i1,rfl⟩:=qqn z
        exact .inr (.inr ⟨i,i0,i1,rfl⟩)
       ·rcases List.mem_cons.mp z with rfl | z
        ·exact .inr (.inl rfl)
        ·rw [List.mem_singleton.mp z];exact .inl rfl
      generalize hL:(jjh 0 here++[.str "any",.str "fresh"]:List D)=LL at hix hln
      simp! only [kqd (o:=.no) (xs:=fl) (by decide)]
      refine jw0 rfl ?_
      simp! only [hsx,f1,hln,mod_i (a:=y1) (b:=2 + here) (by omega),hix]
      refine ⟨_,rfl,by omega,k + 1,_,_,_,_,_,rfl,by rw [show ((k + 1:Nat):Int)=(k:Int) + 1 by omega],by omega,fun s hs=>?_,by simp;omega⟩
      rcases List.mem_append.mp hs with z | z
      ·exact hst2 s z
      ·rw [List.mem_singleton.mp z]
       refine ⟨⟨_,g,_,fl,rfl,hgd,hfs,by omega⟩,_,g,_,fl,rfl,List.getElem_mem _,r0,by omega,?_⟩
       rw [hfl,List.getD_eq_getElem?_getD,hkto]
       rfl
   ·rintro E ⟨k,st2,l12,l13,l14,l15,rfl,hr3,hkc,hst2,hst2l⟩
    have:=jxp hkc hr3
    exact ⟨j + 1,st2,_,_,_,_,_,_,_,rfl,by rw [show ((j + 1:Nat):Int)=(j:Int) + 1 by omega],by omega,hst2,by omega⟩
  ·rintro E ⟨j,st,l9,l10,l11,l12,l13,l14,l15,rfl,hr2,hj,hst,hstl⟩
   refine jw0 rfl ?_
   simp! only [eh,e14,qvs]
   refine ⟨_,rfl,by omega,r + 1,_,_,_,_,_,_,_,_,_,_,rfl,by rw [show ((r + 1:Nat):Int)=(r:Int) + 1 by omega],by omega,by simp [hrl],fun i hi=>?_⟩
   by_cases he:i < r
   ·obtain ⟨gd,st',q1,q2,q3⟩:=hrs i he
    exact ⟨gd,st',by rw [List.getElem?_append_left (by omega)];exact q1,q2,q3⟩
   ·have:i=r:=by omega
    subst this
    refine ⟨_,st,by rw [List.getElem?_append_right (by omega),hrl,Nat.sub_self,hge];rfl,by rw [hge];exact hst,by omega⟩
 ·rintro E ⟨r,rs,l7,l8,l9,l10,l11,l12,l13,l14,l15,rfl,hr,hrn,hrl,hrs⟩
  have:=jxp hrn hr
  simp! only [kw4 (o:=.no) (xs:=ss.map D.str) (by decide)]
  refine ⟨rs,rfl,⟨by omega,by omega,fun r' hr'=>?_⟩,ks,⟨by omega,fun i hi=>?_⟩,hk3⟩
  ·obtain ⟨i,hi,e⟩:=List.mem_iff_getElem.mp hr'
   obtain ⟨gd,st,q1,q2,q3⟩:=hrs i (by omega)
   rw [List.getElem?_eq_getElem hi,e] at q1
   have hk:=hk3 (ks.getD i 0) (by rw [List.getD_eq_getElem?_getD,List.getElem?_eq_getElem (by omega)];exact List.getElem_mem _)
   exact ⟨_,gd,st,oq9 q1,hk.1,hk.2,fun s hs=>(q2 s hs).1,by omega⟩
  ·obtain ⟨gd,st,q1,q2,q3⟩:=hrs i (by omega)
   exact ⟨gd,st,q1,fun s hs=>(q2 s hs).2⟩
end Nk39
noncomputable section
namespace Nk39
open Q PySem C F
theorem kinds_ok:Oo jqs [(.no,.obj "NotSingle" [])] (fun y=>∃ _:Unit,y=(.rt,.lst [.bl true,.bl true,.bl false,.bl false,.bl false,.bl false,.bl false,.bl false,.bl false,.bl false])/\True) noX:=by
 have a1:kwg [("NotSingle",true)] (.obj "NotSingle" [])=some (.bl true):=qzx (by decide)
 have a2:kwg [("NotSingle",false)] (.obj "NotSingle" [])=some (.bl false):=qzx (by decide)
 unfold jqs
 refine jvd ?_
 simp! only [a1,a2,kwu (o1:=.rt) (o2:=.no) (a:=[.bl true,.bl true,.bl false]) (b:=[.bl false,.bl false,.bl false]) (by decide) (by decide) (by decide),kwu (o1:=.rt) (o2:=.no) (a:=[.bl true,.bl true,.bl false,.bl false,.bl false,.bl false]) (b:=[.bl false,.bl false,.bl false]) (by decide) (by decide) (by decide),kwu (o1:=.rt) (o2:=.no) (a:=[.bl true,.bl true,.bl false,.bl false,.bl false,.bl false,.bl false,.bl false,.bl false]) (b:=[.bl false]) (by decide) (by decide) (by decide)]
 first | trivial | exact ⟨(),trivial⟩ | exact ⟨(),rfl,trivial⟩
section
variable {ss:List Str} {rs:List D} {kps:List Int} {kp:Int} {gd st0:D} {r:Option (List D×List D)}
theorem qzo (hR:Rms rs) (hx:Rx ss kps rs) (h3:∀ k∈kps,k<=3) (hr0:rs[0]?=some (.tup [.int kp,gd,st0])) (hk0:0<=kp) (hk3:kp<=3) (hr:Run ss rs [.tup [.int 0,.tup (List.replicate kp.toNat .non)]] [] r) :
  Oo (F.m_plain_of (sRz "NotSingle")) [(.no,jxc ss rs)] (fun y=>∃ q,r=some q/\y=(.no,.tup [jxc ss q.2,.lst q.1])) (fun c=>c="NotSingle"/\r=none):=by
 refine (kx6 (X:=fun c=>c="NotSingle"/\r=none) hR hx h3 hr0 hk0 hk3 vzz fun h=>⟨rfl,(h.det hr).symm⟩).mono ?_
 rintro y ⟨K,rooms,rfl,h⟩
 exact ⟨(K,rooms),(h.det hr).symm,rfl⟩
theorem qko (hR:Rms rs) (hx:Rx ss kps rs) (h3:∀ k∈kps,k<=3) (hr0:rs[0]?=some (.tup [.int kp,gd,st0])) (hk0:0<=kp) (hk3:kp<=3) (hr:Run ss rs [.tup [.int 0,.tup (List.replicate kp.toNat .non)]] [] r) :
  Oo jv8 [(.no,jxc ss rs)] (fun y=>∃ _:Unit,y=(.dp,.bl r.isSome)/\True) noX:=by
 unfold jv8
 simp only [h4]
 refine jvd ?_
 simp! only [↓vv7]
 refine (qzo hR hx h3 hr0 hk0 hk3 hr).ox ?_ ?_
 ·rintro y ⟨q,rfl,rfl⟩
  simp! only []
  first | trivial | exact ⟨(),trivial⟩ | exact ⟨(),rfl,trivial⟩
 ·rintro c ⟨rfl,rfl⟩
  refine ⟨by simp,?_⟩
  simp! only []
  first | trivial | exact ⟨(),trivial⟩ | exact ⟨(),rfl,trivial⟩
theorem vjk (hR:Rms rs) (hx:Rx ss kps rs) (h3:∀ k∈kps,k<=3) (hr0:rs[0]?=some (.tup [.int kp,gd,st0])) (hk0:0<=kp) (hk3:kp<=3) (hr:Run ss rs [.tup [.int 0,.tup (List.replicate kp.toNat .non)]] [] r) :
  Oo jv9 [(.no,jxc ss rs)] (fun y=>∃ _:Unit,y=(.no,.tup [qxh ss r,.lst (if r.isSome then [] else [.int 0,.int 1])])/\True) noX:=by
 unfold jv9
 simp only [h4]
 refine jvd ?_
 simp! only []
 refine (qzo hR hx h3 hr0 hk0 hk3 hr).ox ?_ ?_
 ·rintro y ⟨q,rfl,rfl⟩
  simp! only []
  rw [show ∀ a b:Option Sd,cLC .rt 1 [2] (jzd (vE (cF1 (pu1 jwq) (vV 2)))) (.n 0) (tEQ (jjf (vV 1) (vV 0))) (cV 0) [a,b,some (.rt,.lst []),none]=some (.ok [a,b,some (.rt,.lst []),none] (.rt,.lst [])) from fun _ _=>by with_unfolding_all rfl,kk5]
  simp! only []
  exact ⟨(),rfl,trivial⟩
 ·rintro c ⟨rfl,rfl⟩
  refine ⟨by simp,?_⟩
  simp! only []
  refine kinds_ok.use ?_
  intro _ _
  simp! only []
  rw [show ∀ a b:Option Sd,cLC .rt 1 [2] (jzd (vE (cF1 (pu1 jwq) (vV 2)))) (.n 0) (tEQ (jjf (vV 1) (vV 0))) (cV 0) [a,b,some (.rt,.lst [.bl true,.bl true,.bl false,.bl false,.bl false,.bl false,.bl false,.bl false,.bl false,.bl false]),none]=some (.ok [a,b,some (.rt,.lst [.bl true,.bl true,.bl false,.bl false,.bl false,.bl false,.bl false,.bl false,.bl false,.bl false]),none] (.rt,.lst [.int 0,.int 1])) from fun _ _=>by with_unfolding_all rfl,kk5]
  simp! only []
  exact ⟨(),rfl,trivial⟩
end
theorem qqr {ss:List Str} {rs:List D} (h:∀ r∈rs,Rm r):(jxc ss rs).flat 40=true:=by
 show D.flats 39 [sL ss,.lst rs]=true
 refine jqf fun d hd=>?_
 simp only [List.mem_cons,List.not_mem_nil,or_false] at hd
 rcases hd with rfl | rfl
 ·show D.flats 38 (ss.map D.str)=true
  exact jqf fun k hk=>by obtain ⟨w,_,rfl⟩:=List.mem_map.mp hk;rfl
 ·show D.flats 38 rs=true
  exact jqf fun r hr=>C.room_flat (n:=34) (h r hr)
theorem vvc {ss:List Str} {rs:List D} {kps:List Int} {s0:D} {q:List D×List D} (hs3:ss.length<=3) (hS:∀ z∈ss,Sg z) (hR:Rms rs) (hx:Rx ss kps rs) (hk4:kps.length<=4) (h3:∀ k∈kps,k<=3) (h0:Kin kps V4 [s0]) (hr:Run ss rs [s0] [] (some q)):Tx 13200000 40 (qxh ss (some q)):=by
 obtain ⟨a1,a2,a3⟩:=vvb (m:=32) hs3 hR hx hk4 h3 hr h0 (Nat.zero_le _) (fun d hd=>nomatch hd) q rfl
 have hlen:=jz0 a1 hk4 h3 (by decide)
 have t1:Tx 3299662 38 (.lst q.2):=kva (n:=3183) (c:=1036) a3 (by omega)
 have t2:Tx 38 38 (sL ss):=kva (n:=10) (c:=3) (fun d hd=>by
  obtain ⟨z,hz,rfl⟩:=List.mem_map.mp hd
  exact vva (hS z hz)) (by simpa using hs3)
 have t3:Tx 6599331 39 (jxc ss q.2):=kj9 (n:=3299662) (c:=2) (fun d hd=>by
  simp only [List.mem_cons,List.not_mem_nil,or_false] at hd
  rcases hd with rfl | rfl
  ·exact t2.mono (by omega)
  ·exact t1) (by simp)
 have t4:Tx 90134 39 (.lst q.1):=qwn (m:=36) hk4 h3 a1
 refine (kj9 (n:=6599331) (c:=2) (fun d hd=>?_) (by simp):Tx (3 + 2 * (6599331 + 2)) 40 _).mono (by omega)
 simp only [List.mem_cons,List.not_mem_nil,or_false] at hd
 rcases hd with rfl | rfl
 ·exact t3
 ·exact t4.mono (by omega)
theorem vxg (ns:List Int):Oo m_law [(.no,iL ns)] (fun y=>y.2=.bl true) noX:=by
 unfold m_law
 simp only [hd2,h8,h10]
 refine jvd ?_
 simp! only []
 refine (kj5 ns 0 (by decide) (by decide)).use ?_
 intro x hx0
 simp! only []
 refine (kj5 ns 1 (by decide) (by decide)).use ?_
 intro x1 _
 simp! only []
 have b0:=Int.emod_nonneg x1 (show (3:Int)≠0 by decide)
 have b1:=Int.emod_lt_of_pos x1 (show (0:Int) < 3 by decide)
 refine (qkp x (1 + x1 % 3) hx0.1 (by omega) (by omega)).use ?_
 rintro ss ⟨hss,hS⟩
 simp! only []
 refine (kw3 ns ss (by omega) (by omega)).use ?_
 rintro rs ⟨hR,kps,hx,hkb⟩
 have h3:∀ k∈kps,k<=3:=fun k hk=>(hkb k hk).2
 have hrl:rs.length=kps.length:=hx.1
 have hR1:=hR.1
 have hk4:kps.length<=4:=by have:=hR.2.1;omega
 obtain ⟨gd,st0,hr0,_⟩:=hx.2 0 (by omega)
 have hkp:=hkb (kps.getD 0 0) (by rw [List.getD_eq_getElem?_getD,List.getElem?_eq_getElem (by omega)];exact List.getElem_mem _)
 generalize kps.getD 0 0=kp at hr0 hkp
 have hin:Kin kps V4 [.tup [.int 0,.tup (List.replicate kp.toNat .non)]]:=kqw hR hx (by simp [V4]) hr0 hkp.1
 have hfl:=qqr (ss:=ss) hR.2.2
 simp! only []
 refine (vqp hR.2.2).use ?_
 intro _ _
 simp! only []
 refine (vxz (by omega) hR hx h3 hr0 hkp.1 hkp.2).via ?_
 rintro ⟨o,d⟩ ⟨r,hrun,hd⟩
 have hd:d=qxh ss r:=hd
 subst hd
 simp! only []
 refine (qko hR hx h3 hr0 hkp.1 hkp.2 hrun).use ?_
 intro _ _
 simp! only []
 refine (vjk hR hx h3 hr0 hkp.1 hkp.2 hrun).use ?_
 intro _ _
 have hb:∀ b:Bool,vxx "bool" (.bl b)=some (.bl true):=fun b=>rfl
 cases r with
 | none =>
  have e1:fNe (.bl false) (.bl false)=some (.bl false):=rfl
  have e2:fEq (.lst [.int 0,.int 1]) (.lst [.int 0,.int 1])=some (.bl true):=rfl
  simp only [Option.isSome_none,Bool.false_eq_true,if_false]
  simp! only [qxh,hb,e1,qql hfl,e2]
 | some q =>
  have e1:fNe (.bl true) (.bl true)=some (.bl false):=rfl
  have e2:fEq (.lst []) (.lst [])=some (.bl true):=rfl
  have hT:=vvc (by omega) hS hR hx hk4 h3 hin hrun
  have hrep:qwl (qxh ss (some q))=some (.str (D.dat (qxh ss (some q))).shown):=by
   unfold qwl
   rw [if_pos ⟨rfl,hT.fl,hT.sh,by have:=hT.ln;unfold sizeLine;omega⟩]
  generalize (D.dat (qxh ss (some q))).shown=txt at hrep
  have hfq:=C.eq_self hT.fl
  obtain ⟨TT,hTT⟩:∃ TT,qxh ss (some q)=.tup TT:=⟨_,rfl⟩
  simp only [Option.isSome_some,if_true]
  rw [hTT] at hrep hfq ⊢
  simp! only [hb,e1,qql hfl,e2,hrep,hfq,C.eq_self (d:=.str txt) rfl]
  first | done | rfl | trivial
theorem law_true (ns:List Int) (hl:ns.length<=63) (hb:∀ i∈ns,Builtin.Int.intBits i<=1048576):∃ E o,m_law [(.no,.lst (ns.map D.int))]=some (.ok E (o,.bl true)):=by
 obtain ⟨E,⟨o,d⟩,h,hd⟩:=(vxg ns).out
 have hd:d=.bl true:=hd
 subst hd
 exact ⟨E,o,h⟩
end Nk39
namespace Nk39
open PySem L2 L3 Q
def top (i:Nat):Stmt:=PySem.Challenge.pw_freshrooms_k39_singly_by_standings.main.body.getD i (.Pass ⟨0,0,0,0⟩)
abbrev kkw:Stmt:=top 12
abbrev jw8:Stmt:=top 14
abbrev jx4:Stmt:=top 13
abbrev jkf:Stmt:=top 16
abbrev jvk:Stmt:=top 19
abbrev jw9:Stmt:=top 17
abbrev jx5:Stmt:=top 18
abbrev jqp:Stmt:=top 26
abbrev jq1:Stmt:=top 27
abbrev jqo:Stmt:=top 24
abbrev jqa:Stmt:=top 25
abbrev jq9:Stmt:=top 23
abbrev jvl:Stmt:=top 22
abbrev jv2:Stmt:=top 21
abbrev jv6:Stmt:=top 29
abbrev jqc:Stmt:=top 30
abbrev jqq:Stmt:=top 31
abbrev jv7:Stmt:=top 32
abbrev jv4:Stmt:=top 33
abbrev jqb:Stmt:=top 34
abbrev jq3:Stmt:=top 35
abbrev jqd:Stmt:=top 36
abbrev jqr:Stmt:=top 37
abbrev jv5:Stmt:=top 38
abbrev jq2:Stmt:=top 39
abbrev jkt:Stmt:=top 40
abbrev jvm:Stmt:=top 41
abbrev jv3:Stmt:=top 42
abbrev kqg:Stmt:=top 43
theorem sc_fits:FnScope ["step","kept","name","asks"] ["step","kept","name"] (jj4 kkw):=⟨rfl,rfl,rfl,by decide +kernel,rfl,by decide +kernel,by decide +kernel⟩
theorem qjf:FnScope ["fill","kept","name"] ["fill","kept","name"] (jj4 jw8):=⟨rfl,rfl,rfl,by decide +kernel,rfl,by decide +kernel,by decide +kernel⟩
theorem qkq:FnScope ["step","kept","name"] ["step","kept","name"] (jj4 jx4):=⟨rfl,rfl,rfl,by decide +kernel,rfl,by decide +kernel,by decide +kernel⟩
theorem jzh:FnScope ["machine"] ["machine"] (jj4 jkf):=⟨rfl,rfl,rfl,by decide +kernel,rfl,by decide +kernel,by decide +kernel⟩
theorem kwz:FnScope ["machine","standing"] ["machine","standing"] (jj4 jvk):=⟨rfl,rfl,rfl,by decide +kernel,rfl,by decide +kernel,by decide +kernel⟩
theorem sc_fitting:FnScope ["machine","standing","sign","name","kept","steps"] ["machine","standing","sign","name"] (jj4 jw9):=⟨rfl,rfl,rfl,by decide +kernel,rfl,by decide +kernel,by decide +kernel⟩
theorem sc_behind:FnScope ["machine","standing","number","name","step"] ["machine","standing","number","name"] (jj4 jx5):=⟨rfl,rfl,rfl,by decide +kernel,rfl,by decide +kernel,by decide +kernel⟩
theorem sc_names_held:FnScope ["kept","names","name"] ["kept"] (jj4 jqp):=⟨rfl,rfl,rfl,by decide +kernel,rfl,by decide +kernel,by decide +kernel⟩
theorem kje:FnScope ["names","kept"] ["names","kept"] (jj4 jq1):=⟨rfl,rfl,rfl,by decide +kernel,rfl,by decide +kernel,by decide +kernel⟩
theorem sc_plain_case:FnScope ["standing","numbers","names","pair"] ["standing","numbers"] (jj4 jqo):=⟨rfl,rfl,rfl,by decide +kernel,rfl,by decide +kernel,by decide +kernel⟩
theorem sc_only_behind:FnScope ["machine","standing","sign","name","steps"] ["machine","standing","sign","name"] (jj4 jqa):=⟨rfl,rfl,rfl,by decide +kernel,rfl,by decide +kernel,by decide +kernel⟩
theorem sc_plain_cases:FnScope ["machine","pair","sign","numbers","names"] ["machine","pair","sign","numbers"] (jj4 jq9):=⟨rfl,rfl,rfl,by decide +kernel,rfl,by decide +kernel,by decide +kernel⟩
theorem sc_plain_of:FnScope ["machine","numbers","rooms","pair","steps"] ["machine"] (jj4 jvl):=⟨rfl,rfl,rfl,by decide +kernel,rfl,by decide +kernel,by decide +kernel⟩
theorem kvf:FnScope ["machine"] ["machine"] (jj4 jv2):=⟨rfl,rfl,rfl,by decide +kernel,rfl,by decide +kernel,by decide +kernel⟩
theorem sc__law_draw:FnScope ["_law_script","_law_k","_law_most","_law_x","_law_found","_law_j"] ["_law_script","_law_k"] (jj4 jv6):=⟨rfl,rfl,rfl,by decide +kernel,rfl,by decide +kernel,by decide +kernel⟩
theorem sc__law_digits:FnScope ["_law_x","_law_sizes","_law_found","_law_size"] ["_law_x","_law_sizes"] (jj4 jqc):=⟨rfl,rfl,rfl,by decide +kernel,rfl,by decide +kernel,by decide +kernel⟩
theorem sc__law_signs:FnScope ["_law_x","_law_many","_law_letters","_law_size","_law_at","_law_step","_law_signs_here","_law_k","_law_sign","_law_j","_law_turn"] ["_law_x","_law_many"] (jj4 jqq):=⟨rfl,rfl,rfl,by decide +kernel,rfl,by decide +kernel,by decide +kernel⟩
theorem kvi:FnScope ["_law_machine_here"] ["_law_machine_here"] (jj4 jv7):=⟨rfl,rfl,rfl,by decide +kernel,rfl,by decide +kernel,by decide +kernel⟩
theorem kvg:FnScope ["_law_step","_law_kept","_law_name"] ["_law_step","_law_kept","_law_name"] (jj4 jv4):=⟨rfl,rfl,rfl,by decide +kernel,rfl,by decide +kernel,by decide +kernel⟩
theorem sc__law_filled:FnScope ["_law_step","_law_kept","_law_name","_law_found","_law_fill_here"] ["_law_step","_law_kept","_law_name"] (jj4 jqb):=⟨rfl,rfl,rfl,by decide +kernel,rfl,by decide +kernel,by decide +kernel⟩
theorem sc__law_fitting:FnScope ["_law_machine_here","_law_standing","_law_sign","_law_name","_law_steps"] ["_law_machine_here","_law_standing","_law_sign","_law_name"] (jj4 jq3):=⟨rfl,rfl,rfl,by decide +kernel,rfl,by decide +kernel,by decide +kernel⟩
theorem sc__law_behind:FnScope ["_law_machine_here","_law_standing","_law_k","_law_name","_law_step"] ["_law_machine_here","_law_standing","_law_k","_law_name"] (jj4 jqd):=⟨rfl,rfl,rfl,by decide +kernel,rfl,by decide +kernel,by decide +kernel⟩
theorem sc__law_kinds:FnScope ["_law_error","_law_found"] ["_law_error"] (jj4 jqr):=⟨rfl,rfl,rfl,by decide +kernel,rfl,by decide +kernel,by decide +kernel⟩
theorem kvh:FnScope ["_law_way","_law_number","_law_here"] ["_law_way","_law_number","_law_here"] (jj4 jv5):=⟨rfl,rfl,rfl,by decide +kernel,rfl,by decide +kernel,by decide +kernel⟩
theorem sc__law_machine:FnScope ["_law_script","_law_start","_law_signs_here","_law_head","_law_size","_law_keepers","_law_rooms","_law_r","_law_steps","_law_s","_law_y","_law_some","_law_k","_law_to","_law_ways","_law_fills"] ["_law_script","_law_start","_law_signs_here"] (jj4 jq2):=⟨rfl,rfl,rfl,by decide +kernel,rfl,by decide +kernel,by decide +kernel⟩
theorem sc__law_names_in:FnScope ["_law_kept","_law_names","_law_name"] ["_law_kept"] (jj4 jkt):=⟨rfl,rfl,rfl,by decide +kernel,rfl,by decide +kernel,by decide +kernel⟩
theorem sc__law_due:FnScope ["_law_machine_here","_law_pairs","_law_rooms","_law_pair","_law_steps","_law_sign","_law_cases","_law_name","_law_some","_law_room","_law_kept","_law_names","_law_there"] ["_law_machine_here"] (jj4 jvm):=⟨rfl,rfl,rfl,by decide +kernel,rfl,by decide +kernel,by decide +kernel⟩
theorem sc__law_told:FnScope ["_law_machine_here","_law_told_here","_law_found","_law_error"] ["_law_machine_here"] (jj4 jv3):=⟨rfl,rfl,rfl,by decide +kernel,rfl,by decide +kernel,by decide +kernel⟩
theorem sc_law:FnScope ["_law_script","_law_signs_here","_law_machine_here","_law_handed","_law_due_here","_law_single","_law_told_here","_law_refused"] ["_law_script"] (jj4 kqg):=⟨rfl,rfl,rfl,by decide +kernel,rfl,by decide +kernel,by decide +kernel⟩
structure Txt (K:PySem.W.Frag) (mg:Str->Option Value) (x_NotSingle x_TooGreat x_NoRow x_NoText x_NoWay x_NoFit x_NoMachine x_NoName x_NoExchange x_RoomError:Addr):Prop where
 b_ValueError:mg "ValueError"=none
 b_bool:mg "bool"=none
 b_enumerate:mg "enumerate"=none
 b_int:mg "int"=none
 b_isinstance:mg "isinstance"=none
 b_len:mg "len"=none
 b_list:mg "list"=none
 b_range:mg "range"=none
 b_repr:mg "repr"=none
 b_sorted:mg "sorted"=none
 b_tuple:mg "tuple"=none
 n_NotSingle:PySem.W.nsIn K mainGlobals "NotSingle"=some (some (.ref x_NotSingle))
 m_NotSingle:mg "NotSingle"=some (.ref x_NotSingle)
 e_NotSingle:ECls K mg "NotSingle" x_NotSingle
 n_TooGreat:PySem.W.nsIn K mainGlobals "TooGreat"=some (some (.ref x_TooGreat))
 m_TooGreat:mg "TooGreat"=some (.ref x_TooGreat)
 n_NoRow:PySem.W.nsIn K mainGlobals "NoRow"=some (some (.ref x_NoRow))
 m_NoRow:mg "NoRow"=some (.ref x_NoRow)
 n_NoText:PySem.W.nsIn K mainGlobals "NoText"=some (some (.ref x_NoText))
 m_NoText:mg "NoText"=some (.ref x_NoText)
 n_NoWay:PySem.W.nsIn K mainGlobals "NoWay"=some (some (.ref x_NoWay))
 m_NoWay:mg "NoWay"=some (.ref x_NoWay)
 n_NoFit:PySem.W.nsIn K mainGlobals "NoFit"=some (some (.ref x_NoFit))
 m_NoFit:mg "NoFit"=some (.ref x_NoFit)
 n_NoMachine:PySem.W.nsIn K mainGlobals "NoMachine"=some (some (.ref x_NoMachine))
 m_NoMachine:mg "NoMachine"=some (.ref x_NoMachine)
 n_NoName:PySem.W.nsIn K mainGlobals "NoName"=some (some (.ref x_NoName))
 m_NoName:mg "NoName"=some (.ref x_NoName)
 n_NoExchange:PySem.W.nsIn K mainGlobals "NoExchange"=some (some (.ref x_NoExchange))
 m_NoExchange:mg "NoExchange"=some (.ref x_NoExchange)
 n_RoomError:PySem.W.nsIn K mainGlobals "RoomError"=some (some (.ref x_RoomError))
 m_RoomError:mg "RoomError"=some (.ref x_RoomError)
 h_NotSingle_NotSingle:PySem.W.exmOne K (.ref x_NotSingle) (.ref x_NotSingle)=some true
 i_NotSingle_TooGreat:PySem.W.kitOne K (.ref x_NotSingle) (.ref x_TooGreat)=some false
 i_NotSingle_NoRow:PySem.W.kitOne K (.ref x_NotSingle) (.ref x_NoRow)=some false
 i_NotSingle_NoText:PySem.W.kitOne K (.ref x_NotSingle) (.ref x_NoText)=some false
 i_NotSingle_NoWay:PySem.W.kitOne K (.ref x_NotSingle) (.ref x_NoWay)=some false
 i_NotSingle_NoFit:PySem.W.kitOne K (.ref x_NotSingle) (.ref x_NoFit)=some false
 i_NotSingle_NoMachine:PySem.W.kitOne K (.ref x_NotSingle) (.ref x_NoMachine)=some false
 i_NotSingle_NoName:PySem.W.kitOne K (.ref x_NotSingle) (.ref x_NoName)=some false
 i_NotSingle_NotSingle:PySem.W.kitOne K (.ref x_NotSingle) (.ref x_NotSingle)=some true
 i_NotSingle_ValueError:PySem.W.kitOne K (.ref x_NotSingle) (.type "ValueError")=some true
 i_NotSingle_NoExchange:PySem.W.kitOne K (.ref x_NotSingle) (.ref x_NoExchange)=some false
 h_NotSingle_RoomError:PySem.W.exmOne K (.ref x_NotSingle) (.ref x_RoomError)=some true
section
variable {x_NotSingle x_TooGreat x_NoRow x_NoText x_NoWay x_NoFit x_NoMachine x_NoName x_NoExchange x_RoomError:Addr}
variable {P:Program} {w:PySem.World} {K:PySem.W.Frag} {mg:Str->Option Value} {base:Heap} {f:Addr} {fd:FuncData}
set_option maxHeartbeats 4000000 in
theorem vkw (T:Txt K mg x_NotSingle x_TooGreat x_NoRow x_NoText x_NoWay x_NoFit x_NoMachine x_NoName x_NoExchange x_RoomError)  (F:Fun K "fits" "fits" kkw f fd):FnOk P w K mg base (CXE P w) 1 f fd ["step","kept","name"] (spF K mg 3 jzp) :=
 jk0 F sc_fits (jk1 rfl) fun cdv A outer s H vs Q E hr h=>jkx rfl
  (jje (jjx (i:=3) sc_fits.nd rfl (by first | exact Or.inl rfl | exact Or.inr rfl) (jwf (jkh (jjc (pv 0)) (jj8 (q_C jj3 (fun _=>jj2))) (fun _ _=>rfl))))
   (jje (kv6 (jke (jwh hr.units) jwm (jjc (pv 3)) (jj8 (q_C jwo (fun _=>jqn (by decide)))) (jjy _) kks) (jjp (jku (q_C qxg (fun _=>kvk)))) jwu)
   (jje (kv6 (jke (jwh hr.units) jwm (jjc (pv 3)) (jj8 (q_C jwo (fun _=>jqn (by decide)))) (jjy _) kks) (jjp (jku (jxr (jxy hr.units) jzc (jjc (pv 2)) (jjc (pv 1)) (by rfl)))) jwu)
   (jjp (jku (jxr (jwh hr.units) jwm (jkh (jjc (pv 1)) (jjc (pv 3)) (fun _ _=>rfl)) (jjc (pv 2)) (jjy _))))))) h
set_option maxHeartbeats 4000000 in
theorem qjk (T:Txt K mg x_NotSingle x_TooGreat x_NoRow x_NoText x_NoWay x_NoFit x_NoMachine x_NoName x_NoExchange x_RoomError)  (F:Fun K "held_by" "held_by" jw8 f fd):FnOk P w K mg base (CXE P w) 1 f fd ["fill","kept","name"] (spF K mg 3 jve) :=
 jk0 F qjf (jk1 rfl) fun cdv A outer s H vs Q E hr h=>jkx rfl
  (jje (kv6 (jke jzo jzs (jjc (pv 0)) (jj8 (q_C jq6 (fun _=>jk4))) (jjy _) kqa) (jjp (jku (q_C jq6 (fun _=>jk4)))) jwu)
   (jjp (jku (qx4 (jke (jwh hr.units) jwm (jjc (pv 0)) (jj8 (q_C jwo (fun _=>jqn (by decide)))) (jjy _) kks) (q_V (pv 2)) (jwf (jkh (jjc (pv 1)) (jjc (pv 0)) (fun _ _=>rfl))))))) h
set_option maxHeartbeats 4000000 in
theorem qqi (T:Txt K mg x_NotSingle x_TooGreat x_NoRow x_NoText x_NoWay x_NoFit x_NoMachine x_NoName x_NoExchange x_RoomError) (D_held_by:jqm P w K mg base 1 "held_by" ["fill","kept","name"] (spF K mg 3 jve)) (F:Fun K "filled" "filled" jx4 f fd):FnOk P w K mg base (CXE P w) 2 f fd ["step","kept","name"] (spF K mg 3 jvz) :=
 jk0 F qkq (jk1 rfl) fun cdv A outer s H vs Q E hr h=>jkx rfl
  (jjp (jku (kwv (jvu rfl) jwl (jj8 (qwi (o:=.rt) (k:=1) (R:=[1,2]) ["fill","kept","name"] (kjg (jwf (jkh (jjc (pv 0)) (jj8 (q_C jj3 (fun _=>jj2))) (fun _ _=>rfl)))) (fun _ _ _ _ _=>(kkj (jjo (i:=0) (show (["fill","kept","name"]:List Str).Nodup by decide +kernel) rfl (by first | exact Or.inl rfl | exact Or.inr rfl)))) (fun _ _ _ _ _=>kvn) (fun _ _ _ _ _=>(jk3 D_held_by (hr.mono (by decide)) jj6 (jjj (q_V (pv 0)) (jjj (q_V (pv 1)) (jjj (q_V (pv 2)) jkg))))) jj6 ⟨_,_,rfl,rfl⟩ (by decide) (show ∀ j∈([1,2]:List Nat),j < 3 by decide))) T.b_tuple jwk))) h
set_option maxHeartbeats 4000000 in
theorem jzi (T:Txt K mg x_NotSingle x_TooGreat x_NoRow x_NoText x_NoWay x_NoFit x_NoMachine x_NoName x_NoExchange x_RoomError)  (F:Fun K "first_standing" "first_standing" jkf f fd):FnOk P w K mg base (CXE P w) 1 f fd ["machine"] (spF K mg 1 m_first_standing) :=
 jk0 F jzh (jk1 rfl) fun cdv A outer s H vs Q E hr h=>jkx rfl
  (jjp (jku (jvv (o:=.no) (jjj (q_C jj3 (fun _=>jj2)) (jjj (jkq jq5 jk8 (jj8 (jvv (o:=.no) (jjj (q_C jq6 (fun _=>jk4)) jkg))) (jkh (jkh (jkh (jjc (pv 0)) (jj8 (q_C jj3 (fun _=>jj2))) (fun _ _=>rfl)) (jj8 (q_C jj3 (fun _=>jj2))) (fun _ _=>rfl)) (jj8 (q_C jj3 (fun _=>jj2))) (fun _ _=>rfl))) jkg))))) h
set_option maxHeartbeats 4000000 in
theorem kx9 (T:Txt K mg x_NotSingle x_TooGreat x_NoRow x_NoText x_NoWay x_NoFit x_NoMachine x_NoName x_NoExchange x_RoomError)  (F:Fun K "steps_at" "steps_at" jvk f fd):FnOk P w K mg base (CXE P w) 1 f fd ["machine","standing"] (spF K mg 2 jkw) :=
 jk0 F kwz (jk1 rfl) fun cdv A outer s H vs Q E hr h=>jkx rfl
  (jjp (jku (jwf (jkh (jkh (jkh (jjc (pv 0)) (jj8 (q_C jj3 (fun _=>jj2))) (fun _ _=>rfl)) (jkh (jjc (pv 1)) (jj8 (q_C jj3 (fun _=>jj2))) (fun _ _=>rfl)) (fun _ _=>rfl)) (jj8 (q_C jj3 (fun _=>jj2))) (fun _ _=>rfl))))) h
set_option maxHeartbeats 4000000 in
theorem qjl (T:Txt K mg x_NotSingle x_TooGreat x_NoRow x_NoText x_NoWay x_NoFit x_NoMachine x_NoName x_NoExchange x_RoomError) (D_steps_at:jqm P w K mg base 1 "steps_at" ["machine","standing"] (spF K mg 2 jkw)) (D_fits:jqm P w K mg base 1 "fits" ["step","kept","name"] (spF K mg 3 jzp)) (F:Fun K "fitting" "fitting" jw9 f fd):FnOk P w K mg base (CXE P w) 2 f fd ["machine","standing","sign","name"] (spF K mg 4 m_fitting) :=
 jk0 F sc_fitting (jk1 rfl) fun cdv A outer s H vs Q E hr h=>jkx rfl
  (jje (jjx (i:=4) sc_fitting.nd rfl (by first | exact Or.inl rfl | exact Or.inr rfl) (jwf (jkh (jjc (pv 1)) (jj8 (q_C jj3 (fun _=>jj2))) (fun _ _=>rfl))))
   (jje (jjx (i:=5) sc_fitting.nd rfl (by first | exact Or.inl rfl | exact Or.inr rfl) (jk3 D_steps_at (hr.mono (by decide)) jj6 (jjj (q_V (pv 0)) (jjj (q_V (pv 1)) jkg))))
   (jjp (jku (qwi (o:=.rt) (k:=2) (R:=[2,4,3]) ["number","step","sign","kept","name"] (qzi (q_V (pv 5)) rfl T.b_enumerate) (fun _ _ _ _ _=>(vwb (is:=[0,1]) (kvp K (t:=gNs [0,1]) (n:=2) (jqx (jjo (i:=0) (show (["number","step","sign","kept","name"]:List Str).Nodup by decide +kernel) rfl (by first | exact Or.inl rfl | exact Or.inr rfl)) (jqx (jjo (i:=1) (show (["number","step","sign","kept","name"]:List Str).Nodup by decide +kernel) rfl (by first | exact Or.inl rfl | exact Or.inr rfl)) kji))))) (fun _ _ _ _ _=>(vjy (QW.pt (kzd (jke (jwh hr.units) jwm (jkh (jjc (pv 1)) (jj8 (q_C jj3 (fun _=>jj2))) (fun _ _=>rfl)) (jjc (pv 2)) (jjy _) kks) (kqj (kjf (jj8 (jk3 D_fits (hr.mono (by decide)) jj6 (jjj (q_V (pv 1)) (jjj (q_V (pv 3)) (jjj (q_V (pv 4)) jkg))))))))))) (fun _ _ _ _ _=>(q_V (pv 0))) jj6 ⟨_,_,rfl,rfl⟩ (by decide) (show ∀ j∈([2,4,3]:List Nat),j < 6 by decide)))))) h
set_option maxHeartbeats 4000000 in
theorem qqj (T:Txt K mg x_NotSingle x_TooGreat x_NoRow x_NoText x_NoWay x_NoFit x_NoMachine x_NoName x_NoExchange x_RoomError) (D_steps_at:jqm P w K mg base 1 "steps_at" ["machine","standing"] (spF K mg 2 jkw)) (D_filled:jqm P w K mg base 2 "filled" ["step","kept","name"] (spF K mg 3 jvz)) (F:Fun K "behind" "behind" jx5 f fd):FnOk P w K mg base (CXE P w) 3 f fd ["machine","standing","number","name"] (spF K mg 4 m_behind) :=
 jk0 F sc_behind (jk1 rfl) fun cdv A outer s H vs Q E hr h=>jkx rfl
  (jje (jjx (i:=4) sc_behind.nd rfl (by first | exact Or.inl rfl | exact Or.inr rfl) (jwf (jkh (jj8 (jk3 D_steps_at (hr.mono (by decide)) jj6 (jjj (q_V (pv 0)) (jjj (q_V (pv 1)) jkg)))) (jjc (pv 2)) (fun _ _=>rfl))))
   (jjp (jku (jvv (o:=.no) (jjj (jwf (jkh (jjc (pv 4)) (jj8 (q_C jj3 (fun _=>jj2))) (fun _ _=>rfl))) (jjj (jk3 D_filled (hr.mono (by decide)) jj6 (jjj (q_V (pv 4)) (jjj (jwf (jkh (jjc (pv 1)) (jj8 (q_C jj3 (fun _=>jj2))) (fun _ _=>rfl))) (jjj (q_V (pv 3)) jkg)))) jkg)))))) h
set_option maxHeartbeats 4000000 in
theorem kqn (T:Txt K mg x_NotSingle x_TooGreat x_NoRow x_NoText x_NoWay x_NoFit x_NoMachine x_NoName x_NoExchange x_RoomError)  (F:Fun K "names_held" "names_held" jqp f fd):FnOk P w K mg base (CXE P w) 1 f fd ["kept"] (spF K mg 1 m_names_held) :=
 jk0 F sc_names_held (jk1 rfl) fun cdv A outer s H vs Q E hr h=>jkx rfl
  (jje (jjx (i:=1) sc_names_held.nd rfl (by first | exact Or.inl rfl | exact Or.inr rfl) (jqi (o:=.rt) jkg))
   (jje (jzw (jxw ⟨_,_,rfl,rfl⟩) rfl (kjg (q_V (pv 0))) (kkj (jjo (i:=2) sc_names_held.nd rfl (by first | exact Or.inl rfl | exact Or.inr rfl)))
    (jjp (kv6 (QW.pt (kzd (jke kx8 kxt (jjc (pv 2)) (jj8 (q_C jq6 (fun _=>jk4))) (jjy _) qwa) (kqj (jke (jxy hr.units) jzc (jjc (pv 2)) (jjc (pv 1)) (by rfl) kv2)))) (jjp (jxs (i:=1) (jvx K PySem.F.plainAttrs_list PySem.F.slot_list_append PySem.F.type_list_append jki (pv 1) (jjr (q_V (pv 2)) jkp)))) jwu)))
   (jjp (jku (wj6 (pv 1)))))) h
set_option maxHeartbeats 4000000 in
theorem kjk (T:Txt K mg x_NotSingle x_TooGreat x_NoRow x_NoText x_NoWay x_NoFit x_NoMachine x_NoName x_NoExchange x_RoomError)  (F:Fun K "places_among" "places_among" jq1 f fd):FnOk P w K mg base (CXE P w) 1 f fd ["names","kept"] (spF K mg 2 jk9) :=
 jk0 F kje (jk1 rfl) fun cdv A outer s H vs Q E hr h=>jkx rfl
  (jjp (jku (kwv (jvu rfl) jwl (jj8 (qwi (o:=.rt) (k:=1) (R:=[0]) ["name","names"] (kjg (q_V (pv 1))) (fun _ _ _ _ _=>(kkj (jjo (i:=0) (show (["name","names"]:List Str).Nodup by decide +kernel) rfl (by first | exact Or.inl rfl | exact Or.inr rfl)))) (fun _ _ _ _ _=>kvn) (fun _ _ _ _ _=>(qx4 (jke jzo jzs (jjc (pv 0)) (jj8 (q_C jq6 (fun _=>jk4))) (jjy _) kqa) (q_C jq6 (fun _=>jk4)) (kx3 hr.units (jjc (pv 1)) (jjc (pv 0))))) jj6 ⟨_,_,rfl,rfl⟩ (by decide) (show ∀ j∈([0]:List Nat),j < 2 by decide))) T.b_tuple jwk))) h
set_option maxHeartbeats 4000000 in
theorem kqm (T:Txt K mg x_NotSingle x_TooGreat x_NoRow x_NoText x_NoWay x_NoFit x_NoMachine x_NoName x_NoExchange x_RoomError) (D_names_held:jqm P w K mg base 1 "names_held" ["kept"] (spF K mg 1 m_names_held)) (D_places_among:jqm P w K mg base 1 "places_among" ["names","kept"] (spF K mg 2 jk9)) (F:Fun K "plain_case" "plain_case" jqo f fd):FnOk P w K mg base (CXE P w) 2 f fd ["standing","numbers"] (spM K mg 1 jk2) :=
 jk0 F sc_plain_case (qkm rfl) fun cdv A outer s H vs Q E hr h=>qvo rfl
  (jje (kv6 (jke jzo jzs (jjc (pv 0)) (jj8 (q_C jq6 (fun _=>jk4))) (jjy _) kqa) (jjp (jku (q_C jq6 (fun _=>jk4)))) jwu)
   (jje (jjx (i:=2) sc_plain_case.nd rfl (by first | exact Or.inl rfl | exact Or.inr rfl) (jk3 D_names_held (hr.mono (by decide)) jj6 (jjj (jwf (jkh (jjc (pv 0)) (jj8 (q_C jj3 (fun _=>jj2))) (fun _ _=>rfl))) jkg)))
   (jje (jjx (i:=3) sc_plain_case.nd rfl (by first | exact Or.inl rfl | exact Or.inr rfl) (jvv (o:=.no) (jjj (jwf (jkh (jjc (pv 0)) (jj8 (q_C jj3 (fun _=>jj2))) (fun _ _=>rfl))) (jjj (jk3 D_places_among (hr.mono (by decide)) jj6 (jjj (q_V (pv 2)) (jjj (jwf (jkh (jjc (pv 0)) (jj8 (q_C jj3 (fun _=>jj2))) (fun _ _=>rfl))) jkg))) jkg))))
   (jjp (jku (jvv (o:=.no) (jjj (vw7 (i:=1) hr.units (pv 1) (jjc (pv 3)) (jj8 (kjh (kwm K) qwd (jjc (pv 1)) T.b_len jqu))) (jjj (QE.weak (kwv (jvu rfl) jwl (jjc (pv 2)) T.b_tuple jwk)) wj8)))))))) h
set_option maxHeartbeats 4000000 in
theorem kkl (T:Txt K mg x_NotSingle x_TooGreat x_NoRow x_NoText x_NoWay x_NoFit x_NoMachine x_NoName x_NoExchange x_RoomError) (D_fitting:jqm P w K mg base 2 "fitting" ["machine","standing","sign","name"] (spF K mg 4 m_fitting)) (D_behind:jqm P w K mg base 3 "behind" ["machine","standing","number","name"] (spF K mg 4 m_behind)) (F:Fun K "only_behind" "only_behind" jqa f fd):FnOk P w K mg base (CXE P w) 4 f fd ["machine","standing","sign","name"] (spF K mg 4 jkk) :=
 jk0 F sc_only_behind (jk1 rfl) fun cdv A outer s H vs Q E hr h=>jkx rfl
  (jje (jjx (i:=4) sc_only_behind.nd rfl (by first | exact Or.inl rfl | exact Or.inr rfl) (jk3 D_fitting (hr.mono (by decide)) jj6 (jjj (q_V (pv 0)) (jjj (q_V (pv 1)) (jjj (q_V (pv 2)) (jjj (q_V (pv 3)) jkg))))))
   (jje (kv6 (jke vx0 (qk1 (g:=fun a b=>decide (b < a))) (jj8 (kjh (jq4 K) jv1 (jjc (pv 4)) T.b_len jqu)) (jj8 (q_C jj3 (fun _=>jj2))) (jjy _) qjz) (jjp (vk0 T.e_NotSingle T.m_NotSingle jj6 jwo)) jwu)
   (jjp (jku (qx4 (kjf (jjc (pv 4))) (jk3 D_behind (hr.mono (by decide)) jj6 (jjj (q_V (pv 0)) (jjj (q_V (pv 1)) (jjj (jwf (jkh (jjc (pv 4)) (jj8 (q_C jj3 (fun _=>jj2))) (fun _ _=>rfl))) (jjj (q_V (pv 3)) jkg))))) (q_C jq6 (fun _=>jk4))))))) h
set_option maxHeartbeats 4000000 in
theorem kkk (T:Txt K mg x_NotSingle x_TooGreat x_NoRow x_NoText x_NoWay x_NoFit x_NoMachine x_NoName x_NoExchange x_RoomError) (D_plain_case:jqm P w K mg base 2 "plain_case" ["standing","numbers"] (spM K mg 1 jk2)) (D_only_behind:jqm P w K mg base 4 "only_behind" ["machine","standing","sign","name"] (spF K mg 4 jkk)) (D_names_held:jqm P w K mg base 1 "names_held" ["kept"] (spF K mg 1 m_names_held)) (F:Fun K "plain_cases" "plain_cases" jq9 f fd):FnOk P w K mg base (CXE P w) 5 f fd ["machine","pair","sign","numbers"] (spM K mg 3 jkj) :=
 jk0 F sc_plain_cases (qkm rfl) fun cdv A outer s H vs Q E hr h=>qvo rfl
  (jje (jjx (i:=4) sc_plain_cases.nd rfl (by first | exact Or.inl rfl | exact Or.inr rfl) (vw9 (jj8 (jkq (jjs rfl) jju (jj8 (kjh (jq4 K) jv1 (jj8 (jk3 D_names_held (hr.mono (by decide)) jj6 (jjj (jwf (jkh (jjc (pv 1)) (jj8 (q_C jj3 (fun _=>jj2))) (fun _ _=>rfl))) jkg))) T.b_len jqu)) (jj8 (q_C jj3 (fun _=>jj2))))) T.b_range T.b_list))
   (jjp (jku (qwi (o:=.rt) (k:=1) (R:=[0,1,2,3]) ["name","machine","pair","sign","numbers"] (kjg (QE.weak (q_V (pv 4)))) (fun _ _ _ _ _=>(kkj (jjo (i:=0) (show (["name","machine","pair","sign","numbers"]:List Str).Nodup by decide +kernel) rfl (by first | exact Or.inl rfl | exact Or.inr rfl)))) (fun _ _ _ _ _=>kvn) (fun _ _ _ _ _=>(qq3 (i:=4) D_plain_case (hr.mono (by decide)) jj6 (vzc (jk3 D_only_behind (hr.mono (by decide)) jj6 (jjj (q_V (pv 1)) (jjj (q_V (pv 2)) (jjj (q_V (pv 3)) (jjj (q_V (pv 0)) jkg))))) (wkq (i:=4) (pv 4))))) jj6 ⟨_,_,rfl,rfl⟩ (by decide) (show ∀ j∈([0,1,2,3]:List Nat),j < 5 by decide))))) h
set_option maxHeartbeats 4000000 in
theorem kxa (T:Txt K mg x_NotSingle x_TooGreat x_NoRow x_NoText x_NoWay x_NoFit x_NoMachine x_NoName x_NoExchange x_RoomError) (D_first_standing:jqm P w K mg base 1 "first_standing" ["machine"] (spF K mg 1 m_first_standing)) (D_plain_cases:jqm P w K mg base 5 "plain_cases" ["machine","pair","sign","numbers"] (spM K mg 3 jkj)) (D_names_held:jqm P w K mg base 1 "names_held" ["kept"] (spF K mg 1 m_names_held)) (F:Fun K "plain_of" "plain_of" jvl f fd):FnOk P w K mg base (CXE P w) 6 f fd ["machine"] (spF K mg 1 m_plain_of) :=
 jk0 F sc_plain_of (jk1 rfl) fun cdv A outer s H vs Q E hr h=>jkx rfl
  (jje (jjx (i:=1) sc_plain_of.nd rfl (by first | exact Or.inl rfl | exact Or.inr rfl) (vwd hr.units (jk3 D_first_standing (hr.mono (by decide)) jj6 (jjj (q_V (pv 0)) jkg)) (q_C jj3 (fun _=>jj2))))
   (jje (jjx (i:=2) sc_plain_of.nd rfl (by first | exact Or.inl rfl | exact Or.inr rfl) (jqi (o:=.rt) jkg))
   (jje (qky (jxw ⟨_,_,rfl,rfl⟩) (jke qxi (qk1 (g:=fun a b=>decide (a < b))) (jj8 (kjh (jq4 K) jv1 (jjc (pv 2)) T.b_len jqu)) (jj8 (kjh (kwm K) qwd (jjc (pv 1)) T.b_len jqu)) (jjy _) qjz) (jje (jjx (i:=3) sc_plain_of.nd rfl (by first | exact Or.inl rfl | exact Or.inr rfl) (jwf (jkh (jj8 (kwv (kq9 rfl) qj8 (jjc (pv 1)) T.b_list jx0)) (jj8 (kjh (jq4 K) jv1 (jjc (pv 2)) T.b_len jqu)) (fun _ _=>rfl))))
   (jje (vjz (i:=4) (o:=.rt) (k:=1) (R:=[0,3,1]) ["sign","machine","pair","numbers"] sc_plain_of.nd rfl (by first | exact Or.inl rfl | exact Or.inr rfl) (kjg (QE.weak (jwf (jkh (jjc (pv 0)) (jj8 (q_C jj3 (fun _=>jj2))) (fun _ _=>rfl))))) (fun _ _ _ _ _=>(kkj (jjo (i:=0) (show (["sign","machine","pair","numbers"]:List Str).Nodup by decide +kernel) rfl (by first | exact Or.inl rfl | exact Or.inr rfl)))) (fun _ _ _ _ _=>kvn) (fun _ _ _ _ _=>(qq3 (i:=3) D_plain_cases (hr.mono (by decide)) jj6 (vzc (q_V (pv 1)) (vzc (q_V (pv 2)) (vzc (q_V (pv 0)) (wkq (i:=3) (pv 3))))))) jj6 ⟨_,_,rfl,rfl⟩ (by decide) (show ∀ j∈([0,3,1]:List Nat),j < 5 by decide))
   (jjp (jxs (i:=2) (jvx K PySem.F.plainAttrs_list PySem.F.slot_list_append PySem.F.type_list_append jki (pv 2) (jjr (jvv (o:=.no) (jjj (kjh (jq4 K) jv1 (jj8 (jk3 D_names_held (hr.mono (by decide)) jj6 (jjj (jwf (jkh (jjc (pv 3)) (jj8 (q_C jj3 (fun _=>jj2))) (fun _ _=>rfl))) jkg))) T.b_len jqu) (jjj (jwf (jkh (jkh (jkh (jjc (pv 0)) (jj8 (q_C jj3 (fun _=>jj2))) (fun _ _=>rfl)) (jkh (jjc (pv 3)) (jj8 (q_C jj3 (fun _=>jj2))) (fun _ _=>rfl)) (fun _ _=>rfl)) (jj8 (q_C jj3 (fun _=>jj2))) (fun _ _=>rfl))) (jjj (q_V (pv 4)) jkg)))) jkp)))))))
   (jjp (jku (jvv (o:=.no) (jjj (jvv (o:=.no) (jjj (kwv (jz9 K) kkc (jkh (jjc (pv 0)) (jj8 (q_C jj3 (fun _=>jj2))) (fun _ _=>rfl)) T.b_list jx0) (jjj (q_V (pv 2)) jkg))) (jjj (kwv (kq9 rfl) qj8 (jjc (pv 1)) T.b_list jx0) jkg)))))))) h
set_option maxHeartbeats 4000000 in
theorem kvv (T:Txt K mg x_NotSingle x_TooGreat x_NoRow x_NoText x_NoWay x_NoFit x_NoMachine x_NoName x_NoExchange x_RoomError) (D_plain_of:jqm P w K mg base 6 "plain_of" ["machine"] (spF K mg 1 m_plain_of)) (F:Fun K "is_single" "is_single" jv2 f fd):FnOk P w K mg base (CXE P w) 7 f fd ["machine"] (spF K mg 1 jv8) :=
 jk0 F kvf (jk1 rfl) fun cdv A outer s H vs Q E hr h=>jkx rfl
  (jje (vw4 (cs:=["NotSingle"]) ⟨_,_,rfl,rfl⟩ T.m_NotSingle rfl (kk9 T.e_NotSingle T.n_NotSingle T.h_NotSingle_NotSingle kq8) (qq2 D_plain_of (hr.mono (by decide)) (jjj (q_V (pv 0)) jkg)) (fun x_x=>(jjp (jku (q_C qxg (fun _=>kvk))))))
   (jjp (jku (q_C qxg (fun _=>kvk))))) h
set_option maxHeartbeats 4000000 in
theorem kvz (T:Txt K mg x_NotSingle x_TooGreat x_NoRow x_NoText x_NoWay x_NoFit x_NoMachine x_NoName x_NoExchange x_RoomError)  (F:Fun K "_law_draw" "_law_draw" jv6 f fd):FnOk P w K mg base (CXE P w) 1 f fd ["_law_script","_law_k"] (spF K mg 2 jko) :=
 jk0 F sc__law_draw (jk1 rfl) fun cdv A outer s H vs Q E hr h=>jkx rfl
  (jje (jjx (i:=2) sc__law_draw.nd rfl (by first | exact Or.inl rfl | exact Or.inr rfl) (jkq jq5 jk8 (jj8 (q_C jj3 (fun _=>jj2))) (jj8 (jkq qzn vj9 (jj8 (q_C jj3 (fun _=>jj2))) (jj8 (q_C jj3 (fun _=>jj2)))))))
   (jje (kv6 (jke qxi (qk1 (g:=fun a b=>decide (a < b))) (jjc (pv 1)) (jj8 (kjh (jq4 K) jv1 (jjc (pv 0)) T.b_len jqu)) (jjy _) qjz) (jjp (jku (jkq jvh jvi (jj8 (jkq jq5 jk8 (jj8 (jkq jvh jvi (jkh (jjc (pv 0)) (jjc (pv 1)) (fun _ _=>rfl)) (jjc (pv 2)))) (jj8 (jkq qzn vj9 (jj8 (q_C jj3 (fun _=>jj2))) (jj8 (q_C jj3 (fun _=>jj2))))))) (jjc (pv 2))))) jwu)
   (jje (jjx (i:=3) sc__law_draw.nd rfl (by first | exact Or.inl rfl | exact Or.inr rfl) (jkq (jjs rfl) jju (jj8 (jkq (jjs rfl) jju (jj8 (jkq jq5 jk8 (jjc (pv 1)) (jjc (pv 1)))) (jj8 (jkq jq5 jk8 (jj8 (q_C jj3 (fun _=>jj2))) (jjc (pv 1)))))) (jj8 (q_C jj3 (fun _=>jj2)))))
   (jje (kv6 (jke (vku hr.units) vqz (jjc (pv 0)) (jj8 (jqi (o:=.rt) jkg)) (jjy _) vqw) (jjp (jjx (i:=3) sc__law_draw.nd rfl (by first | exact Or.inl rfl | exact Or.inr rfl) (jkq (jjs rfl) jju (jjc (pv 3)) (jj8 (jkq jq5 jk8 (jj8 (jkq jvh jvi (jkh (jjc (pv 0)) (jj8 (jkq jvh jvi (jjc (pv 1)) (jj8 (kjh (jq4 K) jv1 (jjc (pv 0)) T.b_len jqu)))) (fun _ _=>rfl)) (jj8 (q_C jj3 (fun _=>jj2))))) (jj8 (jkq (jjs rfl) jju (jj8 (jkq jq5 jk8 (jj8 (q_C jj3 (fun _=>jj2))) (jjc (pv 1)))) (jj8 (q_C jj3 (fun _=>jj2)))))))))) jwu)
   (jje (jjx (i:=4) sc__law_draw.nd rfl (by first | exact Or.inl rfl | exact Or.inr rfl) (q_C jj3 (fun _=>jj2)))
   (jje (jzw (jxw ⟨_,_,rfl,rfl⟩) rfl (jxq (jj8 (q_C jj3 (fun _=>jj2))) rfl T.b_range) (kkj (jjo (i:=5) sc__law_draw.nd rfl (by first | exact Or.inl rfl | exact Or.inr rfl)))
    (jje (jjx (i:=3) sc__law_draw.nd rfl (by first | exact Or.inl rfl | exact Or.inr rfl) (jkq jvh jvi (jj8 (jkq (jjs rfl) jju (jj8 (jkq (jjs rfl) jju (jj8 (jkq (jjs rfl) jju (jj8 (jkq jq5 jk8 (jjc (pv 3)) (jjc (pv 3)))) (jj8 (jkq jq5 jk8 (jj8 (q_C jj3 (fun _=>jj2))) (jjc (pv 3)))))) (jj8 (jkq jq5 jk8 (jj8 (q_C jj3 (fun _=>jj2))) (jjc (pv 5)))))) (jjc (pv 1)))) (jj8 (q_C jj3 (fun _=>jj2)))))
   (jjp (jjx (i:=4) sc__law_draw.nd rfl (by first | exact Or.inl rfl | exact Or.inr rfl) (jkq (jjs rfl) jju (jj8 (jkq jq5 jk8 (jjc (pv 4)) (jj8 (q_C jj3 (fun _=>jj2))))) (jj8 (jkq jvh jvi (jj8 (jkq jq5 jk8 (jjc (pv 3)) (jj8 (q_C jj3 (fun _=>jj2))))) (jj8 (q_C jj3 (fun _=>jj2))))))))))
   (jjp (jku (jkq jvh jvi (jjc (pv 4)) (jjc (pv 2))))))))))) h
set_option maxHeartbeats 4000000 in
theorem kkn (T:Txt K mg x_NotSingle x_TooGreat x_NoRow x_NoText x_NoWay x_NoFit x_NoMachine x_NoName x_NoExchange x_RoomError)  (F:Fun K "_law_digits" "_law_digits" jqc f fd):FnOk P w K mg base (CXE P w) 1 f fd ["_law_x","_law_sizes"] (spF K mg 2 m__law_digits) :=
 jk0 F sc__law_digits (jk1 rfl) fun cdv A outer s H vs Q E hr h=>jkx rfl
  (jje (jjx (i:=2) sc__law_digits.nd rfl (by first | exact Or.inl rfl | exact Or.inr rfl) (jqi (o:=.rt) jkg))
   (jje (jzw (jxw ⟨_,_,rfl,rfl⟩) rfl (kjg (q_V (pv 1))) (kkj (jjo (i:=3) sc__law_digits.nd rfl (by first | exact Or.inl rfl | exact Or.inr rfl)))
    (jje (jxs (i:=2) (jvx K PySem.F.plainAttrs_list PySem.F.slot_list_append PySem.F.type_list_append jki (pv 2) (jjr (jkq jvh jvi (jjc (pv 0)) (jjc (pv 3))) jkp)))
   (jjp (jjx (i:=0) sc__law_digits.nd rfl (by first | exact Or.inl rfl | exact Or.inr rfl) (jkq kzh vjc (jjc (pv 0)) (jjc (pv 3)))))))
   (jjp (jku (wj6 (pv 2)))))) h
set_option maxHeartbeats 4000000 in
theorem kqo (T:Txt K mg x_NotSingle x_TooGreat x_NoRow x_NoText x_NoWay x_NoFit x_NoMachine x_NoName x_NoExchange x_RoomError) (D__law_digits:jqm P w K mg base 1 "_law_digits" ["_law_x","_law_sizes"] (spF K mg 2 m__law_digits)) (F:Fun K "_law_signs" "_law_signs" jqq f fd):FnOk P w K mg base (CXE P w) 2 f fd ["_law_x","_law_many"] (spF K mg 2 m__law_signs) :=
 jk0 F sc__law_signs (jk1 rfl) fun cdv A outer s H vs Q E hr h=>jkx rfl
  (jje (jjx (i:=2) sc__law_signs.nd rfl (by first | exact Or.inl rfl | exact Or.inr rfl) (q_C jwo (fun _=>jqn (by decide))))
   (jje (qkz (jk3 D__law_digits (hr.mono (by decide)) jj6 (jjj (q_V (pv 0)) (jjj (jqi (o:=.rt) (jjj (q_C jj3 (fun _=>jj2)) (jjj (q_C jj3 (fun _=>jj2)) (jjj (q_C jj3 (fun _=>jj2)) jkg)))) jkg))) (vwb (is:=[3,4,5]) (kvp K (t:=gNs [3,4,5]) (n:=3) (jqx (jjo (i:=3) sc__law_signs.nd rfl (by first | exact Or.inl rfl | exact Or.inr rfl)) (jqx (jjo (i:=4) sc__law_signs.nd rfl (by first | exact Or.inl rfl | exact Or.inr rfl)) (jqx (jjo (i:=5) sc__law_signs.nd rfl (by first | exact Or.inl rfl | exact Or.inr rfl)) kji))))))
   (jje (jjx (i:=4) sc__law_signs.nd rfl (by first | exact Or.inl rfl | exact Or.inr rfl) (jkq jvh jvi (jjc (pv 4)) (jj8 (jkq (jjs rfl) jju (jjc (pv 3)) (jj8 (q_C jj3 (fun _=>jj2)))))))
   (jje (jjx (i:=6) sc__law_signs.nd rfl (by first | exact Or.inl rfl | exact Or.inr rfl) (jqi (o:=.rt) jkg))
   (jje (jzw (jxw ⟨_,_,rfl,rfl⟩) rfl (jxq (jjc (pv 1)) rfl T.b_range) (kkj (jjo (i:=7) sc__law_signs.nd rfl (by first | exact Or.inl rfl | exact Or.inr rfl)))
    (jje (jjx (i:=8) sc__law_signs.nd rfl (by first | exact Or.inl rfl | exact Or.inr rfl) (q_C jwo (fun _=>jqn (by decide))))
   (jje (jzw (jxw ⟨_,_,rfl,rfl⟩) rfl (jxq (jj8 (jkq (jjs rfl) jju (jjc (pv 3)) (jj8 (q_C jj3 (fun _=>jj2))))) rfl T.b_range) (kkj (jjo (i:=9) sc__law_signs.nd rfl (by first | exact Or.inl rfl | exact Or.inr rfl)))
    (jje (jjx (i:=10) sc__law_signs.nd rfl (by first | exact Or.inl rfl | exact Or.inr rfl) (jkq (jjs rfl) jju (jj8 (jkq kzh vjc (jjc (pv 0)) (jj8 (jkq (jjs rfl) jju (jj8 (q_C jj3 (fun _=>jj2))) (jj8 (jkq jq5 jk8 (jj8 (jkq jq5 jk8 (jj8 (q_C jj3 (fun _=>jj2))) (jjc (pv 9)))) (jjc (pv 9)))))))) (jj8 (jkq jq5 jk8 (jj8 (jkq jq5 jk8 (jjc (pv 7)) (jj8 (jkq (jjs rfl) jju (jjc (pv 5)) (jj8 (q_C jj3 (fun _=>jj2))))))) (jj8 (kwv kwn vjb (jj8 (jxr (jwh hr.units) jwm (jjc (pv 9)) (jjc (pv 4)) (jjy _))) T.b_int vj5))))))
   (jjp (jjx (i:=8) sc__law_signs.nd rfl (by first | exact Or.inl rfl | exact Or.inr rfl) (jkq (jjs rfl) jju (jjc (pv 8)) (jkh (jjc (pv 2)) (jj8 (jkq jvh jvi (jjc (pv 10)) (jj8 (q_C jj3 (fun _=>jj2))))) (fun _ _=>rfl)))))))
   (jjp (jxs (i:=6) (jvx K PySem.F.plainAttrs_list PySem.F.slot_list_append PySem.F.type_list_append jki (pv 6) (jjr (q_V (pv 8)) jkp)))))))
   (jjp (jku (kjh (kxp rfl) qwc (jjc (pv 6)) T.b_sorted qw8)))))))) h
set_option maxHeartbeats 4000000 in
theorem kw0 (T:Txt K mg x_NotSingle x_TooGreat x_NoRow x_NoText x_NoWay x_NoFit x_NoMachine x_NoName x_NoExchange x_RoomError)  (F:Fun K "_law_copy" "_law_copy" jv7 f fd):FnOk P w K mg base (CXE P w) 1 f fd ["_law_machine_here"] (spF K mg 1 m__law_copy) :=
 jk0 F kvi (jk1 rfl) fun cdv A outer s H vs Q E hr h=>jkx rfl
  (jjp (jku (jvv (o:=.no) (jjj (kwv (jz9 K) kkc (jkh (jjc (pv 0)) (jj8 (q_C jj3 (fun _=>jj2))) (fun _ _=>rfl)) T.b_list jx0) (jjj (qwi (o:=.rt) (k:=1) (R:=[]) ["_law_room"] (kjg (jwf (jkh (jjc (pv 0)) (jj8 (q_C jj3 (fun _=>jj2))) (fun _ _=>rfl)))) (fun _ _ _ _ _=>(kkj (jjo (i:=0) (show (["_law_room"]:List Str).Nodup by decide +kernel) rfl (by first | exact Or.inl rfl | exact Or.inr rfl)))) (fun _ _ _ _ _=>kvn) (fun _ _ _ _ _=>(jvv (o:=.no) (jjj (jwf (jkh (jjc (pv 0)) (jj8 (q_C jj3 (fun _=>jj2))) (fun _ _=>rfl))) (jjj (jwf (jkh (jjc (pv 0)) (jj8 (q_C jj3 (fun _=>jj2))) (fun _ _=>rfl))) (jjj (kwv (jz9 K) kkc (jkh (jjc (pv 0)) (jj8 (q_C jj3 (fun _=>jj2))) (fun _ _=>rfl)) T.b_list jx0) jkg))))) jj6 ⟨_,_,rfl,rfl⟩ (by decide) (show ∀ j∈([]:List Nat),j < 1 by decide)) jkg))))) h
set_option maxHeartbeats 4000000 in
theorem kvx (T:Txt K mg x_NotSingle x_TooGreat x_NoRow x_NoText x_NoWay x_NoFit x_NoMachine x_NoName x_NoExchange x_RoomError)  (F:Fun K "_law_fits" "_law_fits" jv4 f fd):FnOk P w K mg base (CXE P w) 1 f fd ["_law_step","_law_kept","_law_name"] (spF K mg 3 jq7) :=
 jk0 F kvg (jk1 rfl) fun cdv A outer s H vs Q E hr h=>jkx rfl
  (jje (kv6 (jke (jwh hr.units) jwm (jkh (jjc (pv 0)) (jj8 (q_C jj3 (fun _=>jj2))) (fun _ _=>rfl)) (jj8 (q_C jwo (fun _=>jqn (by decide)))) (jjy _) kks) (jjp (jku (jxr (jxy hr.units) jzc (jjc (pv 2)) (jjc (pv 1)) (by rfl)))) jwu)
   (jjp (jku (q_or (jj8 (jxr (jwh hr.units) jwm (jkh (jjc (pv 0)) (jj8 (q_C jj3 (fun _=>jj2))) (fun _ _=>rfl)) (jj8 (q_C jwo (fun _=>jqn (by decide)))) (jjy _))) (qq1 (jxr (jwh hr.units) jwm (jkh (jjc (pv 1)) (jkh (jjc (pv 0)) (jj8 (q_C jj3 (fun _=>jj2))) (fun _ _=>rfl)) (fun _ _=>rfl)) (jjc (pv 2)) (jjy _))))))) h
set_option maxHeartbeats 4000000 in
theorem kkm (T:Txt K mg x_NotSingle x_TooGreat x_NoRow x_NoText x_NoWay x_NoFit x_NoMachine x_NoName x_NoExchange x_RoomError)  (F:Fun K "_law_filled" "_law_filled" jqb f fd):FnOk P w K mg base (CXE P w) 1 f fd ["_law_step","_law_kept","_law_name"] (spF K mg 3 jkl) :=
 jk0 F sc__law_filled (jk1 rfl) fun cdv A outer s H vs Q E hr h=>jkx rfl
  (jje (jjx (i:=3) sc__law_filled.nd rfl (by first | exact Or.inl rfl | exact Or.inr rfl) (jqi (o:=.rt) jkg))
   (jje (jzw (jxw ⟨_,_,rfl,rfl⟩) rfl (kjg (jwf (jkh (jjc (pv 0)) (jj8 (q_C jj3 (fun _=>jj2))) (fun _ _=>rfl)))) (kkj (jjo (i:=4) sc__law_filled.nd rfl (by first | exact Or.inl rfl | exact Or.inr rfl)))
    (jjp (kv6 (QW.pt (qx3 (jke jzo jzs (jjc (pv 4)) (jj8 (q_C jq6 (fun _=>jk4))) (jjy _) kqa) (qq0 (jke (jwh hr.units) jwm (jjc (pv 4)) (jj8 (q_C jwo (fun _=>jqn (by decide)))) (jjy _) kks)))) (jjp (jxs (i:=3) (jvx K PySem.F.plainAttrs_list PySem.F.slot_list_append PySem.F.type_list_append jki (pv 3) (jjr (jwf (jkh (jj8 (jqi (o:=.rt) (jjj (q_V (pv 2)) (jjj (q_C jq6 (fun _=>jk4)) jkg)))) (jj8 (kwv kwn vjb (jj8 (jxr jzo jzs (jjc (pv 4)) (jj8 (q_C jq6 (fun _=>jk4))) (jjy _))) T.b_int vj5)) (fun _ _=>rfl))) jkp)))) (jjp (jxs (i:=3) (jvx K PySem.F.plainAttrs_list PySem.F.slot_list_append PySem.F.type_list_append jki (pv 3) (jjr (jwf (jkh (jjc (pv 1)) (jjc (pv 4)) (fun _ _=>rfl))) jkp)))))))
   (jjp (jku (kwv (jvu rfl) jwl (jjc (pv 3)) T.b_tuple jwk))))) h
set_option maxHeartbeats 4000000 in
theorem kjm (T:Txt K mg x_NotSingle x_TooGreat x_NoRow x_NoText x_NoWay x_NoFit x_NoMachine x_NoName x_NoExchange x_RoomError) (D__law_fits:jqm P w K mg base 1 "_law_fits" ["_law_step","_law_kept","_law_name"] (spF K mg 3 jq7)) (F:Fun K "_law_fitting" "_law_fitting" jq3 f fd):FnOk P w K mg base (CXE P w) 2 f fd ["_law_machine_here","_law_standing","_law_sign","_law_name"] (spF K mg 4 m__law_fitting) :=
 jk0 F sc__law_fitting (jk1 rfl) fun cdv A outer s H vs Q E hr h=>jkx rfl
  (jje (jjx (i:=4) sc__law_fitting.nd rfl (by first | exact Or.inl rfl | exact Or.inr rfl) (jwf (jkh (jkh (jkh (jjc (pv 0)) (jj8 (q_C jj3 (fun _=>jj2))) (fun _ _=>rfl)) (jkh (jjc (pv 1)) (jj8 (q_C jj3 (fun _=>jj2))) (fun _ _=>rfl)) (fun _ _=>rfl)) (jj8 (q_C jj3 (fun _=>jj2))) (fun _ _=>rfl))))
   (jjp (jku (qwi (o:=.rt) (k:=1) (R:=[4,2,1,3]) ["_law_k","_law_steps","_law_sign","_law_standing","_law_name"] (jxq (jj8 (kjh (jq4 K) jv1 (jjc (pv 4)) T.b_len jqu)) rfl T.b_range) (fun _ _ _ _ _=>(kkj (jjo (i:=0) (show (["_law_k","_law_steps","_law_sign","_law_standing","_law_name"]:List Str).Nodup by decide +kernel) rfl (by first | exact Or.inl rfl | exact Or.inr rfl)))) (fun _ _ _ _ _=>(vjy (QW.pt (kzd (jke (jwh hr.units) jwm (jkh (jkh (jjc (pv 1)) (jjc (pv 0)) (fun _ _=>rfl)) (jj8 (q_C jj3 (fun _=>jj2))) (fun _ _=>rfl)) (jjc (pv 2)) (jjy _) kks) (kqj (kjf (jj8 (jk3 D__law_fits (hr.mono (by decide)) jj6 (jjj (jwf (jkh (jjc (pv 1)) (jjc (pv 0)) (fun _ _=>rfl))) (jjj (jwf (jkh (jjc (pv 3)) (jj8 (q_C jj3 (fun _=>jj2))) (fun _ _=>rfl))) (jjj (q_V (pv 4)) jkg))))))))))) (fun _ _ _ _ _=>(q_V (pv 0))) jj6 ⟨_,_,rfl,rfl⟩ (by decide) (show ∀ j∈([4,2,1,3]:List Nat),j < 5 by decide))))) h
set_option maxHeartbeats 4000000 in
theorem kko (T:Txt K mg x_NotSingle x_TooGreat x_NoRow x_NoText x_NoWay x_NoFit x_NoMachine x_NoName x_NoExchange x_RoomError) (D__law_filled:jqm P w K mg base 1 "_law_filled" ["_law_step","_law_kept","_law_name"] (spF K mg 3 jkl)) (F:Fun K "_law_behind" "_law_behind" jqd f fd):FnOk P w K mg base (CXE P w) 2 f fd ["_law_machine_here","_law_standing","_law_k","_law_name"] (spF K mg 4 m__law_behind) :=
 jk0 F sc__law_behind (jk1 rfl) fun cdv A outer s H vs Q E hr h=>jkx rfl
  (jje (jjx (i:=4) sc__law_behind.nd rfl (by first | exact Or.inl rfl | exact Or.inr rfl) (jwf (jkh (jkh (jkh (jkh (jjc (pv 0)) (jj8 (q_C jj3 (fun _=>jj2))) (fun _ _=>rfl)) (jkh (jjc (pv 1)) (jj8 (q_C jj3 (fun _=>jj2))) (fun _ _=>rfl)) (fun _ _=>rfl)) (jj8 (q_C jj3 (fun _=>jj2))) (fun _ _=>rfl)) (jjc (pv 2)) (fun _ _=>rfl))))
   (jjp (jku (jvv (o:=.no) (jjj (jwf (jkh (jjc (pv 4)) (jj8 (q_C jj3 (fun _=>jj2))) (fun _ _=>rfl))) (jjj (jk3 D__law_filled (hr.mono (by decide)) jj6 (jjj (q_V (pv 4)) (jjj (jwf (jkh (jjc (pv 1)) (jj8 (q_C jj3 (fun _=>jj2))) (fun _ _=>rfl))) (jjj (q_V (pv 3)) jkg)))) jkg)))))) h
set_option maxHeartbeats 4000000 in
theorem kqp (T:Txt K mg x_NotSingle x_TooGreat x_NoRow x_NoText x_NoWay x_NoFit x_NoMachine x_NoName x_NoExchange x_RoomError)  (F:Fun K "_law_kinds" "_law_kinds" jqr f fd):FnOk0 P w K mg base 1 f fd ["_law_error"] (spF K mg 1 jqs) :=
 vv1 F sc__law_kinds (jk1 rfl) fun cdv A outer s H vs Q hr h=>jkx rfl
  (jje (jjx (i:=1) sc__law_kinds.nd rfl (by first | exact Or.inl rfl | exact Or.inr rfl) (jqi (o:=.rt) (jjj (kki (jjc (pv 0)) T.b_isinstance (jxv T.m_NotSingle) rfl (jwi T.n_NotSingle T.i_NotSingle_NotSingle jw4)) (jjj (kki (jjc (pv 0)) T.b_isinstance (qqe (v:=.ty "ValueError") rfl T.b_ValueError kv1 rfl) rfl (vxp T.n_NotSingle T.i_NotSingle_ValueError jw4)) (jjj (kki (jjc (pv 0)) T.b_isinstance (jxv T.m_NoExchange) rfl (jwi T.n_NotSingle T.i_NotSingle_NoExchange jw4)) jkg)))))
   (jje (jjx (i:=1) sc__law_kinds.nd rfl (by first | exact Or.inl rfl | exact Or.inr rfl) (jkq (jjs rfl) jju (jjc (pv 1)) (jj8 (jqi (o:=.rt) (jjj (kki (jjc (pv 0)) T.b_isinstance (jxv T.m_NoFit) rfl (jwi T.n_NotSingle T.i_NotSingle_NoFit jw4)) (jjj (kki (jjc (pv 0)) T.b_isinstance (jxv T.m_NoMachine) rfl (jwi T.n_NotSingle T.i_NotSingle_NoMachine jw4)) (jjj (kki (jjc (pv 0)) T.b_isinstance (jxv T.m_NoName) rfl (jwi T.n_NotSingle T.i_NotSingle_NoName jw4)) jkg)))))))
   (jje (jjx (i:=1) sc__law_kinds.nd rfl (by first | exact Or.inl rfl | exact Or.inr rfl) (jkq (jjs rfl) jju (jjc (pv 1)) (jj8 (jqi (o:=.rt) (jjj (kki (jjc (pv 0)) T.b_isinstance (jxv T.m_NoRow) rfl (jwi T.n_NotSingle T.i_NotSingle_NoRow jw4)) (jjj (kki (jjc (pv 0)) T.b_isinstance (jxv T.m_NoText) rfl (jwi T.n_NotSingle T.i_NotSingle_NoText jw4)) (jjj (kki (jjc (pv 0)) T.b_isinstance (jxv T.m_NoWay) rfl (jwi T.n_NotSingle T.i_NotSingle_NoWay jw4)) jkg)))))))
   (jjp (jku (jkq (jjs rfl) jju (jjc (pv 1)) (jj8 (jqi (o:=.rt) (jjj (kki (jjc (pv 0)) T.b_isinstance (jxv T.m_TooGreat) rfl (jwi T.n_NotSingle T.i_NotSingle_TooGreat jw4)) jkg))))))))) h
set_option maxHeartbeats 4000000 in
theorem kvy (T:Txt K mg x_NotSingle x_TooGreat x_NoRow x_NoText x_NoWay x_NoFit x_NoMachine x_NoName x_NoExchange x_RoomError)  (F:Fun K "_law_fill" "_law_fill" jv5 f fd):FnOk P w K mg base (CXE P w) 1 f fd ["_law_way","_law_number","_law_here"] (spF K mg 3 jva) :=
 jk0 F kvh (jk1 rfl) fun cdv A outer s H vs Q E hr h=>jkx rfl
  (jje (kv6 (jke qxi (qk1 (g:=fun a b=>decide (a < b))) (jjc (pv 0)) (jj8 (q_C jj3 (fun _=>jj2))) (jjy _) qjz) (jjp (jku (q_C jwo (fun _=>jqn (by decide))))) jwu)
   (jje (kv6 (QW.pt (qx3 (jke (jwh hr.units) jwm (jjc (pv 0)) (jj8 (q_C jj3 (fun _=>jj2))) (jjy _) kks) (qq0 (jke (jwh hr.units) jwm (jjc (pv 2)) (jj8 (q_C jj3 (fun _=>jj2))) (jjy _) kks)))) (jjp (jku (q_C jq6 (fun _=>jk4)))) jwu)
   (jjp (jku (jkq jvh jvi (jjc (pv 1)) (jjc (pv 2))))))) h
set_option maxHeartbeats 4000000 in
theorem kjl (T:Txt K mg x_NotSingle x_TooGreat x_NoRow x_NoText x_NoWay x_NoFit x_NoMachine x_NoName x_NoExchange x_RoomError) (D__law_digits:jqm P w K mg base 1 "_law_digits" ["_law_x","_law_sizes"] (spF K mg 2 m__law_digits)) (D__law_draw:jqm P w K mg base 1 "_law_draw" ["_law_script","_law_k"] (spF K mg 2 jko)) (D__law_fill:jqm P w K mg base 1 "_law_fill" ["_law_way","_law_number","_law_here"] (spF K mg 3 jva)) (F:Fun K "_law_machine" "_law_machine" jq2 f fd):FnOk P w K mg base (CXE P w) 2 f fd ["_law_script","_law_start","_law_signs_here"] (spF K mg 3 jkn) :=
 jk0 F sc__law_machine (jk1 rfl) fun cdv A outer s H vs Q E hr h=>jkx rfl
  (jje (jjx (i:=3) sc__law_machine.nd rfl (by first | exact Or.inl rfl | exact Or.inr rfl) (jk3 D__law_digits (hr.mono (by decide)) jj6 (jjj (jk3 D__law_draw (hr.mono (by decide)) jj6 (jjj (q_V (pv 0)) (jjj (q_V (pv 1)) jkg))) (jjj (jkq (jjs rfl) jju (jj8 (jkq (jjs rfl) jju (jj8 (jkq (jjs rfl) jju (jj8 (jqi (o:=.rt) (jjj (q_C jj3 (fun _=>jj2)) (jjj (q_C jj3 (fun _=>jj2)) jkg)))) (jj8 (jkq jq5 jk8 (jj8 (jqi (o:=.rt) (jjj (q_C jj3 (fun _=>jj2)) jkg))) (jj8 (q_C jj3 (fun _=>jj2))))))) (jj8 (jkq jq5 jk8 (jj8 (jqi (o:=.rt) (jjj (q_C jj3 (fun _=>jj2)) jkg))) (jj8 (q_C jj3 (fun _=>jj2))))))) (jj8 (jkq jq5 jk8 (jj8 (jqi (o:=.rt) (jjj (q_C jj3 (fun _=>jj2)) jkg))) (jj8 (q_C jj3 (fun _=>jj2)))))) jkg))))
   (jje (jjx (i:=4) sc__law_machine.nd rfl (by first | exact Or.inl rfl | exact Or.inr rfl) (jkq (jjs rfl) jju (jj8 (q_C jj3 (fun _=>jj2))) (jkh (jjc (pv 3)) (jj8 (q_C jj3 (fun _=>jj2))) (fun _ _=>rfl))))
   (jje (jjx (i:=5) sc__law_machine.nd rfl (by first | exact Or.inl rfl | exact Or.inr rfl) (jkq (jjs rfl) jju (jj8 (jqi (o:=.rt) (jjj (jkq jvh jvi (jkh (jjc (pv 3)) (jj8 (q_C jj3 (fun _=>jj2))) (fun _ _=>rfl)) (jj8 (q_C jj3 (fun _=>jj2)))) jkg))) (jj8 (qwi (o:=.rt) (k:=1) (R:=[3]) ["_law_r","_law_head"] (vwa (jj8 (q_C jj3 (fun _=>jj2))) (jjc (pv 4)) rfl T.b_range) (fun _ _ _ _ _=>(kkj (jjo (i:=0) (show (["_law_r","_law_head"]:List Str).Nodup by decide +kernel) rfl (by first | exact Or.inl rfl | exact Or.inr rfl)))) (fun _ _ _ _ _=>kvn) (fun _ _ _ _ _=>(jkq (jjs rfl) jju (jj8 (q_C jj3 (fun _=>jj2))) (jj8 (jkq jvh jvi (jkh (jjc (pv 1)) (jj8 (jkq (jjs rfl) jju (jj8 (q_C jj3 (fun _=>jj2))) (jjc (pv 0)))) (fun _ _=>rfl)) (jj8 (jkq (jjs rfl) jju (jj8 (q_C jj3 (fun _=>jj2))) (jkh (jjc (pv 1)) (jj8 (q_C jj3 (fun _=>jj2))) (fun _ _=>rfl)))))))) jj6 ⟨_,_,rfl,rfl⟩ (by decide) (show ∀ j∈([3]:List Nat),j < 16 by decide)))))
   (jje (jjx (i:=6) sc__law_machine.nd rfl (by first | exact Or.inl rfl | exact Or.inr rfl) (jqi (o:=.rt) jkg))
   (jje (jzw (jxw ⟨_,_,rfl,rfl⟩) rfl (jxq (jjc (pv 4)) rfl T.b_range) (kkj (jjo (i:=7) sc__law_machine.nd rfl (by first | exact Or.inl rfl | exact Or.inr rfl)))
    (jje (jjx (i:=8) sc__law_machine.nd rfl (by first | exact Or.inl rfl | exact Or.inr rfl) (jqi (o:=.rt) jkg))
   (jje (jzw (jxw ⟨_,_,rfl,rfl⟩) rfl (jxq (jj8 (kjh (jq4 K) jv1 (jjc (pv 2)) T.b_len jqu)) rfl T.b_range) (kkj (jjo (i:=9) sc__law_machine.nd rfl (by first | exact Or.inl rfl | exact Or.inr rfl)))
    (jje (jjx (i:=10) sc__law_machine.nd rfl (by first | exact Or.inl rfl | exact Or.inr rfl) (jk3 D__law_draw (hr.mono (by decide)) jj6 (jjj (q_V (pv 0)) (jjj (jkq (jjs rfl) jju (jj8 (jkq (jjs rfl) jju (jj8 (jkq (jjs rfl) jju (jjc (pv 1)) (jj8 (q_C jj3 (fun _=>jj2))))) (jj8 (jkq jq5 jk8 (jjc (pv 7)) (jj8 (kjh (jq4 K) jv1 (jjc (pv 2)) T.b_len jqu)))))) (jjc (pv 9))) jkg))))
   (jje (jjx (i:=10) sc__law_machine.nd rfl (by first | exact Or.inl rfl | exact Or.inr rfl) (jk3 D__law_digits (hr.mono (by decide)) jj6 (jjj (q_V (pv 10)) (jjj (jkq (jjs rfl) jju (jj8 (jqi (o:=.rt) (jjj (q_C jj3 (fun _=>jj2)) jkg))) (jj8 (jkq jq5 jk8 (jj8 (jqi (o:=.rt) (jjj (q_C jj3 (fun _=>jj2)) jkg))) (jj8 (q_C jj3 (fun _=>jj2)))))) jkg))))
   (jje (jjx (i:=11) sc__law_machine.nd rfl (by first | exact Or.inl rfl | exact Or.inr rfl) (jkq (jjs rfl) jju (jj8 (vw9 (jkh (jjc (pv 5)) (jjc (pv 7)) (fun _ _=>rfl)) T.b_range T.b_list)) (jj8 (jqi (o:=.rt) (jjj (q_C jwo (fun _=>jqn (by decide))) (jjj (q_C jwo (fun _=>jqn (by decide))) jkg))))))
   (jjp (jzw (jxw ⟨_,_,rfl,rfl⟩) rfl (jxq (jkh (jj8 (jqi (o:=.rt) (jjj (q_C jj3 (fun _=>jj2)) (jjj (q_C jj3 (fun _=>jj2)) (jjj (q_C jj3 (fun _=>jj2)) (jjj (q_C jj3 (fun _=>jj2)) (jjj (q_C jj3 (fun _=>jj2)) (jjj (q_C jj3 (fun _=>jj2)) (jjj (q_C jj3 (fun _=>jj2)) (jjj (q_C jj3 (fun _=>jj2)) (jjj (q_C jj3 (fun _=>jj2)) (jjj (q_C jj3 (fun _=>jj2)) jkg)))))))))))) (jkh (jjc (pv 10)) (jj8 (q_C jj3 (fun _=>jj2))) (fun _ _=>rfl)) (fun _ _=>rfl)) rfl T.b_range) (kkj (jjo (i:=12) sc__law_machine.nd rfl (by first | exact Or.inl rfl | exact Or.inr rfl)))
    (jje (jjx (i:=13) sc__law_machine.nd rfl (by first | exact Or.inl rfl | exact Or.inr rfl) (jkq jvh jvi (jkh (jjc (pv 10)) (jj8 (jkq (jjs rfl) jju (jj8 (q_C jj3 (fun _=>jj2))) (jjc (pv 12)))) (fun _ _=>rfl)) (jjc (pv 4))))
   (jje (jjx (i:=14) sc__law_machine.nd rfl (by first | exact Or.inl rfl | exact Or.inr rfl) (q_sl (jjc (pv 3)) (vw8 (jj8 (jkq (jjs rfl) jju (jj8 (q_C jj3 (fun _=>jj2))) (jj8 (jkq jq5 jk8 (jj8 (q_C jj3 (fun _=>jj2))) (jjc (pv 13))))))) (vw8 (jj8 (jkq (jjs rfl) jju (jj8 (jkq (jjs rfl) jju (jj8 (q_C jj3 (fun _=>jj2))) (jj8 (jkq jq5 jk8 (jj8 (q_C jj3 (fun _=>jj2))) (jjc (pv 13)))))) (jkh (jjc (pv 5)) (jjc (pv 13)) (fun _ _=>rfl)))))))
   (jje (jjx (i:=15) sc__law_machine.nd rfl (by first | exact Or.inl rfl | exact Or.inr rfl) (kwv (jvu rfl) jwl (jj8 (qwi (o:=.rt) (k:=2) (R:=[10,12,5,7]) ["_law_j","_law_way","_law_y","_law_k","_law_keepers","_law_r"] (qzi (q_V (pv 14)) rfl T.b_enumerate) (fun _ _ _ _ _=>(vwb (is:=[0,1]) (kvp K (t:=gNs [0,1]) (n:=2) (jqx (jjo (i:=0) (show (["_law_j","_law_way","_law_y","_law_k","_law_keepers","_law_r"]:List Str).Nodup by decide +kernel) rfl (by first | exact Or.inl rfl | exact Or.inr rfl)) (jqx (jjo (i:=1) (show (["_law_j","_law_way","_law_y","_law_k","_law_keepers","_law_r"]:List Str).Nodup by decide +kernel) rfl (by first | exact Or.inl rfl | exact Or.inr rfl)) kji))))) (fun _ _ _ _ _=>kvn) (fun _ _ _ _ _=>(jk3 D__law_fill (hr.mono (by decide)) jj6 (jjj (q_V (pv 1)) (jjj (jkq (jjs rfl) jju (jkh (jjc (pv 2)) (jj8 (jkq (jjs rfl) jju (jj8 (q_C jj3 (fun _=>jj2))) (jjc (pv 3)))) (fun _ _=>rfl)) (jjc (pv 0))) (jjj (jwf (jkh (jjc (pv 4)) (jjc (pv 5)) (fun _ _=>rfl))) jkg))))) jj6 ⟨_,_,rfl,rfl⟩ (by decide) (show ∀ j∈([10,12,5,7]:List Nat),j < 16 by decide))) T.b_tuple jwk))
   (jjp (jxs (i:=8) (jvx K PySem.F.plainAttrs_list PySem.F.slot_list_append PySem.F.type_list_append jki (pv 8) (jjr (jvv (o:=.no) (jjj (jwf (jkh (jjc (pv 2)) (jjc (pv 9)) (fun _ _=>rfl))) (jjj (jwf (jkh (jjc (pv 11)) (jj8 (jkq jvh jvi (jkh (jjc (pv 10)) (jj8 (jkq (jjs rfl) jju (jj8 (q_C jj3 (fun _=>jj2))) (jjc (pv 12)))) (fun _ _=>rfl)) (jj8 (kjh (jq4 K) jv1 (jjc (pv 11)) T.b_len jqu)))) (fun _ _=>rfl))) (jjj (q_V (pv 13)) (jjj (q_V (pv 15)) jkg))))) jkp)))))))))))))
   (jjp (jxs (i:=6) (jvx K PySem.F.plainAttrs_list PySem.F.slot_list_append PySem.F.type_list_append jki (pv 6) (jjr (jvv (o:=.no) (jjj (jwf (jkh (jjc (pv 5)) (jjc (pv 7)) (fun _ _=>rfl))) (jjj (jxr (jwh hr.units) jwm (jkh (jjc (pv 3)) (jj8 (jkq (jjs rfl) jju (jj8 (q_C jj3 (fun _=>jj2))) (jjc (pv 7)))) (fun _ _=>rfl)) (jj8 (q_C jj3 (fun _=>jj2))) (jjy _)) (jjj (q_V (pv 8)) jkg)))) jkp)))))))
   (jjp (jku (jvv (o:=.no) (jjj (kwv (jz9 K) kkc (jjc (pv 2)) T.b_list jx0) (jjj (q_V (pv 6)) jkg)))))))))) h
set_option maxHeartbeats 4000000 in
theorem jzx (T:Txt K mg x_NotSingle x_TooGreat x_NoRow x_NoText x_NoWay x_NoFit x_NoMachine x_NoName x_NoExchange x_RoomError)  (F:Fun K "_law_names_in" "_law_names_in" jkt f fd):FnOk P w K mg base (CXE P w) 1 f fd ["_law_kept"] (spF K mg 1 jkb) :=
 jk0 F sc__law_names_in (jk1 rfl) fun cdv A outer s H vs Q E hr h=>jkx rfl
  (jje (jjx (i:=1) sc__law_names_in.nd rfl (by first | exact Or.inl rfl | exact Or.inr rfl) (jqi (o:=.rt) jkg))
   (jje (jzw (jxw ⟨_,_,rfl,rfl⟩) rfl (kjg (q_V (pv 0))) (kkj (jjo (i:=2) sc__law_names_in.nd rfl (by first | exact Or.inl rfl | exact Or.inr rfl)))
    (jjp (kv6 (QW.pt (kzd (jke kx8 kxt (jjc (pv 2)) (jj8 (q_C jq6 (fun _=>jk4))) (jjy _) qwa) (kqj (jke (jxy hr.units) jzc (jjc (pv 2)) (jjc (pv 1)) (by rfl) kv2)))) (jjp (jxs (i:=1) (jvx K PySem.F.plainAttrs_list PySem.F.slot_list_append PySem.F.type_list_append jki (pv 1) (jjr (q_V (pv 2)) jkp)))) jwu)))
   (jjp (jku (wj6 (pv 1)))))) h
set_option maxHeartbeats 4000000 in
theorem kxb (T:Txt K mg x_NotSingle x_TooGreat x_NoRow x_NoText x_NoWay x_NoFit x_NoMachine x_NoName x_NoExchange x_RoomError) (D__law_fitting:jqm P w K mg base 2 "_law_fitting" ["_law_machine_here","_law_standing","_law_sign","_law_name"] (spF K mg 4 m__law_fitting)) (D__law_behind:jqm P w K mg base 2 "_law_behind" ["_law_machine_here","_law_standing","_law_k","_law_name"] (spF K mg 4 m__law_behind)) (D__law_names_in:jqm P w K mg base 1 "_law_names_in" ["_law_kept"] (spF K mg 1 jkb)) (F:Fun K "_law_due" "_law_due" jvm f fd):FnOk P w K mg base (CXE P w) 3 f fd ["_law_machine_here"] (spF K mg 1 jvp) :=
 jk0 F sc__law_due (jk1 rfl) fun cdv A outer s H vs Q E hr h=>jkx rfl
  (jje (jjx (i:=1) sc__law_due.nd rfl (by first | exact Or.inl rfl | exact Or.inr rfl) (jqi (o:=.rt) (jjj (jvv (o:=.no) (jjj (q_C jj3 (fun _=>jj2)) (jjj (jkq jq5 jk8 (jj8 (jvv (o:=.no) (jjj (q_C jq6 (fun _=>jk4)) jkg))) (jkh (jkh (jkh (jjc (pv 0)) (jj8 (q_C jj3 (fun _=>jj2))) (fun _ _=>rfl)) (jj8 (q_C jj3 (fun _=>jj2))) (fun _ _=>rfl)) (jj8 (q_C jj3 (fun _=>jj2))) (fun _ _=>rfl))) jkg))) jkg)))
   (jje (jjx (i:=2) sc__law_due.nd rfl (by first | exact Or.inl rfl | exact Or.inr rfl) (jqi (o:=.rt) jkg))
   (jje (qky (jxw ⟨_,_,rfl,rfl⟩) (jke qxi (qk1 (g:=fun a b=>decide (a < b))) (jj8 (kjh (jq4 K) jv1 (jjc (pv 2)) T.b_len jqu)) (jj8 (kjh (jq4 K) jv1 (jjc (pv 1)) T.b_len jqu)) (jjy _) qjz) (jje (jjx (i:=3) sc__law_due.nd rfl (by first | exact Or.inl rfl | exact Or.inr rfl) (jwf (jkh (jjc (pv 1)) (jj8 (kjh (jq4 K) jv1 (jjc (pv 2)) T.b_len jqu)) (fun _ _=>rfl))))
   (jje (jjx (i:=4) sc__law_due.nd rfl (by first | exact Or.inl rfl | exact Or.inr rfl) (jqi (o:=.rt) jkg))
   (jje (jzw (jxw ⟨_,_,rfl,rfl⟩) rfl (kjg (jwf (jkh (jjc (pv 0)) (jj8 (q_C jj3 (fun _=>jj2))) (fun _ _=>rfl)))) (kkj (jjo (i:=5) sc__law_due.nd rfl (by first | exact Or.inl rfl | exact Or.inr rfl)))
    (jje (jjx (i:=6) sc__law_due.nd rfl (by first | exact Or.inl rfl | exact Or.inr rfl) (jqi (o:=.rt) jkg))
   (jje (jzw (jxw ⟨_,_,rfl,rfl⟩) rfl (jxq (jj8 (jkq (jjs rfl) jju (jj8 (kjh (jq4 K) jv1 (jj8 (jk3 D__law_names_in (hr.mono (by decide)) jj6 (jjj (jwf (jkh (jjc (pv 3)) (jj8 (q_C jj3 (fun _=>jj2))) (fun _ _=>rfl))) jkg))) T.b_len jqu)) (jj8 (q_C jj3 (fun _=>jj2))))) rfl T.b_range) (kkj (jjo (i:=7) sc__law_due.nd rfl (by first | exact Or.inl rfl | exact Or.inr rfl)))
    (jje (jjx (i:=8) sc__law_due.nd rfl (by first | exact Or.inl rfl | exact Or.inr rfl) (jk3 D__law_fitting (hr.mono (by decide)) jj6 (jjj (q_V (pv 0)) (jjj (q_V (pv 3)) (jjj (q_V (pv 5)) (jjj (q_V (pv 7)) jkg))))))
   (jje (kv6 (jke vx0 (qk1 (g:=fun a b=>decide (b < a))) (jj8 (kjh (jq4 K) jv1 (jjc (pv 8)) T.b_len jqu)) (jj8 (q_C jj3 (fun _=>jj2))) (jjy _) qjz) (jjp (jku (q_C jq6 (fun _=>jk4)))) jwu)
   (jje (kv6 (jke (jwh hr.units) jwm (jjc (pv 8)) (jj8 (jqi (o:=.rt) jkg)) (jjy _) kks) (jje (jxs (i:=6) (jvx K PySem.F.plainAttrs_list PySem.F.slot_list_append PySem.F.type_list_append jki (pv 6) (jjr (q_C jq6 (fun _=>jk4)) jkp)))
   (jjp vwe)) jwu)
   (jje (qkz (jk3 D__law_behind (hr.mono (by decide)) jj6 (jjj (q_V (pv 0)) (jjj (q_V (pv 3)) (jjj (jwf (jkh (jjc (pv 8)) (jj8 (q_C jj3 (fun _=>jj2))) (fun _ _=>rfl))) (jjj (q_V (pv 7)) jkg))))) (vwb (is:=[9,10]) (kvp K (t:=gNs [9,10]) (n:=2) (jqx (jjo (i:=9) sc__law_due.nd rfl (by first | exact Or.inl rfl | exact Or.inr rfl)) (jqx (jjo (i:=10) sc__law_due.nd rfl (by first | exact Or.inl rfl | exact Or.inr rfl)) kji)))))
   (jje (jjx (i:=11) sc__law_due.nd rfl (by first | exact Or.inl rfl | exact Or.inr rfl) (jk3 D__law_names_in (hr.mono (by decide)) jj6 (jjj (q_V (pv 10)) jkg)))
   (jje (jjx (i:=12) sc__law_due.nd rfl (by first | exact Or.inl rfl | exact Or.inr rfl) (jvv (o:=.no) (jjj (q_V (pv 9)) (jjj (kwv (jvu rfl) jwl (jj8 (qwi (o:=.rt) (k:=1) (R:=[11]) ["_law_one","_law_names"] (kjg (q_V (pv 10))) (fun _ _ _ _ _=>(kkj (jjo (i:=0) (show (["_law_one","_law_names"]:List Str).Nodup by decide +kernel) rfl (by first | exact Or.inl rfl | exact Or.inr rfl)))) (fun _ _ _ _ _=>kvn) (fun _ _ _ _ _=>(qx4 (jke jzo jzs (jjc (pv 0)) (jj8 (q_C jq6 (fun _=>jk4))) (jjy _) kqa) (q_C jq6 (fun _=>jk4)) (kx3 hr.units (jjc (pv 1)) (jjc (pv 0))))) jj6 ⟨_,_,rfl,rfl⟩ (by decide) (show ∀ j∈([11]:List Nat),j < 13 by decide))) T.b_tuple jwk) jkg))))
   (jje (kv6 (jke (jxy hr.units) jzc (jjc (pv 12)) (jjc (pv 1)) (by rfl) kv2) (jjp (jxs (i:=1) (jvx K PySem.F.plainAttrs_list PySem.F.slot_list_append PySem.F.type_list_append jki (pv 1) (jjr (q_V (pv 12)) jkp)))) jwu)
   (jjp (jxs (i:=6) (jvx K PySem.F.plainAttrs_list PySem.F.slot_list_append PySem.F.type_list_append jki (pv 6) (jjr (jvv (o:=.no) (jjj (kx3 hr.units (jjc (pv 1)) (jjc (pv 12))) (jjj (kwv (jvu rfl) jwl (jjc (pv 11)) T.b_tuple jwk) jkg))) jkp))))))))))))
   (jjp (jxs (i:=4) (jvx K PySem.F.plainAttrs_list PySem.F.slot_list_append PySem.F.type_list_append jki (pv 4) (jjr (q_V (pv 6)) jkp)))))))
   (jjp (jxs (i:=2) (jvx K PySem.F.plainAttrs_list PySem.F.slot_list_append PySem.F.type_list_append jki (pv 2) (jjr (jvv (o:=.no) (jjj (kjh (jq4 K) jv1 (jj8 (jk3 D__law_names_in (hr.mono (by decide)) jj6 (jjj (jwf (jkh (jjc (pv 3)) (jj8 (q_C jj3 (fun _=>jj2))) (fun _ _=>rfl))) jkg))) T.b_len jqu) (jjj (jwf (jkh (jkh (jkh (jjc (pv 0)) (jj8 (q_C jj3 (fun _=>jj2))) (fun _ _=>rfl)) (jkh (jjc (pv 3)) (jj8 (q_C jj3 (fun _=>jj2))) (fun _ _=>rfl)) (fun _ _=>rfl)) (jj8 (q_C jj3 (fun _=>jj2))) (fun _ _=>rfl))) (jjj (q_V (pv 4)) jkg)))) jkp))))))))
   (jjp (jku (jvv (o:=.no) (jjj (jvv (o:=.no) (jjj (kwv (jz9 K) kkc (jkh (jjc (pv 0)) (jj8 (q_C jj3 (fun _=>jj2))) (fun _ _=>rfl)) T.b_list jx0) (jjj (q_V (pv 2)) jkg))) (jjj (q_V (pv 1)) jkg)))))))) h
set_option maxHeartbeats 4000000 in
theorem kvw (T:Txt K mg x_NotSingle x_TooGreat x_NoRow x_NoText x_NoWay x_NoFit x_NoMachine x_NoName x_NoExchange x_RoomError) (D_plain_of:jqm P w K mg base 6 "plain_of" ["machine"] (spF K mg 1 m_plain_of)) (D__law_kinds:vzl P w K mg base 1 "_law_kinds" ["_law_error"] (spF K mg 1 jqs)) (F:Fun K "_law_told" "_law_told" jv3 f fd):FnOk P w K mg base (CXE P w) 7 f fd ["_law_machine_here"] (spF K mg 1 jv9) :=
 jk0 F sc__law_told (jk1 rfl) fun cdv A outer s H vs Q E hr h=>jkx rfl
  (jje (jjx (i:=1) sc__law_told.nd rfl (by first | exact Or.inl rfl | exact Or.inr rfl) (q_C jq6 (fun _=>jk4)))
   (jje (jjx (i:=2) sc__law_told.nd rfl (by first | exact Or.inl rfl | exact Or.inr rfl) (jqi (o:=.rt) jkg))
   (jje (vw5 (i:=3) (j:=1) (cs:=["NotSingle"]) sc__law_told.nd rfl rfl ⟨_,_,rfl,rfl⟩ T.m_RoomError rfl (kk9 T.e_NotSingle T.n_NotSingle T.h_NotSingle_RoomError kq8) rfl (by first | exact Or.inl rfl | exact Or.inr rfl) (qq2 D_plain_of (hr.mono (by decide)) (jjj (q_V (pv 0)) jkg)) (fun x_x=>(jjp (jjx (i:=2) sc__law_told.nd rfl (by first | exact Or.inl rfl | exact Or.inr rfl) (vk1 (Z:=⟨K,mg,E⟩) D__law_kinds (qx1 (hr.mono (by decide))) (jjj (q_V (pv 3)) jkg))))))
   (jjp (jku (jvv (o:=.no) (jjj (q_V (pv 1)) (jjj (qwi (o:=.rt) (k:=1) (R:=[2]) ["_law_k","_law_found"] (jxq (jj8 (kjh (jq4 K) jv1 (jjc (pv 2)) T.b_len jqu)) rfl T.b_range) (fun _ _ _ _ _=>(kkj (jjo (i:=0) (show (["_law_k","_law_found"]:List Str).Nodup by decide +kernel) rfl (by first | exact Or.inl rfl | exact Or.inr rfl)))) (fun _ _ _ _ _=>(vjy (kjf (jkh (jjc (pv 1)) (jjc (pv 0)) (fun _ _=>rfl))))) (fun _ _ _ _ _=>(q_V (pv 0))) jj6 ⟨_,_,rfl,rfl⟩ (by decide) (show ∀ j∈([2]:List Nat),j < 4 by decide)) jkg)))))))) h
set_option maxHeartbeats 4000000 in
theorem vx3 (T:Txt K mg x_NotSingle x_TooGreat x_NoRow x_NoText x_NoWay x_NoFit x_NoMachine x_NoName x_NoExchange x_RoomError) (D__law_signs:jqm P w K mg base 2 "_law_signs" ["_law_x","_law_many"] (spF K mg 2 m__law_signs)) (D__law_machine:jqm P w K mg base 2 "_law_machine" ["_law_script","_law_start","_law_signs_here"] (spF K mg 3 jkn)) (D__law_copy:jqm P w K mg base 1 "_law_copy" ["_law_machine_here"] (spF K mg 1 m__law_copy)) (D__law_due:jqm P w K mg base 3 "_law_due" ["_law_machine_here"] (spF K mg 1 jvp)) (D_is_single:jqm P w K mg base 7 "is_single" ["machine"] (spF K mg 1 jv8)) (D__law_told:jqm P w K mg base 7 "_law_told" ["_law_machine_here"] (spF K mg 1 jv9)) (D__law_draw:jqm P w K mg base 1 "_law_draw" ["_law_script","_law_k"] (spF K mg 2 jko)) (F:Fun K "law" "law" kqg f fd):FnOk P w K mg base (CXE P w) 8 f fd ["_law_script"] (spF K mg 1 m_law) :=
 jk0 F sc_law (jk1 rfl) fun cdv A outer s H vs Q E hr h=>jkx rfl
  (jje (jjx (i:=1) sc_law.nd rfl (by first | exact Or.inl rfl | exact Or.inr rfl) (jk3 D__law_signs (hr.mono (by decide)) jj6 (jjj (jk3 D__law_draw (hr.mono (by decide)) jj6 (jjj (q_V (pv 0)) (jjj (q_C jj3 (fun _=>jj2)) jkg))) (jjj (jkq (jjs rfl) jju (jj8 (q_C jj3 (fun _=>jj2))) (jj8 (jkq jvh jvi (jj8 (jk3 D__law_draw (hr.mono (by decide)) jj6 (jjj (q_V (pv 0)) (jjj (q_C jj3 (fun _=>jj2)) jkg)))) (jj8 (q_C jj3 (fun _=>jj2)))))) jkg))))
   (jje (jjx (i:=2) sc_law.nd rfl (by first | exact Or.inl rfl | exact Or.inr rfl) (jk3 D__law_machine (hr.mono (by decide)) jj6 (jjj (q_V (pv 0)) (jjj (q_C jj3 (fun _=>jj2)) (jjj (q_V (pv 1)) jkg)))))
   (jje (jjx (i:=3) sc_law.nd rfl (by first | exact Or.inl rfl | exact Or.inr rfl) (jk3 D__law_copy (hr.mono (by decide)) jj6 (jjj (q_V (pv 2)) jkg)))
   (jje (jjx (i:=4) sc_law.nd rfl (by first | exact Or.inl rfl | exact Or.inr rfl) (jk3 D__law_due (hr.mono (by decide)) jj6 (jjj (q_V (pv 2)) jkg)))
   (jje (jjx (i:=5) sc_law.nd rfl (by first | exact Or.inl rfl | exact Or.inr rfl) (jk3 D_is_single (hr.mono (by decide)) jj6 (jjj (q_V (pv 3)) jkg)))
   (jje (qkz (jk3 D__law_told (hr.mono (by decide)) jj6 (jjj (q_V (pv 3)) jkg)) (vwb (is:=[6,7]) (kvp K (t:=gNs [6,7]) (n:=2) (jqx (jjo (i:=6) sc_law.nd rfl (by first | exact Or.inl rfl | exact Or.inr rfl)) (jqx (jjo (i:=7) sc_law.nd rfl (by first | exact Or.inl rfl | exact Or.inr rfl)) kji)))))
   (jje (kv6 (QW.pt (qx3 (vw6 (kjf (jj8 (wj7 (jjc (pv 5)) T.b_isinstance T.b_bool vqv rfl)))) (qx3 (jke (vku hr.units) vqz (jjc (pv 5)) (jj8 (jxr kx8 kxt (jjc (pv 4)) (jj8 (q_C jq6 (fun _=>jk4))) (jjy _))) (jjy _) vqw) (qq0 (jke (vku hr.units) vqz (jjc (pv 3)) (jjc (pv 2)) (jjy _) vqw))))) (jjp (jku (q_C qxg (fun _=>kvk)))) jwu)
   (jje (kv6 (jke jzo jzs (jjc (pv 4)) (jj8 (q_C jq6 (fun _=>jk4))) (jjy _) kqa) (jjp (jku (vk2 (jj8 (jxr jzo jzs (jjc (pv 6)) (jj8 (q_C jq6 (fun _=>jk4))) (jjy _))) (qq1 (jxr (jwh hr.units) jwm (jjc (pv 7)) (jj8 (jqi (o:=.rt) (jjj (q_C jj3 (fun _=>jj2)) (jjj (q_C jj3 (fun _=>jj2)) jkg)))) (jjy _)))))) jwu)
   (jjp (jku (vk2 (jj8 (jxr (jwh hr.units) jwm (jjc (pv 6)) (jjc (pv 4)) (jjy _))) (vk2 (jj8 (jxr (jwh hr.units) jwm (jj8 (kjh (qj4 K hr.gd hr.units) vj8 (jjc (pv 6)) T.b_repr qw9)) (jj8 (kjh (qj4 K hr.gd hr.units) vj8 (jjc (pv 4)) T.b_repr qw9)) (jjy _))) (qq1 (jxr (jwh hr.units) jwm (jjc (pv 7)) (jj8 (jqi (o:=.rt) jkg)) (jjy _))))))))))))))) h
end
end Nk39
namespace Nk39
open PySem L2 L3 Q
theorem all_mk {l:PySem.W.OpenLaw} {w:PySem.World} {K:PySem.W.Frag} {h:Heap} {mg:Str->Option Value} {fa:Addr} (X:K.In h) (G:h.Ns mainGlobals mg) (hfa:mg "law"=some (.ref fa)) {f0 f1 f2 f3 f4 f5 f6 f7 f8 f9 f10 f11 f12 f13 f14 f15 f16 f17 f18 f19 f20 f21 f22 f23 f24 f25 f26 f27 f28:Addr} {od0 an0 od1 an1 od2 an2 od3 an3 od4 an4 od5 an5 od6 an6 od7 an7 od8 an8 od9 an9 od10 an10 od11 an11 od12 an12 od13 an13 od14 an14 od15 an15 od16 an16 od17 an17 od18 an18 od19 an19 od20 an20 od21 an21 od22 an22 od23 an23 od24 an24 od25 an25 od26 an26 od27 an27 od28 an28:Option Addr} {sl0 sl1 sl2 sl3 sl4 sl5 sl6 sl7 sl8 sl9 sl10 sl11 sl12 sl13 sl14 sl15 sl16 sl17 sl18 sl19 sl20 sl21 sl22 sl23 sl24 sl25 sl26 sl27 sl28:Array (Option Value)} {oc0 kV0 dc0 pm0 cd0 ct0 oc1 kV1 dc1 pm1 cd1 ct1 oc2 kV2 dc2 pm2 cd2 ct2 oc3 kV3 dc3 pm3 cd3 ct3 oc4 kV4 dc4 pm4 cd4 ct4 oc5 kV5 dc5 pm5 cd5 ct5 oc6 kV6 dc6 pm6 cd6 ct6 oc7 kV7 dc7 pm7 cd7 ct7 oc8 kV8 dc8 pm8 cd8 ct8 oc9 kV9 dc9 pm9 cd9 ct9 oc10 kV10 dc10 pm10 cd10 ct10 oc11 kV11 dc11 pm11 cd11 ct11 oc12 kV12 dc12 pm12 cd12 ct12 oc13 kV13 dc13 pm13 cd13 ct13 oc14 kV14 dc14 pm14 cd14 ct14 oc15 kV15 dc15 pm15 cd15 ct15 oc16 kV16 dc16 pm16 cd16 ct16 oc17 kV17 dc17 pm17 cd17 ct17 oc18 kV18 dc18 pm18 cd18 ct18 oc19 kV19 dc19 pm19 cd19 ct19 oc20 kV20 dc20 pm20 cd20 ct20 oc21 kV21 dc21 pm21 cd21 ct21 oc22 kV22 dc22 pm22 cd22 ct22 oc23 kV23 dc23 pm23 cd23 ct23 oc24 kV24 dc24 pm24 cd24 ct24 oc25 kV25 dc25 pm25 cd25 ct25 oc26 kV26 dc26 pm26 cd26 ct26 oc27 kV27 dc27 pm27 cd27 ct27 oc28 kV28 dc28 pm28 cd28 ct28:Value} {x_NotSingle x_TooGreat x_NoRow x_NoText x_NoWay x_NoFit x_NoMachine x_NoName x_NoExchange x_RoomError:Addr}
  (a0:PySem.W.nsIn K mainGlobals "fits"=some (some (.ref f0))) (l0:K.lookup f0=some ⟨oc0,od0,.func (PySem.W.fnOf "fits" "fits" (jjm kkw) (jjl kkw) (jj4 kkw) .none kV0 dc0 pm0 an0 cd0 ct0),sl0⟩) (c0:PySem.W.codeIn K cd0 "fits"=true) (k0:PySem.W.keepIn K (.ref f0)=true)
  (a1:PySem.W.nsIn K mainGlobals "held_by"=some (some (.ref f1))) (l1:K.lookup f1=some ⟨oc1,od1,.func (PySem.W.fnOf "held_by" "held_by" (jjm jw8) (jjl jw8) (jj4 jw8) .none kV1 dc1 pm1 an1 cd1 ct1),sl1⟩) (c1:PySem.W.codeIn K cd1 "held_by"=true) (k1:PySem.W.keepIn K (.ref f1)=true)
  (a2:PySem.W.nsIn K mainGlobals "filled"=some (some (.ref f2))) (l2:K.lookup f2=some ⟨oc2,od2,.func (PySem.W.fnOf "filled" "filled" (jjm jx4) (jjl jx4) (jj4 jx4) .none kV2 dc2 pm2 an2 cd2 ct2),sl2⟩) (c2:PySem.W.codeIn K cd2 "filled"=true) (k2:PySem.W.keepIn K (.ref f2)=true)
  (a3:PySem.W.nsIn K mainGlobals "first_standing"=some (some (.ref f3))) (l3:K.lookup f3=some ⟨oc3,od3,.func (PySem.W.fnOf "first_standing" "first_standing" (jjm jkf) (jjl jkf) (jj4 jkf) .none kV3 dc3 pm3 an3 cd3 ct3),sl3⟩) (c3:PySem.W.codeIn K cd3 "first_standing"=true) (k3:PySem.W.keepIn K (.ref f3)=true)
  (a4:PySem.W.nsIn K mainGlobals "steps_at"=some (some (.ref f4))) (l4:K.lookup f4=some ⟨oc4,od4,.func (PySem.W.fnOf "steps_at" "steps_at" (jjm jvk) (jjl jvk) (jj4 jvk) .none kV4 dc4 pm4 an4 cd4 ct4),sl4⟩) (c4:PySem.W.codeIn K cd4 "steps_at"=true) (k4:PySem.W.keepIn K (.ref f4)=true)
  (a5:PySem.W.nsIn K mainGlobals "fitting"=some (some (.ref f5))) (l5:K.lookup f5=some ⟨oc5,od5,.func (PySem.W.fnOf "fitting" "fitting" (jjm jw9) (jjl jw9) (jj4 jw9) .none kV5 dc5 pm5 an5 cd5 ct5),sl5⟩) (c5:PySem.W.codeIn K cd5 "fitting"=true) (k5:PySem.W.keepIn K (.ref f5)=true)
  (a6:PySem.W.nsIn K mainGlobals "behind"=some (some (.ref f6))) (l6:K.lookup f6=some ⟨oc6,od6,.func (PySem.W.fnOf "behind" "behind" (jjm jx5) (jjl jx5) (jj4 jx5) .none kV6 dc6 pm6 an6 cd6 ct6),sl6⟩) (c6:PySem.W.codeIn K cd6 "behind"=true) (k6:PySem.W.keepIn K (.ref f6)=true)
  (a7:PySem.W.nsIn K mainGlobals "names_held"=some (some (.ref f7))) (l7:K.lookup f7=some ⟨oc7,od7,.func (PySem.W.fnOf "names_held" "names_held" (jjm jqp) (jjl jqp) (jj4 jqp) .none kV7 dc7 pm7 an7 cd7 ct7),sl7⟩) (c7:PySem.W.codeIn K cd7 "names_held"=true) (k7:PySem.W.keepIn K (.ref f7)=true)
  (a8:PySem.W.nsIn K mainGlobals "places_among"=some (some (.ref f8))) (l8:K.lookup f8=some ⟨oc8,od8,.func (PySem.W.fnOf "places_among" "places_among" (jjm jq1) (jjl jq1) (jj4 jq1) .none kV8 dc8 pm8 an8 cd8 ct8),sl8⟩) (c8:PySem.W.codeIn K cd8 "places_among"=true) (k8:PySem.W.keepIn K (.ref f8)=true)
  (a9:PySem.W.nsIn K mainGlobals "plain_case"=some (some (.ref f9))) (l9:K.lookup f9=some ⟨oc9,od9,.func (PySem.W.fnOf "plain_case" "plain_case" (jjm jqo) (jjl jqo) (jj4 jqo) .none kV9 dc9 pm9 an9 cd9 ct9),sl9⟩) (c9:PySem.W.codeIn K cd9 "plain_case"=true) (k9:PySem.W.keepIn K (.ref f9)=true)
  (a10:PySem.W.nsIn K mainGlobals "only_behind"=some (some (.ref f10))) (l10:K.lookup f10=some ⟨oc10,od10,.func (PySem.W.fnOf "only_behind" "only_behind" (jjm jqa) (jjl jqa) (jj4 jqa) .none kV10 dc10 pm10 an10 cd10 ct10),sl10⟩) (c10:PySem.W.codeIn K cd10 "only_behind"=true) (k10:PySem.W.keepIn K (.ref f10)=true)
  (a11:PySem.W.nsIn K mainGlobals "plain_cases"=some (some (.ref f11))) (l11:K.lookup f11=some ⟨oc11,od11,.func (PySem.W.fnOf "plain_cases" "plain_cases" (jjm jq9) (jjl jq9) (jj4 jq9) .none kV11 dc11 pm11 an11 cd11 ct11),sl11⟩) (c11:PySem.W.codeIn K cd11 "plain_cases"=true) (k11:PySem.W.keepIn K (.ref f11)=true)
  (a12:PySem.W.nsIn K mainGlobals "plain_of"=some (some (.ref f12))) (l12:K.lookup f12=some ⟨oc12,od12,.func (PySem.W.fnOf "plain_of" "plain_of" (jjm jvl) (jjl jvl) (jj4 jvl) .none kV12 dc12 pm12 an12 cd12 ct12),sl12⟩) (c12:PySem.W.codeIn K cd12 "plain_of"=true) (k12:PySem.W.keepIn K (.ref f12)=true)
  (a13:PySem.W.nsIn K mainGlobals "is_single"=some (some (.ref f13))) (l13:K.lookup f13=some ⟨oc13,od13,.func (PySem.W.fnOf "is_single" "is_single" (jjm jv2) (jjl jv2) (jj4 jv2) .none kV13 dc13 pm13 an13 cd13 ct13),sl13⟩) (c13:PySem.W.codeIn K cd13 "is_single"=true) (k13:PySem.W.keepIn K (.ref f13)=true)
  (a14:PySem.W.nsIn K mainGlobals "_law_draw"=some (some (.ref f14))) (l14:K.lookup f14=some ⟨oc14,od14,.func (PySem.W.fnOf "_law_draw" "_law_draw" (jjm jv6) (jjl jv6) (jj4 jv6) .none kV14 dc14 pm14 an14 cd14 ct14),sl14⟩) (c14:PySem.W.codeIn K cd14 "_law_draw"=true) (k14:PySem.W.keepIn K (.ref f14)=true)
  (a15:PySem.W.nsIn K mainGlobals "_law_digits"=some (some (.ref f15))) (l15:K.lookup f15=some ⟨oc15,od15,.func (PySem.W.fnOf "_law_digits" "_law_digits" (jjm jqc) (jjl jqc) (jj4 jqc) .none kV15 dc15 pm15 an15 cd15 ct15),sl15⟩) (c15:PySem.W.codeIn K cd15 "_law_digits"=true) (k15:PySem.W.keepIn K (.ref f15)=true)
  (a16:PySem.W.nsIn K mainGlobals "_law_signs"=some (some (.ref f16))) (l16:K.lookup f16=some ⟨oc16,od16,.func (PySem.W.fnOf "_law_signs" "_law_signs" (jjm jqq) (jjl jqq) (jj4 jqq) .none kV16 dc16 pm16 an16 cd16 ct16),sl16⟩) (c16:PySem.W.codeIn K cd16 "_law_signs"=true) (k16:PySem.W.keepIn K (.ref f16)=true)
  (a17:PySem.W.nsIn K mainGlobals "_law_copy"=some (some (.ref f17))) (l17:K.lookup f17=some ⟨oc17,od17,.func (PySem.W.fnOf "_law_copy" "_law_copy" (jjm jv7) (jjl jv7) (jj4 jv7) .none kV17 dc17 pm17 an17 cd17 ct17),sl17⟩) (c17:PySem.W.codeIn K cd17 "_law_copy"=true) (k17:PySem.W.keepIn K (.ref f17)=true)
  (a18:PySem.W.nsIn K mainGlobals "_law_fits"=some (some (.ref f18))) (l18:K.lookup f18=some ⟨oc18,od18,.func (PySem.W.fnOf "_law_fits" "_law_fits" (jjm jv4) (jjl jv4) (jj4 jv4) .none kV18 dc18 pm18 an18 cd18 ct18),sl18⟩) (c18:PySem.W.codeIn K cd18 "_law_fits"=true) (k18:PySem.W.keepIn K (.ref f18)=true)
  (a19:PySem.W.nsIn K mainGlobals "_law_filled"=some (some (.ref f19))) (l19:K.lookup f19=some ⟨oc19,od19,.func (PySem.W.fnOf "_law_filled" "_law_filled" (jjm jqb) (jjl jqb) (jj4 jqb) .none kV19 dc19 pm19 an19 cd19 ct19),sl19⟩) (c19:PySem.W.codeIn K cd19 "_law_filled"=true) (k19:PySem.W.keepIn K (.ref f19)=true)
  (a20:PySem.W.nsIn K mainGlobals "_law_fitting"=some (some (.ref f20))) (l20:K.lookup f20=some ⟨oc20,od20,.func (PySem.W.fnOf "_law_fitting" "_law_fitting" (jjm jq3) (jjl jq3) (jj4 jq3) .none kV20 dc20 pm20 an20 cd20 ct20),sl20⟩) (c20:PySem.W.codeIn K cd20 "_law_fitting"=true) (k20:PySem.W.keepIn K (.ref f20)=true)
  (a21:PySem.W.nsIn K mainGlobals "_law_behind"=some (some (.ref f21))) (l21:K.lookup f21=some ⟨oc21,od21,.func (PySem.W.fnOf "_law_behind" "_law_behind" (jjm jqd) (jjl jqd) (jj4 jqd) .none kV21 dc21 pm21 an21 cd21 ct21),sl21⟩) (c21:PySem.W.codeIn K cd21 "_law_behind"=true) (k21:PySem.W.keepIn K (.ref f21)=true)
  (a22:PySem.W.nsIn K mainGlobals "_law_kinds"=some (some (.ref f22))) (l22:K.lookup f22=some ⟨oc22,od22,.func (PySem.W.fnOf "_law_kinds" "_law_kinds" (jjm jqr) (jjl jqr) (jj4 jqr) .none kV22 dc22 pm22 an22 cd22 ct22),sl22⟩) (c22:PySem.W.codeIn K cd22 "_law_kinds"=true) (k22:PySem.W.keepIn K (.ref f22)=true)
  (a23:PySem.W.nsIn K mainGlobals "_law_fill"=some (some (.ref f23))) (l23:K.lookup f23=some ⟨oc23,od23,.func (PySem.W.fnOf "_law_fill" "_law_fill" (jjm jv5) (jjl jv5) (jj4 jv5) .none kV23 dc23 pm23 an23 cd23 ct23),sl23⟩) (c23:PySem.W.codeIn K cd23 "_law_fill"=true) (k23:PySem.W.keepIn K (.ref f23)=true)
  (a24:PySem.W.nsIn K mainGlobals "_law_machine"=some (some (.ref f24))) (l24:K.lookup f24=some ⟨oc24,od24,.func (PySem.W.fnOf "_law_machine" "_law_machine" (jjm jq2) (jjl jq2) (jj4 jq2) .none kV24 dc24 pm24 an24 cd24 ct24),sl24⟩) (c24:PySem.W.codeIn K cd24 "_law_machine"=true) (k24:PySem.W.keepIn K (.ref f24)=true)
  (a25:PySem.W.nsIn K mainGlobals "_law_names_in"=some (some (.ref f25))) (l25:K.lookup f25=some ⟨oc25,od25,.func (PySem.W.fnOf "_law_names_in" "_law_names_in" (jjm jkt) (jjl jkt) (jj4 jkt) .none kV25 dc25 pm25 an25 cd25 ct25),sl25⟩) (c25:PySem.W.codeIn K cd25 "_law_names_in"=true) (k25:PySem.W.keepIn K (.ref f25)=true)
  (a26:PySem.W.nsIn K mainGlobals "_law_due"=some (some (.ref f26))) (l26:K.lookup f26=some ⟨oc26,od26,.func (PySem.W.fnOf "_law_due" "_law_due" (jjm jvm) (jjl jvm) (jj4 jvm) .none kV26 dc26 pm26 an26 cd26 ct26),sl26⟩) (c26:PySem.W.codeIn K cd26 "_law_due"=true) (k26:PySem.W.keepIn K (.ref f26)=true)
  (a27:PySem.W.nsIn K mainGlobals "_law_told"=some (some (.ref f27))) (l27:K.lookup f27=some ⟨oc27,od27,.func (PySem.W.fnOf "_law_told" "_law_told" (jjm jv3) (jjl jv3) (jj4 jv3) .none kV27 dc27 pm27 an27 cd27 ct27),sl27⟩) (c27:PySem.W.codeIn K cd27 "_law_told"=true) (k27:PySem.W.keepIn K (.ref f27)=true)
  (a28:PySem.W.nsIn K mainGlobals "law"=some (some (.ref f28))) (l28:K.lookup f28=some ⟨oc28,od28,.func (PySem.W.fnOf "law" "law" (jjm kqg) (jjl kqg) (jj4 kqg) .none kV28 dc28 pm28 an28 cd28 ct28),sl28⟩) (c28:PySem.W.codeIn K cd28 "law"=true) (k28:PySem.W.keepIn K (.ref f28)=true)
  (z_ValueError:PySem.W.nsIn K mainGlobals "ValueError"=some none)
  (z_bool:PySem.W.nsIn K mainGlobals "bool"=some none)
  (z_enumerate:PySem.W.nsIn K mainGlobals "enumerate"=some none)
  (z_int:PySem.W.nsIn K mainGlobals "int"=some none)
  (z_isinstance:PySem.W.nsIn K mainGlobals "isinstance"=some none)
  (z_len:PySem.W.nsIn K mainGlobals "len"=some none)
  (z_list:PySem.W.nsIn K mainGlobals "list"=some none)
  (z_range:PySem.W.nsIn K mainGlobals "range"=some none)
  (z_repr:PySem.W.nsIn K mainGlobals "repr"=some none)
  (z_sorted:PySem.W.nsIn K mainGlobals "sorted"=some none)
  (z_tuple:PySem.W.nsIn K mainGlobals "tuple"=some none)
  (n_NotSingle:PySem.W.nsIn K mainGlobals "NotSingle"=some (some (.ref x_NotSingle)))
  (ec_NotSingle:PySem.W.excIn K x_NotSingle bmV "ValueError.__new__"=true) (ga_NotSingle:PySem.W.findIn K (.ref x_NotSingle) "__getattribute__"=some (some (.builtin "BaseException.__getattribute__"))) (gt_NotSingle:PySem.W.findIn K (.ref x_NotSingle) "__getattr__"=some none) (fa_NotSingle:PySem.W.findIn K (.ref x_NotSingle) "__class__"=some (some (.builtin "object.__class__"))) (fg_NotSingle:PySem.W.specialIn K (.builtin "object.__class__") "__get__"=some (some (.builtin "getset_descriptor.__get__"))) (ft_NotSingle:PySem.W.takesIn K (.builtin "object.__class__")=some true) (ob_NotSingle:PySem.W.mroIn K x_NotSingle (.type "object")=some true) (bx_NotSingle:PySem.W.mroIn K x_NotSingle (.type "BaseException")=some true) (cl_NotSingle:PySem.W.isClsIn K x_NotSingle=true)
  (n_TooGreat:PySem.W.nsIn K mainGlobals "TooGreat"=some (some (.ref x_TooGreat)))
  (n_NoRow:PySem.W.nsIn K mainGlobals "NoRow"=some (some (.ref x_NoRow)))
  (n_NoText:PySem.W.nsIn K mainGlobals "NoText"=some (some (.ref x_NoText)))
  (n_NoWay:PySem.W.nsIn K mainGlobals "NoWay"=some (some (.ref x_NoWay)))
  (n_NoFit:PySem.W.nsIn K mainGlobals "NoFit"=some (some (.ref x_NoFit)))
  (n_NoMachine:PySem.W.nsIn K mainGlobals "NoMachine"=some (some (.ref x_NoMachine)))
  (n_NoName:PySem.W.nsIn K mainGlobals "NoName"=some (some (.ref x_NoName)))
  (n_NoExchange:PySem.W.nsIn K mainGlobals "NoExchange"=some (some (.ref x_NoExchange)))
  (n_RoomError:PySem.W.nsIn K mainGlobals "RoomError"=some (some (.ref x_RoomError)))
  (h_NotSingle_NotSingle:PySem.W.exmOne K (.ref x_NotSingle) (.ref x_NotSingle)=some true)
  (i_NotSingle_TooGreat:PySem.W.kitOne K (.ref x_NotSingle) (.ref x_TooGreat)=some false)
  (i_NotSingle_NoRow:PySem.W.kitOne K (.ref x_NotSingle) (.ref x_NoRow)=some false)
  (i_NotSingle_NoText:PySem.W.kitOne K (.ref x_NotSingle) (.ref x_NoText)=some false)
  (i_NotSingle_NoWay:PySem.W.kitOne K (.ref x_NotSingle) (.ref x_NoWay)=some false)
  (i_NotSingle_NoFit:PySem.W.kitOne K (.ref x_NotSingle) (.ref x_NoFit)=some false)
  (i_NotSingle_NoMachine:PySem.W.kitOne K (.ref x_NotSingle) (.ref x_NoMachine)=some false)
  (i_NotSingle_NoName:PySem.W.kitOne K (.ref x_NotSingle) (.ref x_NoName)=some false)
  (i_NotSingle_NotSingle:PySem.W.kitOne K (.ref x_NotSingle) (.ref x_NotSingle)=some true)
  (i_NotSingle_ValueError:PySem.W.kitOne K (.ref x_NotSingle) (.type "ValueError")=some true)
  (i_NotSingle_NoExchange:PySem.W.kitOne K (.ref x_NotSingle) (.ref x_NoExchange)=some false)
  (h_NotSingle_RoomError:PySem.W.exmOne K (.ref x_NotSingle) (.ref x_RoomError)=some true)
  : ∃ fd:FuncData,(∀ (s:Shared) (v:Value),BindsTo s fd ⟨[v],[]⟩ [("_law_script",v)])/\∀ base:Heap,K.In base->base.Ns mainGlobals mg->FnOk l.prog w K mg base (CXE l.prog w) 8 fa fd ["_law_script"] (spF K mg 1 m_law):=by
 have e:=hfa.symm.trans (PySem.W.mg_of X G a28)
 cases e
 have T:Txt K mg x_NotSingle x_TooGreat x_NoRow x_NoText x_NoWay x_NoFit x_NoMachine x_NoName x_NoExchange x_RoomError:=⟨PySem.W.mg_none_of X G z_ValueError,PySem.W.mg_none_of X G z_bool,PySem.W.mg_none_of X G z_enumerate,PySem.W.mg_none_of X G z_int,PySem.W.mg_none_of X G z_isinstance,PySem.W.mg_none_of X G z_len,PySem.W.mg_none_of X G z_list,PySem.W.mg_none_of X G z_range,PySem.W.mg_none_of X G z_repr,PySem.W.mg_none_of X G z_sorted,PySem.W.mg_none_of X G z_tuple,n_NotSingle,PySem.W.mg_of X G n_NotSingle,⟨PySem.W.mg_of X G n_NotSingle,ec_NotSingle,vjd ga_NotSingle gt_NotSingle fa_NotSingle fg_NotSingle ft_NotSingle ob_NotSingle bx_NotSingle cl_NotSingle⟩,n_TooGreat,PySem.W.mg_of X G n_TooGreat,n_NoRow,PySem.W.mg_of X G n_NoRow,n_NoText,PySem.W.mg_of X G n_NoText,n_NoWay,PySem.W.mg_of X G n_NoWay,n_NoFit,PySem.W.mg_of X G n_NoFit,n_NoMachine,PySem.W.mg_of X G n_NoMachine,n_NoName,PySem.W.mg_of X G n_NoName,n_NoExchange,PySem.W.mg_of X G n_NoExchange,n_RoomError,PySem.W.mg_of X G n_RoomError,h_NotSingle_NotSingle,i_NotSingle_TooGreat,i_NotSingle_NoRow,i_NotSingle_NoText,i_NotSingle_NoWay,i_NotSingle_NoFit,i_NotSingle_NoMachine,i_NotSingle_NoName,i_NotSingle_NotSingle,i_NotSingle_ValueError,i_NotSingle_NoExchange,h_NotSingle_RoomError⟩
 have F0:=jkm (st:=kkw) l0 c0 k0
 have F1:=jkm (st:=jw8) l1 c1 k1
 have F2:=jkm (st:=jx4) l2 c2 k2
 have F3:=jkm (st:=jkf) l3 c3 k3
 have F4:=jkm (st:=jvk) l4 c4 k4
 have F5:=jkm (st:=jw9) l5 c5 k5
 have F6:=jkm (st:=jx5) l6 c6 k6
 have F7:=jkm (st:=jqp) l7 c7 k7
 have F8:=jkm (st:=jq1) l8 c8 k8
 have F9:=jkm (st:=jqo) l9 c9 k9
 have F10:=jkm (st:=jqa) l10 c10 k10
 have F11:=jkm (st:=jq9) l11 c11 k11
 have F12:=jkm (st:=jvl) l12 c12 k12
 have F13:=jkm (st:=jv2) l13 c13 k13
 have F14:=jkm (st:=jv6) l14 c14 k14
 have F15:=jkm (st:=jqc) l15 c15 k15
 have F16:=jkm (st:=jqq) l16 c16 k16
 have F17:=jkm (st:=jv7) l17 c17 k17
 have F18:=jkm (st:=jv4) l18 c18 k18
 have F19:=jkm (st:=jqb) l19 c19 k19
 have F20:=jkm (st:=jq3) l20 c20 k20
 have F21:=jkm (st:=jqd) l21 c21 k21
 have F22:=jkm (st:=jqr) l22 c22 k22
 have F23:=jkm (st:=jv5) l23 c23 k23
 have F24:=jkm (st:=jq2) l24 c24 k24
 have F25:=jkm (st:=jkt) l25 c25 k25
 have F26:=jkm (st:=jvm) l26 c26 k26
 have F27:=jkm (st:=jv3) l27 c27 k27
 have F28:=jkm (st:=kqg) l28 c28 k28
 have b0:=F0.binds (ps:=["step","kept","name"]) fun _ _ _ _ _ _ us hl=>qzu us hl fun _ _ _=>rfl
 have b1:=F1.binds (ps:=["fill","kept","name"]) fun _ _ _ _ _ _ us hl=>qzu us hl fun _ _ _=>rfl
 have b2:=F2.binds (ps:=["step","kept","name"]) fun _ _ _ _ _ _ us hl=>qzu us hl fun _ _ _=>rfl
 have b3:=F3.binds (ps:=["machine"]) fun _ _ _ _ _ _ us hl=>qwj us hl fun _=>rfl
 have b4:=F4.binds (ps:=["machine","standing"]) fun _ _ _ _ _ _ us hl=>vq1 us hl fun _ _=>rfl
 have b5:=F5.binds (ps:=["machine","standing","sign","name"]) fun _ _ _ _ _ _ us hl=>vq0 us hl fun _ _ _ _=>rfl
 have b6:=F6.binds (ps:=["machine","standing","number","name"]) fun _ _ _ _ _ _ us hl=>vq0 us hl fun _ _ _ _=>rfl
 have b7:=F7.binds (ps:=["kept"]) fun _ _ _ _ _ _ us hl=>qwj us hl fun _=>rfl
 have b8:=F8.binds (ps:=["names","kept"]) fun _ _ _ _ _ _ us hl=>vq1 us hl fun _ _=>rfl
 have b9:=F9.binds (ps:=["standing","numbers"]) fun _ _ _ _ _ _ us hl=>vq1 us hl fun _ _=>rfl
 have b10:=F10.binds (ps:=["machine","standing","sign","name"]) fun _ _ _ _ _ _ us hl=>vq0 us hl fun _ _ _ _=>rfl
 have b11:=F11.binds (ps:=["machine","pair","sign","numbers"]) fun _ _ _ _ _ _ us hl=>vq0 us hl fun _ _ _ _=>rfl
 have b12:=F12.binds (ps:=["machine"]) fun _ _ _ _ _ _ us hl=>qwj us hl fun _=>rfl
 have b13:=F13.binds (ps:=["machine"]) fun _ _ _ _ _ _ us hl=>qwj us hl fun _=>rfl
 have b14:=F14.binds (ps:=["_law_script","_law_k"]) fun _ _ _ _ _ _ us hl=>vq1 us hl fun _ _=>rfl
 have b15:=F15.binds (ps:=["_law_x","_law_sizes"]) fun _ _ _ _ _ _ us hl=>vq1 us hl fun _ _=>rfl
 have b16:=F16.binds (ps:=["_law_x","_law_many"]) fun _ _ _ _ _ _ us hl=>vq1 us hl fun _ _=>rfl
 have b17:=F17.binds (ps:=["_law_machine_here"]) fun _ _ _ _ _ _ us hl=>qwj us hl fun _=>rfl
 have b18:=F18.binds (ps:=["_law_step","_law_kept","_law_name"]) fun _ _ _ _ _ _ us hl=>qzu us hl fun _ _ _=>rfl
 have b19:=F19.binds (ps:=["_law_step","_law_kept","_law_name"]) fun _ _ _ _ _ _ us hl=>qzu us hl fun _ _ _=>rfl
 have b20:=F20.binds (ps:=["_law_machine_here","_law_standing","_law_sign","_law_name"]) fun _ _ _ _ _ _ us hl=>vq0 us hl fun _ _ _ _=>rfl
 have b21:=F21.binds (ps:=["_law_machine_here","_law_standing","_law_k","_law_name"]) fun _ _ _ _ _ _ us hl=>vq0 us hl fun _ _ _ _=>rfl
 have b22:=F22.binds (ps:=["_law_error"]) fun _ _ _ _ _ _ us hl=>qwj us hl fun _=>rfl
 have b23:=F23.binds (ps:=["_law_way","_law_number","_law_here"]) fun _ _ _ _ _ _ us hl=>qzu us hl fun _ _ _=>rfl
 have b24:=F24.binds (ps:=["_law_script","_law_start","_law_signs_here"]) fun _ _ _ _ _ _ us hl=>qzu us hl fun _ _ _=>rfl
 have b25:=F25.binds (ps:=["_law_kept"]) fun _ _ _ _ _ _ us hl=>qwj us hl fun _=>rfl
 have b26:=F26.binds (ps:=["_law_machine_here"]) fun _ _ _ _ _ _ us hl=>qwj us hl fun _=>rfl
 have b27:=F27.binds (ps:=["_law_machine_here"]) fun _ _ _ _ _ _ us hl=>qwj us hl fun _=>rfl
 refine ⟨PySem.W.fnOf "law" "law" (jjm kqg) (jjl kqg) (jj4 kqg) .none kV28 dc28 pm28 an28 cd28 ct28,fun s v=>.of_eq rfl,fun base _ _=>?_⟩
 have D_fits:jqm l.prog w K mg base 1 "fits" ["step","kept","name"] (spF K mg 3 jzp):=⟨f0,_,vkw T  F0,b0,k0,PySem.W.mg_of X G a0⟩
 have D_held_by:jqm l.prog w K mg base 1 "held_by" ["fill","kept","name"] (spF K mg 3 jve):=⟨f1,_,qjk T  F1,b1,k1,PySem.W.mg_of X G a1⟩
 have D_filled:jqm l.prog w K mg base 2 "filled" ["step","kept","name"] (spF K mg 3 jvz):=⟨f2,_,qqi T D_held_by F2,b2,k2,PySem.W.mg_of X G a2⟩
 have D_first_standing:jqm l.prog w K mg base 1 "first_standing" ["machine"] (spF K mg 1 m_first_standing):=⟨f3,_,jzi T  F3,b3,k3,PySem.W.mg_of X G a3⟩
 have D_steps_at:jqm l.prog w K mg base 1 "steps_at" ["machine","standing"] (spF K mg 2 jkw):=⟨f4,_,kx9 T  F4,b4,k4,PySem.W.mg_of X G a4⟩
 have D_fitting:jqm l.prog w K mg base 2 "fitting" ["machine","standing","sign","name"] (spF K mg 4 m_fitting):=⟨f5,_,qjl T D_steps_at D_fits F5,b5,k5,PySem.W.mg_of X G a5⟩
 have D_behind:jqm l.prog w K mg base 3 "behind" ["machine","standing","number","name"] (spF K mg 4 m_behind):=⟨f6,_,qqj T D_steps_at D_filled F6,b6,k6,PySem.W.mg_of X G a6⟩
 have D_names_held:jqm l.prog w K mg base 1 "names_held" ["kept"] (spF K mg 1 m_names_held):=⟨f7,_,kqn T  F7,b7,k7,PySem.W.mg_of X G a7⟩
 have D_places_among:jqm l.prog w K mg base 1 "places_among" ["names","kept"] (spF K mg 2 jk9):=⟨f8,_,kjk T  F8,b8,k8,PySem.W.mg_of X G a8⟩
 have D_plain_case:jqm l.prog w K mg base 2 "plain_case" ["standing","numbers"] (spM K mg 1 jk2):=⟨f9,_,kqm T D_names_held D_places_among F9,b9,k9,PySem.W.mg_of X G a9⟩
 have D_only_behind:jqm l.prog w K mg base 4 "only_behind" ["machine","standing","sign","name"] (spF K mg 4 jkk):=⟨f10,_,kkl T D_fitting D_behind F10,b10,k10,PySem.W.mg_of X G a10⟩
 have D_plain_cases:jqm l.prog w K mg base 5 "plain_cases" ["machine","pair","sign","numbers"] (spM K mg 3 jkj):=⟨f11,_,kkk T D_plain_case D_only_behind D_names_held F11,b11,k11,PySem.W.mg_of X G a11⟩
 have D_plain_of:jqm l.prog w K mg base 6 "plain_of" ["machine"] (spF K mg 1 m_plain_of):=⟨f12,_,kxa T D_first_standing D_plain_cases D_names_held F12,b12,k12,PySem.W.mg_of X G a12⟩
 have D_is_single:jqm l.prog w K mg base 7 "is_single" ["machine"] (spF K mg 1 jv8):=⟨f13,_,kvv T D_plain_of F13,b13,k13,PySem.W.mg_of X G a13⟩
 have D__law_draw:jqm l.prog w K mg base 1 "_law_draw" ["_law_script","_law_k"] (spF K mg 2 jko):=⟨f14,_,kvz T  F14,b14,k14,PySem.W.mg_of X G a14⟩
 have D__law_digits:jqm l.prog w K mg base 1 "_law_digits" ["_law_x","_law_sizes"] (spF K mg 2 m__law_digits):=⟨f15,_,kkn T  F15,b15,k15,PySem.W.mg_of X G a15⟩
 have D__law_signs:jqm l.prog w K mg base 2 "_law_signs" ["_law_x","_law_many"] (spF K mg 2 m__law_signs):=⟨f16,_,kqo T D__law_digits F16,b16,k16,PySem.W.mg_of X G a16⟩
 have D__law_copy:jqm l.prog w K mg base 1 "_law_copy" ["_law_machine_here"] (spF K mg 1 m__law_copy):=⟨f17,_,kw0 T  F17,b17,k17,PySem.W.mg_of X G a17⟩
 have D__law_fits:jqm l.prog w K mg base 1 "_law_fits" ["_law_step","_law_kept","_law_name"] (spF K mg 3 jq7):=⟨f18,_,kvx T  F18,b18,k18,PySem.W.mg_of X G a18⟩
 have D__law_filled:jqm l.prog w K mg base 1 "_law_filled" ["_law_step","_law_kept","_law_name"] (spF K mg 3 jkl):=⟨f19,_,kkm T  F19,b19,k19,PySem.W.mg_of X G a19⟩
 have D__law_fitting:jqm l.prog w K mg base 2 "_law_fitting" ["_law_machine_here","_law_standing","_law_sign","_law_name"] (spF K mg 4 m__law_fitting):=⟨f20,_,kjm T D__law_fits F20,b20,k20,PySem.W.mg_of X G a20⟩
 have D__law_behind:jqm l.prog w K mg base 2 "_law_behind" ["_law_machine_here","_law_standing","_law_k","_law_name"] (spF K mg 4 m__law_behind):=⟨f21,_,kko T D__law_filled F21,b21,k21,PySem.W.mg_of X G a21⟩
 have D__law_kinds:vzl l.prog w K mg base 1 "_law_kinds" ["_law_error"] (spF K mg 1 jqs):=⟨f22,_,kqp T  F22,b22,k22,PySem.W.mg_of X G a22⟩
 have D__law_fill:jqm l.prog w K mg base 1 "_law_fill" ["_law_way","_law_number","_law_here"] (spF K mg 3 jva):=⟨f23,_,kvy T  F23,b23,k23,PySem.W.mg_of X G a23⟩
 have D__law_machine:jqm l.prog w K mg base 2 "_law_machine" ["_law_script","_law_start","_law_signs_here"] (spF K mg 3 jkn):=⟨f24,_,kjl T D__law_digits D__law_draw D__law_fill F24,b24,k24,PySem.W.mg_of X G a24⟩
 have D__law_names_in:jqm l.prog w K mg base 1 "_law_names_in" ["_law_kept"] (spF K mg 1 jkb):=⟨f25,_,jzx T  F25,b25,k25,PySem.W.mg_of X G a25⟩
 have D__law_due:jqm l.prog w K mg base 3 "_law_due" ["_law_machine_here"] (spF K mg 1 jvp):=⟨f26,_,kxb T D__law_fitting D__law_behind D__law_names_in F26,b26,k26,PySem.W.mg_of X G a26⟩
 have D__law_told:jqm l.prog w K mg base 7 "_law_told" ["_law_machine_here"] (spF K mg 1 jv9):=⟨f27,_,kvw T D_plain_of D__law_kinds F27,b27,k27,PySem.W.mg_of X G a27⟩
 exact vx3 T D__law_signs D__law_machine D__law_copy D__law_due D_is_single D__law_told D__law_draw F28
end Nk39
theorem PySem.W.Fast.tw8978446630508410164:True:=trivial
theorem PySem.W.Fast.tw13251561160773956052:True:=trivial
theorem PySem.W.Fast.tw17439750749088257642:True:=trivial
theorem PySem.W.Fast.tw12514054295707223570:True:=trivial
theorem PySem.W.Fast.tw16504108333414648025:True:=trivial
theorem PySem.W.Fast.tw15954609767442392767:True:=trivial
theorem PySem.W.Fast.tw13852826696297554598:True:=trivial
theorem PySem.W.Fast.tw57471363027483779:True:=trivial
theorem PySem.W.Fast.tw1321900916113049645:True:=trivial
theorem PySem.W.Fast.tw6420465360800318873:True:=trivial
theorem PySem.W.Fast.tw7496196685544863088:True:=trivial
theorem PySem.W.Fast.tw16504957747628080607:True:=trivial
theorem PySem.W.Fast.tw4497402688188703617:True:=trivial
theorem PySem.W.Fast.tw15811395375204769450:True:=trivial
theorem PySem.W.Fast.tw14504505258363017887:True:=trivial
theorem PySem.W.Fast.tw3849789464569661973:True:=trivial
theorem PySem.W.Fast.tw14720921067486138852:True:=trivial
theorem PySem.W.Fast.tw13704869491929975299:True:=trivial
theorem PySem.W.Fast.tw12470481654740378086:True:=trivial
theorem PySem.W.Fast.tw10541836626650080664:True:=trivial
theorem PySem.W.Fast.tw15841722683001209984:True:=trivial
theorem PySem.W.Fast.tw7150094538462464926:True:=trivial
theorem PySem.W.Fast.tw17415162794388985052:True:=trivial
theorem PySem.W.Fast.tw18003471598859431987:True:=trivial
theorem PySem.W.Fast.tw1155000832761113509:True:=trivial
theorem PySem.W.Fast.tw10635710146919436569:True:=trivial
theorem PySem.W.Fast.tw11607559621752177172:True:=trivial
theorem PySem.W.Fast.tw12461075660501577843:True:=trivial
theorem PySem.W.Fast.tw7936778204528995655:True:=trivial
theorem PySem.W.Fast.tw7308709747401040749:True:=trivial
theorem PySem.W.Fast.tw1220171481047547778:True:=trivial
theorem PySem.W.Fast.tw8585319837773648133:True:=trivial
theorem PySem.W.Fast.tw18149316112412531308:True:=trivial
theorem PySem.W.Fast.tw6595330724385990627:True:=trivial
theorem PySem.W.Fast.tw17203075804324340325:True:=trivial
theorem PySem.W.Fast.tw16610193056862559550:True:=trivial
theorem PySem.W.Fast.tw14476682122664201803:True:=trivial
theorem PySem.W.Fast.tw104987968839390094:True:=trivial
theorem PySem.W.Fast.tw11449330841810355120:True:=trivial
theorem PySem.W.Fast.tw6536746652689424113:True:=trivial
theorem PySem.W.Fast.tw13667948269058375511:True:=trivial
theorem PySem.W.Fast.tw2003858487488437963:True:=trivial
theorem PySem.W.Fast.tw16752809171176233518:True:=trivial
theorem PySem.W.Fast.tw8976712097805749487:True:=trivial
theorem PySem.W.Fast.tw16977080264204080565:True:=trivial
theorem PySem.W.Fast.tw17256074455757854743:True:=trivial
theorem PySem.W.Fast.tw6839427718333515223:True:=trivial
theorem PySem.W.Fast.tw7049795616389170592:True:=trivial
theorem PySem.W.Fast.tw7642293565335424238:True:=trivial
theorem PySem.W.Fast.tw16608234147540848009:True:=trivial
theorem PySem.W.Fast.tw8644406536562812558:True:=trivial
theorem PySem.W.Fast.tw10206896746420508806:True:=trivial
theorem PySem.W.Fast.tw12017309876683147941:True:=trivial
theorem PySem.W.Fast.tw14238058562077716640:True:=trivial
theorem PySem.W.Fast.tw3161776306609203893:True:=trivial
theorem PySem.W.Fast.tw7371148445632080559:True:=trivial
theorem PySem.W.Fast.tw9096009807653653663:True:=trivial
theorem PySem.W.Fast.tw7496752483462481890:True:=trivial
theorem PySem.W.Fast.tw9040352679654485340:True:=trivial
theorem PySem.W.Fast.tw5818044001398733382:True:=trivial
theorem PySem.W.Fast.tw10776546073239701236:True:=trivial
theorem PySem.W.Fast.tw17168882634649797965:True:=trivial
theorem PySem.W.Fast.tw17057715669723411461:True:=trivial
theorem PySem.W.Fast.tw9583879553632026564:True:=trivial
theorem PySem.W.Fast.tw1307097553746415525:True:=trivial
theorem PySem.W.Fast.tw8505252686272543987:True:=trivial
theorem PySem.W.Fast.tw12244480133629165868:True:=trivial
theorem PySem.W.Fast.tw15680356363364717265:True:=trivial
theorem PySem.W.Fast.tw10715267955234481428:True:=trivial
theorem PySem.W.Fast.tw7100205620317289432:True:=trivial
theorem PySem.W.Fast.tw11469787122559546208:True:=trivial
theorem PySem.W.Fast.tw6393507401821550319:True:=trivial
theorem PySem.W.Fast.tw8136508714193945011:True:=trivial
theorem PySem.W.Fast.tw13726090743114090820:True:=trivial
theorem PySem.W.Fast.tw15435360165561522823:True:=trivial
theorem PySem.W.Fast.tw17911818493247259486:True:=trivial
theorem PySem.W.Fast.tw15101721556646934150:True:=trivial
theorem PySem.W.Fast.tw5012466498032736882:True:=trivial
theorem PySem.W.Fast.tw4879597556972358752:True:=trivial
theorem PySem.W.Fast.tw11694877397670679829:True:=trivial
theorem PySem.W.Fast.tw13902076145256068906:True:=trivial
theorem PySem.W.Fast.tw4781657670496044053:True:=trivial
theorem PySem.W.Fast.tw9609328029270971247:True:=trivial
theorem PySem.W.Fast.tw6657305448149937754:True:=trivial
theorem PySem.W.Fast.tw4761083456654608910:True:=trivial
theorem PySem.W.Fast.tw17176673159413000172:True:=trivial
theorem PySem.W.Fast.tw4119934813135408281:True:=trivial
theorem PySem.W.Fast.tw327115725666133543:True:=trivial
theorem PySem.W.Fast.tw4711920759351253967:True:=trivial
theorem PySem.W.Fast.tw735044887047165399:True:=trivial
theorem PySem.W.Fast.tw12789402852177841319:True:=trivial
theorem PySem.W.Fast.tw15845829926488671304:True:=trivial
theorem PySem.W.Fast.tw174266319436804361:True:=trivial
theorem PySem.W.Fast.tw4678320046419124153:True:=trivial
theorem PySem.W.Fast.tw15454302436350104363:True:=trivial
theorem PySem.W.Fast.tw6757276678075940997:True:=trivial
theorem PySem.W.Fast.tw1568500204597358276:True:=trivial
theorem PySem.W.Fast.tw5474615687243399781:True:=trivial
theorem PySem.W.Fast.tw3695431311546771389:True:=trivial
theorem PySem.W.Fast.tw13839648619350834756:True:=trivial
theorem PySem.W.Fast.tw9800481745116812096:True:=trivial
theorem PySem.W.Fast.tw13118242996329121635:True:=trivial
theorem PySem.W.Fast.tw1474599527163331513:True:=trivial
theorem PySem.W.Fast.tw5101613075110994547:True:=trivial
theorem PySem.W.Fast.tw269202628149856289:True:=trivial
theorem PySem.W.Fast.tw1653949107521201415:True:=trivial
theorem PySem.W.Fast.tw6671506857989673667:True:=trivial
theorem PySem.W.Fast.tw17707854771807486382:True:=trivial
theorem PySem.W.Fast.tw111428153513395158:True:=trivial
theorem PySem.W.Fast.tw3506630760001494877:True:=trivial
theorem PySem.W.Fast.tw3400330175948414926:True:=trivial
theorem PySem.W.Fast.tw3533438516199634801:True:=trivial
theorem PySem.W.Fast.tw7440999534576351821:True:=trivial
theorem PySem.W.Fast.tw3414689813354779005:True:=trivial
theorem PySem.W.Fast.tw3290256185818667453:True:=trivial
theorem PySem.W.Fast.tw5279149717401253204:True:=trivial
theorem PySem.W.Fast.tw13948965954721442556:True:=trivial
theorem PySem.W.Fast.tw16825678288911235111:True:=trivial
theorem PySem.W.Fast.tw2381240104209446700:True:=trivial
theorem PySem.W.Fast.tw12531241339902768922:True:=trivial
theorem PySem.W.Fast.tw15824846857447985212:True:=trivial
theorem PySem.W.Fast.tw4781526672722395915:True:=trivial
theorem PySem.W.Fast.tw13267751676141896128:True:=trivial
theorem PySem.W.Fast.tw5481542094046971925:True:=trivial
theorem PySem.W.Fast.tw2054899800554491864:True:=trivial
theorem PySem.W.Fast.tw13567473616057359891:True:=trivial
theorem PySem.W.Fast.tw983709462407108836:True:=trivial
theorem PySem.W.Fast.tw16120869534879924220:True:=trivial
theorem PySem.W.Fast.tw5234257835543741909:True:=trivial
theorem PySem.W.Fast.tw3579243622007567219:True:=trivial
theorem PySem.W.Fast.tw2654651112712976128:True:=trivial
theorem PySem.W.Fast.tw1918559723413336183:True:=trivial
open PySem PySem.W PyProof.Rows
set_option maxRecDepth 100000 in
set_option maxHeartbeats 0 in
theorem PySem.Challenge.cw_freshrooms_k39_singly_by_standings_holds : PySem.Challenge.rw_freshrooms_k39_singly_by_standings.Holds := by
 w_on;o_law;k_head;(case hw=>w_witness2)
 k_fill
 refine Q.walkQ (l:=PySem.Challenge.rw_freshrooms_k39_singly_by_standings) (n:=63) (k:=8) (x:="_law_script") (f:=Nk39.m_law) rfl (by decide) rfl ⟨rfl,by decide,by decide,rfl⟩ (fun w h Y=>PySem.W.kIn_of Y) ?F Nk39.law_true
 case F =>
  intro w mg fa h KX G hmg
  refine' Nk39.all_mk KX G hmg ?a0 ?l0 ?c0 ?k0 ?a1 ?l1 ?c1 ?k1 ?a2 ?l2 ?c2 ?k2 ?a3 ?l3 ?c3 ?k3 ?a4 ?l4 ?c4 ?k4 ?a5 ?l5 ?c5 ?k5 ?a6 ?l6 ?c6 ?k6 ?a7 ?l7 ?c7 ?k7 ?a8 ?l8 ?c8 ?k8 ?a9 ?l9 ?c9 ?k9 ?a10 ?l10 ?c10 ?k10 ?a11 ?l11 ?c11 ?k11 ?a12 ?l12 ?c12 ?k12 ?a13 ?l13 ?c13 ?k13 ?a14 ?l14 ?c14 ?k14 ?a15 ?l15 ?c15 ?k15 ?a16 ?l16 ?c16 ?k16 ?a17 ?l17 ?c17 ?k17 ?a18 ?l18 ?c18 ?k18 ?a19 ?l19 ?c19 ?k19 ?a20 ?l20 ?c20 ?k20 ?a21 ?l21 ?c21 ?k21 ?a22 ?l22 ?c22 ?k22 ?a23 ?l23 ?c23 ?k23 ?a24 ?l24 ?c24 ?k24 ?a25 ?l25 ?c25 ?k25 ?a26 ?l26 ?c26 ?k26 ?a27 ?l27 ?c27 ?k27 ?a28 ?l28 ?c28 ?k28 ?z_ValueError ?z_bool ?z_enumerate ?z_int ?z_isinstance ?z_len ?z_list ?z_range ?z_repr ?z_sorted ?z_tuple ?n_NotSingle ?ec_NotSingle ?ga_NotSingle ?gt_NotSingle ?fa_NotSingle ?fg_NotSingle ?ft_NotSingle ?ob_NotSingle ?bx_NotSingle ?cl_NotSingle ?n_TooGreat ?n_NoRow ?n_NoText ?n_NoWay ?n_NoFit ?n_NoMachine ?n_NoName ?n_NoExchange ?n_RoomError ?h_NotSingle_NotSingle ?i_NotSingle_TooGreat ?i_NotSingle_NoRow ?i_NotSingle_NoText ?i_NotSingle_NoWay ?i_NotSingle_NoFit ?i_NotSingle_NoMachine ?i_NotSingle_NoName ?i_NotSingle_NotSingle ?i_NotSingle_ValueError ?i_NotSingle_NoExchange ?h_NotSingle_RoomError
  (case a0=>k_is)
  (case l0=>k_is)
  (case c0=>k_is)
  (case k0=>k_is)
  (case a1=>k_is)
  (case l1=>k_is)
  (case c1=>k_is)
  (case k1=>k_is)
  (case a2=>k_is)
  (case l2=>k_is)
  (case c2=>k_is)
  (case k2=>k_is)
  (case a3=>k_is)
  (case l3=>k_is)
  (case c3=>k_is)
  (case k3=>k_is)
  (case a4=>k_is)
  (case l4=>k_is)
  (case c4=>k_is)
  (case k4=>k_is)
  (case a5=>k_is)
  (case l5=>k_is)
  (case c5=>k_is)
  (case k5=>k_is)
  (case a6=>k_is)
  (case l6=>k_is)
  (case c6=>k_is)
  (case k6=>k_is)
  (case a7=>k_is)
  (case l7=>k_is)
  (case c7=>k_is)
  (case k7=>k_is)
  (case a8=>k_is)
  (case l8=>k_is)
  (case c8=>k_is)
  (case k8=>k_is)
  (case a9=>k_is)
  (case l9=>k_is)
  (case c9=>k_is)
  (case k9=>k_is)
  (case a10=>k_is)
  (case l10=>k_is)
  (case c10=>k_is)
  (case k10=>k_is)
  (case a11=>k_is)
  (case l11=>k_is)
  (case c11=>k_is)
  (case k11=>k_is)
  (case a12=>k_is)
  (case l12=>k_is)
  (case c12=>k_is)
  (case k12=>k_is)
  (case a13=>k_is)
  (case l13=>k_is)
  (case c13=>k_is)
  (case k13=>k_is)
  (case a14=>k_is)
  (case l14=>k_is)
  (case c14=>k_is)
  (case k14=>k_is)
  (case a15=>k_is)
  (case l15=>k_is)
  (case c15=>k_is)
  (case k15=>k_is)
  (case a16=>k_is)
  (case l16=>k_is)
  (case c16=>k_is)
  (case k16=>k_is)
  (case a17=>k_is)
  (case l17=>k_is)
  (case c17=>k_is)
  (case k17=>k_is)
  (case a18=>k_is)
  (case l18=>k_is)
  (case c18=>k_is)
  (case k18=>k_is)
  (case a19=>k_is)
  (case l19=>k_is)
  (case c19=>k_is)
  (case k19=>k_is)
  (case a20=>k_is)
  (case l20=>k_is)
  (case c20=>k_is)
  (case k20=>k_is)
  (case a21=>k_is)
  (case l21=>k_is)
  (case c21=>k_is)
  (case k21=>k_is)
  (case a22=>k_is)
  (case l22=>k_is)
  (case c22=>k_is)
  (case k22=>k_is)
  (case a23=>k_is)
  (case l23=>k_is)
  (case c23=>k_is)
  (case k23=>k_is)
  (case a24=>k_is)
  (case l24=>k_is)
  (case c24=>k_is)
  (case k24=>k_is)
  (case a25=>k_is)
  (case l25=>k_is)
  (case c25=>k_is)
  (case k25=>k_is)
  (case a26=>k_is)
  (case l26=>k_is)
  (case c26=>k_is)
  (case k26=>k_is)
  (case a27=>k_is)
  (case l27=>k_is)
  (case c27=>k_is)
  (case k27=>k_is)
  (case a28=>k_is)
  (case l28=>k_is)
  (case c28=>k_is)
  (case k28=>k_is)
  (case z_ValueError=>k_is)
  (case z_bool=>k_is)
  (case z_enumerate=>k_is)
  (case z_int=>k_is)
  (case z_isinstance=>k_is)
  (case z_len=>k_is)
  (case z_list=>k_is)
  (case z_range=>k_is)
  (case z_repr=>k_is)
  (case z_sorted=>k_is)
  (case z_tuple=>k_is)
  (case n_NotSingle=>k_is)
  (case ec_NotSingle=>k_exc)
  (case ga_NotSingle=>k_is)
  (case gt_NotSingle=>k_is)
  (case fa_NotSingle=>k_is)
  (case fg_NotSingle=>k_is)
  (case ft_NotSingle=>k_is)
  (case ob_NotSingle=>k_is)
  (case bx_NotSingle=>k_is)
  (case cl_NotSingle=>k_is)
  (case n_TooGreat=>k_is)
  (case n_NoRow=>k_is)
  (case n_NoText=>k_is)
  (case n_NoWay=>k_is)
  (case n_NoFit=>k_is)
  (case n_NoMachine=>k_is)
  (case n_NoName=>k_is)
  (case n_NoExchange=>k_is)
  (case n_RoomError=>k_is)
  (case h_NotSingle_NotSingle=>kts_exm)
  (case i_NotSingle_TooGreat=>kit_is)
  (case i_NotSingle_NoRow=>kit_is)
  (case i_NotSingle_NoText=>kit_is)
  (case i_NotSingle_NoWay=>kit_is)
  (case i_NotSingle_NoFit=>kit_is)
  (case i_NotSingle_NoMachine=>kit_is)
  (case i_NotSingle_NoName=>kit_is)
  (case i_NotSingle_NotSingle=>kit_is)
  (case i_NotSingle_ValueError=>kit_is)
  (case i_NotSingle_NoExchange=>kit_is)
  (case h_NotSingle_RoomError=>kts_exm)
