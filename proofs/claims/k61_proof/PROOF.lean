import PyProof.Rows.All
import Wide.All
import OpenK.AllK
import Wide.FinOn
import Lean
import PySem.Challenge.RW_freshrooms_k61_joined_room_by_room
open PySem.W(Frag kitOne nsIn findIn)
set_option Elab.async false
set_option linter.all false
set_option bootstrap.genMatcherCode false
set_option compiler.extract_closed false
set_option maxRecDepth 100000
set_option tactic.hygienic false
local macro_rules|`(#[$a,*])=>`(⟨$a,*⟩)
local macro_rules|`(⋯)=>`(by first|decide|lia)
local macro_rules|`(tactic|ac_rfl)=>`(tactic|with_unfolding_all rfl)
local macro_rules|`(tactic|exists$e)=>`(tactic|with_unfolding_all exact$e)
abbrev VP9:=PySem.Value->PySem.Shared->Prop
abbrev LA9:=List (PySem.Addr×PySem.Obj)
abbrev Kq9(k:List Int):=∀p∈k,0<=p/\p<=3
theorem aA{α}{a:α}{s t:List α}:a∈s++t->a∈s∨a∈t:=List.mem_append.mp
theorem aB{α}{a b:α}:a=b->a∈[b]:=List.mem_singleton.mpr
theorem aC{α}{a b:α}:a∈[b]->a=b:=List.mem_singleton.mp
theorem aD{α}{a b:α}{l:List α}:a∈b::l->a=b∨a∈l:=List.mem_cons.mp
theorem aE{α β}{f:α->β}{l:List α}{b:β}:b∈l.map f->∃a,a∈l∧f a=b:=List.mem_map.mp
def Ŕq(_:True:=by rfl):True:=trivial
def Ŕq.z:True:=trivial
open Ŕq renaming _auto_1→Ŕ
def ŕq(_:True:=by decide):True:=trivial
def ŕq.z:True:=trivial
open ŕq renaming _auto_1→ŕ
def Ŗq(_:True:=by intro _;rfl):True:=trivial
def Ŗq.z:True:=trivial
open Ŗq renaming _auto_1→Ŗ
def ŗq(_:True:=by decide +kernel):True:=trivial
def ŗq.z:True:=trivial
open ŗq renaming _auto_1→ŗ
def Řq(_:True:=by first|exact .inl rfl|exact .inr rfl|assumption):True:=trivial
def Řq.z:True:=trivial
open Řq renaming _auto_1→Ř
def řq(_:True:=by first|exact Or.inl rfl|exact Or.inr (Or.inl rfl)|exact Or.inr (Or.inr rfl)):True:=trivial
def řq.z:True:=trivial
open řq renaming _auto_1→ř
def Śq(_:True:=by first|exact Or.inl rfl|exact Or.inr rfl):True:=trivial
def Śq.z:True:=trivial
open Śq renaming _auto_1→Ś
def śq(_:True:=by first|exact .inl rfl|exact .inr rfl):True:=trivial
def śq.z:True:=trivial
open śq renaming _auto_1→ś
theorem oq9{α : Type _}{a b : α}(h:some a=some b):a=b:=Option.some.inj h
theorem lr9{α : Type _}{a : α}{b : List α}(c : List α)(h:a ∈ b):a ∈ c ++ b:=List.mem_append_right c h
theorem ll9{α : Type _}{a : α}{b : List α}(c : List α)(h:a ∈ b):a ∈ b ++ c:=List.mem_append_left c h
theorem lc9{α : Type _}{a : α}{l : List α}(b : α)(h:a ∈ l):a ∈ b::l:=List.mem_cons_of_mem b h
section
open PySem PySem.Spec PyProof.Rows
theorem X0:type_of% @wpAny_bind:=@wpAny_bind
theorem X1:type_of% @List.getElem?_eq_getElem:=@List.getElem?_eq_getElem
theorem X2:type_of% @Heap.get?_push_of_some:=@Heap.get?_push_of_some
theorem X3:type_of% @List.length_map:=@List.length_map
theorem X4:type_of% @List.mem_cons_self:=@List.mem_cons_self
theorem X5:type_of% @wpAny_pure:=@wpAny_pure
theorem X6:type_of% @List.size_toArray:=@List.size_toArray
theorem X7:type_of% @List.nodup_append:=@List.nodup_append
theorem X8:type_of% @Nat.le_refl:=@Nat.le_refl
theorem X9:type_of% @List.getD_eq_getElem?_getD:=@List.getD_eq_getElem?_getD
theorem Xa:type_of% @Heap.get?_push_size:=@Heap.get?_push_size
theorem Xb:type_of% @if_pos:=@if_pos
theorem Xd:type_of% @Heap.lt_size:=@Heap.lt_size
theorem Xe:type_of% @if_neg:=@if_neg
theorem Xf:type_of% @Nat.lt_of_lt_of_le:=@Nat.lt_of_lt_of_le
theorem Xg:type_of% @List.length_cons:=@List.length_cons
theorem Xh:type_of% @decide_eq_true:=@decide_eq_true
theorem Xi:type_of% @List.length_append:=@List.length_append
theorem Xj:type_of% @List.map_map:=@List.map_map
theorem Xk:type_of% @List.map_append:=@List.map_append
theorem Xl:type_of% @Nat.ne_of_lt:=@Nat.ne_of_lt
theorem Xm:type_of% @List.not_mem_nil:=@List.not_mem_nil
theorem Xn:type_of% @List.append_nil:=@List.append_nil
theorem Xp:type_of% @decide_eq_false:=@decide_eq_false
def Xq:type_of% @List.getElem?_map:=@List.getElem?_map
theorem Xr:type_of% @List.getElem?_set_ne:=@List.getElem?_set_ne
theorem Xs:type_of% @List.mem_map_of_mem:=@List.mem_map_of_mem
theorem Xu:type_of% @beq_false_of_ne:=@beq_false_of_ne
theorem Xv:type_of% @List.append_assoc:=@List.append_assoc
theorem Xw:type_of% @Int.emod_lt_of_pos:=@Int.emod_lt_of_pos
theorem Xx:type_of% @Nat.le_trans:=@Nat.le_trans
theorem Xy:type_of% @List.getElem?_set_self:=@List.getElem?_set_self
theorem Xz:type_of% @List.mem_cons:=@List.mem_cons
theorem Y0:type_of% @List.getElem_mem:=@List.getElem_mem
theorem Y1:type_of% @PySem.W.kia_one:=@PySem.W.kia_one
theorem Y2:type_of% @List.nodup_nil:=@List.nodup_nil
theorem Y3:type_of% @PySem.W.mg_none_of:=@PySem.W.mg_none_of
theorem Y4:type_of% @List.length_singleton:=@List.length_singleton
theorem Y5:type_of% @wpAny_field:=@wpAny_field
theorem Y6:type_of% @wpAny_call_entry:=@wpAny_call_entry
theorem Y7:type_of% @Int.emod_nonneg:=@Int.emod_nonneg
theorem Y8:type_of% @List.Sublist.refl:=@List.Sublist.refl
theorem Y9:type_of% @wpAny_holding:=@wpAny_holding
theorem Ya:type_of% @PyProof.Rows.callWith_type1:=@PyProof.Rows.callWith_type1
theorem Yb:type_of% @wpAny_callSpecial?_slot:=@wpAny_callSpecial?_slot
theorem Yd:type_of% @List.length_range:=@List.length_range
theorem Ye:type_of% @Int.toNat_natCast:=@Int.toNat_natCast
theorem Yf:type_of% @Heap.get?_none_of_le:=@Heap.get?_none_of_le
theorem Yg:type_of% @Nat.zero_le:=@Nat.zero_le
theorem Yh:type_of% @List.getElem?_append_left:=@List.getElem?_append_left
theorem Yi:type_of% @wpAny_newObj_type:=@wpAny_newObj_type
theorem Yj:type_of% @List.length_set:=@List.length_set
theorem Yk:type_of% @PySem.W.mg_of:=@PySem.W.mg_of
theorem Yl:type_of% @Array.getElem?_toList:=@Array.getElem?_toList
theorem Ym:type_of% @Nat.lt_irrefl:=@Nat.lt_irrefl
theorem Yn:type_of% @PySem.F.plainAttrs_list:=@PySem.F.plainAttrs_list
theorem Yo:type_of% @Calls.callWith_builtin:=@Calls.callWith_builtin
theorem Yp:type_of% @PySem.mem_of_lookup:=@PySem.mem_of_lookup
def Yq:type_of% @Heap.SameBut.update:=@Heap.SameBut.update
theorem Ys:type_of% @Heap.get?_update_self:=@Heap.get?_update_self
theorem Yt:type_of% @Calls.evalArgs_plain:=@Calls.evalArgs_plain
theorem Yu:type_of% @wpAny_typeNameOfWhole_keyiter:=@wpAny_typeNameOfWhole_keyiter
theorem Yv:type_of% @Heap.get?_update_ne:=@Heap.get?_update_ne
theorem Yw:type_of% @List.map_congr_left:=@List.map_congr_left
theorem Yx:type_of% @List.all_eq_true:=@List.all_eq_true
theorem Yy:type_of% @Heap.size_push:=@Heap.size_push
theorem Yz:type_of% @wpAny_seqItems:=@wpAny_seqItems
theorem Z0:type_of% @List.filter_append:=@List.filter_append
theorem Z1:type_of% @List.length_replicate:=@List.length_replicate
theorem Z2:type_of% @wpAny_passesOwn:=@wpAny_passesOwn
theorem Z3:type_of% @True.intro:=@True.intro
theorem Z4:type_of% @List.lookup_cons:=@List.lookup_cons
theorem Z5:type_of% @wpAny_setField:=@wpAny_setField
theorem Z6:type_of% @wpAny_mono:=@wpAny_mono
end
noncomputable section
namespace L2
open PySem PySem.Spec PyProof.Rows
abbrev Key:=Sum Int Str
noncomputable def qvo:Key->Value->Bool
 |.inl k,v=>Value.isInt k v|.inr x,v=>Value.isStrOf x v
noncomputable def keyH(w:World):Key->Int
 |.inl k=>hashInt k|.inr x=>hashStr w x
theorem V3:∀{k v},qvo k v=true->(∃i t,k=Sum.inl i/\v=Value.int i t)\/(∃x t,k=Sum.inr x/\v=Value.str x t)
 |.inl i,v,h=>by
  obtain⟨t,e⟩:=Value.isInt_shape h;exact .inl #[i,t,rfl,e]
 |.inr x,v,h=>by
  obtain⟨t,e⟩:=Value.isStrOf_shape h;exact .inr #[x,t,rfl,e]
theorem qzm i t:qvo (.inl i) (.int i t)=true:=by simp[qvo,Value.isInt]
theorem qzl x t:qvo (.inr x) (.str x t)=true:=by simp[qvo,Value.isStrOf]
theorem www(a b):decide ((Sum.inl a:Key)=Sum.inl b)=(a==b):=by
 by_cases e:a=b
 ·subst e;simp
 ·grind
theorem wwt(a b):decide ((Sum.inr a:Key)=Sum.inr b)=decide (a=b):=by
 by_cases e:a=b
 ·subst e;simp
 ·grind
theorem wwv a b:decide ((Sum.inl a:Key)=Sum.inr b)=false:=Xp (λq=>nomatch q)
theorem wwu a b:decide ((Sum.inr a:Key)=Sum.inl b)=false:=Xp (λq=>nomatch q)
noncomputable def xw(prog:Program)(w:World):PySem.KeyKind prog w Key where
 is:=qvo
 hash:=keyH w
 inj:=λv a b ha hb=>by
  rcases V3 ha with⟨i,t,rfl,rfl⟩|⟨x,t,rfl,rfl⟩
  ·rcases V3 hb with⟨j,u,rfl,e⟩|⟨y,u,rfl,e⟩
   ·injection e with e1 _;rw[e1]
   ·exact nomatch e
  ·rcases V3 hb with⟨j,u,rfl,e⟩|⟨y,u,rfl,e⟩
   ·exact nomatch e
   ·injection e with e1 _;rw[e1]
 byValue:=λk v h=>by
  rcases V3 h with⟨i,t,rfl,rfl⟩|⟨x,t,rfl,rfl⟩<;>rfl
 pyHash:=λhv h=>by
  rcases V3 hv with⟨i,t,rfl,rfl⟩|⟨x,t,rfl,rfl⟩
  ·exact wpAny_pyHash_int h
  ·exact wpAny_pyHash_str h
 eqBool:=λhu hv h=>by
  rcases V3 hu with⟨i,t,rfl,rfl⟩|⟨x,t,rfl,rfl⟩
  ·rcases V3 hv with⟨j,u,rfl,rfl⟩|⟨y,u,rfl,rfl⟩
   ·rw[www]at h;exact wpAny_eqBool_int h
   ·rw[wwv]at h;exact SeqAt.EqAt.int_str i t y u _ _ _ _ h
  ·rcases V3 hv with⟨j,u,rfl,rfl⟩|⟨y,u,rfl,rfl⟩
   ·rw[wwu]at h;exact SeqAt.EqAt.str_int x t j u _ _ _ _ h
   ·rw[wwt]at h;exact wpAny_eqBool_str h
 «strs»:=λk x t v h=>by
  rcases V3 h with⟨i,u,rfl,e⟩|⟨y,u,rfl,e⟩
  ·exact nomatch e
  ·injection e with e1 _;subst e1;cases v<;>rfl
theorem qjn prog w i t:(xw prog w).is (.inl i) (.int i t)=true:=qzm i t
theorem qjm prog w x t:(xw prog w).is (.inr x) (.str x t)=true:=qzl x t
inductive V where
 |non|bl (b:Bool)|int (i:Int)|str (x:Str)|byt (b:Array UInt8)|flt (b:UInt64)|ref (a:Addr)|ty (n:String)
 deriving DecidableEq
noncomputable def RelV:V->Value->Prop
 |.non,u=>u=Value.none|.bl b,u=>u=Value.bool b|.int i,u=>∃t,u=Value.int i t|.str x,u=>∃t,u=Value.str x t|.byt b,u=>∃t,u=Value.bytes b t|.flt b,u=>∃t,u=Value.float b t|.ref a,u=>u=Value.ref a|.ty n,u=>u=Value.type n
abbrev Vals:List V->List Value->Prop:=Paired RelV
theorem Vals.length{xs us}(r:Vals xs us):xs.length=us.length:=Paired.length r
theorem Vals.get:∀{xs us} {i:Nat} {x},Vals xs us->xs[i]?=some x->∃u,us[i]?=some u/\RelV x u
 |_,_,_,_,.nil,e=>by simp at e|_,_,0,_,.cons r _,e=>by simp at e;subst e;exact#[_,rfl,r]
 |_,_,i+1,x,.cons _ t,e=>by
  obtain⟨u,h1,h2⟩:=Vals.get t (by simpa using e);exact#[u,by simpa using h1,h2]
theorem Vals.set{x u}(r:RelV x u):∀{xs us} (i),Vals xs us->Vals (xs.set i x) (us.set i u)
 |_,_,_,.nil=>.nil|_,_,0,.cons _ t=>.cons r t|_,_,i+1,.cons q t=>.cons q (Vals.set r i t)
theorem Vals.append:∀{xs ys us ws},Vals xs us->Vals ys ws->Vals (xs++ys) (us++ws)
 |_,_,_,_,.nil,s=>s|_,_,_,_,.cons r t,s=>.cons r (Vals.append t s)
theorem Vals.take:∀{xs us} (n),Vals xs us->Vals (xs.take n) (us.take n)
 |_,_,0,_=>.nil|_,_,_+1,.nil=>.nil|_,_,n+1,.cons r t=>.cons r (Vals.take n t)
theorem Vals.drop:∀{xs us} (n),Vals xs us->Vals (xs.drop n) (us.drop n)
 |_,_,0,r=>r|_,_,_+1,.nil=>.nil|_,_,n+1,.cons _ t=>Vals.drop n t
noncomputable def RelO:Option V->Option Value->Prop
 |some v,some u=>RelV v u|none,none=>True|_,_=>False
noncomputable def KV{κ:Type}:List (κ×V)->List (κ×Value)->Prop:=Paired λ(p:κ×V) (q:κ×Value)=>p.1=q.1/\RelV p.2 q.2
def kV:Key->V
 |.inl i=>.int i|.inr x=>.str x
inductive HO where
 |lst (xs:List V)
 |tup (xs:List V)
 |dK (kvs:List (Key×V))|dT (kvs:List (List Key×V))
 |set (S:Int->Bool) (n:Nat)
 |ins (C dx:Addr) (fs:List (Str×V))
 |own (x:Addr)
 |xd (fs:List (Str×V))
 |met (f x:Addr)
 |rng (lo hi:Int)
 |frz (o:Obj) (u:HO)
 |tbl (ps:Array Value)
 |ext (φ:World->Heap->Prop)
abbrev Hp:=Addr->Option HO
noncomputable def IsTupD(h:Heap)(a:Addr)(items:Array Value):Prop:=∃o,h.get? a=some o/\o.cls=.type "tuple"/\o.dict=none/\∃n,o.data=.seq items n
theorem IsTupD.tup{h a items}(p:IsTupD h a items):IsTup h a items:=by
 obtain⟨o,e,c,_,n,d⟩:=p;exact⟨o,e,c,n,d⟩
theorem IsTupD.new(h:Heap) xs:IsTupD (h.push {cls:=.type "tuple",data:=.seq xs}) h.objs.size xs:=⟨_,Xa _ rfl,rfl,rfl,0,rfl⟩
noncomputable def upd(H:Hp)(a:Addr)(o:HO):Hp:=λb=>if b=a then some o else H b
theorem vx{H a o}:upd H a o a=some o:=by unfold upd;rw[Xb rfl]
theorem k6{H a b o}(h:b≠a):upd H a o b=H b:=by unfold upd;rw[Xe h]
theorem xka{H:Hp}{a b o u}(h:H a=some o)(h':H b=some u)(d:o≠u):a≠b:=by
 intro e;subst e;rw[h]at h';exact d (oq9 h')
theorem xK{H:Hp}{a b o}(h:H a=some o)(h':H b=none):a≠b:=by
 grind
section
variable (P:Program)(w:World)
noncomputable def ObjOk(H : Hp)(h : Heap)(a : Addr): HO -> Prop
  |.lst xs=>xs.length<=sizeLine /\ ∃(aj : List Value) (n : Nat),Vals xs aj /\ h.get? a = some {cls:= .type "list",data:= .seq aj.toArray n}|.tup xs=>xs.length<=sizeLine /\ ∃aj : List Value,Vals xs aj /\ IsTupD h a aj.toArray|.dK kvs=>kvs.length<=sizeLine /\ (a==sysModules) = false /\ ∃vs,KV kvs vs /\ h.DictOf (xw P w) a vs
  |.dT kvs=>kvs.length<=sizeLine /\ (a==sysModules) = false /\ ∃xs : List (List Key × Addr × Value),
      Paired (λ(p : List Key × V) (q : List Key × Addr × Value)=>p.1 = q.1 /\ H q.2.1 = some (.tup (p.1.map kV)) /\ RelV p.2 q.2.2) kvs xs /\
      ∃o es ep,h.get? a = some o /\ o.ExactDict /\ o.data = .dict es ep /\ es.toList = xs.map (entryOfKey (tupleKind (xw P w))) /\ (xs.map (·.1)).Nodup
  |.set S n=>h.SetOf (intKind P w) a S n
  |.ins C dx fs=>H dx = some (.own a) /\ fs.length<=1000 /\ dx≠a /\ h.get? a = some (PySem.W.instObj C dx) /\
      ∃mA,h.Ns1 dx mA /\ (∀f,RelO (fs.lookup f) (mA f)) /\ PySem.Within mA (fs.map (·.1))
  |.own _=> ∃o,h.get? a = some o|.xd fs=> ∃mA,h.Ns1 a mA /\ ∀f,RelO (fs.lookup f) (mA f)|.rng lo hi=> ∃t u v,h.get? a = some {cls:= .type "range",data:= .fields (List.toArray [.int lo t,.int hi u,.int 1 v])}|.frz o u=>h.get? a = some o /\ ObjOk H h a u|.tbl ps=>h.get? a = some {cls:= .none,data:= .fields ps}|.met f x=>h.get? a = some (PySem.W.methodObj (.ref f) (.ref x))|.ext φ=>φ w h /\ (∃o,h.get? a = some o) /\ ∀h1 h2 : Heap,φ w h1 -> (∀o,h1.get? a = some o -> h2.get? a = some o) -> φ w h2
noncomputable def HOk(H:Hp)(h:Heap):Prop:=∀a o,H a=some o->ObjOk P w H h a o
end
section
variable {P:Program}{w:World}{H H':Hp}{h h':Heap}{a:Addr}{o:HO}
theorem ObjOk.lt(x:ObjOk P w H h a o):a<h.objs.size:=by
 cases o with|lst xs=>obtain⟨_,_,_,_,e⟩:=x;exact Xd e|tup xs=>obtain⟨_,_,_,p⟩:=x;exact p.tup.lt|dK kvs=>obtain⟨_,_,_,_,o,_,_,e,_⟩:=x;exact Xd e|dT kvs=>obtain⟨_,_,_,_,o,_,_,e,_⟩:=x;exact Xd e|set S n=>obtain⟨o,_,_,_,e,_⟩:=x;exact Xd e|ins C dx fs=>obtain⟨_,_,_,e,_⟩:=x;exact Xd e|own y=>obtain⟨_,e⟩:=x;exact Xd e|xd fs=>obtain⟨_,⟨_,_,_,e,_⟩,_⟩:=x;exact Xd e|rng lo hi=>obtain⟨_,_,_,e⟩:=x;exact Xd e|frz ob u=>obtain⟨e,_⟩:=x;exact Xd e|tbl ps=>exact Xd (x)|met f y=>exact Xd (x)|ext φ=>obtain⟨_,⟨_,e⟩,_⟩:=x;exact Xd e
theorem Paired.mapP{α β F G}:∀{l₁:List α} {l₂:List β},Paired F l₁ l₂->(∀a b,F a b->G a b)->Paired G l₁ l₂
 |_,_,.nil,_=>.nil|_,_,.cons r t,f=>.cons (f _ _ r) (Paired.mapP t f)
theorem ObjOk.stay(x:ObjOk P w H h a o)(k:∀b u,(b=a\/H b=some (.own a))->h.get? b=some u->h'.get? b=some u)
  (ho:∀b,H b=some (.own a)->H' b=some (.own a)) (ht:∀b xs,H b=some (.tup xs)->H' b=some (.tup xs)):ObjOk P w H' h' a o:=by
 induction o with
 |lst xs=>obtain⟨z,aj,n,r,e⟩:=x;exact#[z,aj,n,r,k _ _ (.inl rfl) e]|tup xs=>obtain⟨z,aj,r,ob,e,c⟩:=x;exact#[z,aj,r,ob,k _ _ (.inl rfl) e,c]|dK kvs=>obtain⟨z,y,vs,r,ob,es,ep,e,c⟩:=x;exact#[z,y,vs,r,ob,es,ep,k _ _ (.inl rfl) e,c]
 |dT kvs=>
  obtain⟨z,y,xs,r,ob,es,ep,e,c⟩:=x;exact#[z,y,xs,Paired.mapP r λp q z=>#[z.1,ht _ _ z.2.1,z.2.2],ob,es,ep,k _ _ (.inl rfl) e,c]
 |set S n=>obtain⟨ob,es,ep,t,e,c⟩:=x;exact#[ob,es,ep,t,k _ _ (.inl rfl) e,c]
 |ins C dx fs=>
  obtain⟨d,z,ne,e,mA,⟨od,es,ep,e2,c⟩,r⟩:=x;exact#[ho _ d,z,ne,k _ _ (.inl rfl) e,mA,#[od,es,ep,k _ _ (.inr d) e2,c],r]
 |own y=>obtain⟨ob,e⟩:=x;exact#[ob,k _ _ (.inl rfl) e]|xd fs=>obtain⟨mA,⟨od,es,ep,e,c⟩,r⟩:=x;exact#[mA,#[od,es,ep,k _ _ (.inl rfl) e,c],r]|rng lo hi=>obtain⟨t,u,v,e⟩:=x;exact#[t,u,v,k _ _ (.inl rfl) e]|frz ob u ih=>obtain⟨e,q⟩:=x;exact#[k _ _ (.inl rfl) e,ih q]
 |tbl ps=>
  have e:h.get? a=some {cls:=.none,data:=.fields ps}:=x;exact k a _ (.inl rfl) e
 |met f y=>
  have e:=x;exact k a _ (.inl rfl) e
 |ext φ=>obtain⟨p,⟨o,e⟩,st⟩:=x;exact#[st _ _ p λo q=>k _ _ (.inl rfl) q,#[o,k _ _ (.inl rfl) e],st]
theorem HOk.lt(x:HOk P w H h)(e:H a=some o):a<h.objs.size:=(x a o e).lt
theorem HOk.fresh(x:HOk P w H h)(e:h.objs.size<=a):H a=none:=by
 cases q:H a with|none=>rfl|some u=>exact absurd (Xf (x.lt q) e) (Ym _)
theorem HOk.kept(x:HOk P w H h)(k:∀b u,h.get? b=some u->h'.get? b=some u):HOk P w H h':=λa o e=>
 (x a o e).stay (λb u _ q=>k b u q) (λ_ q=>q) λ_ _ q=>q
theorem HOk.laid(x:HOk P w H h)(k:∀b u,h.get? b=some u->h'.get? b=some u)(hp:h.objs.size<=a)(new:ObjOk P w (upd H a o) h' a o):HOk P w (upd H a o) h':=λb u e=>by
 have hn:=x.fresh hp
 by_cases hb:b=a
 ·subst hb;rw[vx]at e;cases e;exact new
 ·rw[k6 hb]at e;exact(x b u e).stay (λc v _ q=>k c v q) (λc q=>by rw[k6 (xK q hn)];exact q) λc xs q=>by rw[k6 (xK q hn)];exact q
end
noncomputable def Rd(H:Hp)(a:Addr)(u:HO):Prop:=H a=some u\/∃o,H a=some (.frz o u)
theorem Rd.ok{P w H h a u}(r:Rd H a u)(x:HOk P w H h):ObjOk P w H h a u:=by
 rcases r with r|⟨o,r⟩
 ·exact x a u r
 ·obtain⟨_,q⟩:=x a _ r;exact q
noncomputable def Mut:Option HO->Prop
 |some (.lst _)=>True|some (.dK _)=>True|some (.dT _)=>True|some (.set _ _)=>True|some (.ins _ _ _)=>True|some (.ext _)=>True|_=>False
section
variable {P:Program}{w:World}{H:Hp}{h h':Heap}{x e:Addr}{o':HO}
theorem HOk.write(ok:HOk P w H h)(mu:Mut (H x))(he:e=x\/H e=some (.own x))(k:∀b u,b≠e->h.get? b=some u->h'.get? b=some u)(xa:∃u,h'.get? e=some u)
  (new:ObjOk P w (upd H x o') h' x o'):HOk P w (upd H x o') h':=λb u q=>by
 have nown:∀c y,H c=some (.own y)->c≠x:=λc y r z=>by subst z;rw[r]at mu;exact mu
 have ntup:∀c xs,H c=some (.tup xs)->c≠x:=λc xs r z=>by subst z;rw[r]at mu;exact mu
 by_cases hb:b=x
 ·subst hb;rw[vx]at q;cases q;exact new
 ·rw[k6 hb]at q
  by_cases hbe:b=e
  ·have q':H b=some (.own x):=by
    rcases he with z|z
    ·exact absurd (hbe.trans z) hb
    ·rw[hbe];exact z
   rw[q]at q';cases q';obtain⟨v,hv⟩:=xa;exact#[v,by rw[hbe];exact hv]
  ·refine(ok b u q).stay (λc v hc r=>k c v ?_ r) (λc r=>by rw[k6 (nown c b r)];exact r) λc xs r=>by rw[k6 (ntup c xs r)];exact r
   rcases hc with rfl|hc
   ·exact hbe
   ·grind
end
structure Un (fs ex:List Addr)(H H':Hp)(h h':Heap):Prop where
 keep:∀b o,h.get? b=some o->H b=none->b∉fs->b∉ex->h'.get? b=some o
 slot:∀b o,h.get? b=some o->H b=none->b∈fs->b∉ex->∃sl,h'.get? b=some {o with slots:=sl}
 free:∀b o,h.get? b=some o->H b=none->b∉ex->H' b=none
 there:∀b o,h.get? b=some o->b∉ex->∃o',h'.get? b=some o'
 tups:∀b xs,H b=some (.tup xs)->H' b=some (.tup xs)
 frzs:∀b o u,H b=some (.frz o u)->H' b=some (.frz o u)
 tbls:∀b ps,H b=some (.tbl ps)->∃bg,H' b=some (.tbl (ps++bg))
section
variable {fs fs' ex ex':List Addr}{H H1 H2:Hp}{h h1 h2 h':Heap}{a x e:Addr}{o:HO}
theorem Un.any(u:Un fs ex H H1 h h1){b ob}(q:h.get? b=some ob)(n:H b=none)(hx:b∉ex):∃sl,h1.get? b=some {ob with slots:=sl}:=by
 by_cases hb:b∈fs
 ·exact u.slot b ob q n hb hx
 ·exact#[ob.slots,u.keep b ob q n hb hx]
theorem Un.kept(k:∀b u,h.get? b=some u->h'.get? b=some u):Un fs ex H H h h':=
 #[λb ob q _ _ _=>k b ob q,λb ob q _ _ _=>#[ob.slots,k b ob q],λ_ _ _ n _=>n,λb ob q _=>#[ob,k b ob q],λ_ _ q=>q,λ_ _ _ q=>q,λ_ ps q=>#[(List.toArray []),by rw[q];simp]]
theorem Un.refl:Un fs ex H H h h:=Un.kept λ_ _ q=>q
theorem Un.laid(k:∀b u,h.get? b=some u->h'.get? b=some u)(hp:h.objs.size<=a)(hn:H a=none):Un fs ex H (upd H a o) h h' where
 keep:=λb u q _ _ _=>k b u q
 slot:=λb u q _ _ _=>#[u.slots,k b u q]
 free:=λb u q n _=>by rw[k6 (Xl (Xf (Xd q) hp))];exact n
 there:=λb u q _=>#[u,k b u q]
 tups:=λb xs q=>by rw[k6 (xK q hn)];exact q
 frzs:=λb u xs q=>by rw[k6 (xK q hn)];exact q
 tbls:=λb ps q=>#[(List.toArray []),by rw[k6 (xK q hn),q];simp]
theorem Un.write(mu:Mut (H x))(he:e=x\/H e=some (.own x))(k:∀b u,b≠e->h.get? b=some u->h'.get? b=some u)(xa:∃u,h'.get? e=some u):Un fs ex H (upd H x o) h h':=by
 have hx:∀b,H b=none->b≠x:=λb n z=>by subst z;rw[n]at mu;exact mu
 have hb:∀b,H b=none->b≠e:=λb n z=>by
  subst z;rcases he with r|r
  ·exact hx b n r
  ·grind
 have hm:∀b u,H b=some u->¬Mut (some u)->b≠x:=λb u q nm z=>by subst z;rw[q]at mu;exact nm mu
 refine#[λb u q n _ _=>k b u (hb b n) q,λb u q n _ _=>#[u.slots,k b u (hb b n) q],λb u q n _=>by rw[k6 (hx b n)];exact n,λb u q _=>?_,
  λb xs q=>by rw[k6 (hm b _ q λz=>z)];exact q,λb u xs q=>by rw[k6 (hm b _ q λz=>z)];exact q,λb ps q=>#[(List.toArray []),by rw[k6 (hm b _ q λz=>z),q];simp]]
 by_cases hbe:b=e
 ·grind
 ·exact#[u,k b u hbe q]
end
noncomputable def trk(h:Heap)(H:Hp):List Addr:=(List.range h.objs.size).filter λa=>(H a).isSome
def Wz(h:Heap)(H:Hp):Heap:=PySem.W.hideAll h (trk h H)
theorem qzv h H:(Wz h H).objs.size=h.objs.size:=PySem.W.hideAll_size _ _
theorem vv2{h H b o}(e:h.get? b=some o)(n:H b=none):(Wz h H).get? b=some o:=
 PySem.W.hideAll_get _ e λhm=>by
  have q:=(List.mem_filter.mp hm).2;rw[n]at q;simp at q
theorem wj7{h H b o}(e:(Wz h H).get? b=some o):h.get? b=some o/\H b=none:=by
 have e':=PySem.W.of_hideAll _ e;refine#[e',?_];cases q:H b with
 |none=>rfl
 |some x=>
  have hm:b∈trk h H:=List.mem_filter.mpr #[List.mem_range.mpr (Xd e'),by simp[q]];have z:(Wz h H).get? b=none:=PySem.W.hideAll_none _ hm
  grind
structure Mod (K:Frag)(mg:Str->Option Value)(base:Heap):Prop where
 kin:K.In base
 glob:base.Ns mainGlobals mg
 blt:∃mb,base.Ns builtinsNs mb/\∀x:Str,x≠"__name__"->mb x=bootBuiltins x
 nolimit:base.NoLimit
structure Cx where
 prog:Program
 w:World
 K:Frag
 mg:Str->Option Value
 base:Heap
 A:Around
 N:List Str
 s₀:Shared
 H₀:Hp
 env:Env
 outer:List Env
 stack:List Env
 ex:List Addr
 fn:Str->Bool
 calm:Bool
 pn:LA9
 xe:VP9
def frs(l:List Env):List Addr:=l.filterMap (·.frame)
abbrev Cx.fs(X:Cx):List Addr:=frs X.outer
noncomputable def Vis(sc:Scope)(x:Str):Prop:=sc.names.lookup x=some .local\/sc.names.lookup x=some .cell\/sc.names.lookup x=some .free
noncomputable def Loc(sc:Scope)(x:Str):Prop:=sc.names.lookup x=some .local\/sc.names.lookup x=some .cell
noncomputable def xv8(env:Env)(h:Heap)(m:Str->Option Value)(x:Str)(u:Value):Prop:=
 (env.kindOf x=some .local/\m x=some u)\/((env.kindOf x=some .cell\/env.kindOf x=some .free)/\∃c,env.cells.lookup x=some c/\h.IsCell c (some u))
structure Cx.Ok (X:Cx):Prop where
 mod:Mod X.K X.mg X.base
 kind:X.env.scope.kind=.function
 glob:X.env.globals=mainGlobals
 blt:X.env.builtins=builtinsNs
 above:X.s₀.heap.objs.size<=X.env.locals
 inj:∀x y c,X.env.cells.lookup x=some c->X.env.cells.lookup y=some c->x=y
 has:∀x,(X.env.kindOf x=some .cell\/X.env.kindOf x=some .free)->∃c,X.env.cells.lookup x=some c
 cab:∀x c,X.fn x=true->X.env.cells.lookup x=some c->X.s₀.heap.objs.size<=c
 hd:X.calm=true->X.A.handled=none
 frames:X.A.frames=some X.stack
 stk:X.stack=X.outer\/(X.stack=X.env::X.outer/\X.env.frame=some X.env.locals)
 exf:∀b∈X.ex,b≠X.env.locals/\∀x c,X.env.cells.lookup x=some c->c≠b
 bs:∀b o,X.base.get? b=some o->X.s₀.heap.get? b=some o/\X.H₀ b=none
 bsz:X.base.objs.size<=X.s₀.heap.objs.size
 noex:∀b o,X.base.get? b=some o->b∉X.ex
 exfs:∀b∈X.ex,b∉X.fs
 funs:X.s₀.heap.FunFrames X.base X.outer
 frf:∀b∈X.fs,X.H₀ b=none
structure Inv (X:Cx)(aa:LA9)(σ:List (Option V))(H:Hp)(s:Shared):Prop where
 ok:X.Ok
 os:s.os=X.s₀.os
 bare:AllBare s.gens
 base:Un X.fs X.ex X.H₀ H X.s₀.heap s.heap
 loc:∃m,s.heap.Ns X.env.locals m/\∀(i:Nat) (x:Str) (v:V),X.N[i]?=some x->σ[i]?=some (some v)->Vis X.env.scope x->∃u,RelV v u/\xv8 X.env s.heap m x u
 cell:∀x c,X.env.cells.lookup x=some c->∃v,s.heap.IsCell c v
 free:H X.env.locals=none
 freeC:∀x c,X.env.cells.lookup x=some c->H c=none
 pin:∀p∈X.pn++aa,s.heap.get? p.1=some p.2/\H p.1=none/\p.1≠X.env.locals/\p.1∉X.fs/\∀v,p.2.data≠.cell v
 hok:HOk X.prog X.w H s.heap
 len:σ.length=X.N.length
section
variable {X:Cx}{aa:LA9}{σ:List (Option V)}{H H':Hp}{s:Shared}{h':Heap}
theorem Cx.Ok.nofr(ok:X.Ok){b o}(e:X.base.get? b=some o):b∉X.fs:=λhb=>by
 have:=(ok.funs.mem hb).1
 grind
theorem Inv.bs(I:Inv X aa σ H s):∀b o,X.base.get? b=some o->s.heap.get? b=some o/\H b=none:=λb o e=>
 #[I.base.keep b o (I.ok.bs b o e).1 (I.ok.bs b o e).2 (I.ok.nofr e) (I.ok.noex b o e),I.base.free b o (I.ok.bs b o e).1 (I.ok.bs b o e).2 (I.ok.noex b o e)]
theorem Inv.bk(I:Inv X aa σ H s):∀b o,X.base.get? b=some o->s.heap.get? b=some o:=λb o e=>(I.bs b o e).1
theorem Inv.mod(I:Inv X aa σ H s):Mod X.K X.mg X.base:=I.ok.mod
theorem Inv.kIn(I:Inv X aa σ H s):X.K.In s.heap:=I.ok.mod.kin.keeps I.bk
theorem Inv.lt(I:Inv X aa σ H s):X.env.locals<s.heap.objs.size:=let ⟨_,hn,_⟩:=I.loc;hn.lt
theorem Inv.sz(I:Inv X aa σ H s):X.s₀.heap.objs.size<=s.heap.objs.size:=Xx I.ok.above (Nat.le_of_lt I.lt)
theorem Inv.nofs(I:Inv X aa σ H s){a:Addr}(h:s.heap.objs.size<=a):a∉X.fs:=λhb=>by
 obtain⟨_,o,ho,_⟩:=I.ok.funs.mem hb;exact absurd (Xf (Xd ho) (Xx I.sz h)) (Ym _)
theorem Inv.cne(I:Inv X aa σ H s):∀x c,X.env.cells.lookup x=some c->c≠X.env.locals:=λx c e z=>by
 obtain⟨v,o,ho,hd⟩:=I.cell x c e;obtain⟨m,⟨o',es,ep,pc,pi,_⟩,_⟩:=I.loc
 grind
theorem Inv.funs(I:Inv X aa σ H s):s.heap.FunFrames X.base X.outer:=by
 have all:∀l,(∀b∈frs l,b∈X.fs)->X.s₀.heap.FunFrames X.base l->s.heap.FunFrames X.base l:=by
  intro l
  induction l with
  |nil=>intro _ _;trivial
  |cons env r ih=>
   rintro hs ⟨hk,⟨L,o,hf,hn,ho,hd⟩,hr⟩;have hL:=hs L (by unfold frs;rw[List.filterMap_cons,hf];exact X4);obtain⟨sl,e⟩:=I.base.slot L o ho (I.ok.frf L hL) hL λz=>I.ok.exfs L z hL
   exact#[hk,#[L,_,hf,hn,e,hd],ih (λb hb=>hs b (by unfold frs;rw[List.filterMap_cons,hf];exact lc9 _ hb)) hr]
 exact all X.outer (λ_ hb=>hb) I.ok.funs
theorem Inv.stack(I:Inv X aa σ H s):s.heap.FunFrames X.base X.stack:=by
 rcases I.ok.stk with e|⟨e,hf⟩
 ·rw[e];exact I.funs
 ·rw[e];obtain⟨m,hn,_⟩:=I.loc;exact .cons (by rw[I.ok.kind];decide) hf hn (Yf (Xx I.ok.bsz I.ok.above)) I.funs
theorem Inv.stkSub(I:Inv X aa σ H s):∀b∈frs X.stack,b∈X.env.locals::X.fs:=λb hb=>by
 rcases I.ok.stk with e|⟨e,hf⟩
 ·rw[e]at hb;exact lc9 _ hb
 ·rw[e]at hb;unfold frs at hb;rw[List.filterMap_cons,hf]at hb;exact hb
theorem Inv.stkFree(I:Inv X aa σ H s):∀b∈frs X.stack,H b=none:=λb hb=>by
 rcases aD (I.stkSub b hb)with e|hb
 ·rw[e];exact I.free
 ·obtain⟨_,o,ho,_⟩:=I.ok.funs.mem hb;exact I.base.free b o ho (I.ok.frf b hb) λz=>I.ok.exfs b z hb
theorem Inv.step{g' t' d'}{ch:List Addr}(I:Inv X aa σ H s)
  (nu:∀b∈ch,(b∈X.ex\/X.s₀.heap.get? b=none)/\b≠X.env.locals/\(∀x c,X.env.cells.lookup x=some c->c≠b)/\∀p∈X.pn++aa,p.1≠b)
  (keep:∀b o,b≠X.env.locals->b∉X.fs->b∉ch->s.heap.get? b=some o->H b=none->h'.get? b=some o)
  (slot:∀b o,b≠X.env.locals->b∈X.fs->b∉ch->s.heap.get? b=some o->H b=none->∃sl,h'.get? b=some {o with slots:=sl}) (free:∀b o,b∉ch->s.heap.get? b=some o->H b=none->H' b=none)
  (there:∀b o,b∉ch->s.heap.get? b=some o->∃o',h'.get? b=some o')
  (tups:∀b xs,H b=some (.tup xs)->H' b=some (.tup xs)) (frzs:∀b o u,H b=some (.frz o u)->H' b=some (.frz o u)) (tbls:∀b ps,H b=some (.tbl ps)->∃bg,H' b=some (.tbl (ps++bg)))
  (ns:∀m,s.heap.Ns X.env.locals m->h'.Ns X.env.locals m) (hok:HOk X.prog X.w H' h') (hg:AllBare g'):
  Inv X aa σ H' {s with heap:=h',gens:=g',drawn:=d',toks:=t' }:=by
 have neL:∀b o,X.s₀.heap.get? b=some o->b≠X.env.locals:=λb o e=>Xl (Xf (Xd e) I.ok.above)
 have neC:∀b o,X.s₀.heap.get? b=some o->b∉X.ex->b∉ch:=λb o e hx hb=>by
  rcases(nu b hb).1 with z|z
  ·exact hx z
  ·rw[z]at e;cases e
 have pq:∀x c,X.env.cells.lookup x=some c->∀v,s.heap.IsCell c v->h'.IsCell c v:=λx c e v hz=>by
  obtain⟨o,ho,hd⟩:=hz;have xh:=λz=>(nu c z).2.2.1 x c e rfl
  by_cases hc:c∈X.fs
  ·obtain⟨sl,q⟩:=slot c o (I.cne x c e) hc xh ho (I.freeC x c e);exact#[_,q,hd]
  ·exact#[o,keep c o (I.cne x c e) hc xh ho (I.freeC x c e),hd]
 refine#[I.ok,I.os,hg,#[λb o e n hb hx=>?_,λb o e n hb hx=>?_,λb o e n hx=>?_,λb o e hx=>?_,λb xs e=>tups b xs (I.base.tups b xs e),λb o xs e=>frzs b o xs (I.base.frzs b o xs e),λb ps e=>?_],?_,λx c e=>?_,?_,λx c e=>?_,λp hp=>?_,hok,I.len]
 ·exact keep b o (neL b o e) hb (neC b o e hx) (I.base.keep b o e n hb hx) (I.base.free b o e n hx)
 ·obtain⟨sl,e1⟩:=I.base.slot b o e n hb hx;obtain⟨sl',e2⟩:=slot b _ (neL b o e) hb (neC b o e hx) e1 (I.base.free b o e n hx);exact#[sl',e2]
 ·obtain⟨o',e1⟩:=I.base.there b o e hx;exact free b o' (neC b o e hx) e1 (I.base.free b o e n hx)
 ·obtain⟨o',e1⟩:=I.base.there b o e hx;exact there b o' (neC b o e hx) e1
 ·obtain _:=I.base.tbls b ps e
  grind
 ·obtain⟨m,hn,hl⟩:=I.loc;refine#[m,ns m hn,λi x v e1 e2 e3=>?_];obtain⟨u,r,l⟩:=hl i x v e1 e2 e3;refine#[u,r,?_];rcases l with l|⟨k,c,e,z⟩
  ·exact .inl l
  ·exact .inr #[k,c,e,pq x c e _ z]
 ·obtain⟨v,z⟩:=I.cell x c e;exact#[v,pq x c e v z]
 ·obtain⟨m,⟨o,_,_,ho,_⟩,_⟩:=I.loc;exact free _ o (λz=>(nu _ z).2.1 rfl) ho I.free
 ·obtain⟨v,o,ho,hd⟩:=I.cell x c e;exact free c o (λz=>(nu c z).2.2.1 x c e rfl) ho (I.freeC x c e)
 ·obtain⟨e,n,ne,nf,d⟩:=I.pin p hp;have xh:=λz=>(nu p.1 z).2.2.2 p hp rfl
  exact#[keep p.1 p.2 ne nf xh e n,free p.1 p.2 xh e n,ne,nf,d]
theorem Inv.un{t'}(I:Inv X aa σ H s)(u:Un X.fs [] H H' s.heap h')(hok:HOk X.prog X.w H' h'):Inv X aa σ H' {s with heap:=h',toks:=t' }:=by
 obtain⟨m,⟨o,es,ep,ho,r⟩,_⟩:=id I.loc;obtain⟨sl,hL⟩:=u.any ho I.free (by simp);exact I.step (g':=s.gens) (d':=s.drawn) (ch:=[]) (λ_ z=>nomatch z) (λb o _ hb _ e n=>u.keep b o e n hb (by simp)) (λb o _ hb _ e n=>u.slot b o e n hb (by simp)) (λb o _ e n=>u.free b o e n (by simp)) (λb o _ e=>u.there b o e (by simp)) u.tups u.frzs u.tbls (λm' hm=>by
  obtain⟨o',es',ep',pc,r'⟩:=hm;rw[ho]at pc;cases pc;exact#[_,es',ep',hL,r']) hok I.bare
theorem Inv.call{g' t' d' ch}(I:Inv X aa σ H s)(u:Un (frs X.stack) ch H H' s.heap h')(hok:HOk X.prog X.w H' h')(hg:AllBare g')
  (nu:∀b∈ch,(b∈X.ex\/X.s₀.heap.get? b=none)/\b≠X.env.locals/\(∀x c,X.env.cells.lookup x=some c->c≠b)/\∀p∈X.pn++aa,p.1≠b):
  Inv X aa σ H' {s with heap:=h',gens:=g',drawn:=d',toks:=t' }:=by
 obtain⟨m,⟨o,es,ep,ho,r⟩,_⟩:=id I.loc;obtain⟨sl,hL⟩:=u.any ho I.free λz=>(nu _ z).2.1 rfl
 exact I.step nu (λb o hL hb hc e n=>u.keep b o e n (λz=>(aD (I.stkSub b z)).elim hL hb) hc) (λb o _ _ hc e n=>u.any e n hc) (λb o hc e n=>u.free b o e n hc) (λb o hc e=>u.there b o e hc) u.tups u.frzs u.tbls (λm' hm=>by
  obtain⟨o',es',ep',pc,r'⟩:=hm;rw[ho]at pc;cases pc;exact#[_,es',ep',hL,r']) hok hg
theorem Inv.turned{t' it}(I:Inv X aa σ H s)(k:∀b o,b≠it->s.heap.get? b=some o->h'.get? b=some o)(hn:H it=none)(hL:it≠X.env.locals)
  (h1:it∈X.ex\/X.s₀.heap.objs.size<=it) (h2:∀x c,X.env.cells.lookup x=some c->c≠it) (h3:∀p∈X.pn++aa,p.1≠it):Inv X aa σ H {s with heap:=h',toks:=t' }:=by
 have xi:∀b u,H b=some u->b≠it:=λb u e z=>by rw[z,hn]at e;cases e
 refine I.step (g':=s.gens) (d':=s.drawn) (ch:=[it]) (λb hb=>?_) (λb o _ _ hc e _=>k b o (λz=>hc (by simp[z])) e) (λb o _ _ hc e _=>#[o.slots,k b o (λz=>hc (by simp[z])) e]) (λ_ _ _ _ n=>n)
  (λb o hc e=>#[o,k b o (λz=>hc (by simp[z])) e]) (λ_ _ e=>e) (λ_ _ _ e=>e) (λb ps e=>#[(List.toArray []),by rw[e];simp]) (λm hm=>?_) (λb u e=>?_) I.bare
 ·have e:b=it:=by simpa using hb
  subst e;exact#[h1.imp id λz=>Yf z,hL,h2,h3]
 ·obtain⟨o,es,ep,ho,r⟩:=hm;exact#[o,es,ep,k _ o (Ne.symm hL) ho,r]
 ·refine(I.hok b u e).stay (λc v hc q=>k c v ?_ q) (λ_ q=>q) λ_ _ q=>q
  rcases hc with z|z
  ·rw[z];exact xi b u e
  ·exact xi c _ z
theorem Inv.tok(I:Inv X aa σ H s) t:Inv X aa σ H {s with toks:=t}:=I.un (h':=s.heap) (t':=t) Un.refl I.hok
theorem Inv.kept{t'}(I:Inv X aa σ H s)(k:∀b u,s.heap.get? b=some u->h'.get? b=some u):Inv X aa σ H {s with heap:=h',toks:=t' }:=I.un (Un.kept k) (I.hok.kept k)
theorem Inv.laid{a:Addr}{o t'}(I:Inv X aa σ H s)(k:∀b u,s.heap.get? b=some u->h'.get? b=some u)(hp:s.heap.objs.size<=a)(new:ObjOk X.prog X.w (upd H a o) h' a o):
  Inv X aa σ (upd H a o) {s with heap:=h',toks:=t' }:=I.un (Un.laid k hp (I.hok.fresh hp)) (I.hok.laid k hp new)
theorem Inv.write{x e o t'}(I:Inv X aa σ H s)(mu:Mut (H x))(he:e=x\/H e=some (.own x))(k:∀b u,b≠e->s.heap.get? b=some u->h'.get? b=some u)(xa:∃u,h'.get? e=some u)
  (new:ObjOk X.prog X.w (upd H x o) h' x o):Inv X aa σ (upd H x o) {s with heap:=h',toks:=t' }:=I.un (Un.write mu he k xa) (I.hok.write mu he k xa new)
theorem Inv.pins_of{ef}(I:Inv X aa σ H s)(h:∀p∈ef,s.heap.get? p.1=some p.2/\H p.1=none/\p.1≠X.env.locals/\p.1∉X.fs/\∀v,p.2.data≠.cell v):Inv X ef σ H s:=
 #[I.ok,I.os,I.bare,I.base,I.loc,I.cell,I.free,I.freeC,λp hp=>(aA hp).elim (λz=>I.pin p (ll9 _ z)) (h p),I.hok,I.len]
theorem kw9{N:List Str}(hN:N.Nodup){i j:Nat}{x}(a:N[i]?=some x)(b:N[j]?=some x):i=j:=by
 obtain⟨h1,e1⟩:=List.getElem?_eq_some_iff.mp a;obtain⟨h2,e2⟩:=List.getElem?_eq_some_iff.mp b;exact(List.getElem_inj hN).mp (e1.trans e2.symm)
theorem qwj{M A E i x v u Q}(I:Inv X aa σ H s)(hN:X.N.Nodup)(hi:X.N[i]?=some x)(hx:Loc X.env.scope x)(r:RelV v u)
  (h:∀s',Inv X aa (σ.set i (some v)) H s'->(∃a,Heap.SameBut a s.heap s'.heap/\(a=X.env.locals\/X.env.cells.lookup x=some a))->Q () s') (hf:autoParam (X.fn x=true\/X.env.scope.names.lookup x=some .local) Ř):wpAny M A (storeName X.env x u) Q E s:=by
 obtain⟨m,hn,hl⟩:=id I.loc;have rn:(X.env.scope.kind == .class||(X.env.scope.kind == .module&&X.env.locals != X.env.globals))=false:=by rw[I.ok.kind];rfl
 have xr:i < σ.length:=by rw[I.len];exact(List.getElem?_eq_some_iff.mp hi).1
 have cne:=I.cne;have lc:∀{a h'},(∃o,s.heap.get? a=some o/\H a=none)->Heap.SameBut a s.heap h'->HOk X.prog X.w H h':=fun {a h'} ha hs b ob e=>by
  refine(I.hok b ob e).stay (λc w' hc q=>(hs.2 c ?_).trans q) (λ_ q=>q) λ_ _ q=>q
  rintro rfl;rcases hc with rfl|hc
  ·grind
  ·grind
 rcases hx with hk|hk
 ·refine wpAny_storeName_local hk hn (λh' mh hs=>?_) rn;obtain⟨oL,_,_,hoL,_⟩:=id hn;refine h _ #[I.ok,I.os,I.bare,#[λb o e n hb hx=>?_,λb o e n hb hx=>?_,I.base.free,λb o e hx=>?_,I.base.tups,I.base.frzs,I.base.tbls],#[_,mh,λj y v' e1 e2 e3=>?_],λy c e=>?_,I.free,I.freeC,λp hp=>?_,lc #[oL,hoL,I.free] hs,by simpa using I.len] #[_,hs,.inl rfl]
  ·exact(hs.2 b (Xl (Xf (Xd e) I.ok.above))).trans (I.base.keep b o e n hb hx)
  ·obtain⟨sl,e1⟩:=I.base.slot b o e n hb hx;exact#[sl,(hs.2 b (Xl (Xf (Xd e) I.ok.above))).trans e1]
  ·obtain⟨o',e1⟩:=I.base.there b o e hx;exact#[o',(hs.2 b (Xl (Xf (Xd e) I.ok.above))).trans e1]
  ·by_cases hj:j=i
   ·subst hj;rw[hi]at e1;cases e1;rw[Xy xr]at e2;cases e2;exact#[u,r,.inl #[hk,by simp]]
   ·rw[Xr (Ne.symm hj)]at e2;obtain⟨u',r',q⟩:=hl j y v' e1 e2 e3;refine#[u',r',?_];rcases q with⟨k,e⟩|⟨k,c,e,z⟩
    ·refine .inl #[k,?_];have:y≠x:=λe=>hj (kw9 hN e1 (e▸hi))
     simp[this,e]
    ·exact .inr #[k,c,e,z.sameBut hs (cne y c e)]
  ·obtain⟨w',z⟩:=I.cell y c e;exact#[w',z.sameBut hs (cne y c e)]
  ·obtain⟨e,n,ne,nf,d⟩:=I.pin p hp;exact#[(hs.2 p.1 ne).trans e,n,ne,nf,d]
 ·have hfn:X.fn x=true:=by
   rcases hf with z|z
   ·exact z
   ·grind
  obtain⟨c,hc⟩:=I.ok.has x (.inl hk);obtain⟨w',z⟩:=I.cell x c hc;refine wpAny_storeName_cell I.ok.kind hk hc z (λh' nv hs=>?_);obtain⟨oc,hoc,hocd⟩:=id z;refine h {s with heap:=h' } #[I.ok,I.os,I.bare,#[λb o e n hb hx=>?_,λb o e n hb hx=>?_,I.base.free,λb o e hx=>?_,I.base.tups,I.base.frzs,I.base.tbls],#[m,hn.sameBut hs (Ne.symm (cne x c hc)),λj y v' e1 e2 e3=>?_],λy c' e=>?_,I.free,I.freeC,λp hp=>?_,lc #[oc,hoc,I.freeC x c hc] hs,by simpa using I.len] #[c,hs,.inr hc]
  ·exact(hs.2 b (Xl (Xf (Xd e) (I.ok.cab x c hfn hc)))).trans (I.base.keep b o e n hb hx)
  ·obtain⟨sl,e1⟩:=I.base.slot b o e n hb hx;exact#[sl,(hs.2 b (Xl (Xf (Xd e) (I.ok.cab x c hfn hc)))).trans e1]
  ·obtain⟨o',e1⟩:=I.base.there b o e hx;exact#[o',(hs.2 b (Xl (Xf (Xd e) (I.ok.cab x c hfn hc)))).trans e1]
  ·by_cases hj:j=i
   ·subst hj;rw[hi]at e1;cases e1;rw[Xy xr]at e2;cases e2;exact#[u,r,.inr #[.inl hk,c,hc,nv]]
   ·rw[Xr (Ne.symm hj)]at e2;obtain⟨u',r',q⟩:=hl j y v' e1 e2 e3;refine#[u',r',?_];rcases q with q|⟨k,c',e,z'⟩
    ·exact .inl q
    ·refine .inr #[k,c',e,z'.sameBut hs ?_];rintro rfl;exact hj (kw9 hN e1 (I.ok.inj _ _ _ e hc▸hi))
  ·by_cases bp:c'=c
   ·subst bp;exact#[_,nv]
   ·obtain⟨w2,z2⟩:=I.cell y c' e;exact#[w2,z2.sameBut hs bp]
  ·obtain⟨e,n,ne,nf,d⟩:=I.pin p hp;refine#[(hs.2 p.1 ?_).trans e,n,ne,nf,d];intro q;rw[q,hoc]at e;have q':oc=p.2:=oq9 e;exact d w' (q'▸hocd)
theorem jxf{M A E i x v u Q}(I:Inv X aa σ H s)(hN:X.N.Nodup)(hi:X.N[i]?=some x)(hx:Loc X.env.scope x)(r:RelV v u)
  (h:∀s',Inv X aa (σ.set i (some v)) H s'->Q () s') (hf:autoParam (X.fn x=true\/X.env.scope.names.lookup x=some .local) Ř):wpAny M A (storeName X.env x u) Q E s:=
 qwj I hN hi hx r (λs' I' _=>h s' I') hf
theorem Inv.call'{s' ch}(I:Inv X aa σ H s)(ho:s'.os=s.os)(u:Un (frs X.stack) ch H H' s.heap s'.heap)(hok:HOk X.prog X.w H' s'.heap)(hg:AllBare s'.gens)
  (nu:∀b∈ch,(b∈X.ex\/X.s₀.heap.get? b=none)/\b≠X.env.locals/\(∀x c,X.env.cells.lookup x=some c->c≠b)/\∀p∈X.pn++aa,p.1≠b):Inv X aa σ H' s':=by
 obtain⟨h',g',d',t',o'⟩:=s';subst ho;exact I.call (g':=g') (t':=t') (d':=d') u hok hg nu
end
abbrev XK:=Value->Option Addr->Hp->Prop
abbrev St:=List (Option V)
abbrev VK:=V->Hp->Prop
abbrev TE:=St->Hp->VK->Prop
abbrev TT:=St->Hp->(Bool->Hp->Prop)->Prop
abbrev TA:=St->Hp->(List V->Hp->Prop)->Prop
structure Ends where
 nx:St->Hp->Prop
 rt:VK
 bk:St->Hp->Prop:=λ_ _=>False
 ct:St->Hp->Prop:=λ_ _=>False
abbrev TS:=Ends->St->Hp->Prop
noncomputable def EP(X:Cx)(aa:LA9)(σ:St)(Q:VK)(u:Value)(s':Shared):Prop:=∃v H',Inv X aa σ H' s'/\RelV v u/\Q v H'
noncomputable def TP(X:Cx)(aa:LA9)(σ:St)(Q:Bool->Hp->Prop)(b:Bool)(s':Shared):Prop:=∃H',Inv X aa σ H' s'/\Q b H'
noncomputable def AP(X:Cx)(aa:LA9)(σ:St)(Q:List V->Hp->Prop)(us:List Value)(s':Shared):Prop:=∃vs H',Inv X aa σ H' s'/\Vals vs us/\Q vs H'
set_option tactic.hygienic true in
noncomputable def SP(X:Cx)(aa:LA9)(D:Ends)(f:Flow)(s':Shared):Prop:=
 match f with
 |.next=>∃ σ' H',Inv X aa σ' H' s'/\D.nx σ' H'|.brk=>∃ σ' H',Inv X aa σ' H' s'/\D.bk σ' H'|.cont=>∃ σ' H',Inv X aa σ' H' s'/\D.ct σ' H'|.ret u=>∃v σ' H',Inv X aa σ' H' s'/\RelV v u/\D.rt v H'
noncomputable def PE(X:Cx)(e:Expr)(t:TE):Prop:=
 ∀(aa:LA9) (s:Shared) (σ:St) (H:Hp) (Q:VK),Inv X aa σ H s->t σ H Q->wpAny (model X.prog X.w) X.A (eval e X.env) (EP X aa σ Q) X.xe s
noncomputable def PT(X:Cx)(e:Expr)(t:TT):Prop:=
 ∀(aa:LA9) (s:Shared) (σ:St) (H:Hp) (Q:Bool->Hp->Prop),Inv X aa σ H s->t σ H Q->wpAny (model X.prog X.w) X.A (isTrue e X.env (eval e X.env)) (TP X aa σ Q) X.xe s
noncomputable def PW(X:Cx)(e:Expr)(t:TT):Prop:=
 ∀(gw:Sem Value) (aa:LA9) (s:Shared) (σ:St) (H:Hp) (Q:Bool->Hp->Prop),Inv X aa σ H s->t σ H Q->wpAny (model X.prog X.w) X.A (isTrue e X.env gw) (TP X aa σ Q) X.xe s
theorem PW.pt{X e t}(h:PW X e t):PT X e t:=h _
noncomputable def PA(X:Cx)(es:List Expr)(t:TA):Prop:=
 ∀(pos:Pos) (aa:LA9) (s:Shared) (σ:St) (H:Hp) (Q:List V->Hp->Prop),Inv X aa σ H s->t σ H Q->wpAny (model X.prog X.w) X.A (spliced (backTo pos (starEach es X.env))) (AP X aa σ Q) X.xe s
noncomputable def PS(X:Cx)(st:Stmt)(t:TS):Prop:=
 ∀(aa:LA9) (s:Shared) (σ:St) (H:Hp) (D:Ends),Inv X aa σ H s->t D σ H->wpAny (model X.prog X.w) X.A (exec st X.env) (SP X aa D) X.xe s
noncomputable def PSs(X:Cx)(st:List Stmt)(t:TS):Prop:=
 ∀(aa:LA9) (s:Shared) (σ:St) (H:Hp) (D:Ends),Inv X aa σ H s->t D σ H->wpAny (model X.prog X.w) X.A (execs st X.env) (SP X aa D) X.xe s
theorem thn{α t}{Q Q':α->Shared->Prop}{M A E s}(h:wpAny M A t Q E s)(hQ:∀a s,Q a s->Q' a s):wpAny M A t Q' E s:=Z6 h hQ λ_ _ x=>x
section
variable {X:Cx}
abbrev x9(i:Nat):TE:=fun σ H Q=>∃v,σ[i]?=some (some v)/\Q v H
abbrev tC(v:V):TE:=λ_ H Q=>Q v H
abbrev _root_.Abd(x:Str):Prop:=(x==("__debug__":Str))=false
theorem wvt{i x pos}(hN:X.N[i]?=some x)(hv:Vis X.env.scope x)(hd:autoParam (Abd x) ŕ)(ju:autoParam ((x==("__classdict__":Str))=false) ŕ):PE X (.Name x pos) (x9 i):=by
 rintro aa s σ H Q I ⟨v,e,h⟩;obtain⟨m,hn,hl⟩:=I.loc;obtain⟨u,r,l⟩:=hl i x v hN e hv;have fin:EP X aa σ Q u s:=#[v,H,I,r,h];rcases l with⟨hk,hm⟩|⟨hk,c,hc,hcell⟩
 ·exact wpAny_Name (wpAny_loadName_local I.ok.kind hk hn hm fin) hd
 ·rcases hk with hk|hk
  ·exact wpAny_Name (wpAny_loadName_cell I.ok.kind hk hc hcell fin) hd
  ·exact wpAny_Name (wpAny_loadName_free I.ok.kind hk hc hcell fin ju) hd
theorem qxn{i j pos}:PE X (.Constant (.int i) j pos) (tC (.int i)):=λ_ _ _ H _ I h=>wpAny_Constant_int #[.int i,H,I.tok _,#[_,rfl],h]
theorem xjz{b j pos}:PE X (.Constant (.bool b) j pos) (tC (.bl b)):=λ_ _ _ H _ I h=>Constant_bool #[.bl b,H,I,rfl,h]
theorem wvx{j pos}:PE X (.Constant .none j pos) (tC .non):=λ_ _ _ H _ I h=>Constant_none #[.non,H,I,rfl,h]
theorem kxn{x j pos}:PE X (.Constant (.str x) j pos) (tC (.str x)):=λ_ _ _ H _ I h=>Calls.Constant_str #[.str x,H,I.tok _,#[_,rfl],h]
noncomputable def Gl(X:Cx)(x:Str):Prop:=X.env.kindOf x=some .globalImplicit
theorem kk8{E aa s}{σ:St}{H x u pos Q}(I:Inv X aa σ H s)(hg:Gl X x)(hm:X.mg x=some u)(h:Q u s)
  (hd:autoParam (Abd x) ŕ):wpAny (model X.prog X.w) X.A (eval (.Name x pos) X.env) Q E s:=
 Calls.Name_function_global I.ok.kind hg (Calls.loadGlobal_global (I.ok.glob▸I.mod.glob.keeps I.bk) hm h) hd
theorem Q6{E aa s}{σ:St}{H x u pos Q}(I:Inv X aa σ H s)(hg:Gl X x)(hm:X.mg x=none)(hv:bootBuiltins x=some u)(h:Q u s)
  (hn:autoParam (x≠"__name__") ŕ) (hd:autoParam (Abd x) ŕ):wpAny (model X.prog X.w) X.A (eval (.Name x pos) X.env) Q E s:=by
 obtain⟨mb,h1,h2⟩:=I.mod.blt;exact Calls.Name_function_global I.ok.kind hg (Calls.loadGlobal_builtin (I.ok.glob▸I.mod.glob.keeps I.bk) hm (I.ok.blt▸h1.keeps I.bk) ((h2 x hn).trans hv) h) hd
theorem qxo{x v u pos}(hg:Gl X x)(hm:X.mg x=some u)(r:RelV v u)(hd:autoParam (Abd x) ŕ):PE X (.Name x pos) (tC v):=
 λ_ _ _ H _ I h=>kk8 I hg hm #[v,H,I,r,h] hd
theorem vzx{x v u pos}(hg:Gl X x)(hm:X.mg x=none)(hv:bootBuiltins x=some u)(r:RelV v u)(hn:autoParam (x≠"__name__") ŕ)(hd:autoParam (Abd x) ŕ):PE X (.Name x pos) (tC v):=
 λ_ _ _ H _ I h=>Q6 I hg hm hv #[v,H,I,r,h] hn hd
variable {a b:Expr}{ta tb:TE}{pos:Pos}
variable {tA tB':TT}{ao:List Expr}
abbrev tAnd(t u:TT):TT:=fun σ H Q=>t σ H λc H1=>if c=true then u σ H1 Q else Q false H1
abbrev tOr(t u:TT):TT:=fun σ H Q=>t σ H λc H1=>if c=true then Q true H1 else u σ H1 Q
abbrev tNot(t:TT):TT:=fun σ H Q=>t σ H λc H1=>Q (!c) H1
theorem vzc(ha:PT X a tA):PW X (.BoolOp .And [a] pos) tA:=by
 intro wh aa s σ H Q I h;refine isTrue_and (thn (ha aa s σ H Q I h) λc s1 e=>?_);cases c with|true=>exact isTrue_and_nil e|false=>exact e
theorem wvh(ha:PT X a tA):PW X (.BoolOp .Or [a] pos) tA:=by
 intro wh aa s σ H Q I h;refine isTrue_or (thn (ha aa s σ H Q I h) λc s1 e=>?_);cases c with|false=>exact isTrue_or_nil e|true=>exact e
theorem wvi(ha:PT X a tA)(hb:PW X (.BoolOp .And (b::ao) pos) tB'):PW X (.BoolOp .And (a::b::ao) pos) (tAnd tA tB'):=by
 intro wh aa s σ H Q I h;refine isTrue_and (thn (ha aa s σ H _ I h) λc s1 hz=>?_);obtain⟨H1,I1,q1⟩:=hz;cases c with|true=>exact hb wh aa s1 σ H1 Q I1 q1|false=>exact#[H1,I1,q1]
theorem xjt(ha:PT X a tA)(hb:PW X (.BoolOp .Or (b::ao) pos) tB'):PW X (.BoolOp .Or (a::b::ao) pos) (tOr tA tB'):=by
 intro wh aa s σ H Q I h;refine isTrue_or (thn (ha aa s σ H _ I h) λc s1 hz=>?_);obtain⟨H1,I1,q1⟩:=hz;cases c with|true=>exact#[H1,I1,q1]|false=>exact hb wh aa s1 σ H1 Q I1 q1
theorem wvk(ha:PT X a tA):PT X (.UnaryOp .Not a pos) (tNot tA):=by
 intro aa s σ H Q I h;exact isTrue_not (ha aa s σ H _ I h)
abbrev xj2(ta tb:TE):TE:=fun σ H Q=>ta σ H λx H1=>∃c,x=.bl c/\if c=true then tb σ H1 Q else Q (.bl false) H1
abbrev tOrV(ta tb:TE):TE:=fun σ H Q=>ta σ H λx H1=>∃c,x=.bl c/\if c=true then Q (.bl true) H1 else tb σ H1 Q
theorem wvw{op t}(h:PE X a t):PE X (.BoolOp op [a] pos) t:=λaa s σ H Q I hw=>BoolOp_one (h aa s σ H Q I hw)
theorem ww1(ha:PE X a ta)(hb:PE X (.BoolOp .And (b::ao) pos) tb):PE X (.BoolOp .And (a::b::ao) pos) (xj2 ta tb):=by
 intro aa s σ H Q I h;refine BoolOp_and (thn (ha aa s σ H _ I h) λv s1 hz=>?_);obtain⟨x,H1,I1,r1,q1⟩:=hz;obtain⟨c,rfl,q1⟩:=q1;cases r1;refine wpAny_truthy_bool ?_;cases c with|true=>exact hb aa s1 σ H1 Q I1 q1|false=>exact#[.bl false,H1,I1,rfl,q1]
theorem xjx(ha:PE X a ta)(hb:PE X (.BoolOp .Or (b::ao) pos) tb):PE X (.BoolOp .Or (a::b::ao) pos) (tOrV ta tb):=by
 intro aa s σ H Q I h;refine BoolOp_or (thn (ha aa s σ H _ I h) λv s1 hz=>?_);obtain⟨x,H1,I1,r1,q1⟩:=hz;obtain⟨c,rfl,q1⟩:=q1;cases r1;refine wpAny_truthy_bool ?_;cases c with|false=>exact hb aa s1 σ H1 Q I1 q1|true=>exact#[.bl true,H1,I1,rfl,q1]
abbrev tIf(t:TT)(ta tb:TE):TE:=fun σ H Q=>t σ H λc H1=>if c=true then ta σ H1 Q else tb σ H1 Q
theorem vqg{c}(hc:PT X c tA)(ha:PE X a ta)(hb:PE X b tb):PE X (.IfExp c a b pos) (tIf tA ta tb):=by
 intro aa s σ H Q I h;refine wpAny_IfExp (thn (hc aa s σ H _ I h) λd s1 hz=>?_);obtain⟨H1,I1,q1⟩:=hz;cases d with|true=>exact ha aa s1 σ H1 Q I1 q1|false=>exact hb aa s1 σ H1 Q I1 q1
end
noncomputable def SqL(K:Frag)(H:Hp)(a:Addr)(xs:List V):Prop:=
 Rd H a (.lst xs) \/
  ∃(o:Obj) (aj:Array Value) (n:Nat),K.lookup a=some o/\o.cls=.type "list"/\o.dict=none/\o.data=.seq aj n/\aj.size<=sizeLine/\Vals xs aj.toList
noncomputable def SqT(K:Frag)(H:Hp)(a:Addr)(xs:List V):Prop:=
 Rd H a (.tup xs) \/
  ∃(o:Obj) (aj:Array Value) (n:Nat),K.lookup a=some o/\o.cls=.type "tuple"/\o.dict=none/\o.data=.seq aj n/\aj.size<=sizeLine/\Vals xs aj.toList
noncomputable def absV:Value->Option V
 |.none=>some .non|.bool b=>some (.bl b)|.int i _=>some (.int i)|.str x _=>some (.str x)|.bytes b _=>some (.byt b)|.float b _=>some (.flt b)|.ref a=>some (.ref a)|.type n=>some (.ty n)|_=>none
theorem RelV.abs{x u}(r:RelV x u):absV u=some x:=by
 cases x with|non=>cases r;rfl|bl _=>cases r;rfl|int _=>obtain⟨t,rfl⟩:=r;rfl|str _=>obtain⟨t,rfl⟩:=r;rfl|byt _=>obtain⟨t,rfl⟩:=r;rfl|flt _=>obtain⟨t,rfl⟩:=r;rfl|ref _=>cases r;rfl|ty _=>cases r;rfl
theorem RelV.inj{x y u}(r:RelV x u)(q:RelV y u):x=y:=oq9 (r.abs.symm.trans q.abs)
theorem Vals.inj:∀{xs ys us},Vals xs us->Vals ys us->xs=ys
 |_,_,_,.nil,.nil=>rfl|_,_,_,.cons r t,.cons r' t'=>by rw[r.inj r',Vals.inj t t']
section
variable {X:Cx}{aa:LA9}{σ:St}{H:Hp}{s:Shared}{a:Addr}{xs ys:List V}
theorem SqL.of{K}(h:H a=some (.lst xs)):SqL K H a xs:=.inl (.inl h)
theorem SqT.of{K}(h:H a=some (.tup xs)):SqT K H a xs:=.inl (.inl h)
theorem Inv.list(I:Inv X aa σ H s)(h:SqL X.K H a xs):∃aj,Vals xs aj/\PlainL s.heap a aj.toArray/\xs.length<=sizeLine:=by
 rcases h with h|⟨o,aj,n,hk,hc,hd,hs,hz,r⟩
 ·obtain⟨z,aj,n,r,e⟩:=h.ok I.hok;exact#[aj,r,#[_,n,e,rfl,rfl,rfl],z]
 ·refine#[aj.toList,r,#[o,n,I.kIn a o hk,hc,hd,by simpa using hs],?_];have e:=r.length;simp at e;lia
theorem Inv.tuple(I:Inv X aa σ H s)(h:SqT X.K H a xs):∃aj,Vals xs aj/\IsTup s.heap a aj.toArray/\xs.length<=sizeLine:=by
 rcases h with h|⟨o,aj,n,hk,hc,_,hs,hz,r⟩
 ·obtain⟨z,aj,r,p⟩:=h.ok I.hok;exact#[aj,r,p.tup,z]
 ·refine#[aj.toList,r,#[o,I.kIn a o hk,hc,n,by simpa using hs],?_];have e:=r.length;simp at e;lia
theorem Inv.tupleD(I:Inv X aa σ H s)(h:SqT X.K H a xs):∃o,s.heap.get? a=some o/\o.dict=none:=by
 rcases h with h|⟨o,aj,n,hk,hc,hd,hs,hz,r⟩
 ·obtain⟨z,aj,r,o,e,_,d,_⟩:=h.ok I.hok;exact#[o,e,d]
 ·exact#[o,I.kIn a o hk,hd]
theorem Inv.list_inj(I:Inv X aa σ H s)(h:SqL X.K H a xs)(h':SqL X.K H a ys):xs=ys:=by
 obtain⟨aj,r,⟨o,n,e,_,_,d⟩,_⟩:=I.list h;obtain⟨its',r',⟨o',n',e',_,_,d'⟩,_⟩:=I.list h';rw[e]at e';cases e';rw[d]at d';injection d' with d1 _;have:aj=its':=by simpa using congrArg Array.toList d1
 subst this;exact r.inj r'
theorem Inv.tuple_inj(I:Inv X aa σ H s)(h:SqT X.K H a xs)(h':SqT X.K H a ys):xs=ys:=by
 obtain⟨aj,r,⟨o,e,_,n,d⟩,_⟩:=I.tuple h;obtain⟨its',r',⟨o',e',_,n',d'⟩,_⟩:=I.tuple h';rw[e]at e';cases e';rw[d]at d';injection d' with d1 _;have:aj=its':=by simpa using congrArg Array.toList d1
 subst this;exact r.inj r'
end
abbrev Cx.wish(X:Cx)(E:VP9):Cx:={X with xe:=E}
abbrev Cx.nox(X:Cx):Cx:=X.wish λ_ _=>False
theorem Cx.Ok.wish{X:Cx}(ok:X.Ok) E:(X.wish E).Ok:=
 #[ok.mod,ok.kind,ok.glob,ok.blt,ok.above,ok.inj,ok.has,ok.cab,ok.hd,ok.frames,ok.stk,ok.exf,ok.bs,ok.bsz,ok.noex,ok.exfs,ok.funs,ok.frf]
theorem Cx.Ok.unwish{X:Cx}{E}(ok:(X.wish E).Ok):X.Ok:=
 #[ok.mod,ok.kind,ok.glob,ok.blt,ok.above,ok.inj,ok.has,ok.cab,ok.hd,ok.frames,ok.stk,ok.exf,ok.bs,ok.bsz,ok.noex,ok.exfs,ok.funs,ok.frf]
section
variable {X:Cx}{aa:LA9}{σ:St}{H:Hp}{s:Shared}{E:VP9}
theorem Inv.wish(I:Inv X aa σ H s) E:Inv (X.wish E) aa σ H s:=#[I.ok.wish E,I.os,I.bare,I.base,I.loc,I.cell,I.free,I.freeC,I.pin,I.hok,I.len]
theorem Inv.unwish(I:Inv (X.wish E) aa σ H s):Inv X aa σ H s:=#[I.ok.unwish,I.os,I.bare,I.base,I.loc,I.cell,I.free,I.freeC,I.pin,I.hok,I.len]
set_option tactic.hygienic true in
theorem SP.unwish{D f s'}(h:SP (X.wish E) aa D f s'):SP X aa D f s':=by
 cases f with|next=>obtain⟨σ',H',I,q⟩:=h;exact#[σ',H',I.unwish,q]|brk=>obtain⟨σ',H',I,q⟩:=h;exact#[σ',H',I.unwish,q]|cont=>obtain⟨σ',H',I,q⟩:=h;exact#[σ',H',I.unwish,q]|ret u=>obtain⟨v,σ',H',I,r,q⟩:=h;exact#[v,σ',H',I.unwish,r,q]
end
section
variable {X:Cx}{st:Stmt}{ao:List Stmt}{t u:TS}{e:Expr}{te:TE}{pos:Pos}
abbrev wzw:TS:=λD σ H=>D.nx σ H
abbrev tSeq(t u:TS):TS:=λD σ H=>t {D with nx:=u D} σ H
theorem vzi:PSs X [] wzw:=λ_ _ σ H _ I h=>wpAny_execs_nil #[σ,H,I,h]
set_option tactic.hygienic true in
theorem vq6(h1:PS X st t)(h2:PSs X ao u):PSs X (st::ao) (tSeq t u):=by
 intro aa s σ H D I h;refine wpAny_execs_cons (thn (h1 aa s σ H {D with nx:=u D} I h) λf s1 q=>?_);cases f with
 |next=>
  obtain⟨σ',H',I',q⟩:=q;exact h2 aa s1 σ' H' D I' q
 |ret v=>exact q|brk=>exact q|cont=>exact q
set_option tactic.hygienic true in
theorem qxe(h1:PS X st t):PSs X [st] t:=by
 intro aa s σ H D I h;refine wpAny_execs_cons (thn (h1 aa s σ H D I h) λf s1 q=>?_);cases f with|next=>exact wpAny_execs_nil q|ret v=>exact q|brk=>exact q|cont=>exact q
theorem Inv.quiet{aa}{σ:St}{H s}(I:Inv X aa σ H s):interactive X.env=false:=by simp[interactive,I.ok.kind]
abbrev wzz(te:TE):TS:=λD σ H=>te σ H λ_ H1=>D.nx σ H1
theorem kju(he:PE X e te)(hs:autoParam (swapsWith e none pos.line X.env=pure false) Ŕ):PS X (.Expr e pos) (wzz te):=by
 intro aa s σ H D I h;exact wpAny_Expr_any (thn (he aa s σ H _ I h) λv s1 hz=>by obtain⟨x,H1,I1,r1,q1⟩:=hz;exact#[σ,H1,I1,q1]) I.quiet hs
abbrev xqd(te:TE):TS:=λD σ H=>te σ H D.rt
theorem wvm(he:PE X e te):PS X (.Return (some e) pos) (xqd te):=by
 intro aa s σ H D I h;exact wpAny_Return_some (thn (he aa s σ H _ I h) λv s1 hz=>by obtain⟨x,H1,I1,r1,q1⟩:=hz;exact#[x,σ,H1,I1,r1,q1])
abbrev tIfS(c:TT)(t u:TS):TS:=λD σ H=>c σ H λb H1=>if b=true then t D σ H1 else u D σ H1
theorem xju{c a b tc}(hc:PT X c tc)(ha:PSs X a t)(hb:PSs X b u):PS X (.If c a b pos) (tIfS tc t u):=by
 intro aa s σ H D I h;refine wpAny_If (thn (hc aa s σ H _ I h) λd s1 hz=>?_);obtain⟨H1,I1,q1⟩:=hz;cases d with|true=>exact ha aa s1 σ H1 D I1 q1|false=>exact hb aa s1 σ H1 D I1 q1
end
abbrev TG:=V->St->Hp->(St->Hp->Prop)->Prop
abbrev TGs:=List V->St->Hp->(St->Hp->Prop)->Prop
noncomputable def PG(X:Cx)(gr:Expr)(t:TG):Prop:=
 ∀(aa:LA9) (s:Shared) (σ:St) (H:Hp) (v:V) (u:Value) (Q:St->Hp->Prop),Inv X aa σ H s->RelV v u->t v σ H Q ->
  wpAny (model X.prog X.w) X.A (assign gr X.env u) (λ_ s'=>∃ σ' H',Inv X aa σ' H' s'/\Q σ' H') X.xe s
noncomputable def PGs(X:Cx)(ts:List Expr)(t:TGs):Prop:=
 ∀(aa:LA9) (s:Shared) (σ:St) (H:Hp) (vs:List V) (us:List Value) (Q:St->Hp->Prop),Inv X aa σ H s->Vals vs us->t vs σ H Q ->
  wpAny (model X.prog X.w) X.A (assignInOrder ((assignEach ts X.env).map (·.2)) us) (λ_ s'=>∃ σ' H',Inv X aa σ' H' s'/\Q σ' H') X.xe s
abbrev xq7:=V->V->V->Hp->(Hp->Prop)->Prop
noncomputable def xv6(X:Cx)(t:xq7):Prop:=
 ∀(aa:LA9) (s:Shared) (σ:St) (H:Hp) (o i v:V) (ov iv u:Value) (Q:Hp->Prop),Inv X aa σ H s->RelV o ov->RelV i iv->RelV v u->t o i v H Q ->
  wpAny (model X.prog X.w) X.A (setItem ov iv u) (λ_ s'=>∃H',Inv X aa σ H' s'/\Q H') X.xe s
section
variable {X:Cx}{pos:Pos}
abbrev vj0(i:Nat):TG:=λv σ H Q=>Q (σ.set i (some v)) H
theorem qjd{i x}(hN:X.N.Nodup)(hi:X.N[i]?=some x)(hx:Loc X.env.scope x)(hf:autoParam (X.fn x=true\/X.env.scope.names.lookup x=some .local) Ř):PG X (.Name x pos) (vj0 i):=by
 intro aa s σ H v u Q I r h;exact wpAny_assign_Name (jxf I hN hi hx r (λs' I'=>#[_,H,I',h]) hf)
abbrev xqz:TGs:=λvs σ H Q=>vs=[]/\Q σ H
abbrev wxa(t:TG)(u:TGs):TGs:=λvs σ H Q=>∃v r,vs=v::r/\t v σ H fun σ' H'=>u r σ' H' Q
theorem J4:PGs X [] xqz:=by
 rintro aa s σ H vs us Q I r ⟨e,h⟩;subst e;exact assignInOrder_nil #[σ,H,I,h]
theorem qY{e es t u}(h1:PG X e t)(h2:PGs X es u)
  (hs:autoParam ((assignEach (e::es) X.env).map (·.2)=assign e X.env::(assignEach es X.env).map (·.2)) Ŕ):PGs X (e::es) (wxa t u):=by
 rintro aa s σ H vs us Q I r ⟨v,vr,e1,h⟩;subst e1;cases r with
 |cons r rr=>
  rw[hs];exact assignInOrder_cons (thn (h1 aa s σ H _ _ _ I r h) λ_ s1 hz=>by obtain⟨σ1,H1,I1,q1⟩:=hz;exact(h2 aa s1 σ1 H1 _ _ Q I1 rr q1))
abbrev gSub(to ti:TE)(t:xq7):TG:=λv σ H Q=>to σ H λo H1=>ti σ H1 λi H2=>t o i v H2 λH3=>Q σ H3
theorem wvs{o i:Expr}{to ti:TE}{t:xq7}(ho:PE X o to)(hi:PE X i ti)(hs:xv6 X t)
  (ha:autoParam (∀v,assign (.Subscript o i pos) X.env v=(do
   let ov <-holding [v] (eval o X.env)
   let iv <-holding [v,ov] (eval i X.env)
   standAt pos
   holding [v,ov,iv] (setItem ov iv v)
   release [v,ov,iv] [])) Ŗ):PG X (.Subscript o i pos) (gSub to ti t):=by
 intro aa s σ H v u Q I r h;rw[ha];refine X0 (Y9 (thn (ho aa s σ H _ I h) λov s1 hz=>?_));obtain⟨x,H1,I1,r1,q1⟩:=hz;refine X0 (Y9 (thn (hi aa s1 σ H1 _ I1 q1) λiv s2 hz=>?_));obtain⟨y,H2,I2,r2,q2⟩:=hz;refine X0 (wpAny_standAt (X0 (Y9 (thn (hs aa s2 σ H2 x y v ov iv u _ I2 r1 r2 r q2) λ_ s3 hz=>?_))));obtain⟨H3,I3,q3⟩:=hz;exact wpAny_release #[σ,H3,I3,q3]
abbrev xqf(te:TE)(g:TG):TS:=λD σ H=>te σ H λx H1=>g x σ H1 D.nx
theorem qxh{tg e te g}(he:PE X e te)(hg:PG X tg g)(hs:autoParam (swapsWithSole [tg] e pos.line X.env=pure false) Ŕ)(hw:autoParam (swappedStores [tg] e X.env=pure none) Ŕ)
  (h1:autoParam ((assignEach [tg] X.env).map (·.2)=[assign tg X.env]) Ŕ):PS X (.Assign [tg] e pos) (xqf te g):=by
 intro aa s σ H D I h;refine wpAny_Assign_stores (thn (he aa s σ H _ I h) λv s1 hz=>?_) hs hw;obtain⟨x,H1,I1,r1,q1⟩:=hz;rw[h1];exact thn (hg aa s1 σ H1 x v _ I1 r1 q1) λ_ s2 q=>q
theorem wvl{i x e te bh}(hN:X.N.Nodup)(hi:X.N[i]?=some x)(hx:Loc X.env.scope x)(he:PE X e te)(hs:autoParam (swapsWith e (some (.Name x bh)) pos.line X.env=pure false) Ŕ)(hf:autoParam (X.fn x=true\/X.env.scope.names.lookup x=some .local) Ř):
  PS X (.Assign [.Name x bh] e pos) (xqf te (vj0 i)):=by
 intro aa s σ H D I h;exact wpAny_Assign_Name (thn (he aa s σ H _ I h) λv s1 hz=>by obtain⟨y,H1,I1,r1,q1⟩:=hz;exact(jxf I1 hN hi hx r1 (λs2 I2=>#[_,H1,I2,q1]) hf)) hs
end
section
variable {X:Cx}{pos:Pos}
abbrev wq4(c:TT)(tb:TS):TS:=λD σ H=>∃W:Nat->St->Hp->Prop,(∃m,W m σ H)/\∀m σ H,W m σ H ->
 c σ H λb H1=>if b=true then ∃N:St->Hp->Prop,(∀ σ' H',N σ' H'->∃m',m'<m/\W m' σ' H')/\tb {D with nx:=N,ct:=N,bk:=D.nx} σ H1 else D.nx σ H1
set_option tactic.hygienic true in
theorem vq7{c:Expr}{body:List Stmt}{tc:TT}{tb:TS}(hp:PassesOwn (model X.prog X.w) X.A X.env X.xe)(hc:PT X c tc)(hb:PSs X body tb):PS X (.While c body [] pos) (wq4 tc tb):=by
 intro aa s σ H D I h;obtain⟨W,⟨m0,w0⟩,gp⟩:=h;refine wpAny_While (codeAny_whileLoop (λn s'=>∃ σ' H',Inv X aa σ' H' s'/\W n σ' H') ?_ m0 #[σ,H,I,w0]);rintro n s1 ⟨σ1,H1,I1,w1⟩;refine Z2 hp (thn (hc aa s1 σ1 H1 _ I1 (gp n σ1 H1 w1)) λb s2 hz=>?_);obtain⟨H2,I2,q2⟩:=hz;cases b with
 | true=>
  obtain⟨N,hN,q2⟩:=q2;rw[Xb rfl];refine Z2 hp (thn (hb aa s2 σ1 H2 _ I2 q2) λf s3 q3=>?_);cases f with
  |next=>
   obtain⟨σ3,H3,I3,n3⟩:=q3;obtain⟨m',hm,w3⟩:=hN σ3 H3 n3;exact#[m',hm,σ3,H3,I3,w3]
  |cont=>
   obtain⟨σ3,H3,I3,n3⟩:=q3;obtain⟨m',hm,w3⟩:=hN σ3 H3 n3;exact#[m',hm,σ3,H3,I3,w3]
  |brk=>exact q3|ret v=>exact q3
 |false=>
  rw[Xe Bool.false_ne_true];exact wpAny_execs_nil #[σ1,H2,I2,q2]
end
structure It where
 go:Nat->Hp->Prop
 yld:Nat->Hp->V->Hp->Prop
 stop:Nat->Hp->Prop
noncomputable def x5(X:Cx)(aa:LA9)(H:Hp)(b:Addr):Prop:=
 H b=none/\b≠X.env.locals/\b∉X.fs/\(b∈X.ex\/X.s₀.heap.objs.size<=b)/\(∀x c,X.env.cells.lookup x=some c->c≠b)/\∀p∈X.pn++aa,p.1≠b
theorem Inv.fpOk{X aa}{σ:St}{H H' s}{b:Addr}(I:Inv X aa σ H s)(hb:s.heap.objs.size<=b)(hn:H' b=none):x5 X aa H' b:=by
 refine#[hn,Nat.ne_of_gt (Xf I.lt hb),I.nofs hb,.inr (Xx I.sz hb),λx c e z=>?_,λp hp z=>?_]
 ·obtain⟨v,q⟩:=I.cell x c e;exact absurd (Xf q.lt (z▸hb)) (Ym _)
 ·exact absurd (Xf (Xd (I.pin p hp).1) (z▸hb)) (Ym _)
structure Turn (P:Program)(w:World)(K:Frag)(tg:Expr)(J:It)(fp:List Addr)(it:Addr)(tn:Nat->Heap->Prop):Prop where
 mem:it∈fp
 obj:∀i h,tn i h->∀b∈fp,∃o,h.get? b=some o/\∀v,o.data≠.cell v
 keep:∀i h h',tn i h->(∀b∈fp,∀o,h.get? b=some o->h'.get? b=some o)->tn i h'
 item:∀(X:Cx),X.prog=P->X.w=w->X.K=K->X.calm=true->∀(i:Nat) (aa:LA9) (s:Shared) (σ:St) (H:Hp) (E:VP9),Inv X aa σ H s->(∀b∈fp,x5 X aa H b)->tn i s.heap->J.go i H ->
  wpAny (model P w) X.A (pyNext (.ref it)) (λr s1=>∃u,r=some u /\
   wpAny (model P w) X.A (letOwnedTupleGo tg (.ref it) u) (λ_ s2=>∃x H',Inv X aa σ H' s2/\RelV x u/\J.yld i H x H'/\tn (i+1) s2.heap/\∀b∈fp,H' b=none) E s1) E s
 done:∀(X:Cx),X.prog=P->X.w=w->X.K=K->X.calm=true->∀(i:Nat) (aa:LA9) (s:Shared) (σ:St) (H:Hp) (E:VP9),Inv X aa σ H s->(∀b∈fp,x5 X aa H b)->tn i s.heap->J.stop i H ->
  wpAny (model P w) X.A (pyNext (.ref it)) (λr s1=>r=none/\Inv X aa σ H s1) E s
 self:∀(A:Around) (i:Nat) (s:Shared) (Q:VP9) (E:VP9),tn i s.heap->Q (.ref it) s->wpAny (model P w) A (pyIter (.ref it)) Q E s
abbrev TI:=St->Hp->(It->Hp->Prop)->Prop
noncomputable def PIE(X:Cx)(aa:LA9)(σ:St)(tg:Expr)(R:It->Hp->Prop)(itv:Value)(s2:Shared):Prop:=
 ∃(it:Addr) (fp:List Addr) (tn:Nat->Heap->Prop) (J:It) (H':Hp),itv=.ref it/\Inv X aa σ H' s2/\Turn X.prog X.w X.K tg J fp it tn/\tn 0 s2.heap/\(∀b∈fp,x5 X aa H' b)/\R J H'
noncomputable def PI(X:Cx)(tg iter:Expr)(wi:TI):Prop:=
 ∀(aa:LA9) (s:Shared) (σ:St) (H:Hp) (R:It->Hp->Prop),Inv X aa σ H s->wi σ H R ->
  wpAny (model X.prog X.w) X.A (eval iter X.env) (λv s1=>wpAny (model X.prog X.w) X.A (pyIter v) (PIE X aa σ tg R) X.xe s1) X.xe s
theorem vv4 {M A E s tg it u o n vs Q} (ho : s.heap.get? it = some o) (hc : o.cls = .type n) (hd : o.data = .fields vs)
    (hn : ["enumerate", "zip", "dict_itemiterator", "dict_reverseitemiterator", "odict_iterator", "itertools.zip_longest", "itertools.pairwise"].contains n = false) (hQ : Q () s): wpAny M A (letOwnedTupleGo tg (.ref it) u) Q E s:= by
  cases tg <;> first
    |exact X5 hQ
    |(cases u <;> first
        |exact X5 hQ
        | (refine X0 (wpAny_load ho ?_)
           rw[hc,hd];show wpAny M A (if _ = true then _ else _) Q E s;rw[Xe (by grind)];exact X5 hQ))
noncomputable def Itl(K:Frag)(a:Addr):It:=
 ⟨λi H=>∃xs x,SqL K H a xs/\xs[i]?=some x,λi H x H'=>H'=H/\∀xs,SqL K H a xs->xs[i]?=some x,λi H=>∃xs,SqL K H a xs/\xs.length<=i⟩
noncomputable def Itt(K:Frag)(a:Addr):It:=
 ⟨λi H=>∃xs x,SqT K H a xs/\xs[i]?=some x,λi H x H'=>H'=H/\∀xs,SqT K H a xs->xs[i]?=some x,λi H=>∃xs,SqT K H a xs/\xs.length<=i⟩
noncomputable def Itr(lo:Int)(n:Nat):It:=⟨λi _=>i<n,λi H x H'=>H'=H/\x=.int (lo+i),λi _=>n<=i⟩
theorem kwz{P w K tg}(a it):Turn P w K tg (Itl K a) [it] it (λi h=>h.IsListIter it a i) where
 mem:=by simp
 obj:=λi h st b hb=>by
  have e:b=it:=by simpa using hb
  subst e;obtain⟨o,e,c,d⟩:=st;exact#[o,e,λv z=>by rw[d]at z;cases z]
 keep:=λi h h' st k=>st.at λo e=>k it (by simp) o e
 item:=by
  intro X hP hw hK hc i aa s σ H E I hf st hg;subst hP hw hK;obtain⟨xs,x,hq,hx⟩:=hg;obtain⟨aj,rv,p,hz⟩:=I.list hq;obtain⟨u,hu,ru⟩:=rv.get hx;obtain⟨f0,f1,f2,f3,f4,f5⟩:=hf it (by simp);refine wpAny_pyNext_list_item st p.isList (by simpa using hu) λh' fm sb=>?_
  have I1:Inv X aa σ H {s with heap:=h' }:=I.turned (t':=s.toks) (λb o hb e=>(sb.2 b hb).trans e) f0 f1 f3 f4 f5;obtain⟨o,e,c,d⟩:=id fm;exact#[u,rfl,vv4 e c d ⋯ #[x,H,I1,ru,#[rfl,λys hy=>by rw[I.list_inj hy hq];exact hx],fm,λb hb=>(hf b hb).1]]
 done:=by
  intro X hP hw hK hc i aa s σ H E I hf st hg;subst hP hw hK;obtain⟨xs,hq,hx⟩:=hg;obtain⟨aj,rv,p,hz⟩:=I.list hq;obtain⟨f0,f1,f2,f3,f4,f5⟩:=hf it (by simp);have hl:=rv.length;exact wpAny_pyNext_list_end (I.ok.hd hc) st p.isList (by simp;lia) λh' eb=>#[rfl,I.turned (t':=s.toks) (λb o hb e=>eb b o hb e) f0 f1 f3 f4 f5]
 self:=λ_ _ _ _ _ st h=>wpAny_pyIter_listiter st h
theorem qv7{P w K tg}(a it):Turn P w K tg (Itt K a) [it] it (λi h=>h.IsTupleIter it a i) where
 mem:=by simp
 obj:=λi h st b hb=>by
  have e:b=it:=by simpa using hb
  subst e;obtain⟨o,e,c,d⟩:=st;exact#[o,e,λv z=>by rw[d]at z;cases z]
 keep:=λi h h' st k=>st.at λo e=>k it (by simp) o e
 item:=by
  intro X hP hw hK hc i aa s σ H E I hf st hg;subst hP hw hK;obtain⟨xs,x,hq,hx⟩:=hg;obtain⟨aj,rv,p,hz⟩:=I.tuple hq;obtain⟨u,hu,ru⟩:=rv.get hx;obtain⟨f0,f1,f2,f3,f4,f5⟩:=hf it (by simp);refine wpAny_pyNext_tuple_item st (p) (x:=u) (by simpa using hu) λh' fm sb=>?_
  have I1:Inv X aa σ H {s with heap:=h' }:=I.turned (t':=s.toks) (λb o hb e=>(sb.2 b hb).trans e) f0 f1 f3 f4 f5;obtain⟨o,e,c,d⟩:=id fm;exact#[u,rfl,vv4 e c d ⋯ #[x,H,I1,ru,#[rfl,λys hy=>by rw[I.tuple_inj hy hq];exact hx],fm,λb hb=>(hf b hb).1]]
 done:=by
  intro X hP hw hK hc i aa s σ H E I hf st hg;subst hP hw hK;obtain⟨xs,hq,hx⟩:=hg;obtain⟨aj,rv,p,hz⟩:=I.tuple hq;obtain⟨f0,f1,f2,f3,f4,f5⟩:=hf it (by simp);have hl:=rv.length;exact wpAny_pyNext_tuple_end (I.ok.hd hc) st (p) (by simp;lia) λh' eb=>#[rfl,I.turned (t':=s.toks) (λb o hb e=>eb b o hb e) f0 f1 f3 f4 f5]
 self:=λ_ _ _ _ _ st h=>wpAny_pyIter_tupleiter st h
theorem qv8{P w K tg}(it)(lo)(n):Turn P w K tg (Itr lo n) [it] it (λi h=>IsRangeIter h it (lo+(i)*1) ((n) - (i)) 1) where
 mem:=by simp
 obj:=λi h st b hb=>by
  have e:b=it:=by simpa using hb
  subst e;exact#[_,st,λv z=>by
   cases z]
 keep:=λi h h' st k=>k it (by simp) _ st
 item:=by
  intro X hP hw hK hc i aa s σ H E I hf st hg;subst hP hw hK;obtain⟨f0,f1,f2,f3,f4,f5⟩:=hf it (by simp);refine(Walks.range (prog:=X.prog) (w:=X.w) (I.ok.hd hc) it lo 1 n).item i s _ _ hg st λv h' tk hv fm kk=>?_
  obtain⟨t,rfl⟩:=hv;have I1:Inv X aa σ H {s with heap:=h',toks:=tk}:=I.turned (λb o hb e=>kk b o (by simpa using hb) e) f0 f1 f3 f4 f5;refine#[_,rfl,vv4 fm rfl rfl ⋯ #[.int _,H,I1,#[t,?_],#[rfl,rfl],fm,λb hb=>(hf b hb).1]];rw[Int.mul_one]
 done:=by
  intro X hP hw hK hc i aa s σ H E I hf st hg;obtain⟨f0,f1,f2,f3,f4,f5⟩:=hf it (by simp);exact wpAny_pyNext_range_end (I.ok.hd hc) st (by have:n<=i:=hg;lia) λh' eb=>#[rfl,I.turned (t':=s.toks) (λb o hb e=>eb b o hb e) f0 f1 f3 f4 f5]
 self:=λ_ _ _ _ _ st h=>wpAny_pyIter_rangeiter st h
section
variable {X:Cx}{tg:Expr}
abbrev xkj(K:Frag)(tl:TE):TI:=fun σ H R=>tl σ H λx H1=>∃a,x=.ref a/\(∃xs,SqL K H1 a xs)/\R (Itl K a) H1
theorem vzq{l:Expr}{tl:TE}(hl:PE X l tl):PI X tg l (xkj X.K tl):=by
 intro aa s σ H R I h;refine thn (hl aa s σ H _ I h) λv s1 hz=>?_
 obtain⟨x,H1,I1,r1,q1⟩:=hz;obtain⟨a,e,⟨xs,hq⟩,q⟩:=q1;subst e;cases r1;obtain⟨aj,rv,p,hz⟩:=I1.list hq;refine wpAny_pyIter_list p.isList ?_;refine#[s1.heap.objs.size,[s1.heap.objs.size],_,_,H1,rfl,I1.kept (t':=s1.toks) λb o e=>X2 _ e,kwz a _,#[_,Xa _ rfl,rfl,rfl],λb hb=>?_,q];have e:b=s1.heap.objs.size:=by simpa using hb
 subst e;exact I1.fpOk (X8 _) (I1.hok.fresh (X8 _))
theorem vkw{aa}{σ:St}{H s R E lo hi t u v tk}(I:Inv X aa σ H s)(h1:-(2 ^ 62)<=lo)(h2:lo<2 ^ 62)(h3:-(2 ^ 62)<=hi)(h4:hi<2 ^ 62)
  (q:R (Itr lo (hi - lo).toNat) H):wpAny (model X.prog X.w) X.A (pyIter (.ref s.heap.objs.size)) (PIE X aa σ tg R) E {s with heap:=s.heap.push {cls:=.type "range",data:=.fields (List.toArray [.int lo t,.int hi u,.int 1 v])},toks:=tk}:=by
 refine wpAny_pyIter_range (IsRange.new ..) (small_one h1 h2 h3 h4) ?_;have I1:Inv X aa σ H {s with heap:=s.heap.push {cls:=.type "range",data:=.fields (List.toArray [.int lo t,.int hi u,.int 1 v])},toks:=tk}:=I.kept λb o e=>X2 _ e
 refine#[(s.heap.push {cls:=.type "range",data:=.fields (List.toArray [.int lo t,.int hi u,.int 1 v])}).objs.size,[(s.heap.push {cls:=.type "range",data:=.fields (List.toArray [.int lo t,.int hi u,.int 1 v])}).objs.size],_,_,H,rfl,
  I1.kept (t':=tk) λb o e=>X2 _ e,qv8 _ lo (hi - lo).toNat,?_,λb hb=>?_,q]
 ·have e1:lo+((0:Nat):Int)*1=lo:=by simp
  have e2:(((hi - lo).toNat:Nat):Int) - ((0:Nat):Int)=Builtin.Range.rangeSize lo hi 1:=by rw[rangeSize_one];split<;>lia
  rw[e1,e2];exact Xa _ rfl
 ·have e:b=(s.heap.push {cls:=.type "range",data:=.fields (List.toArray [.int lo t,.int hi u,.int 1 v])}).objs.size:=by simpa using hb
  subst e;exact I1.fpOk (X8 _) (I1.hok.fresh (X8 _))
abbrev xki(ta:TA):TI:=fun σ H R=>ta σ H λvs H1=>∃j:Int,vs=[.int j]/\-(2 ^ 62)<=j/\j<2 ^ 62/\R (Itr 0 j.toNat) H1
theorem qxm{a ta p pos}(hg:Gl X "range")(hm:X.mg "range"=none)(ha:PA X [a] ta)(hs:autoParam (starEach [a] X.env=[(false,eval a X.env)]) Ŕ):PI X tg (.Call (.Name "range" p) [a] [] pos) (xki ta):=by
 intro aa s σ H R I h;refine Call_ (Q6 I hg hm boot_range (Ya (thn (ha pos aa s σ H _ I h) λus s1 hz=>?_) hs rfl));obtain⟨vs,H1,I1,r1,q1⟩:=hz;obtain⟨j,e,q1,q2,q⟩:=q1;subst e;cases r1 with
 |cons r rr=>
  cases rr;obtain⟨t,rfl⟩:=r;exact call_range_1 (vkw I1 ⋯ ⋯ q1 q2 (by simpa using q))
abbrev tFor(wi:TI)(g:TG)(tb:TS):TS:=λD σ H=>wi σ H λJ H1=>∃W:Nat->Nat->St->Hp->Prop,(∃m,W 0 m σ H1)/\∀i m σ H,W i m σ H ->
 (J.stop i H/\D.nx σ H)\/(J.go i H/\∃N:St->Hp->Prop,(∀ σ' H',N σ' H'->∃m',m'<m/\W (i+1) m' σ' H')/\∀x H',J.yld i H x H'->g x σ H' fun σ2 H2=>tb {D with nx:=N,ct:=N,bk:=D.nx} σ2 H2)
noncomputable def VQ(fp:List Addr)(h:Heap):LA9:=fp.filterMap λb=>(h.get? b).map λo=>(b,o)
theorem jzf{fp h b o}(hb:b∈fp)(e:h.get? b=some o):(b,o)∈VQ fp h:=List.mem_filterMap.mpr #[b,hb,by rw[e];rfl]
theorem kxw{fp h p}(hp:p∈VQ fp h):p.1∈fp/\h.get? p.1=some p.2:=by
 obtain⟨b,hb,e⟩:=List.mem_filterMap.mp hp;cases q:h.get? b with
 |none=>rw[q]at e;cases e
 |some o=>
  rw[q]at e;have e':=oq9 e;subst e';exact#[hb,q]
theorem Inv.pinned{aa}{σ:St}{H s fp}(I:Inv X aa σ H s)(hf:∀b∈fp,x5 X aa H b)(ho:∀b∈fp,∃o,s.heap.get? b=some o/\∀v,o.data≠.cell v):Inv X (aa++VQ fp s.heap) σ H s:=
 I.pins_of λp hp=>(aA hp).elim (λz=>I.pin p (lr9 _ z)) λz=>by
  obtain⟨hb,e⟩:=kxw z;obtain⟨f0,f1,f2,_⟩:=hf p.1 hb;obtain⟨o,e',d⟩:=ho p.1 hb;rw[e]at e';cases e';exact#[e,f0,f1,f2,d]
theorem Inv.unpinned{aa pl}{σ:St}{H s}(I:Inv X (aa++pl) σ H s):Inv X aa σ H s:=I.pins_of λp hp=>I.pin p (lr9 _ (ll9 _ hp))
set_option tactic.hygienic true in
theorem vwi{iter:Expr}{body:List Stmt}{wi:TI}{g:TG}{tb:TS}{pos:Pos}(hp:PassesOwn (model X.prog X.w) X.A X.env X.xe)(hc:X.calm=true)(hi:PI X tg iter wi)(hg:PG X tg g)(hb:PSs X body tb)
  (hs:autoParam (∀x,foldedSetIterable iter X.env x=pure x) Ŗ):PS X (.For tg iter body [] pos) (tFor wi g tb):=by
 intro aa s σ H D I h;refine wpAny_For (thn (hi aa s σ H _ I h) λv s1 h1=>thn h1 λitv s2 h2=>?_) hs;obtain⟨it,fp,tn,J,H2,e,I2,T,cf,f2,W,⟨m0,w0⟩,gp⟩:=h2;subst e;have kg:∀{H':Hp},(∀b∈fp,H' b=none)->∀b∈fp,x5 X aa H' b:=λhn b hb=>#[hn b hb,(f2 b hb).2]
 refine codeAny_forLoop_any (λn s'=>∃i σ' H',Inv X aa σ' H' s'/\tn i s'.heap/\(∀b∈fp,H' b=none)/\W i n σ' H') ?_ m0 #[0,σ,H2,I2,cf,λb hb=>(f2 b hb).1,w0];rintro n s3 ⟨i,σ3,H3,I3,dl,sv,w3⟩;rcases gp i n σ3 H3 w3 with⟨stop,qn⟩|⟨go,N,hN,step⟩
 ·refine Z2 hp (thn (T.done X rfl rfl rfl hc i aa s3 σ3 H3 X.xe I3 (kg sv) dl stop) λr s4 #[hr,I4]=>?_);subst hr;exact wpAny_execs_nil #[σ3,H3,I4,qn]
 ·refine Z2 hp (thn (T.item X rfl rfl rfl hc i aa s3 σ3 H3 X.xe I3 (kg sv) dl go) λr s4 #[u,hr,h4]=>?_);subst hr;refine Z2 hp (thn h4 λ_ s5 #[x,H5,I5,r5,y5,se,fr5]=>?_);have I5':=I5.pinned (kg fr5) (T.obj _ _ se);refine Z2 hp (thn (hg _ s5 σ3 H5 x u _ I5' r5 (step x H5 y5)) λ_ s6 #[σ6,H6,I6,q6]=>?_);refine Z2 hp (thn (hb _ s6 σ6 H6 _ I6 q6) λf s7 q7=>?_);have i9:∀{σ7:St} {H7:Hp},Inv X (aa++VQ fp s5.heap) σ7 H7 s7->N σ7 H7->∃m,m<n/\∃i σ' H',Inv X aa σ' H' s7/\tn i s7.heap/\(∀b∈fp,H' b=none)/\W i m σ' H':=fun {σ7 H7} I7 n7=>by
   obtain⟨m',hm,w7⟩:=hN σ7 H7 n7;refine#[m',hm,i+1,σ7,H7,I7.unpinned,T.keep _ _ _ se λb hb o e=>(I7.pin (b,o) (lr9 _ (lr9 _ (jzf hb e)))).1,λb hb=>?_,w7];obtain⟨o,e,d⟩:=T.obj _ _ se b hb;exact(I7.pin (b,o) (lr9 _ (lr9 _ (jzf hb e)))).2.1
  cases f with|next=>obtain⟨σ7,H7,I7,n7⟩:=q7;exact i9 I7 n7|cont=>obtain⟨σ7,H7,I7,n7⟩:=q7;exact i9 I7 n7|brk=>obtain⟨σ7,H7,I7,q7⟩:=q7;exact#[σ7,H7,I7.unpinned,q7]|ret v=>obtain⟨x7,σ7,H7,I7,r7,q7⟩:=q7;exact#[x7,σ7,H7,I7.unpinned,r7,q7]
end
abbrev R2:=V->V->Hp->VK->Prop
noncomputable def OpR(X:Cx)(f:Value->Value->Sem Value)(r:R2):Prop:=
 ∀(aa:LA9) (s:Shared) (σ:St) (H:Hp) (x y:V) (v u:Value) (Q:VK),Inv X aa σ H s->RelV x v->RelV y u->r x y H Q ->
  wpAny (model X.prog X.w) X.A (f v u) (EP X aa σ Q) X.xe s
noncomputable def UnR(X:Cx)(f:Value->Sem Value)(r:V->Hp->VK->Prop):Prop:=
 ∀(aa:LA9) (s:Shared) (σ:St) (H:Hp) (x:V) (v:Value) (Q:VK),Inv X aa σ H s->RelV x v->r x H Q ->
  wpAny (model X.prog X.w) X.A (f v) (EP X aa σ Q) X.xe s
noncomputable def CallR(X:Cx)(f:Value)(r:List V->Hp->VK->Prop):Prop:=
 ∀(aa:LA9) (s:Shared) (σ:St) (H:Hp) (xs:List V) (us:List Value) (Q:VK),Inv X aa σ H s->Vals xs us->r xs H Q ->
  wpAny (model X.prog X.w) X.A (call f us) (EP X aa σ Q) X.xe s
noncomputable def TruR(X:Cx)(r:V->Hp->(Bool->Hp->Prop)->Prop):Prop:=
 ∀(aa:LA9) (s:Shared) (σ:St) (H:Hp) (x:V) (v:Value) (Q:Bool->Hp->Prop),Inv X aa σ H s->RelV x v->r x H Q ->
  wpAny (model X.prog X.w) X.A (truthy v) (TP X aa σ Q) X.xe s
abbrev tOp(r:R2)(ta tb:TE):TE:=fun σ H Q=>ta σ H λx H1=>tb σ H1 λy H2=>r x y H2 Q
abbrev tUn(r:V->Hp->VK->Prop)(ta:TE):TE:=fun σ H Q=>ta σ H λx H1=>r x H1 Q
noncomputable def rI(C:Int->Int->Prop)(g:Int->Int->V):R2:=λx y H Q=>∃i j,x=.int i/\y=.int j/\C i j/\Q (g i j) H
noncomputable def rI0(g:Int->Int->V):R2:=λx y H Q=>∃i j,x=.int i/\y=.int j/\Q (g i j) H
noncomputable def rU(g:Int->V):V->Hp->VK->Prop:=λx H Q=>∃i,x=.int i/\Q (g i) H
section
variable {X:Cx}{a b c:Expr}{ta tb tc:TE}{pos:Pos}
theorem xq4(ha:PE X a ta)(hb:PE X b tb){aa s}{σ:St}{H}{R:V->V->Hp->Prop}(I:Inv X aa σ H s)
  (h:ta σ H λx H1=>tb σ H1 λy H2=>R x y H2) {Q} {f:Value->Value->Sem Value}
  (hf:∀v u s2 x y H2,Inv X aa σ H2 s2->RelV x v->RelV y u->R x y H2->wpAny (model X.prog X.w) X.A (f v u) Q X.xe s2):
  wpAny (model X.prog X.w) X.A (eval a X.env) (λv s₁=>wpAny (model X.prog X.w) X.A (eval b X.env) (λu s₂=>wpAny (model X.prog X.w) X.A (f v u) Q X.xe s₂) X.xe s₁) X.xe s:=by
 exact thn (ha aa s σ H _ I h) λv s1 #[x,H1,I1,r1,q1]=>(thn (hb aa s1 σ H1 _ I1 q1) λu s2 #[y,H2,I2,r2,q2]=>(hf v u s2 x y H2 I2 r1 r2 q2))
theorem xjy{op r}(ho:OpR X (binaryOp op) r)(ha:PE X a ta)(hb:PE X b tb):PE X (.BinOp a op b pos) (tOp r ta tb):=by
 intro aa s σ H Q I h;exact wpAny_BinOp (xq4 ha hb I h λv u s2 x y H2 I2 rx ry q=>ho aa s2 σ H2 x y v u Q I2 rx ry q)
theorem xjw{op r}(ho:UnR X (unaryOp op) r)(ha:PE X a ta):PE X (.UnaryOp op a pos) (tUn r ta):=by
 intro aa s σ H Q I h;exact UnaryOp_ (thn (ha aa s σ H _ I h) λv s1 hz=>by obtain⟨x,H1,I1,r1,q1⟩:=hz;exact ho aa s1 σ H1 x v Q I1 r1 q1)
theorem opI{f C}{g:Int->Int->Int}
  (kf:∀i j (t u) s Q E,C i j->Q (.int (g i j) s.toks) {s with toks:=s.toks+1}->wpAny (model X.prog X.w) X.A (f (.int i t) (.int j u)) Q E s):
  OpR X f (rI C λi j=>.int (g i j)):=by
 rintro aa s σ H x y v u Q I rx ry ⟨i,j,rfl,rfl,hc,q⟩;obtain⟨t,rfl⟩:=rx;obtain⟨t',rfl⟩:=ry;exact kf i j t t' s _ _ hc #[.int _,H,I.tok _,#[_,rfl],q]
theorem xqw{f}{g:Int->Int->Int}
  (kf:∀i j (t u) s Q E,Q (.int (g i j) s.toks) {s with toks:=s.toks+1}->wpAny (model X.prog X.w) X.A (f (.int i t) (.int j u)) Q E s):
  OpR X f (rI0 λi j=>.int (g i j)):=by
 rintro aa s σ H x y v u Q I rx ry ⟨i,j,rfl,rfl,q⟩;obtain⟨t,rfl⟩:=rx;obtain⟨t',rfl⟩:=ry;exact kf i j t t' s _ _ #[.int _,H,I.tok _,#[_,rfl],q]
theorem wzg{f}{g:Int->Int->Bool}
  (kf:∀i j (t u) (s) (Q) (E),Q (.bool (g i j)) s->wpAny (model X.prog X.w) X.A (f (.int i t) (.int j u)) Q E s):
  OpR X f (rI0 λi j=>.bl (g i j)):=by
 rintro aa s σ H x y v u Q I rx ry ⟨i,j,rfl,rfl,q⟩;obtain⟨t,rfl⟩:=rx;obtain⟨t',rfl⟩:=ry;exact kf i j t t' s _ _ #[.bl _,H,I,rfl,q]
theorem op_add:OpR X (binaryOp .Add) (rI0 λi j=>.int (i+j)):=xqw λ_ _ _ _ _ _ _ q=>add_int q
theorem vwr:OpR X (binaryOp .Sub) (rI0 λi j=>.int (i - j)):=xqw λ_ _ _ _ _ _ _ q=>sub_int q
theorem ww6:OpR X (binaryOp .Mod) (rI (λ_ j=>0<j) λi j=>.int (i % j)):=opI λi j _ _ _ _ _ hc q=>by
 exact mod_int' ⋯ (by rw[Int.fmod_eq_emod_of_nonneg i ⋯];exact q)
theorem unI{f}{g:Int->Int}
  (kf:∀i t s Q E,Q (.int (g i) s.toks) {s with toks:=s.toks+1}->wpAny (model X.prog X.w) X.A (f (.int i t)) Q E s):
  UnR X f (rU λi=>.int (g i)):=by
 rintro aa s σ H x v Q I rx ⟨i,rfl,q⟩;obtain⟨t,rfl⟩:=rx;exact kf i t s _ _ #[.int _,H,I.tok _,#[_,rfl],q]
theorem wq1:UnR X (unaryOp .USub) (rU λi=>.int (-i)):=unI λ_ _ _ _ _ q=>neg_int q
end
section
variable {X:Cx}{a b c:Expr}{ta tb tc:TE}{pos:Pos}
theorem vj6{aa}{σ:St}{H s Q k k'}(I:Inv X aa σ H s)(q:Q (.bl k) H)(e:k=k'):EP X aa σ Q (.bool k') s:=by
 subst e;exact#[.bl k,H,I,rfl,q]
theorem xk3:OpR X (compareOp .Lt) (rI0 λi j=>.bl (decide (i<j))):=wzg λ_ _ _ _ _ _ _ q=>lt_int q
theorem wj4:OpR X (compareOp .LtE) (rI0 λi j=>.bl (decide (i<=j))):=wzg λ_ _ _ _ _ _ _ q=>le_int q
theorem xk4:OpR X (compareOp .Gt) (rI0 λi j=>.bl (decide (j<i))):=wzg λ_ _ _ _ _ _ _ q=>gt_int q
theorem xk5:OpR X (compareOp .GtE) (rI0 λi j=>.bl (decide (j<=i))):=wzg λ_ _ _ _ _ _ _ q=>ge_int q
theorem qxw:OpR X (compareOp .In) (λx y H Q=>∃i j,x=.str i/\y=.str j/\Q (.bl (!(Builtin.Str.occurrences j i 0 j.length 1).isEmpty)) H):=by
 rintro aa s σ H x y v u Q I rx ry ⟨i,j,rfl,rfl,q⟩;obtain⟨t,rfl⟩:=rx;obtain⟨t',rfl⟩:=ry;exact in_str (vj6 I q rfl)
theorem vws:OpR X (compareOp .Is) (λx y H Q=>y=.non/\Q (.bl (decide (x=.non))) H):=by
 rintro aa s σ H x y v u Q I rx ry ⟨rfl,q⟩;cases ry;refine is_none_gen (vj6 I q ?_);cases x<;>first
  |(obtain⟨t,rfl⟩:=rx;rfl)
theorem wj3:OpR X (compareOp .IsNot) (λx y H Q=>y=.non/\Q (.bl (!decide (x=.non))) H):=by
 rintro aa s σ H x y v u Q I rx ry ⟨rfl,q⟩;cases ry;refine isnot_none_gen (vj6 I q ?_);cases x<;>first
  |(obtain⟨t,rfl⟩:=rx;rfl)
theorem OpR.or{f r r'}(h:OpR X f r)(h':OpR X f r'):OpR X f (λx y H Q=>r x y H Q\/r' x y H Q):=by
 intro aa s σ H x y v u Q I rx ry q;rcases q with q|q
 ·exact h aa s σ H x y v u Q I rx ry q
 ·exact h' aa s σ H x y v u Q I rx ry q
theorem xJ b {op}(h:autoParam (op≠.In) ŕ)(h2:autoParam (op≠.NotIn) ŕ):behindInMarks op b=false:=by
 have e1:(op==CmpOp.In)=false:=by cases op<;>first|rfl|exact absurd rfl h
 have e2:(op==CmpOp.NotIn)=false:=by cases op<;>first|rfl|exact absurd rfl h2
 cases b<;>simp[behindInMarks,e1,e2]
theorem vzv{op r}(ho:OpR X (compareOp op) r)(ha:PE X a ta)(hb:PE X b tb)(hm:behindInMarks op b=false):PE X (.Compare a [op] [b] pos) (tOp r ta tb):=by
 intro aa s σ H Q I h;exact wpAny_Compare1 (xq4 ha hb I h λv u s2 x y H2 I2 rx ry q=>ho aa s2 σ H2 x y v u Q I2 rx ry q) hm
abbrev wzu(t:TE):TT:=fun σ H Q=>t σ H λx H'=>∃k,x=.bl k/\Q k H'
theorem vzg{op r}(ho:OpR X (compareOp op) r)(ha:PE X a ta)(hb:PE X b tb)(hm:behindInMarks op b=false):PT X (.Compare a [op] [b] pos) (wzu (tOp r ta tb)):=by
 intro aa s σ H Q I h;refine wpAny_isTrue_Compare1 (thn (ha aa s σ H _ I h) λv s1 #[x,H1,I1,r1,q1]=>thn (hb aa s1 σ H1 _ I1 q1) λu s2 #[y,H2,I2,r2,q2]=>
  thn (ho aa s2 σ H2 x y v u _ I2 r1 r2 q2) λc s3 #[z,H3,I3,r3,k,e,q3]=>?_) hm
 subst e;cases r3;exact wpAny_truthy_bool #[H3,I3,q3]
noncomputable def wzq(K:Frag)(x:V)(H:Hp)(k:Bool):Prop:=
 match x with
 |.non=>k=false|.bl b=>k=b|.int i=>k=(i != 0)|.str y=>y.length<=sizeLine/\k=((y.length:Int) != 0)|.byt y=>y.size<=sizeLine/\k=((y.size:Int) != 0)|.ref p=>(∃xs,SqL K H p xs/\k=!xs.isEmpty)\/(∃xs,SqT K H p xs/\k=!xs.isEmpty)\/∃kvs,H p=some (.dK kvs)/\k=!kvs.isEmpty|_=>False
theorem qvq{κ kvs}{vs:List (κ×Value)}(r:KV kvs vs):(!vs.isEmpty)=!kvs.isEmpty:=by
 cases r<;>rfl
theorem kqp{xs aj}(r:Vals xs aj):(!aj.toArray.isEmpty)=!xs.isEmpty:=by
 cases r<;>simp
theorem WX:(sizeLine)<2 ^ 63:=⋯
theorem vw2:TruR X (λx H Q=>∃k,wzq X.K x H k/\Q k H):=by
 rintro aa s σ H x v Q I rx ⟨k,e,q⟩;have hl:=WX;have hs:sizeLine=16777216:=sizeLine_eq;cases x with
 | non=>
  cases rx;have e':k=false:=e;subst e';exact truthy_none #[H,I,q]
 | bl b=>
  cases rx;have e':k=b:=e;subst e';exact wpAny_truthy_bool #[H,I,q]
 | int i=>
  obtain⟨t,rfl⟩:=rx;have e':k=(i != 0):=e;subst e';exact PySem.P.truthy_int #[H,I,q]
 | str y=>
  obtain⟨t,rfl⟩:=rx;obtain⟨hy,e'⟩:y.length<=sizeLine/\k=((y.length:Int) != 0):=e;subst e';exact PySem.P.truthy_str ⋯ #[H,I.tok _,q]
 | byt y=>
  obtain⟨t,rfl⟩:=rx;obtain⟨hy,e'⟩:y.size<=sizeLine/\k=((y.size:Int) != 0):=e;subst e';exact PySem.W.truthy_bytes ⋯ #[H,I.tok _,q]
 | ref p=>
  cases rx;have e':(∃xs,SqL X.K H p xs/\k=!xs.isEmpty)\/(∃xs,SqT X.K H p xs/\k=!xs.isEmpty)\/∃kvs,H p=some (.dK kvs)/\k=!kvs.isEmpty:=e;rcases e' with⟨xs,hx,e'⟩|⟨xs,hx,e'⟩|⟨kvs,hx,e'⟩
  ·subst e';obtain⟨aj,r,pl,hz⟩:=I.list hx;have av:=r.length;exact wpAny_truthy_list pl.isList (by simp only[X6];lia) #[H,I.tok _,by rw[kqp r];exact q]
  ·subst e';obtain⟨aj,r,pl,hz⟩:=I.tuple hx;have av:=r.length;exact truthy_tuple pl (by simp only[X6];lia) #[H,I.tok _,by rw[kqp r];exact q]
  ·subst e';obtain⟨hz,hS,vs,r,m⟩:kvs.length<=sizeLine/\(p==sysModules)=false/\∃vs,KV kvs vs/\s.heap.DictOf (xw X.prog X.w) p vs:=I.hok p _ hx;have av:kvs.length=vs.length:=Paired.length r;exact wpAny_truthy_dict hS m ⋯ #[H,I.tok _,by rw[qvq r];exact q]
 |_=>exact(show False from e).elim
theorem vq5(ha:PE X a ta)(he:∀gw,isTrue a X.env gw=(do let v <-gw;standAt a.pos;holding [v] (truthy v))):
  PT X a (fun σ H Q=>ta σ H λx H'=>∃k,wzq X.K x H' k/\Q k H'):=by
 intro aa s σ H Q I h;exact isTrue_plain (thn (ha aa s σ H _ I h) λv s1 hz=>by obtain⟨x,H1,I1,r1,q1⟩:=hz;exact vw2 aa s1 σ H1 x v Q I1 r1 q1) (he _)
theorem op_add_str:OpR X (binaryOp .Add) (λx y H Q=>∃i j,x=.str i/\y=.str j/\i.length+j.length<=sizeLine/\Q (.str (i++j)) H):=by
 rintro aa s σ H x y v u Q I rx ry ⟨i,j,rfl,rfl,hz,q⟩;obtain⟨t,rfl⟩:=rx;obtain⟨t',rfl⟩:=ry;exact add_str (λt' tk=>#[.str (i++j),H,I.tok _,#[_,rfl],q]) hz
theorem J7{x us}(r:Vals [x] us):∃u,us=[u]/\RelV x u:=by
 cases r with|cons r1 r2=>cases r2;exact#[_,rfl,r1]
theorem qv5{x y us}(r:Vals [x,y] us):∃u w',us=[u,w']/\RelV x u/\RelV y w':=by
 cases r with
 |cons r1 r2=>
  cases r2 with|cons r3 r4=>cases r4;exact#[_,_,rfl,r1,r3]
theorem vjr:CallR X (.type "int") (λxs H Q=>(∃i,xs=[.int i]/\Q (.int i) H)\/∃k,xs=[.bl k]/\Q (.int (if k then 1 else 0)) H):=by
 intro aa s σ H xs us Q I r h;rcases h with⟨i,rfl,q⟩|⟨k,rfl,q⟩
 ·obtain⟨u,rfl,t,rfl⟩:=J7 r;exact call_int_int #[.int i,H,I,#[_,rfl],q]
 ·obtain⟨u,rfl,r1⟩:=J7 r;cases r1;exact call_int_bool #[.int _,H,I.tok _,#[_,rfl],q]
end
structure ObjM (h:Heap)(x dx C:Addr)(mA:Str->Option Value):Prop where
 obj:h.get? x=some (PySem.W.instObj C dx)
 ns:h.Ns1 dx mA
 ne:dx≠x
set_option tactic.hygienic true in
theorem qz8{h:Heap}{dx mA}(n:h.Ns1 dx mA):∃od,h.get? dx=some od/\∀name,PySem.W.lookIn name od=some (mA name):=by
 obtain⟨o,es,ep,ho,hd,hk,_,hm⟩:=n;refine#[o,ho,λname=>?_];have e:=hm name;unfold nsFind findBy at e;rw[<-Array.find?_toList]at e;unfold PySem.W.lookIn;rw[hd];dsimp only
 split
 ·rename_i y q;rw[q]at e;exact congrArg some e
 ·rename_i q;have a:es.toList.any (·.refKey)=false:=by
   rw[List.any_eq_false];intro y hy;obtain⟨z,t,gl⟩:=hk y (Array.mem_toList_iff.mp hy);simp[DictEntry.refKey,gl]
  grind
theorem ObjM.look{h x dx C mA}(I:ObjM h x dx C mA):∃od,PySem.W.InstAt h x (PySem.W.instObj C dx) C (some od)/\∀name,PySem.W.lookIn name od=some (mA name):=
 let ⟨od,ho,hl⟩:=qz8 I.ns
 #[od,#[I.obj,rfl,rfl,ho],hl]
theorem RelO.some_of{v o}(r:RelO (some v) o):∃u,o=some u/\RelV v u:=by
 cases o with|none=>exact(r).elim|some u=>exact#[u,rfl,r]
section
variable {P:Program}{w:World}{H H':Hp}{h h':Heap}{a C dx:Addr}{fs fs':List (Str×V)}
theorem wjk(hok:HOk P w H h)(e:H a=some (.ins C dx fs)):∃mA,ObjM h a dx C mA/\(∀f,RelO (fs.lookup f) (mA f))/\PySem.Within mA (fs.map (·.1))/\fs.length<=1000/\H dx=some (.own a):=by
 obtain⟨d,z,ne,ob,mA,n,r,q⟩:=(hok a _ e);exact#[mA,#[ob,n,ne],r,q,z,d]
end
structure Cls (K:Frag)(C:Addr):Prop where
 pg:PySem.W.plainGet K C Str.empty=true
 hd:PySem.W.hasDictIn K C=true
 po:PySem.W.plainOver K C=true
 sa:findIn K (.ref C) "__setattr__"=some (some (.builtin "object.__setattr__"))
theorem Cls.get{K C}(c:Cls K C) f:PySem.W.plainGet K C f=true:=c.pg
section
variable {X:Cx}{aa:LA9}{σ:St}{H:Hp}{s:Shared}{A:Around}{E:VP9}{Q:VP9}{c:Value}{b:Bool}
inductive TyOf (K:Frag)(H:Hp):V->Value->Prop where
 | non:TyOf K H .non (.type "NoneType")
 | bl (x:Bool):TyOf K H (.bl x) (.type "bool")
 | int (i:Int):TyOf K H (.int i) (.type "int")
 | str (x:Str):TyOf K H (.str x) (.type "str")
 | flt (x:UInt64):TyOf K H (.flt x) (.type "float")
 | lst {a:Addr} {xs:List V} (e:H a=some (.lst xs)):TyOf K H (.ref a) (.type "list")
 | frz {a:Addr} {o:Obj} {xs:List V} (e:H a=some (.frz o (.lst xs))):TyOf K H (.ref a) (.type "list")
 | tup {a:Addr} {xs:List V} (e:H a=some (.tup xs)):TyOf K H (.ref a) (.type "tuple")
 | dK {a:Addr} {kvs:List (Key×V)} (e:H a=some (.dK kvs)):TyOf K H (.ref a) (.type "dict")
 | dT {a:Addr} {kvs:List (List Key×V)} (e:H a=some (.dT kvs)):TyOf K H (.ref a) (.type "dict")
 | ins {a C dx:Addr} {fs:List (Str×V)} (e:H a=some (.ins C dx fs)) (cl:Cls K C) (ha:findIn K (.ref C) "__class__"=some (some (.builtin "object.__class__")))
   (hn:PySem.W.specialIn K (.builtin "object.__class__") "__get__"=some (some (.builtin "getset_descriptor.__get__"))) (htk:PySem.W.takesIn K (.builtin "object.__class__")=some true)
   (hm:PySem.W.mroIn K C (.type "object")=some true):TyOf K H (.ref a) (.ref C)
theorem qzr{x u t}(I:Inv X aa σ H s)(rx:RelV x u)(ty:TyOf X.K H x t)(e:kitOne X.K t c=some b)(h:∀tk,Q (.bool b) {s with toks:=tk}):
  wpAny (model X.prog X.w) A (call (.builtin "isinstance") [u,c]) Q E s:=by
 cases ty with
 |non=>cases(rx);exact Y1 PySem.W.kitx_none I.kIn Z3 e (λz=>nomatch z) h|bl y=>cases(rx);exact Y1 PySem.W.kitx_bool I.kIn Z3 e (λz=>nomatch z) h|int i=>obtain⟨t,q⟩:=(rx);cases q;exact Y1 PySem.W.kitx_int I.kIn Z3 e (λz=>nomatch z) h|str y=>obtain⟨t,q⟩:=(rx);cases q;exact Y1 PySem.W.kitx_str I.kIn Z3 e (λz=>nomatch z) h|flt y=>obtain⟨t,q⟩:=(rx);cases q;exact Y1 PySem.W.kitx_float I.kIn Z3 e (λz=>nomatch z) h
 |@lst a xs ea=>
  cases(show u=Value.ref a from rx);obtain⟨_,_,n,_,h1⟩:=(I.hok a _ ea);exact Y1 PySem.W.kitx_list I.kIn #[_,h1,rfl] e (λz=>nomatch z) h
 |@frz a ob xs ea=>
  cases(rx);obtain⟨_,_,_,n,_,h1⟩:=(I.hok a _ ea);exact Y1 PySem.W.kitx_list I.kIn #[_,h1,rfl] e (λz=>nomatch z) h
 |@tup a xs ea=>
  cases(show u=Value.ref a from rx);obtain⟨_,_,_,p⟩:=(I.hok a _ ea);obtain⟨o,h1,h2,_⟩:=p;exact Y1 PySem.W.kitx_tuple I.kIn #[o,h1,h2] e (λz=>nomatch z) h
 |@dK a kvs ea=>
  cases(show u=Value.ref a from rx);obtain⟨_,_,vs,_,p⟩:=(I.hok a _ ea);obtain⟨o,es,ep,h1,h2,_⟩:=p;exact Y1 PySem.W.kitx_dict I.kIn #[o,h1,h2.1] e (λz=>nomatch z) h
 |@dT a kvs ea=>
  cases(show u=Value.ref a from rx);obtain⟨_,_,xs,_,o,es,ep,h1,h2,_⟩:=(I.hok a _ ea);exact Y1 PySem.W.kitx_dict I.kIn #[o,h1,h2.1] e (λz=>nomatch z) h
 |@ins a C dx fs ea cl ha hn htk hm=>
  cases(rx);obtain⟨mA,O,_⟩:=wjk I.hok ea;obtain⟨od,J,_⟩:=O.look;exact Y1 (PySem.W.kitx_own (cl.get _) cl.hd ha hn htk hm) I.kIn J e (λz=>nomatch z) h
end
structure Room (k:Nat)(A:Around):Prop where
 hd:A.handled=none
 dp:A.depth+3*k+5<recursionLimit
 un:A.units+16*k+200<cLine
 gd:A.guards=some []
theorem Room.mono{j k A}(r:Room k A)(h:j<=k):Room j A:=#[r.hd,by have:=r.dp;lia,by have:=r.un;lia,r.gd]
theorem Room.deeper{k A}(r:Room (k+1) A) env:Room k (A.deeper env):=
 #[r.hd,by have:=r.dp;show A.depth+1+3*k+5<_;lia,by have:=r.un;show A.units+3+16*k+200<_;lia,r.gd]
theorem Room.depth{k A}(r:Room k A):A.depth<recursionLimit:=by have:=r.dp;lia
theorem Room.units{k A}(r:Room k A):A.units+64<cLine:=by have:=r.un;lia
abbrev wzv:TA:=λ_ H Q=>Q [] H
abbrev vxo(ta:TE)(tr:TA):TA:=fun σ H Q=>ta σ H λx H1=>tr σ H1 λxs H2=>Q (x::xs) H2
section
variable {X:Cx}{e:Expr}{es:List Expr}{te:TE}{t:TA}{pos:Pos}
theorem wK:PA X [] wzv:=λ_ _ _ _ H Q I h=>Calls.spliced_nil #[[],H,I,.nil,h]
abbrev _root_.Abs(e:Expr)(es:List Expr)(X:Cx):Prop:=starEach (e::es) X.env=(false,eval e X.env)::starEach es X.env
theorem vJ(ha:PE X e te)(hr:PA X es t)(hs:autoParam (Abs e es X) Ŕ):PA X (e::es) (vxo te t):=by
 intro pos aa s σ H Q I h;rw[hs];exact Calls.spliced_cons (thn (ha aa s σ H _ I h) λu s1 hz=>by obtain⟨x,H1,I1,r1,q1⟩:=hz;exact(thn (hr pos aa s1 σ H1 _ I1 q1) λus s2 hz=>by obtain⟨xs,H2,I2,r2,q2⟩:=hz;exact#[x::xs,H2,I2,.cons r1 r2,q2]))
abbrev tTup(t:TA):TE:=fun σ H Q=>t σ H λxs H1=>xs.length<=sizeLine/\∀p,H1 p=none->Q (.ref p) (upd H1 p (.tup xs))
abbrev tLst(t:TA):TE:=fun σ H Q=>t σ H λxs H1=>xs.length<=sizeLine/\∀p,H1 p=none->Q (.ref p) (upd H1 p (.lst xs))
theorem wvu{x1}(h:PA X es t):PE X (.Tuple es x1 pos) (tTup t):=by
 intro aa s σ H Q I hq;refine wpAny_Tuple_spliced (thn (h pos aa s σ H _ I hq) λus s1 #[xs,H1,I1,r,z,q]=>#[by rw[<-r.length];exact z,(#[.ref s1.heap.objs.size,upd H1 s1.heap.objs.size _,I1.laid (t':=s1.toks) (λb u e=>X2 _ e) (X8 _) ?_,rfl,q _ (I1.hok.fresh (X8 _))])]);exact#[z,us,r,#[_,Xa _ rfl,rfl,rfl,_,rfl]]
theorem wvy(h:PA X es t):PE X (.List es pos) (tLst t):=by
 intro aa s σ H Q I hq;refine wpAny_List_spliced (thn (h pos aa s σ H _ I hq) λus s1 #[xs,H1,I1,r,z,q]=>#[by rw[<-r.length];exact z,(#[.ref s1.heap.objs.size,upd H1 s1.heap.objs.size _,I1.laid (t':=s1.toks) (λb u e=>X2 _ e) (X8 _) ?_,rfl,q _ (I1.hok.fresh (X8 _))])]);exact#[z,us,0,r,Xa _ rfl]
end
abbrev Sp:=List V->Hp->VK->XK->Prop
abbrev CXT:=List Env->Hp->Shared->XK->Value->Shared->Prop
structure Env0 (P:Program)(w:World)(K:Frag)(mg:Str->Option Value)(base:Heap)(A:Around)(outer:List Env)(s:Shared)(H:Hp):Prop where
 frames:A.frames=some outer
 mod:Mod K mg base
 bs:∀b o,base.get? b=some o->s.heap.get? b=some o/\H b=none
 bsz:base.objs.size<=s.heap.objs.size
 funs:s.heap.FunFrames base outer
 frf:∀b∈frs outer,H b=none
 hok:HOk P w H s.heap
 bare:AllBare s.gens
noncomputable def CE(outer:List Env)(P:Program)(w:World)(H:Hp)(s:Shared)(Q:VK)(u:Value)(s':Shared):Prop:=
 ∃v H',s'.os=s.os/\AllBare s'.gens/\Un (frs outer) [] H H' s.heap s'.heap/\HOk P w H' s'.heap/\RelV v u/\Q v H'
noncomputable def CR(CX:CXT)(outer:List Env)(P:Program)(w:World)(H:Hp)(s:Shared)(Q:VK)(E:XK)(r:Result)(s':Shared):Prop:=
 match r with
 |.ok (.ret u)=>CE outer P w H s Q u s'|.ok _=>False|.error e=>CX outer H s E e s'
structure FnOk (P:Program)(w:World)(K:Frag)(mg:Str->Option Value)(base:Heap)(CX:CXT)(k:Nat)(f:Addr)(fd:FuncData)(ps:List Str)(sp:Sp):Prop where
 len:∀vs H Q E,sp vs H Q E->vs.length=ps.length
 run:∀(A:Around) (outer:List Env) (s:Shared) (H:Hp) (args:Args) (us:List Value) (vs:List V) (Q:VK) (E:XK),Room k A->Env0 P w K mg base A outer s H->BindsTo s fd args (ps.zip us)->Vals vs us->sp vs H Q E ->
  codeAny (model P w) A (.call (.ref f) args) (CR CX outer P w H s Q E) s
section
variable {X:Cx}{aa:LA9}{σ:St}{H:Hp}{s s':Shared}
theorem Inv.env0(I:Inv X aa σ H s):Env0 X.prog X.w X.K X.mg X.base X.A X.stack s H:=
 #[I.ok.frames,I.ok.mod,I.bs,Xx I.ok.bsz I.sz,I.stack,I.stkFree,I.hok,I.bare]
theorem Inv.after{Q u}(I:Inv X aa σ H s)(h:CE X.stack X.prog X.w H s Q u s'):EP X aa σ Q u s':=by
 obtain⟨v,H',os,bare,un,hok,r,q⟩:=h;obtain⟨hh,g,d,t,os'⟩:=s';obtain rfl:os'=s.os:=os;exact#[v,H',I.call (h':=hh) (g':=g) (d':=d) (t':=t) un hok bare (λb z=>absurd z (by simp)),r,q]
end
abbrev vxp(sp:Sp)(tq:List V)(E:XK)(t:TA):TE:=fun σ H Q=>t σ H λvs H1=>sp (vs++tq) H1 Q E
noncomputable def Binds(K:Frag)(fd:FuncData)(ps:List Str)(ds:List Value):Prop:=
 ∀(s:Shared) (us:List Value),K.In s.heap->(us++ds).length=ps.length->BindsTo s fd #[us,[]] (ps.zip (us++ds))
theorem Binds.all{K fd ps}(h:∀us,us.length=ps.length->bindArgs fd #[us,[]]=pure (ps.zip us)):Binds K fd ps []:=λs us _ hl=>by
 rw[Xn]at hl ⊢;exact .of_eq (h us hl)
noncomputable def vk7(CX:CXT)(X:Cx)(E:XK):Prop:=∀(aa:LA9) (σ:St) (H:Hp) (s:Shared) (e:Value) (s':Shared),Inv X aa σ H s->CX X.stack H s E e s'->X.xe e s'
section
variable {X:Cx}{CX:CXT}{k:Nat}{f C:Addr}{fd:FuncData}{ps:List Str}{sp:Sp}{tq:List V}{ds:List Value}{E:XK}{x m:Str}{p pos apos:Pos}{e o:Expr}{es:List Expr}{ta:TE}{t:TA}
set_option tactic.hygienic true in
theorem wqn{aa}{σ:St}{H s Q us vs}(F:FnOk X.prog X.w X.K X.mg X.base CX k f fd ps sp)(hr:Room k X.A)(hb:Binds X.K fd ps ds)(hd:Vals tq ds)(hx:vk7 CX X E)
  (I:Inv X aa σ H s) (r:Vals vs us) (h:sp (vs++tq) H Q E):wpAny (model X.prog X.w) X.A (call (.ref f) us) (EP X aa σ Q) X.xe s:=by
 have r2:=r.append hd;have hl:(us++ds).length=ps.length:=by rw[<-r2.length];exact F.len _ _ _ _ h
 refine wpAny_call (codeAny_mono (F.run X.A X.stack s H _ _ _ Q E hr I.env0 (hb s us I.kIn hl) r2 h) λr s' hq=>?_);cases r with
 |error e=>exact hx aa σ H s e s' I hq
 |ok fl=>
  cases fl with|ret u=>exact I.after hq|next=>exact False.elim hq|brk=>exact False.elim hq|cont=>exact False.elim hq
abbrev _root_.Abb(p:Pos)(es:List Expr)(X:Cx):Prop:=(backTo p (starEach es X.env)).any (·.1)=false
theorem vzw(F:FnOk X.prog X.w X.K X.mg X.base CX k f fd ps sp)(hr:Room k X.A)(hg:Gl X x)(hm:X.mg x=some (.ref f))(hk:PySem.W.keepIn X.K (.ref f)=true)(hb:Binds X.K fd ps ds)(hd:Vals tq ds)(hx:vk7 CX X E)
  (ha:PA X (e::es) t) (ff:autoParam (Abd x) ŕ) (he:autoParam (Abs e es X) Ŕ) (c8:autoParam (Abb pos es X) Ŕ):
  PE X (.Call (.Name x p) (e::es) [] pos) (vxp sp tq E t):=by
 intro aa s σ H Q I h;exact wpAny_Call_Name_kw (kk8 I hg hm (PySem.W.callWith_K I.ok.mod.kin hk (thn (ha pos aa s σ H _ I h) λus s1 hz=>by obtain⟨vs,H1,I1,r,q⟩:=hz;exact#[I1.kIn,(wqn F hr hb hd hx I1 r q)]) he c8) ff)
end
structure FnScope (N P:List Str)(sc:Scope):Prop where
 kind:sc.kind=.function
 co:sc.isCoroutine=false
 gen:sc.isGenerator=false
 nd:N.Nodup
 pre:N.take P.length=P
 par:∀x∈P,sc.names.lookup x=some .local\/sc.names.lookup x=some .cell
 nofree:∀y∈sc.names,y.2≠.free
theorem kzk{kindOf x}: ∀{binds m},(∀v,(x,v)∉binds) -> bindL kindOf binds m x = m x
  | [],_,_=>rfl
  | (n,v)::r,m,h=>by
    unfold bindL;rw[kzk λw hw=>h w (lc9 _ hw)]
    split
    · have : x≠n:= by rintro rfl; exact h v X4
      simp[this]
    · rfl
theorem kzm{kindOf x}: ∀{binds m},(∀v,(x,v)∉binds) -> bindC kindOf binds m x = m x
  | [],_,_=>rfl
  | (n,v)::r,m,h=>by
    unfold bindC;rw[kzm λw hw=>h w (lc9 _ hw)]
    split
    · rfl
    · have : x≠n:= by rintro rfl; exact h v X4
      simp[this]
theorem kzl{kindOf x v}:∀{P:List Str} {vs} {i:Nat} {m},P.Nodup->P[i]?=some x->vs[i]?=some v->kindOf x=some .local ->
  bindL kindOf (P.zip vs) m x=some v
 |[],_,_,_,_,h,_,_=>by simp at h
 |p::P,w::vs,0,m,nd,h1,h2,hk=>by
  simp at h1 h2;subst h1;subst h2;show bindL kindOf (_::P.zip vs) m p=_;unfold bindL;rw[kzk λv hv=>(List.nodup_cons.mp nd).1 (List.of_mem_zip hv).1,Xb hk];simp
 |p::P,w::vs,i+1,m,nd,h1,h2,hk=>by
  unfold bindL;exact kzl (List.nodup_cons.mp nd).2 (by simpa using h1) (by simpa using h2) hk
theorem kzn{kindOf x v}:∀{P:List Str} {vs} {i:Nat} {m},P.Nodup->P[i]?=some x->vs[i]?=some v->kindOf x≠some .local ->
  bindC kindOf (P.zip vs) m x=some v
 |[],_,_,_,_,h,_,_=>by simp at h
 |p::P,w::vs,0,m,nd,h1,h2,hk=>by
  simp at h1 h2;subst h1;subst h2;show bindC kindOf (_::P.zip vs) m p=_;unfold bindC;rw[kzm λv hv=>(List.nodup_cons.mp nd).1 (List.of_mem_zip hv).1,Xe hk];simp
 |p::P,w::vs,i+1,m,nd,h1,h2,hk=>by
  unfold bindC;exact kzn (List.nodup_cons.mp nd).2 (by simpa using h1) (by simpa using h2) hk
noncomputable def start(N:List Str)(vs:List V):St:=vs.map some++List.replicate (N.length - vs.length) none
noncomputable def K4(CX:CXT)(P:Program)(w:World)(K:Frag)(mg:Str->Option Value)(base:Heap)(N:List Str)(qual:Str)(scope:Scope)(f:Addr)(cd:Value)(A:Around)(outer:List Env)(s:Shared)(H:Hp)(E:XK):Cx where
 prog:=P
 w:=w
 K:=K
 mg:=mg
 base:=base
 A:=A.deeper (envOfC qual scope s.heap.objs.size f cd)
 N:=N
 s₀:=s
 H₀:=H
 env:=envOfC qual scope s.heap.objs.size f cd
 outer:=outer
 stack:=envOfC qual scope s.heap.objs.size f cd::outer
 ex:=[]
 calm:=true
 fn:=λ_=>true
 pn:=[]
 xe:=λe s'=>wpAny (model P w) (A.deeper (envOfC qual scope s.heap.objs.size f cd)) (leaving (envOfC qual scope s.heap.objs.size f cd) e) (λ_ oz=>CX outer H s E e oz) (λe' oz=>CX outer H s E e' oz) s'
theorem qqy{sc:Scope}{n x}(h:sc.names.lookup x=some .cell):∃c,(cellsFrom n sc.names []).lookup x=some c:=by
 exact Option.isSome_iff_exists.mp (PySem.W.cellsFrom_some sc.names n [] (.inl h))
theorem qzs{CX P w K mg base N ps qual scope f cd A outer s s1 H E us}{vs}
  (S:FnScope N ps scope) (hd:A.handled=none) (e0:Env0 P w K mg base A outer s H) (hl:vs.length=ps.length) (r:Vals vs us)
  (x:InCallC s s.heap.objs.size (bindL (envOfC qual scope s.heap.objs.size f cd).kindOf (ps.zip us) λ_=>none) (cellsFrom (s.heap.objs.size+1) scope.names []) (bindC (envOfC qual scope s.heap.objs.size f cd).kindOf (ps.zip us) λ_=>none) s1):
  Inv (K4 CX P w K mg base N qual scope f cd A outer s H E) [] (start N vs) H s1:=by
 have c8:ps.length<=N.length:=by have:=congrArg List.length S.pre;rw[List.length_take]at this;lia
 obtain⟨h1,tk,rfl,hk⟩:=x.done;have vp:∀b,b∉(K4 CX P w K mg base N qual scope f cd A outer s H E).ex:=λb z=>absurd (show b∈([]:List Addr)from z) (by simp)
 refine#[#[e0.mod,S.kind,rfl,rfl,X8 _,λy z c h1 h2=>?_,λy hy=>?_,λy c _ h=>?_,λ_=>hd,Around.frames_deeper e0.frames,.inr #[rfl,rfl],λb z=>absurd z (vp b),e0.bs,e0.bsz,λb _ _=>vp b,λb z=>absurd z (vp b),e0.funs,e0.frf],
  rfl,e0.bare,Un.kept hk,#[_,x.toInCall.ns,λi y v h1 h2 h3=>?_],λy c h=>#[_,x.cell y c h],e0.hok.fresh (X8 _),λy c h=>?_,λp hp=>absurd (show p∈([]:List _)from hp) (by simp),e0.hok.kept hk,?_]
 ·exact name_of_addr x.apart (Yp h1) (Yp h2)
 ·rcases hy with hy|hy
  ·exact qqy hy
  ·exact absurd rfl (S.nofree _ (Yp hy))
 ·exact Nat.le_of_lt (x.above y c (Yp h))
 ·have hi:i<vs.length:=by
   unfold start at h2
   by_cases hi:i<vs.length
   ·exact hi
   ·rw[List.getElem?_append_right (by simpa using hi),List.getElem?_replicate]at h2
    split at h2<;>cases h2
  have ha:vs[i]?=some v:=by
   unfold start at h2;rw[Yh (by simpa using hi),Xq]at h2;cases e:vs[i]? with|none=>rw[e]at h2;cases h2|some a=>rw[e]at h2;cases h2;rfl
  obtain⟨u,hu,rv⟩:=r.get ha;have hp:ps[i]?=some y:=by
   rw[<-S.pre,List.getElem?_take_of_lt ⋯];exact h1
  have ndP:ps.Nodup:=by rw[<-S.pre];exact S.nd.sublist (List.take_sublist _ _)
  refine#[u,rv,?_];rcases S.par y (List.mem_of_getElem? hp)with k|k
  ·exact .inl #[k,kzl ndP hp hu k]
  ·obtain⟨c,e⟩:=qqy k;refine .inr #[.inl k,c,e,?_];have q:=x.cell y c e;rw[kzn ndP hp hu (by show scope.names.lookup y≠_;rw[k];decide)]at q;exact q
 ·exact e0.hok.fresh (Nat.le_of_lt (x.above y c (Yp h)))
 ·unfold start;show _=N.length;rw[Xi,X3,Z1];lia
set_option tactic.hygienic true in
theorem xko{CX P w K mg base k f name qual params body scope dV kV iw pm dq ct oc}{an od}
  {qo N ps sp} (lk:K.lookup f=some #[oc,od,.func (PySem.W.fnOf name qual params body scope dV kV iw pm an dq ct),qo]) (ju:PySem.W.codeIn K dq qual=true) (S:FnScope N ps scope)
  (len:∀vs H Q E,sp vs H Q E->vs.length=ps.length)
  (n6:∀A (outer) (s) (H) (vs) (Q) (E),Room k (A.deeper (envOfC qual scope s.heap.objs.size f dq))->sp vs H Q E ->
   ∃t,PSs (K4 CX P w K mg base N qual scope f dq A outer s H E) body t/\t {nx:=λ_ H'=>Q .non H',rt:=Q} (start N vs) H):
  FnOk P w K mg base CX (k+1) f (PySem.W.fnOf name qual params body scope dV kV iw pm an dq ct) ps sp:=by
 refine#[len,λA outer s H args us vs Q E hr e0 hb r lz=>?_];have KX:=e0.mod.kin.keeps λb o e=>(e0.bs b o e).1
 have ue:∀y∈ps.zip us,scope.names.lookup y.1=some .local\/(scope.names.lookup y.1=some .cell/\((cellsFrom (s.heap.objs.size+1) scope.names []).lookup y.1).isSome=true):=λhz hy=>by
  obtain⟨n,v⟩:=hz;rcases S.par n (List.of_mem_zip hy).1 with q|q
  ·exact .inl q
  ·exact .inr #[q,PySem.W.cellsFrom_some _ _ _ (.inl q)]
 refine codeAny_call_function hr.depth (KX _ _ lk) rfl S.co S.gen rfl (PySem.W.codeRec_of KX ju) (hb _ _ _ _ (wpAny_newFunctionEnv_cells S.kind ue λenv he s1 x=>?_));subst he;refine#[(e0.mod.nolimit.keeps λb o e=>(e0.bs b o e).1).keeps x.toInCall.keep,codeAny_func ?_];obtain⟨t,ht,hq⟩:=n6 A outer s H vs Q E (hr.deeper _) lz;have I:Inv (K4 CX P w K mg base N qual scope f dq A outer s H E) [] _ H s1:=qzs S hr.hd e0 (len _ _ _ _ lz) r x;refine Z6 (ht [] s1 _ H _ I hq) (λfl s' hs=>?_) λe s' hs=>hs
 have fin:∀{σ' H' v u},Inv (K4 CX P w K mg base N qual scope f dq A outer s H E) [] σ' H' s'->RelV v u->Q v H'->CE outer P w H s Q u s':=
  fun {σ' H' v u} J rv q=>#[v,H',J.os,J.bare,J.base,J.hok,rv,q]
 cases fl with
 |ret u=>
  obtain⟨v,σ',H',J,rv,q⟩:=hs;exact fin J rv q
 |next=>
  obtain⟨σ',H',J,q⟩:=hs;exact fin (v:=V.non) J rfl q
 |brk=>
  obtain⟨_,_,_,q⟩:=hs;exact False.elim q
 |cont=>
  obtain⟨_,_,_,q⟩:=hs;exact False.elim q
section
variable {X:Cx}{x:Str}{p pos:Pos}{e:Expr}{es:List Expr}{t:TA}{id T:String}{r:List V->Hp->VK->Prop}
abbrev tCB(r:List V->Hp->VK->Prop)(t:TA):TE:=fun σ H Q=>t σ H λvs H1=>r vs H1 Q
theorem kvx(hc:CallR X (.builtin id) r)(hg:Gl X x)(hm:X.mg x=none)(hv:bootBuiltins x=some (.builtin id))(ha:PA X (e::es) t)(hn:autoParam (x≠"__name__") ŕ)(ff:autoParam (Abd x) ŕ)
  (he:autoParam (Abs e es X) Ŕ) (c8:autoParam (Abb pos es X) Ŕ):PE X (.Call (.Name x p) (e::es) [] pos) (tCB r t):=by
 intro aa s σ H Q I h;exact wpAny_Call_Name_kw (Q6 I hg hm hv (PyProof.Rows.callWith_builtin1 (thn (ha pos aa s σ H _ I h) λus s1 hz=>by obtain⟨vs,H1,I1,r1,q1⟩:=hz;exact hc aa s1 σ H1 vs us Q I1 r1 q1) he c8) hn ff)
theorem qxq(hc:CallR X (.type T) r)(hg:Gl X x)(hm:X.mg x=none)(hv:bootBuiltins x=some (.type T))(ha:PA X (e::es) t)(hn:autoParam (x≠"__name__") ŕ)(ff:autoParam (Abd x) ŕ)
  (he:autoParam (Abs e es X) Ŕ) (c8:autoParam (Abb pos es X) Ŕ):PE X (.Call (.Name x p) (e::es) [] pos) (tCB r t):=by
 intro aa s σ H Q I h;exact wpAny_Call_Name_kw (Q6 I hg hm hv (Ya (thn (ha pos aa s σ H _ I h) λus s1 hz=>by obtain⟨vs,H1,I1,r1,q1⟩:=hz;exact hc aa s1 σ H1 vs us Q I1 r1 q1) he c8) hn ff)
end
end L2
namespace HT
open PySem PyProof.Rows
section
variable {prog:Program}{w:World}{A:Around}{E:VP9}{s:Shared}
theorem cat_tup{t b vs ws Q}(ht:IsTup s.heap t vs.toArray)(hb:IsTup s.heap b ws.toArray)(hv:vs≠[])
  (h1:ws=[]->Q (.ref t) s) (h2:ws≠[]->Q (.ref s.heap.objs.size) {s with heap:=s.heap.push {cls:=.type "tuple",data:=.seq (vs++ws).toArray}})
  (hsz:vs.length+ws.length<=sizeLine):wpAny (model prog w) A (binaryOp .Add (.ref t) (.ref b)) Q E s:=by
 obtain⟨⟨cls,dd,data,sl⟩,ho,hc,n,hd⟩:=id ht;obtain⟨⟨cls2,dd2,data2,ou⟩,ko,t9,n2,pz⟩:=id hb;subst hc hd t9 pz;have e:vs.toArray++ws.toArray=(vs++ws).toArray:=by simp
 by_cases hw:ws=[]
 ·exact concat_meets #[_,ho,rfl] #[_,ko,rfl] noFill_tuple_add seq_tuple_add PySem.F.slot_tuple_add PySem.F.entry_tuple_add (PySem.F.args_tuple_add_2 _ _)
   (tuple_addW1 t b vs.toArray ws.toArray n n2 dd dd2 sl ou (by simpa using hv) (by simp[hw])) #[ho,ko,h1 hw]
 ·refine concat_meets #[_,ho,rfl] #[_,ko,rfl] noFill_tuple_add seq_tuple_add PySem.F.slot_tuple_add PySem.F.entry_tuple_add (PySem.F.args_tuple_add_2 _ _)
   (tuple_addW2 t b vs.toArray ws.toArray n n2 dd dd2 sl ou (by simpa using hv) (by simpa using hw) (hsz)) #[ho,ko,?_]
  rw[e];exact h2 hw
noncomputable def sIx(n d:Nat):Option Int->Nat
 |none=>d|some v=>if v<0 then(v+(n:Int)).toNat else min v.toNat n
theorem vjj v (n d:Nat):(if v<0 then max (v+(n:Int)) 0 else min v n)=((sIx n d (some v):Nat):Int):=by
 show _=(((if v<0 then(v+n).toNat else min v.toNat n):Nat):Int)
 by_cases hv:v<0
 ·simp only[Xb hv];lia
 ·grind
theorem qvv(lo hi)(n:Nat):Builtin.Slice.sliceAdjust lo hi 1 n=(((sIx n 0 lo:Nat):Int),((sIx n n hi):Int)):=by
 have h1:¬((1:Int)<0):=⋯
 unfold Builtin.Slice.sliceAdjust;refine Prod.ext ?_ ?_
 ·cases lo with|none=>rfl|some v=>exact vjj v n 0
 ·cases hi with|none=>rfl|some v=>exact vjj v n n
theorem qvd(i j:Nat):Builtin.Slice.slicePlaces i j 1=j - i:=by
 unfold Builtin.Slice.slicePlaces;have h1:1>0:=⋯
 simp
 split<;>lia
theorem kqd{v o Q}(p:IsPart v o)(h:Q o s):wpAny (model prog w) A (Builtin.Slice.slicePartIndex v) Q E s:=by
 cases p with|none=>exact slicePart_none h|int i t=>exact slicePart_int h
theorem jzz{sl vl vu lo hi n}{Q:Int×Int×Nat->Shared->Prop}(hs:s.heap.IsSliceOf sl vl vu .none)(pl:IsPart vl lo)(pu:IsPart vu hi)
  (h:Q (((sIx n 0 lo:Nat):Int),1,sIx n n hi - sIx n 0 lo) s):wpAny (model prog w) A (Builtin.Slice.sliceApplied (.ref sl) (pure n)) Q E s:=by
 obtain⟨os,vn,im,bq⟩:=id hs;refine X0 (X0 (Y5 vn bq (x:=vl) rfl (X0 (Y5 vn bq (x:=vu) rfl (X0 (Y5 vn bq (x:=.none) rfl (X5 (X0 (slicePart_none (X0 (kqd pl (X0 (kqd pu (X0 (X5 ?_)))))))))))))));show wpAny _ _ (match Builtin.Slice.sliceAdjust lo hi 1 n with|(lo,hi)=>pure (lo,_,Builtin.Slice.slicePlaces lo hi 1)) _ _ s;rw[qvv lo hi n];show wpAny _ _ (pure _) _ _ s;rw[qvd];exact X5 h
theorem vqa(xs:Array Value)(i k:Nat):((List.range k).filterMap λ(m:Nat)=>xs[(i+(m:Int)*1).toNat]?).toArray=((xs.toList.drop i).take k).toArray:=by
 have e:(λ(m:Nat)=>xs[(i+(m:Int)*1).toNat]?)=λm=>xs[i+m]?:=by
  funext m;have:(i+(m:Int)*1).toNat=i+m:=⋯
  rw[this]
 rw[e];have:=pick_run xs i k;rw[List.filterMap_map]at this;have e2:(_∘λx=>i+x)=λm=>xs[i+m]?:=rfl
 rw[e2]at this;rw[this]
theorem getItem_tuple_cut{t sl items vl vu lo hi Q}(ht:IsTup s.heap t items)(hs:s.heap.IsSliceOf sl vl vu .none)(pl:IsPart vl lo)(pu:IsPart vu hi)
  (hw:¬(sIx items.size 0 lo=0/\sIx items.size items.size hi=items.size))
  (h:Q (.ref s.heap.objs.size) {s with heap:=s.heap.push {cls:=.type "tuple",data:=.seq ((items.toList.drop (sIx items.size 0 lo)).take (sIx items.size items.size hi - sIx items.size 0 lo)).toArray}})
  (hsz:items.size<=sizeLine):wpAny (model prog w) A (getItem (.ref t) (.ref sl)) Q E s:=by
 have va:sizeOk (.seq ((items.toList.drop (sIx items.size 0 lo)).take (sIx items.size items.size hi - sIx items.size 0 lo)).toArray):=by
  show((items.toList.drop _).take _).toArray.size<=sizeLine;rw[X6,List.length_take,List.length_drop,Array.length_toList];lia
 obtain⟨os,vn,im,bq⟩:=id hs;have hTs:s.TypeIs (.ref sl) "slice":=#[os,vn,im];unfold getItem
 try with_reducible refine Y9 ?_
 refine X0 (wpAny_sequenceKey ht.typeIs ⋯ ?_);refine X0 (Yb ht.typeIs PyProof.Rows.slot_tuple_getitem
  (Y6 PyProof.Rows.slot_tuple_getitem ht.typeIs entry_tuple_getitem ?_ (args_tuple_getitem _ _)))
 show wpAny _ _ (Builtin.Tuple.tupleItemsOf _ >>= _) _ _ s;refine X0 (tupleItemsOf_ ht (X0 (wpAny_typeOf hTs (X0 (jzz hs pl pu ?_)))));have iu:¬((((sIx items.size 0 lo:Nat):Int)==0&&(1:Int)==1&&(sIx items.size items.size hi - sIx items.size 0 lo)==items.size)=true):=by
  grind
 show wpAny _ _ (if _=true then _ else _) _ _ s;rw[Xe iu,vqa]
 first
  |exact X0 (Yi (X0 (X5 (X5 ⟨_,rfl,X5 h⟩))) va)
end
end HT
namespace L2
open PySem PySem.Spec PyProof.Rows
abbrev TO:=St->Hp->(Option Int->Hp->Prop)->Prop
noncomputable def PO(X:Cx)(e:Option Expr)(t:TO):Prop:=
 ∀(aa:LA9) (s:Shared) (σ:St) (H:Hp) (Q:Option Int->Hp->Prop),Inv X aa σ H s->t σ H Q ->
  wpAny (model X.prog X.w) X.A (evalPart e X.env) (λu s'=>∃o H',Inv X aa σ H' s'/\IsPart u o/\Q o H') X.xe s
abbrev qwg:TO:=λ_ H Q=>Q none H
abbrev wq7(t:TE):TO:=fun σ H Q=>t σ H λx H1=>∃i,x=.int i/\Q (some i) H1
section
variable {X:Cx}{e:Expr}{te:TE}{lo hi:Option Expr}{tl th:TO}{pos p2:Pos}
theorem vzn:PO X none qwg:=by
 intro aa s σ H Q I h;exact X5 #[none,H,I,.none,h]
theorem vzm(h:PE X e te):PO X (some e) (wq7 te):=by
 intro aa s σ H Q I hw;refine thn (h aa s σ H _ I hw) λu s1 hz=>?_
 obtain⟨x,H1,I1,r1,q1⟩:=hz;obtain⟨i,rfl,q⟩:=q1;obtain⟨t,rfl⟩:=r1;exact#[some i,H1,I1,.int i t,q]
noncomputable def SlR(X:Cx)(r:V->Option Int->Option Int->Hp->VK->Prop):Prop:=
 ∀(aa:LA9) (s:Shared) (σ:St) (H:Hp) (x:V) (v vl vu:Value) (lo hi:Option Int) (sl:Addr) (Q:VK),Inv X aa σ H s->RelV x v->s.heap.IsSliceOf sl vl vu .none->IsPart vl lo->IsPart vu hi->r x lo hi H Q ->
  ∃T id,typeLookup (.type T) "__getitem__"=pure (some (.builtin id))/\s.TypeIs v T/\wpAny (model X.prog X.w) X.A (getItem v (.ref sl)) (EP X aa σ Q) X.xe s
theorem SlR.or{r r'}(h:SlR X r)(h':SlR X r'):SlR X (λx lo hi H Q=>r x lo hi H Q\/r' x lo hi H Q):=by
 intro aa s σ H x v vl vu lo hi sl Q I rx hs pl pu q;rcases q with q|q
 ·exact h aa s σ H x v vl vu lo hi sl Q I rx hs pl pu q
 ·exact h' aa s σ H x v vl vu lo hi sl Q I rx hs pl pu q
abbrev tSl(r:V->Option Int->Option Int->Hp->VK->Prop)(te:TE)(tl th:TO):TE:=fun σ H Q=>te σ H λx H1=>tl σ H1 λl H2=>th σ H2 λu H3=>r x l u H3 Q
theorem vqd{r}(hr:SlR X r)(he:PE X e te)(hl:PO X lo tl)(hu:PO X hi th):PE X (.Subscript e (.Slice lo hi none p2) pos) (tSl r te tl th):=by
 intro aa s σ H Q I h;refine Subscript_ (thn (he aa s σ H _ I h) λv s1 #[x,H1,I1,r1,q1]=>(wpAny_Slice (thn (hl aa s1 σ H1 _ I1 q1) λvl s2 #[l,H2,I2,pl,q2]=>thn (hu aa s2 σ H2 _ I2 q2) λvu s3 #[u,H3,I3,pu,q3]=>(X5 ?_))));have I4:Inv X aa σ H3 {s3 with heap:=s3.heap.push {cls:=.type "slice",data:=.fields (List.toArray [vl,vu,.none])}}:=I3.kept (t':=s3.toks) λb ob q=>X2 _ q
 obtain⟨T,id,hT,ht,hg⟩:=hr aa {s3 with heap:=s3.heap.push {cls:=.type "slice",data:=.fields (List.toArray [vl,vu,.none])}} σ H3 x v vl vu l u s3.heap.objs.size Q I4 r1 (Heap.IsSliceOf.new ..) pl pu q3;exact tail_any ht hT hg (by ac_rfl)
noncomputable def Zw(xs:List V)(lo hi:Option Int):List V:=(xs.drop (HT.sIx xs.length 0 lo)).take (HT.sIx xs.length xs.length hi - HT.sIx xs.length 0 lo)
theorem kkl xs (lo hi):(Zw xs lo hi).length<=xs.length:=by
 unfold Zw;rw[List.length_take,List.length_drop];lia
noncomputable def xqh(K:Frag):V->Option Int->Option Int->Hp->VK->Prop:=λx lo hi H Q=>∃a xs,x=.ref a/\SqT K H a xs /\
 ¬(HT.sIx xs.length 0 lo=0/\HT.sIx xs.length xs.length hi=xs.length)/\∀p,H p=none->Q (.ref p) (upd H p (.tup (Zw xs lo hi)))
theorem sl_tup:SlR X (xqh X.K):=by
 rintro aa s σ H x v vl vu lo hi sl Q I rx hs pl pu ⟨a,xs,rfl,hx,hw,q⟩;cases rx;obtain⟨aj,r,ht,hz⟩:=I.tuple hx;have av:aj.toArray.size=xs.length:=r.length.symm;refine#["tuple",_,PyProof.Rows.slot_tuple_getitem.lookup,ht.typeIs,(HT.getItem_tuple_cut ht hs pl pu (av▸hw) ?_ (av▸hz))];rw[av];refine#[.ref s.heap.objs.size,_,I.laid (t':=s.toks) (λb ob q=>X2 _ q) (X8 _) ?_,rfl,q _ (I.hok.fresh (X8 _))];exact#[Xx (kkl xs lo hi) hz,_,(r.drop _).take _,IsTupD.new _ _]
noncomputable def wqx(K:Frag):R2:=λx y H Q=>∃a b xs ys,x=.ref a/\y=.ref b/\SqT K H a xs/\SqT K H b ys/\xs≠[]/\xs.length+ys.length<=sizeLine /\
 (ys=[]->Q (.ref a) H)/\(ys≠[]->∀p,H p=none->Q (.ref p) (upd H p (.tup (xs++ys))))
theorem Vals.nil_iff{xs us}(r:Vals xs us):us=[]↔xs=[]:=by
 cases r with|nil=>simp|cons _ _=>simp
theorem wj5:OpR X (binaryOp .Add) (wqx X.K):=by
 rintro aa s σ H x y v u Q I rx ry ⟨a,b,xs,ys,rfl,rfl,ha,hb,hx,hz,q1,q2⟩;cases rx;cases ry;obtain⟨aj,r1,p1,_⟩:=I.tuple ha;obtain⟨dm,r2,p2,_⟩:=I.tuple hb;refine HT.cat_tup p1 p2 (λz=>hx (r1.nil_iff.mp z)) (λz=>#[.ref a,H,I,rfl,q1 (r2.nil_iff.mp z)]) (λz=>(#[.ref s.heap.objs.size,_,I.laid (t':=s.toks) (λb ob q=>X2 _ q) (X8 _) ?_,rfl,q2 (λw=>z (r2.nil_iff.mpr w)) _ (I.hok.fresh (X8 _))])) (by rw[<-r1.length,<-r2.length];exact hz);exact#[by rw[Xi];exact hz,_,r1.append r2,IsTupD.new _ _]
end
noncomputable def ixN(n:Nat)(i:Int):Option Nat:=if 0<=i then(if i<n then some i.toNat else none)else if -(n:Int)<=i then some (i+n).toNat else none
noncomputable def atI{α:Type}(xs:List α)(i:Int):Option α:=(ixN xs.length i).bind λj=>xs[j]?
theorem qju{n i j}(h:ixN n i=some j):seqIndex? i n=some j/\j<n/\-n<=i/\i<n:=by
 unfold ixN at h
 by_cases h0:0<=i
 ·rw[Xb h0]at h
  by_cases h1:i<n
  ·rw[Xb h1]at h;exact#[by rw[seqIndex_of h0 h1,(oq9 h)],⋯,⋯,h1]
  ·rw[Xe h1]at h;cases h
 ·rw[Xe h0]at h
  by_cases h1:-n<=i
  ·rw[Xb h1]at h;exact#[by rw[seqIndex_neg ⋯ h1,(oq9 h)],⋯,h1,⋯]
  ·rw[Xe h1]at h;cases h
theorem qkb{α xs i}{v:α}(h:atI xs i=some v):∃j,seqIndex? i xs.length=some j/\xs[j]?=some v/\j<xs.length/\-(xs.length:Int)<=i/\i<xs.length:=by
 unfold atI at h;cases e:ixN xs.length i with
 |none=>rw[e]at h;cases h
 |some j=>
  rw[e]at h;obtain⟨h1,h2,h3,h4⟩:=qju e;exact#[j,h1,h,h2,h3,h4]
noncomputable def jzm(b:Expr):Prop:=∀o i,subscripted b false o i=operate [o,i] (getItem o i)
noncomputable def IxR(X:Cx)(r:R2):Prop:=
 ∀(ci slice:Expr) (aa:LA9) (s:Shared) (σ:St) (H:Hp) (x y:V) (v u:Value) (Q:VK),Inv X aa σ H s->RelV x v->RelV y u->r x y H Q ->
  subscripted slice false v u=operate [v,u] (getItem v u)->wpAny (model X.prog X.w) X.A (subscriptTail ci slice v u) (EP X aa σ Q) X.xe s
noncomputable def MtR(X:Cx)(id:String)(r:V->List V->Hp->VK->Prop):Prop:=
 ∀(aa:LA9) (s:Shared) (σ:St) (H:Hp) (x:V) (xs:List V) (v:Value) (us:List Value) (Q:VK),Inv X aa σ H s->RelV x v->Vals xs us->r x xs H Q ->
  wpAny (model X.prog X.w) X.A (call (.builtin id) (v::us)) (EP X aa σ Q) X.xe s
section
variable {X:Cx}{a b:Expr}{ta tb:TE}{pos:Pos}
theorem IxR.or{r r'}(h:IxR X r)(h':IxR X r'):IxR X (λx y H Q=>r x y H Q\/r' x y H Q):=by
 intro ci slice aa s σ H x y v u Q I rx ry q hs;rcases q with q|q
 ·exact h ci slice aa s σ H x y v u Q I rx ry q hs
 ·exact h' ci slice aa s σ H x y v u Q I rx ry q hs
theorem vqe{r}(hr:IxR X r)(ha:PE X a ta)(hb:PE X b tb)(hs:jzm b):PE X (.Subscript a b pos) (tOp r ta tb):=by
 intro aa s σ H Q I h;exact Subscript_ (xq4 ha hb I h λv u s2 x y H2 I2 rx ry q=>hr a b aa s2 σ H2 x y v u Q I2 rx ry q (hs _ _))
noncomputable def xqo(K:Frag):R2:=λx y H Q=>∃p xs i v,x=.ref p/\y=.int i/\SqL K H p xs/\atI xs i=some v/\Q v H
noncomputable def xqm(K:Frag):R2:=λx y H Q=>∃p xs i v,x=.ref p/\y=.int i/\SqT K H p xs/\atI xs i=some v/\Q v H
noncomputable def xqn:R2:=λx y H Q=>∃z i c,x=.str z/\y=.int i/\z.length<=sizeLine/\atI z.cps.toList i=some c/\Q (.str #[(List.toArray [c])]) H
theorem ix_list:IxR X (xqo X.K):=by
 intro ci slice aa s σ H x y v u Q I rx ry h hs;obtain⟨p,xs,i,z,rfl,rfl,hq,he,q⟩:=h;cases rx;obtain⟨t,rfl⟩:=ry;obtain⟨aj,r,pl,hz⟩:=I.list hq;obtain⟨j,h1,h2,h3,h4,h5⟩:=qkb he;obtain⟨w,ew,ka⟩:=r.get h2;have hl:=r.length;have hn:=WX;have fin:EP X aa σ Q w s:=#[z,H,I,ka,q]
 by_cases h0:0<=i
 ·have hj:i.toNat=j:=by
   rw[seqIndex_of h0 h5]at h1;exact oq9 h1
  exact item_listR pl.isList h0 ⋯ (by rw[hj];simpa using ew) fin hs
 ·have hj:(i+(aj.toArray.size:Int)).toNat=j:=by
   rw[seqIndex_neg ⋯ h4]at h1;rw[X6,<-hl];exact oq9 h1
  exact subscriptTail_builtinR pl.isList.typeIs slot_list_getitem.lookup
   (wpAny_getItem_list_neg pl.isList ⋯ (by rw[X6]<;>lia) ⋯ (by rw[hj];simpa using ew) #[rfl,fin]) hs
theorem ix_tup:IxR X (xqm X.K):=by
 intro ci slice aa s σ H x y v u Q I rx ry h hs;obtain⟨p,xs,i,z,rfl,rfl,hq,he,q⟩:=h;cases rx;obtain⟨t,rfl⟩:=ry;obtain⟨aj,r,pl,hz⟩:=I.tuple hq;obtain⟨j,h1,h2,h3,h4,h5⟩:=qkb he;obtain⟨w,ew,ka⟩:=r.get h2;have hn:=WX;have fin:EP X aa σ Q w s:=#[z,H,I,ka,q];exact subscriptTail_builtinR pl.typeIs slot_tuple_getitem.lookup
  (getItem_tuple pl ⋯ ⋯ (by rw[X6,<-r.length];exact h1) (by simpa using ew) #[rfl,fin]) hs
theorem qqo:IxR X xqn:=by
 intro ci slice aa s σ H x y v u Q I rx ry h hs;obtain⟨z,i,c,rfl,rfl,hz,he,q⟩:=h;obtain⟨t,rfl⟩:=rx;obtain⟨t',rfl⟩:=ry;obtain⟨j,h1,h2,h3,h4,h5⟩:=qkb he;have hl:z.cps.toList.length=z.length:=by simp[Str.length]
 rw[hl]at h1 h4 h5;have hn:=WX;exact tail_any (typeIs_str s z t) slot_str_getitem.lookup (getItem_str (c:=c) (by
  have e1:decide (i < -(2 ^ 63:Int))=false:=Xp ⋯;have e2:decide (i>=2 ^ 63)=false:=Xp ⋯;rw[e1,e2,Bool.or_false]) (by rw[h1];simpa using h2) #[.str #[(List.toArray [c])],H,I.tok _,#[_,rfl],q]) hs
noncomputable def rIx(K:Frag):R2:=λx y H Q=>xqo K x y H Q\/xqm K x y H Q\/xqn x y H Q
theorem qqp:IxR X (rIx X.K):=ix_list.or (ix_tup.or qqo)
theorem qvn(aj:List Value)(n j) u:Obj.mapSeq (·.setIfInBounds j u) {cls:=.type "list",data:=.seq aj.toArray n}={cls:=.type "list",data:=.seq (aj.set j u).toArray n}:=by
 simp[Obj.mapSeq]
theorem Inv.lst{aa}{σ:St}{H s p xs}(I:Inv X aa σ H s)(h:H p=some (.lst xs)):
  ∃(aj:List Value) (n:Nat),Vals xs aj/\s.heap.get? p=some {cls:=.type "list",data:=.seq aj.toArray n}/\xs.length<=sizeLine:=by
 obtain⟨z,aj,n,r,e⟩:=I.hok p _ h;exact#[aj,n,r,e,z]
theorem Inv.lstUpd{aa}{σ:St}{H s p xs ys}{aj its':List Value}{n n' f}(I:Inv X aa σ H s)(h:H p=some (.lst xs))
  (ho:s.heap.get? p=some {cls:=.type "list",data:=.seq aj.toArray n}) (hf:f {cls:=.type "list",data:=.seq aj.toArray n}={cls:=.type "list",data:=.seq its'.toArray n' }) (r:Vals ys its') (hz:ys.length<=sizeLine) t :
  Inv X aa σ (upd H p (.lst ys)) {s with heap:=s.heap.update p f,toks:=t}:=by
 have e:(s.heap.update p f).get? p=some {cls:=.type "list",data:=.seq its'.toArray n' }:=by
  rw[Ys f ho (by rw[hf]<;>rfl),hf]
 refine I.write (by rw[h];trivial) (.inl rfl) (λb u hb q=>(Heap.get?_update_other _ _ (Ne.symm hb)).trans q) #[_,e] ?_;exact#[hz,its',n',r,e]
noncomputable def wqp:V->V->V->Hp->(Hp->Prop)->Prop:=λo i v H Q=>∃p xs k j,o=.ref p/\i=.int k/\H p=some (.lst xs)/\ixN xs.length k=some j/\Q (upd H p (.lst (xs.set j v)))
theorem vkr:xv6 X wqp:=by
 rintro aa s σ H o i v ov iv u Q I ro ri rv ⟨p,xs,k,j,rfl,rfl,hp,hj,q⟩;cases ro;obtain⟨t,rfl⟩:=ri;obtain⟨aj,n,r,ho,hz⟩:=I.lst hp;obtain⟨h1,h2,h3,h4⟩:=qju hj;have hl:=r.length;have hn:=WX;have I':Inv X aa σ _ {s with heap:=s.heap.update p _}:=
  I.lstUpd hp ho (qvn aj n j u) (r.set rv j) (by rw[Yj];exact hz) s.toks
 by_cases h0:0<=k
 ·have hk:k.toNat=j:=by
   rw[seqIndex_of h0 h4]at h1;exact oq9 h1
  exact PySem.W.ki_setAt ho h0 ⋯ (by rw[X6,<-hl];exact h4) (hk▸#[_,I',q])
 ·have hk:(k+(aj.toArray.size:Int)).toNat=j:=by
   rw[seqIndex_neg ⋯ h3]at h1;rw[X6,<-hl];exact oq9 h1
  exact PySem.W.ki_setBack ho ⋯ (by rw[X6,<-hl];exact h3) ⋯ (hk▸#[_,I',q])
theorem kx4(lo hi) n:(sliceBounds lo hi none n).1=((HT.sIx n 0 lo:Nat):Int)/\(sliceBounds lo hi none n).2.1=((HT.sIx n n hi:Nat):Int)/\(sliceBounds lo hi none n).2.2=1:=by
 refine#[?_,?_,rfl]
 ·cases lo with
  |none=>simp[sliceBounds,HT.sIx]
  |some i=>
   simp only[sliceBounds,HT.sIx,Option.getD_none,show(1:Int)>0 by decide,if_true]
   by_cases h:i<0
   ·simp only[h,if_true]<;>lia
   ·simp only[h,if_false]<;>lia
 ·cases hi with
  |none=>simp[sliceBounds,HT.sIx]
  |some i=>
   simp only[sliceBounds,HT.sIx,Option.getD_none,show(1:Int)>0 by decide,if_true]
   by_cases h:i<0
   ·simp only[h,if_true]<;>lia
   ·simp only[h,if_false]<;>lia
theorem kvf(aj:List Value)(lo hi):slicePick aj.toArray lo hi none=((aj.drop (HT.sIx aj.length 0 lo)).take (HT.sIx aj.length aj.length hi - HT.sIx aj.length 0 lo)).toArray:=by
 obtain⟨h1,h2,h3⟩:=kx4 lo hi aj.toArray.size;unfold slicePick;rw[h1,h2,h3];simp only[sliceRange_one,pick_run]<;>rfl
noncomputable def xqj(K:Frag):V->Option Int->Option Int->Hp->VK->Prop:=λx lo hi H Q=>∃a xs,x=.ref a/\SqL K H a xs/\∀p,H p=none->Q (.ref p) (upd H p (.lst (Zw xs lo hi)))
theorem sl_list:SlR X (xqj X.K):=by
 rintro aa s σ H x v vl vu lo hi sl Q I rx hs pl pu ⟨a,xs,rfl,hx,q⟩;cases rx;obtain⟨aj,r,ht,hz⟩:=I.list hx;have av:=r.length;refine#["list",_,slot_list_getitem.lookup,ht.isList.typeIs,(wpAny_getItem_list_slice ht.isList hs pl pu .none (by simp) ?_ (by simp_all))];rw[kvf,<-av];refine#[.ref s.heap.objs.size,_,I.laid (t':=s.toks) (λb ob q=>X2 _ q) (X8 _) ?_,rfl,q _ (I.hok.fresh (X8 _))];exact#[Xx (kkl xs lo hi) hz,_,0,(r.drop _).take _,Xa _ rfl]
theorem kxp:OpR X (compareOp .NotIn) (λx y H Q=>∃i j,x=.str i/\y=.str j/\Q (.bl (!(!(Builtin.Str.occurrences j i 0 j.length 1).isEmpty))) H):=by
 rintro aa s σ H x y v u Q I rx ry ⟨i,j,rfl,rfl,q⟩;obtain⟨t,rfl⟩:=rx;obtain⟨t',rfl⟩:=ry;exact notIn_str #[.bl _,H,I,rfl,q]
theorem call_len_seq:CallR X (.builtin "len") (λxs H Q=>∃p ys,xs=[.ref p]/\(SqL X.K H p ys\/SqT X.K H p ys)/\Q (.int ys.length) H):=by
 rintro aa s σ H xs us Q I r ⟨p,ys,rfl,hq,q⟩;obtain⟨u,rfl,rx⟩:=J7 r;cases rx;have hn:=WX;rcases hq with hq|hq
 ·obtain⟨aj,r',pl,hz⟩:=I.list hq;have av:=r'.length;exact Calls.call_len_list pl.isList (by simp only[X6]<;>lia) #[.int ys.length,H,I.tok _,#[s.toks+1,by rw[X6,av]],q]
 ·obtain⟨aj,r',pl,hz⟩:=I.tuple hq;have av:=r'.length;exact len_tuple pl (by simp only[X6]<;>lia) #[.int ys.length,H,I.tok _,#[s.toks+1,by rw[X6,av]],q]
theorem call_len_str:CallR X (.builtin "len") (λxs H Q=>∃z,xs=[.str z]/\z.length<=sizeLine/\Q (.int z.length) H):=by
 rintro aa s σ H xs us Q I r ⟨z,rfl,hz,q⟩;obtain⟨u,rfl,t,rfl⟩:=J7 r;have hn:=WX;exact len_str ⋯ #[.int z.length,H,I.tok _,#[_,rfl],q]
theorem CallR.or{f r r'}(h:CallR X f r)(h':CallR X f r'):CallR X f (λxs H Q=>r xs H Q\/r' xs H Q):=by
 intro aa s σ H xs us Q I rs q;rcases q with q|q
 ·exact h aa s σ H xs us Q I rs q
 ·exact h' aa s σ H xs us Q I rs q
theorem kzi:CallR X (.type "list") (λxs H Q=>∃p ys,xs=[.ref p]/\(SqL X.K H p ys\/SqT X.K H p ys)/\∀l,H l=none->Q (.ref l) (upd H l (.lst ys))):=by
 rintro aa s σ H xs us Q I r ⟨p,ys,rfl,hq,q⟩;obtain⟨u,rfl,rx⟩:=J7 r;cases rx;have fin:∀aj,Vals ys aj->ys.length<=sizeLine->∀h' (c'),_ ->
   h'.get? s.heap.objs.size=some {cls:=.type "list",dict:=none,data:=.seq aj.toArray c',slots:=(List.toArray [])}->EP X aa σ Q _ {s with heap:=h' }:=λaj r' hz h' c' kp e=>
  #[.ref s.heap.objs.size,_,I.laid (t':=s.toks) kp (X8 _) (show ObjOk X.prog X.w _ h' _ (.lst ys)from#[hz,aj,c',r',e]),rfl,q _ (I.hok.fresh (X8 _))]
 rcases hq with hq|hq
 ·obtain⟨aj,r',pl,hz⟩:=I.list hq;have av:=r'.length;obtain⟨o,ho,hc,n,hd⟩:=pl.isList;exact call_list_seq p (.inl rfl) ho hc hd (λh' c' kp e=>fin aj r' hz h' c' kp e) (by simp only[X6]<;>lia)
 ·obtain⟨aj,r',pl,hz⟩:=I.tuple hq;have av:=r'.length;obtain⟨o,ho,hc,n,hd⟩:=pl;exact call_list_seq p (.inr rfl) ho hc hd (λh' c' kp e=>fin aj r' hz h' c' kp e) (by simp only[X6]<;>lia)
theorem kwq:CallR X (.type "tuple") (λxs H Q=>∃p ys,xs=[.ref p]/\((SqL X.K H p ys/\∀l,H l=none->Q (.ref l) (upd H l (.tup ys)))\/(SqT X.K H p ys/\Q (.ref p) H))):=by
 rintro aa s σ H xs us Q I r ⟨p,ys,rfl,h⟩;obtain⟨u,rfl,rx⟩:=J7 r;cases rx;rcases h with⟨hq,q⟩|⟨hq,q⟩
 ·obtain⟨aj,r',pl,hz⟩:=I.list hq;have av:=r'.length;refine call_tuple_list pl.isList (λh' kp=>?_) (by simp_all);have I1:Inv X aa σ H {s with heap:=h' }:=I.kept (t':=s.toks) kp;have I2:Inv X aa σ _ {s with heap:=h'.push {cls:=.type "tuple",data:=.seq aj.toArray}}:=
   I1.laid (t':=s.toks) (λb o e=>X2 _ e) (X8 _) (show ObjOk X.prog X.w _ _ _ (.tup ys)from#[hz,aj,r',IsTupD.new _ _])
  exact#[.ref h'.objs.size,_,I2,rfl,q _ (I1.hok.fresh (X8 _))]
 ·obtain⟨aj,r',pl,hz⟩:=I.tuple hq;exact call_tuple_same pl #[.ref p,H,I,rfl,q]
noncomputable def tyV(K : Frag)(T : String)(x : V)(H : Hp): Prop:= match x with
  |.str _=>T = "str"|.int _=>T = "int"
  |.ref p=>(T = "list" /\ ∃xs,SqL K H p xs) \/ (T = "tuple" /\ ∃o,K.lookup p = some o /\ o.cls = .type "tuple" /\ o.dict = none) \/
      (T = "dict" /\ ((∃kvs,H p = some (.dK kvs)) \/ ∃kvs,H p = some (.dT kvs))) \/ (T = "set" /\ ∃S n,H p = some (.set S n))
  |_=>False
theorem vw0{aa}{σ:St}{H s T x v}(I:Inv X aa σ H s)(r:RelV x v)(ty:tyV X.K T x H):
  s.TypeIs v T/\∀a,v=.ref a->∃ob,s.heap.get? a=some ob/\ob.dict=none:=by
 cases x with
 | str z=>
  obtain⟨t,rfl⟩:=r;cases(ty);exact#[typeIs_str s z t,λ_ e=>nomatch e]
 | int i=>
  obtain⟨t,rfl⟩:=r;cases(ty);exact#[typeIs_int s i t,λ_ e=>nomatch e]
 | ref p=>
  cases r;rcases ty with⟨rfl,xs,hq⟩|⟨rfl,o,hk,hc,hd⟩|⟨rfl,hk⟩|⟨rfl,S,n,hk⟩
  ·obtain⟨aj,_,pl,_⟩:=I.list hq;refine#[pl.isList.typeIs,λa e=>?_];cases e;obtain⟨o,n,e,c,hd,_⟩:=pl;exact#[o,e,hd]
  ·refine#[#[o,I.kIn p o hk,hc],λa e=>?_];cases e;exact#[o,I.kIn _ o hk,hd]
  ·have z:∃o,s.heap.get? p=some o/\o.ExactDict:=by
    rcases hk with⟨kvs,hk⟩|⟨kvs,hk⟩
    ·obtain⟨_,_,_,_,o,_,_,e,ex,_⟩:=I.hok p _ hk;exact#[o,e,ex]
    ·obtain⟨_,_,_,_,o,_,_,e,ex,_⟩:=I.hok p _ hk;exact#[o,e,ex]
   obtain⟨o,e,ex⟩:=z;refine#[#[o,e,ex.1],λa e2=>?_];cases e2;exact#[o,e,ex.2.1]
  ·obtain⟨o,_,_,_,e,ex,_⟩:=I.hok p _ hk;refine#[#[o,e,ex.1],λa e2=>?_];cases e2;exact#[o,e,ex.2.1]
 |_=>exact False.elim ty
abbrev xqe(K:Frag)(T:String)(r:V->List V->Hp->VK->Prop)(to:TE):TE:=fun σ H Q=>to σ H λx H1=>tyV K T x H1/\r x [] H1 Q
abbrev tBM(K:Frag)(T:String)(r:V->List V->Hp->VK->Prop)(to:TE)(t:TA):TE:=fun σ H Q=>to σ H λx H1=>tyV K T x H1/\t σ H1 λxs H2=>r x xs H2 Q
variable {o e:Expr}{es:List Expr}{to:TE}{t:TA}{name:Str}{apos ak:Pos}{T id:String}{r:V->List V->Hp->VK->Prop}
abbrev _root_.Abe(p q:Pos):Prop:=(p.endLine==q.line)=true
theorem wvz(pa:PlainAttrs T)(slot:Slot T name id)(ol:typeOf (.builtin id)=pure (.type "method_descriptor"))(hm:MtR X id r)(ho:PE X o to)
  (bc:autoParam (attributeBase o name X.env (eval o X.env)=eval o X.env) Ŕ) (be:autoParam (Abe apos ak) Ŕ):PE X (.Call (.Attribute o name apos) [] [] ak) (xqe X.K T r to):=by
 intro aa s σ H Q I h;refine wpAny_Call_method0_late bc be (thn (ho aa s σ H _ I h) λv s1 hz=>?_);obtain⟨x,H1,I1,r1,ty,q1⟩:=hz;obtain⟨h1,h2⟩:=vw0 I1 r1 ty;exact#[T,id,pa,slot,ol,h1,h2,Yo rfl (PySem.evalArgs_none (hm aa s1 σ H1 x [] v [] Q I1 r1 .nil q1))]
theorem ww0(pa:PlainAttrs T)(slot:Slot T name id)(ol:typeOf (.builtin id)=pure (.type "method_descriptor"))(hm:MtR X id r)(ho:PE X o to)(ha:PA X (e::es) t)
  (bc:autoParam (attributeBase o name X.env (eval o X.env)=eval o X.env) Ŕ)
  (gf:autoParam (((backTo ak (starEach (e::es) X.env)).all (λx=>!x.1)&&(backToKw ak (keywordEach [] X.env)).all (λx=>x.1.isSome)
   && decide ((e::es).length+([]:List Keyword).length+(if([]:List Keyword).isEmpty then 0 else 1)<30))=true) Ŕ)
  (be:autoParam (Abe apos ak) Ŕ) (hs:autoParam (Abs e es X) Ŕ) (bo:autoParam (Abb ak es X) Ŕ):
  PE X (.Call (.Attribute o name apos) (e::es) [] ak) (tBM X.K T r to t):=by
 intro aa s σ H Q I h;refine wpAny_Call_method_late bc gf be rfl (thn (ho aa s σ H _ I h) λv s1 hz=>?_);obtain⟨x,H1,I1,r1,ty,q1⟩:=hz;obtain⟨h1,h2⟩:=vw0 I1 r1 ty;refine#[T,id,pa,slot,ol,h1,h2,?_];have hA:=ha ak aa s1 σ H1 _ I1 q1;rw[hs]at hA ⊢;exact Yo (by show(false||(backTo ak _).any _)=false;rw[bo]<;>rfl) (Yt (thn hA λus s2 hz=>by obtain⟨vs,H2,I2,r2,q2⟩:=hz;exact hm aa s2 σ H2 x vs v us Q I2 r1 r2 q2))
end
noncomputable def MtM(X:Cx)(id:String)(r:V->List V->Hp->VK->Prop):Prop:=
 ∀(aa:LA9) (s:Shared) (σ:St) (H:Hp) (x:V) (xs:List V) (v:Value) (us:List Value) (Q:VK),Inv X aa σ H s->RelV x v->Vals xs us->r x xs H Q ->
  wpAny (model X.prog X.w) X.A (call (.builtin id) (v::us)) (EP X aa σ Q) X.xe s
theorem Vals.one:∀{x us},Vals [x] us->∃u,us=[u]/\RelV x u:=by
 intro x us h;cases h with|cons r h=>cases h;exact#[_,rfl,r]
theorem Vals.zero:∀{us},Vals [] us->us=[]
 |_,.nil=>rfl
theorem Vals.dropLast{xs:List V}{us:List Value}(h:Vals xs us):Vals xs.dropLast us.dropLast:=by
 induction h with
 |nil=>exact .nil
 |cons r t ih=>
  cases t with|nil=>exact .nil|cons q t'=>exact .cons r ih
theorem Vals.eraseIdx:∀{xs us} (i),Vals xs us->Vals (xs.eraseIdx i) (us.eraseIdx i)
 |_,_,_,.nil=>.nil|_,_,0,.cons _ t=>t|_,_,i+1,.cons r t=>.cons r (Vals.eraseIdx i t)
theorem Vals.rep{xs us}(h:Vals xs us):∀k,Vals (List.replicate k xs).flatten (List.replicate k us).flatten
 |0=>.nil
 |k+1=>by
  exact Vals.append h (Vals.rep h k)
theorem qvs{α:Type}(l:List α):l.eraseIdx (l.length - 1)=l.dropLast:=by
 induction l with
 | nil=>rfl
 | cons a r ih=>
  cases r with
  | nil=>rfl
  | cons b r=>
   have e:(a::b::r).length - 1=((b::r).length - 1)+1:=by
    have h1:(a::b::r).length=r.length+2:=rfl;have h2:(b::r).length=r.length+1:=rfl;lia
   rw[e,List.eraseIdx_cons_succ,ih]
   all_goals rfl
theorem kxx{α:Type}:∀(l:List α) (i),(l.eraseIdx i).length<=l.length
 |[],_=>X8 _|_::_,0=>Nat.le_succ _|_::r,i+1=>Nat.succ_le_succ (kxx r i)
theorem kkc(aj):∀k (aq:List Value),
  List.foldl (λx1 x2=>x1++x2) aq.toArray (List.replicate k aj.toArray)=(aq++(List.replicate k aj).flatten).toArray
 | 0,aq=>by simp
 | k+1,aq=>by
  have e:aq.toArray++aj.toArray=(aq++aj).toArray:=by simp
  have e2:(aq++aj)++(List.replicate k aj).flatten=aq++(List.replicate (k+1) aj).flatten:=by
   rw[List.replicate_succ,List.flatten_cons,Xv]
  rw[<-e2,<-kkc aj k _,<-e,List.replicate_succ,List.foldl_cons]
section
variable {X:Cx}{aa:LA9}{σ:St}{H:Hp}{s:Shared}{l b:Addr}{xs ys zs:List V}
theorem Inv.lset{aj its':List Value}{n f t'}(I:Inv X aa σ H s)(hH:H l=some (.lst xs))
  (e:s.heap.get? l=some {cls:=.type "list",data:=.seq aj.toArray n}) (hf:f aj.toArray=its'.toArray) (hv:Vals ys its') (hz:ys.length<=sizeLine):
  Inv X aa σ (upd H l (.lst ys)) {s with heap:=s.heap.update l (Obj.mapSeq f),toks:=t' }:=by
 have q:=PySem.IsL.update e f;rw[hf]at q;refine I.write (hH▸trivial) (.inl rfl) (λb' u hb hu=>(Heap.get?_update_other s.heap _ (Ne.symm hb)).trans hu) #[_,q] ?_;exact#[hz,its',_,hv,q]
theorem Inv.lnew{aj t'}(I:Inv X aa σ H s)(hv:Vals ys aj)(hz:ys.length<=sizeLine):
  Inv X aa σ (upd H s.heap.objs.size (.lst ys)) {s with heap:=s.heap.push {cls:=.type "list",data:=.seq aj.toArray},toks:=t' }:=
 I.laid (λ_ _ q=>X2 _ q) (X8 _) #[hz,aj,0,hv,Xa _ rfl]
theorem Inv.fresh(I:Inv X aa σ H s):H s.heap.objs.size=none:=I.hok.fresh (X8 _)
theorem Inv.lstM(I:Inv X aa σ H s)(hH:H l=some (.lst xs)):xs.length<=sizeLine/\∃(aj:List Value) (n:Nat),Vals xs aj/\xs.length=aj.length/\s.heap.get? l=some {cls:=.type "list",data:=.seq aj.toArray n}:=by
 obtain⟨z,aj,n,r,e⟩:=I.hok l _ hH;exact#[z,aj,n,r,r.length,e]
theorem vqr{n}(h:n<=sizeLine):Builtin.List.listTooLong n=false:=by
 unfold Builtin.List.listTooLong
 simp_all
end
section
variable {X:Cx}
noncomputable def qj5:V->List V->Hp->VK->Prop:=λx vs H Q=>∃l xs y,x=.ref l/\vs=[y]/\H l=some (.lst xs)/\xs.length<sizeLine/\Q .non (upd H l (.lst (xs++[y])))
theorem kk4:MtM X "list.append" qj5:=by
 rintro aa s σ H x vs v us Q I rx rv ⟨l,xs,y,rfl,rfl,hH,hz,q⟩;cases rx;obtain⟨u,rfl,ru⟩:=rv.one;obtain⟨z,aj,n,r,hl,e⟩:=I.lstM hH;refine call_meets F.slot_list_append #[_,e,rfl] F.entry_list_append (F.args_list_append_2 _ _) (PySem.list_append l aj.toArray n u (by simp_all)) #[e,(#[.non,_,I.lset (its':=aj++[u]) hH e (by simp) (r.append (.cons ru .nil)) ?_,rfl,q])];rw[Xi,Y4];lia
noncomputable def xqk:V->List V->Hp->VK->Prop:=λx vs H Q=>∃l xs y,x=.ref l/\vs=[]/\H l=some (.lst xs)/\xs[xs.length - 1]?=some y/\Q y (upd H l (.lst xs.dropLast))
theorem wwj:MtM X "list.pop" xqk:=by
 intro aa s σ H x vs v us Q I rx rv h;obtain⟨l,xs,y,rfl,rfl,hH,hy,q⟩:=h;cases rx;have hus:=rv.zero;subst hus;obtain⟨z,aj,n,r,hl,e⟩:=I.lstM hH;obtain⟨u,hu,ru⟩:=r.get hy;have uu:aj.toArray[aj.toArray.size - 1]?=some u:=by
  show aj.toArray[aj.length - 1]?=some u;rw[<-Yl,<-hl];exact hu
 refine call_meets F.slot_list_pop #[_,e,rfl] F.entry_list_pop (F.args_list_pop_1 _) (MeetsSeq.list_pop_last l aj.toArray n u uu (by rw[X6];lia)) #[e,?_];refine#[y,_,I.lset (its':=aj.dropLast) hH e ?_ r.dropLast ?_,ru,q]
 ·show aj.toArray.eraseIdxIfInBounds (aj.toArray.size - 1)=aj.dropLast.toArray;rw[X6,List.eraseIdxIfInBounds_toArray,qvs]
 ·rw[List.length_dropLast];lia
noncomputable def vwb:V->List V->Hp->VK->Prop:=λx vs H Q=>∃l xs i k y,x=.ref l/\vs=[.int i]/\H l=some (.lst xs)/\-(2 ^ 63)<=i/\i<2 ^ 63/\seqIndex? i xs.length=some k/\xs[k]?=some y/\Q y (upd H l (.lst (xs.eraseIdx k)))
theorem vqs:MtM X "list.pop" vwb:=by
 rintro aa s σ H x vs v us Q I rx rv ⟨l,xs,i,k,y,rfl,rfl,hH,h1,h2,hk,hy,q⟩;cases rx;obtain⟨u,rfl,ru⟩:=rv.one;obtain⟨t,rfl⟩:=ru;obtain⟨z,aj,n,r,hl,e⟩:=I.lstM hH;obtain⟨w,hw,ka⟩:=r.get hy;refine call_meets F.slot_list_pop #[_,e,rfl] F.entry_list_pop (F.args_list_pop_2 _ _)
  (MeetsSeq.list_pop_at l aj.toArray n i t k w (fitsIndex_both h1 h2) (by rw[X6,<-hl];exact hk) (Yl▸hw) (by rw[X6];lia)) #[e,?_]
 refine#[y,_,I.lset (its':=aj.eraseIdx k) hH e ?_ (r.eraseIdx k) ?_,ka,q]
 ·show aj.toArray.eraseIdxIfInBounds k=(aj.eraseIdx k).toArray;rw[List.eraseIdxIfInBounds_toArray]
 ·have:=kxx xs k;lia
noncomputable def qx5:V->List V->Hp->VK->Prop:=λx vs H Q=>∃l xs,x=.ref l/\vs=[]/\H l=some (.lst xs)/\Q .non (upd H l (.lst []))
theorem kwb:MtM X "list.clear" qx5:=by
 intro aa s σ H x vs v us Q I rx rv h;obtain⟨l,xs,rfl,rfl,hH,q⟩:=h;cases rx;have hus:=rv.zero;subst hus;obtain⟨z,aj,n,r,hl,e⟩:=I.lstM hH;refine call_meets F.slot_list_clear #[_,e,rfl] F.entry_list_clear (F.args_list_clear_1 _) (AutoSeq1.list_clear_list_0 l aj.toArray n (by rw[X6];lia)) #[e,?_];exact#[.non,_,I.lset (its':=[]) (ys:=[]) hH e rfl .nil (Yg _),rfl,q]
theorem qza{α:Type}(xs:List α) k:(List.replicate k xs).flatten.length=k*xs.length:=by
 induction k with|zero=>simp|succ k ih=>simp_all
end
end L2
namespace Att
open PySem PySem.W PySem.Calls PyProof.Rows
theorem kka{P h}:∀ns vs,WellAll P h vs (ns.map WData.int)->IntsAre vs ns:=by
 intro ns
 induction ns with
 | nil=>
  intro vs w;cases w;exact .nil
 | cons n ns ih=>
  intro vs w;cases w with
  |cons a b=>
   cases a;exact .cons _ _ (ih _ b)
theorem script_of{l:OpenLaw}{n}(hn:l.most=some n){P h args}{sk}
  (on:l.row.toRowW.claim.pre args=true) (hwl:WellAll P h sk args):
  ∃a vs ns,sk=[Value.ref a]/\args=[WData.list (ns.map WData.int)]/\h.get? a=some {cls:=.type "list",data:=.seq vs.toArray}/\IntsAre vs ns/\ns.length<=n:=by
 have hsh:WShape.hasAll [] args [.list .int]=true:=(pre_splitW on).1;have hc:l.pre.holds [] {args:=args}=true:=(pre_splitW on).2;obtain⟨d,r,rfl,h1,h2⟩:=hasAllW_cons hsh;obtain rfl:=hasAllW_nil h2;obtain⟨xs,rfl,h3⟩:=hasW_list h1;obtain⟨ns,rfl⟩:=items_int h3;have av:ns.length<=n:=by
  unfold OpenLaw.pre at hc;have h4:(WTm.not (.lt (.lit (.int n)) (.len (.arg 0)))).holds [] {args:=[.list (ns.map .int)]}=true:=by
   have h4:=(holds_andW hc).1;rw[hn]at h4;exact h4
  have h5:=condW_of h4 (w_not (w_lt w_lit (w_len_list (w_arg rfl))))
  grind
 cases hwl with
 |cons w1 w2=>
  cases w2;cases w1 with|list ho rj=>exact#[_,_,ns,rfl,rfl,ho,kka ns _ rj,av]
theorem post_true(l:OpenLaw) args:l.row.toRowW.claim.post args (.bool true) args=true:=
 postW_of
  (show WShape.has [] _ .bool=true by first|rfl|decide|simp[WShape.armsAll])
  (w_eq_bool (w_res rfl) w_lit) rfl
end Att
namespace L2
open PySem PySem.Spec PyProof.Rows
noncomputable def xq8(H:Hp):Prop:=∀b,H b=none\/∃o xs,H b=some (.frz o (.lst xs))
noncomputable def V7(s:Stmt):Arguments:=match s with
 |.FunctionDef _ a _ _ _ _ _ _ _ _=>a|_=>{posonlyargs:=[],args:=[],vararg:=none,kwonlyargs:=[],kw_defaults:=[],kwarg:=none,defaults:=[]}
noncomputable def KJ(s:Stmt):List Stmt:=match s with
 |.FunctionDef _ _ b _ _ _ _ _ _ _=>b|_=>[]
noncomputable def jY(s:Stmt):Scope:=match s with
 |.FunctionDef _ _ _ _ _ _ sc _ _ _=>sc|_=>{kind:=.function,names:=[],isGenerator:=false,isCoroutine:=false}
structure Fun (K:Frag)(x qual:Str)(st:Stmt)(f:Addr)(fd:FuncData):Prop where
 ex:∃(oc:Value) (od:Option Addr) (kV iw pm:Value) (an:Option Addr) (dq ct:Value) (qo:Array (Option Value)),
  fd=PySem.W.fnOf x qual (V7 st) (KJ st) (jY st) .none kV iw pm an dq ct/\K.lookup f=some #[oc,od,.func fd,qo]/\PySem.W.codeIn K dq qual=true
 kp:PySem.W.keepIn K (.ref f)=true
section
variable {P:Program}{w:World}{K:Frag}{mg:Str->Option Value}{base:Heap}
theorem Fun.binds{x qual st f fd ps}(F:Fun K x qual st f fd)
  (h:∀kV iw pm an (dq ct) us,us.length=ps.length->bindArgs (PySem.W.fnOf x qual (V7 st) (KJ st) (jY st) .none kV iw pm an dq ct) #[us,[]]=pure (ps.zip us)):Binds K fd ps []:=by
 obtain⟨oc,od,kV,iw,pm,an,dq,ct,qo,rfl,lk,ju⟩:=F.ex;exact .all (h kV iw pm an dq ct)
theorem vj1{x qual st f oc od an qo kV iw pm dq ct}(l:K.lookup f=some #[oc,od,.func (PySem.W.fnOf x qual (V7 st) (KJ st) (jY st) .none kV iw pm an dq ct),qo])
  (c:PySem.W.codeIn K dq qual=true) (k:PySem.W.keepIn K (.ref f)=true):Fun K x qual st f (PySem.W.fnOf x qual (V7 st) (KJ st) (jY st) .none kV iw pm an dq ct):=#[#[oc,od,kV,iw,pm,an,dq,ct,qo,rfl,l,c],k]
end
section
variable {X:Cx}
theorem pv(i:Nat){x:Str}{pos:Pos}(hN:autoParam (X.N[i]?=some x) Ŕ)(hv:autoParam (Vis X.env.scope x) ř)(hd:autoParam (Abd x) ŕ)
  (ju:autoParam ((x==("__classdict__":Str))=false) ŕ):PE X (.Name x pos) (x9 i):=wvt hN hv hd ju
end
def k7(H H':Hp):Prop:=∀b o,H b=some o->H' b=some o
section
variable {κ:Type}[DecidableEq κ]
noncomputable def J9(kvs:List (κ×V))(k:κ):Option V:=(kvs.find? λkv=>decide (kv.1=k)).map (·.2)
noncomputable def zz(kvs:List (κ×V))(k:κ)(v:V):List (κ×V):=
 if(kvs.any λkv=>decide (kv.1=k))=true then kvs.map (λkv=>if kv.1=k then(kv.1,v)else kv)else kvs++[(k,v)]
theorem kva{p r}{k:κ}(e:p.1=k):J9 (p::r) k=some p.2:=by simp[J9,e]
theorem kvb{p r}{k:κ}(e:¬p.1=k):J9 (p::r) k=J9 r k:=by simp[J9,e]
theorem qkl(k):∀kvs:List (κ×V),(kvs.any λkv=>decide (kv.1=k))=(J9 kvs k).isSome
 |[]=>rfl
 |p::r=>by
  rw[List.any_cons]
  by_cases e:p.1=k
  ·simp only[kva e,Xh e,Bool.true_or,Option.isSome_some]
  ·rw[kvb e,Xp e];exact qkl k r
theorem kk7 kvs (k:κ) v:(zz kvs k v).length<=kvs.length+1:=by
 unfold zz
 split
 ·rw[X3];lia
 ·simp_all
theorem RelO.isSome_eq{o u}(r:RelO o u):o.isSome=u.isSome:=by
 cases o with
 |none=>cases u with|none=>rfl|some _=>exact(r).elim
 |some _=>cases u with|none=>exact(r).elim|some _=>rfl
theorem RelO.getD{o u d d'}(r:RelO o u)(rd:RelV d d'):RelV (o.getD d) (u.getD d'):=by
 cases o with
 |none=>cases u with|none=>exact rd|some _=>exact(show False from r).elim
 |some _=>cases u with|none=>exact(show False from r).elim|some _=>exact r
theorem KV.val{kvs vs}(r:KV kvs vs)(k:κ):RelO (J9 kvs k) (valueAt vs k):=by
 induction r with
 | nil=>exact Z3
 | @cons p q ps qs h t ih=>
  obtain⟨h1,h2⟩:=h
  by_cases e:p.1=k
  ·have e':q.1=k:=h1.symm.trans e;have b:valueAt (q::qs) k=some q.2:=by simp[valueAt,e']
   rw[kva e,b];exact h2
  ·have e':¬q.1=k:=λz=>e (h1.trans z)
   have b:valueAt (q::qs) k=valueAt qs k:=by simp[valueAt,e']
   rw[kvb e,b];exact ih
theorem KV.any{kvs vs}(r:KV kvs vs)(k:κ):(kvs.any λkv=>decide (kv.1=k))=vs.any λkv=>decide (kv.1=k):=by
 induction r with|nil=>rfl|cons h t ih=>simp_all
theorem KV.repl{kvs vs}(r:KV kvs vs)(k:κ){y u}(ry:RelV y u):
  KV (kvs.map λkv=>if kv.1=k then(kv.1,y)else kv) (vs.map λkv=>if kv.1=k then(kv.1,u)else kv):=by
 induction r with
 |nil=>exact .nil
 |@cons p q ps qs h t ih=>
  rw[List.map_cons,List.map_cons];refine .cons ?_ ih;obtain⟨h1,h2⟩:=h
  by_cases e:p.1=k
  ·rw[Xb e,Xb (h1.symm.trans e)];exact#[h1,ry]
  ·rw[Xe e,Xe (λz=>e (h1.trans z))];exact#[h1,h2]
theorem KV.put{kvs vs}(r:KV kvs vs)(k:κ){y u}(ry:RelV y u):KV (zz kvs k y) (stored vs k u):=by
 unfold zz stored;rw[r.any k]
 by_cases e:(vs.any λkv=>decide (kv.1=k))=true
 ·rw[Xb e,Xb e];exact r.repl k ry
 ·rw[Xe e,Xe e];exact Paired.snoc r #[rfl,ry]
theorem KV.length{kvs}{vs:List (κ×Value)}(r:KV kvs vs):kvs.length=vs.length:=Paired.length r
end
theorem XW{P w k u}(r:RelV (kV k) u):(xw P w).is k u=true:=by
 cases k with|inl i=>obtain⟨t,e⟩:=(r);subst e;exact qjn P w i t|inr x=>obtain⟨t,e⟩:=(r);subst e;exact qjm P w x t
theorem kxz{P w}:∀{ks us},Vals (ks.map kV) us->ItemsAre (xw P w) ks us
 |[],_,r=>by cases r;exact .nil
 |k::ks,_,r=>by
  cases r with|cons h t=>exact .cons (XW h) (kxz t)
abbrev KT(H:Hp):List (List Key×V)->List (List Key×Addr×Value)->Prop:=Paired λp q=>p.1=q.1/\H q.2.1=some (.tup (p.1.map kV))/\RelV p.2 q.2.2
theorem KT.val{H kvs xs}(r:KT H kvs xs) k:RelO (J9 kvs k) ((atKey xs k).map (·.2)):=by
 induction r with
 | nil=>exact Z3
 | @cons p q ps qs h t ih=>
  obtain⟨h1,_,h2⟩:=h
  by_cases e:p.1=k
  ·have e':q.1=k:=h1.symm.trans e;have b:atKey (q::qs) k=some q.2:=by simp[atKey,e']
   rw[kva e,b];exact h2
  ·have e':¬q.1=k:=λz=>e (h1.trans z)
   have b:atKey (q::qs) k=atKey qs k:=by simp[atKey,e']
   rw[kvb e,b];exact ih
theorem KT.repl{H kvs xs}(r:KT H kvs xs)(k){y u}(ry:RelV y u):
  KT H (kvs.map λkv=>if kv.1=k then(kv.1,y)else kv) (xs.map (putAt k u)):=by
 induction r with
 |nil=>exact .nil
 |@cons p q ps qs h t ih=>
  rw[List.map_cons];refine .cons ?_ ih;obtain⟨h1,h2,h3⟩:=h;unfold putAt
  by_cases e:p.1=k
  ·rw[Xb e,Xb (h1.symm.trans e)];exact#[h1,h2,ry]
  ·rw[Xe e,Xe (λz=>e (h1.trans z))];exact#[h1,h2,h3]
theorem KT.put{H kvs xs}(r:KT H kvs xs)(k){b y u}(hb:H b=some (.tup (k.map kV)))(ry:RelV y u):
  KT H (zz kvs k y) (storedH xs k b u):=by
 have e:(kvs.any λkv=>decide (kv.1=k))=(atKey xs k).isSome:=by
  rw[qkl,(r.val k).isSome_eq,Option.isSome_map]
 unfold zz storedH;rw[e]
 by_cases q:(atKey xs k).isSome=true
 ·rw[Xb q,Xb q];exact r.repl k ry
 ·rw[Xe q,Xe q];exact Paired.snoc r #[rfl,hb,ry]
theorem KT.keeps{H H' kvs xs}(r:KT H kvs xs)(ht:∀b ys,H b=some (.tup ys)->H' b=some (.tup ys)):KT H' kvs xs:=
 Paired.mapP r λ_ _ z=>#[z.1,ht _ _ z.2.1,z.2.2]
section
variable {P:Program}{w:World}{H:Hp}{h:Heap}{a:Addr}
theorem vkv{u}(ok:HOk P w H h)(e:Rd H a u):ObjOk P w H h a u:=e.ok ok
theorem VW{kvs}(ok:HOk P w H h)(e:Rd H a (.dK kvs)):kvs.length<=sizeLine/\(a==sysModules)=false/\∃vs,KV kvs vs/\h.DictOf (xw P w) a vs:=
 show ObjOk P w H h a _ from vkv ok e
theorem xky{kvs}(ok:HOk P w H h)(e:H a=some (.dK kvs)):kvs.length<=sizeLine/\(a==sysModules)=false/\∃vs,KV kvs vs/\h.DictOf (xw P w) a vs:=VW ok (.inl e)
theorem kqm{ks}(ok:HOk P w H h)(e:H a=some (.tup (ks.map kV))):(tupleKind (xw P w)).is h ks a:=by
 obtain⟨_,aj,r,o,h1,h2,_,n,h3⟩:=(ok a _ e);exact#[o,aj.toArray,n,h1,h2,h3,by simpa using kxz r]
theorem W5{kvs}(ok:HOk P w H h)(e:Rd H a (.dT kvs)):kvs.length<=sizeLine/\(a==sysModules)=false /\
  ∃ xs,KT H kvs xs/\h.DictOfH (tupleKind (xw P w)) a xs:=by
 obtain⟨z,y,xs,r,o,es,ep,h1,h2,h3,h4,h5⟩:=(vkv ok e);refine#[z,y,xs,r,o,es,ep,h1,h2,h3,h4,λx hx=>?_,h5];have all:∀{l m},KT H l m->∀x∈m,(tupleKind (xw P w)).is h x.1 x.2.1:=by
  intro l m q
  induction q with
  | nil=>simp_all
  | @cons p q ps qs hq t ih=>
   intro x hx;rcases aD hx with e|hx
   ·subst e;exact kqm ok (by simp_all)
   ·exact ih x hx
 exact all r x hx
theorem xkx{kvs}(ok:HOk P w H h)(e:H a=some (.dT kvs)):kvs.length<=sizeLine/\(a==sysModules)=false /\
  ∃xs,KT H kvs xs/\h.DictOfH (tupleKind (xw P w)) a xs:=W5 ok (.inl e)
end
noncomputable def DGet(H:Hp)(a:Addr)(y:V)(r:Option V):Prop:=
 (∃kvs k,Rd H a (.dK kvs)/\y=kV k/\r=J9 kvs k)\/∃kvs k b,Rd H a (.dT kvs)/\y=.ref b/\H b=some (.tup (k.map kV))/\r=J9 kvs k
noncomputable def DPut(H:Hp)(a:Addr)(y v:V)(H':Hp):Prop:=
 (∃kvs k,H a=some (.dK kvs)/\y=kV k/\kvs.length<sizeLine/\H'=upd H a (.dK (zz kvs k v))) \/
 ∃kvs k b,H a=some (.dT kvs)/\y=.ref b/\H b=some (.tup (k.map kV))/\kvs.length<sizeLine/\H'=upd H a (.dT (zz kvs k v))
theorem DGet.k{H a kvs k}(e:H a=some (.dK kvs)):DGet H a (kV k) (J9 kvs k):=.inl #[kvs,k,.inl e,rfl,rfl]
theorem DPut.k{H a kvs k v}(e:H a=some (.dK kvs))(hl:kvs.length<sizeLine):DPut H a (kV k) v (upd H a (.dK (zz kvs k v))):=.inl #[kvs,k,e,rfl,hl,rfl]
section
variable {X:Cx}{aa:LA9}{σ:St}{H:Hp}{s:Shared}{a:Addr}{y v:V}{u r:Value}{o:Option V}{A:Around}{E:VP9}
theorem Inv.big(I:Inv X aa σ H s):sysModules<s.heap.objs.size:=by
 exact Nat.lt_trans ⋯ ((I.mod.glob.keeps I.bk).lt)
theorem vjd{Q}(hu:A.units+1<cLine)(I:Inv X aa σ H s)(g:DGet H a y (some v))(ry:RelV y u)(h:∀w' s',Inv X aa σ H s'->RelV v w'->Q w' s'):
  wpAny (model X.prog X.w) A (getItem (.ref a) u) Q E s:=by
 rcases g with⟨kvs,k,e,ey,l⟩|⟨kvs,k,b,e,ey,eb,l⟩
 ·subst ey;obtain⟨z,hd,vs,fk,dd⟩:=VW I.hok e;obtain⟨w',hw,ka⟩:=RelO.some_of (l▸fk.val k);exact wpAny_getItem_of (XW ry) dd.mapOf hw (h w' _ (I.tok _) ka)
 ·subst ey;cases(ry);obtain⟨z,hd,xs,fk,dd⟩:=W5 I.hok e;obtain⟨w',hw,ka⟩:=RelO.some_of (l▸fk.val k);obtain⟨p,hp,hp2⟩:=Option.map_eq_some_iff.mp hw;refine wpAny_getItem_heap (tupleKind_room_in1 hu) (kqm I.hok eb) dd hp ?_;rw[hp2];exact h w' _ (I.tok _) ka
theorem d_in{Q}(hu:A.units+1<cLine)(I:Inv X aa σ H s)(g:DGet H a y o)(ry:RelV y u)(h:∀s',Inv X aa σ H s'->Q (.bool o.isSome) s'):
  wpAny (model X.prog X.w) A (compareOp .In u (.ref a)) Q E s:=by
 rcases g with⟨kvs,k,e,ey,l⟩|⟨kvs,k,b,e,ey,eb,l⟩
 ·subst ey;obtain⟨z,hd,vs,fk,dd⟩:=VW I.hok e;refine wpAny_in_of (XW ry) hd dd.mapOf ?_;rw[<-(fk.val k).isSome_eq,<-l];exact h _ (I.tok _)
 ·subst ey;cases(show u=Value.ref b from ry);obtain⟨z,hd,xs,fk,dd⟩:=W5 I.hok e;refine wpAny_in_heap (tupleKind_room_in1 hu) (kqm I.hok eb) hd dd ?_;have q:=(fk.val k).isSome_eq;rw[Option.isSome_map]at q;rw[<-q,<-l];exact h _ (I.tok _)
theorem wk0{Q}(hu:A.units+1<cLine)(I:Inv X aa σ H s)(g:DGet H a y o)(ry:RelV y u)(h:∀s',Inv X aa σ H s'->Q (.bool (!o.isSome)) s'):
  wpAny (model X.prog X.w) A (compareOp .NotIn u (.ref a)) Q E s:=by
 rcases g with⟨kvs,k,e,ey,l⟩|⟨kvs,k,b,e,ey,eb,l⟩
 ·subst ey;obtain⟨z,hd,vs,fk,dd⟩:=VW I.hok e;refine wpAny_notIn_of (XW ry) hd dd.mapOf ?_;rw[<-(fk.val k).isSome_eq,<-l];exact h _ (I.tok _)
 ·subst ey;cases(ry);obtain⟨z,hd,xs,fk,dd⟩:=W5 I.hok e;refine wpAny_notIn_heap (tupleKind_room_in1 hu) (kqm I.hok eb) hd dd ?_;have q:=(fk.val k).isSome_eq;rw[Option.isSome_map]at q;rw[<-q,<-l];exact h _ (I.tok _)
theorem kwo{h' t' ob}(I:Inv X aa σ H s)(mu:Mut (H a))(hs:Heap.SameBut a s.heap h')(he:∃q,h'.get? a=some q)(new:ObjOk X.prog X.w (upd H a ob) h' a ob):
  Inv X aa σ (upd H a ob) {s with heap:=h',toks:=t' }:=
 I.write mu (.inl rfl) (λb q hb z=>(hs.2 b hb).trans z) he new
theorem vx3{P w H' h' kvs vs}(z:kvs.length<=sizeLine)(hd:(a==sysModules)=false)(fk:KV kvs vs)(dd:h'.DictOf (xw P w) a vs):
  ObjOk P w H' h' a (.dK kvs):=#[z,hd,vs,fk,dd]
theorem vjc{H' Q}(hu:A.units+1<cLine)(I:Inv X aa σ H s)(g:DPut H a y v H')(ry:RelV y u)(rv:RelV v r)(h:∀s',Inv X aa σ H' s'->Q () s'):
  wpAny (model X.prog X.w) A (setItem (.ref a) u r) Q E s:=by
 rcases g with⟨kvs,k,e,ey,l,eH⟩|⟨kvs,k,b,e,ey,eb,l,eH⟩
 ·subst ey eH;obtain⟨z,hd,vs,fk,dd⟩:=xky I.hok e;have hz:vs.length<=sizeLine:=by rw[<-fk.length];exact z
  have hl:(zz kvs k v).length<=sizeLine:=by have:=kk7 kvs k v;lia
  refine wpAny_setItem_pairs (XW ry) dd λh' t7 hs=>h _ ?_
  have he:∃q,h'.get? a=some q:=let ⟨q,_,_,hq,_⟩:=t7;#[q,hq]
  exact kwo I (e▸Z3) hs he (vx3 hl hd (fk.put k rv) t7)
 ·subst ey eH;cases(ry);obtain⟨z,hd,xs,fk,dd⟩:=xkx I.hok e;have hz:xs.length<=sizeLine:=by rw[<-Paired.length fk];exact z
  have hl:(zz kvs k v).length<=sizeLine:=by have:=kk7 kvs k v;lia
  refine wpAny_setItem_heap (tupleKind_room_in1 hu) (kqm I.hok eb) dd λh' t7 hs=>h _ ?_
  obtain⟨q,es,ep,hq,h2,h3,h4,_,h5⟩:=t7;refine kwo I (e▸Z3) hs #[q,hq] #[hl,hd,_,(fk.put k eb rv).keeps λc ys ec=>?_,q,es,ep,hq,h2,h3,h4,h5]
  rwa [k6 (xka ec e (λz=>nomatch z))]
end
section
variable {X:Cx}{aa:LA9}{σ:St}{H:Hp}{s:Shared}{a:Addr}{kvs:List (Key×V)}{k:Key}{u:Value}{A:Around}{E:VP9}
theorem xkz{Q}(I:Inv X aa σ H s)(e:Rd H a (.dK kvs))(h:∀t s',Inv X aa σ H s'->Q (.int kvs.length t) s'):wpAny (model X.prog X.w) A (call (.builtin "len") [.ref a]) Q E s:=by
 obtain⟨z,hd,vs,fk,dd⟩:=VW I.hok e;refine call_len_dict hd dd (by rw[<-fk.length];rw[sizeLine_eq]at z;lia) ?_;rw[<-fk.length];exact h _ _ (I.tok _)
end
noncomputable def xq9(i:Expr):Prop:=∀ov iv,subscripted i false ov iv=operate [ov,iv] (getItem ov iv)
theorem vxq{prog w A E s env ci slice pos T id}{Q}
  (hl:typeLookup (.type T) "__getitem__"=pure (some (.builtin id))) (hs:xq9 slice)
  (h:wpAny (model prog w) A (eval ci env) (λo s₁=>wpAny (model prog w) A (eval slice env) (λi s₂=>s₂.TypeIs o T/\wpAny (model prog w) A (getItem o i) Q E s₂) E s₁) E s):
  wpAny (model prog w) A (eval (.Subscript ci slice pos) env) Q E s:=by
 refine Subscript_ (Z6 h (λo s₁ h₁=>Z6 h₁ (λi s₂ h₂=>?_) λ_ _ x=>x) λ_ _ x=>x);obtain⟨hT,h₂⟩:=h₂;refine X0 ?_;rw[getitemInPython_of_ne hT.not_modules];refine X0 (wpAny_specialOf hT hl ?_);have fin:wpAny (model prog w) A (subscripted slice false o i) (λr s₃=>wpAny (model prog w) A (letTemporaryGo ci o r >>= λ_=>pure r) Q E s₃) E s₂:=by
  rw[hs o i];exact wpAny_operating (Z6 h₂ (λr s₃ h₃=>X0 (wpAny_letTemporaryGo (X5 h₃))) λ_ _ x=>x)
 first
  |exact X5 (X0 fin)
theorem qk7{X aa}{σ:St}{H s a y o}(I:Inv X aa σ H s)(g:DGet H a y o):s.TypeIs (.ref a) "dict":=by
 rcases g with⟨kvs,k,e,_,_⟩|⟨kvs,k,b,e,_,_,_⟩
 ·obtain⟨_,_,vs,_,dd⟩:=VW I.hok e;exact dd.typeIs
 ·obtain⟨_,_,xs,_,dd⟩:=W5 I.hok e;exact dd.typeIs
abbrev xj1(td ty:TE):TE:=fun σ H Q=>td σ H λx H1=>ty σ H1 λy H2=>∃a v,x=.ref a/\DGet H2 a y (some v)/\Q v H2
abbrev xj7(td ty tv:TE):TS:=λD σ H=>tv σ H λv H1=>td σ H1 λx H2=>ty σ H2 λy H3=>∃a H4,x=.ref a/\DPut H3 a y v H4/\D.nx σ H4
section
variable {X:Cx}{o i e ci:Expr}{pos bh gc:Pos}{td ty tv:TE}
theorem vzu(hu:X.A.units+1<cLine)(ho:PE X o td)(hi:PE X i ty)(hs:xq9 i):PE X (.Subscript o i pos) (xj1 td ty):=by
 intro aa s σ H Q I h;refine vxq PySem.F.slot_dict_getitem.lookup hs (thn (ho aa s σ H _ I h) λu s1 #[x,H1,I1,rx,q1]=>thn (hi aa s1 σ H1 _ I1 q1) λiv s2 hz=>?_);obtain⟨y,H2,I2,ry,a,v,ex,g,q2⟩:=hz;subst ex;obtain rfl:u=Value.ref a:=rx;exact#[qk7 I2 g,vjd hu I2 g ry λw' s3 I3 ka=>#[v,H2,I3,ka,q2]]
theorem vzk(hu:X.A.units+1<cLine)(ho:PE X o td)(hi:PE X i ty)(hv:PE X ci tv)(hs:swapsWith ci (some (.Subscript o i bh)) pos.line X.env=pure false):
  PS X (.Assign [.Subscript o i bh] ci pos) (xj7 td ty tv):=by
 intro aa s σ H D I h;refine wpAny_Assign_Subscript (thn (hv aa s σ H _ I h) λr s1 #[v,H1,I1,rv,q1]=>thn (ho aa s1 σ H1 _ I1 q1) λu s2 #[x,H2,I2,rx,q2]=>thn (hi aa s2 σ H2 _ I2 q2) λiv s3 hz=>?_) hs;obtain⟨y,H3,I3,ry,a,H4,ex,g,q3⟩:=hz;subst ex;obtain rfl:u=Value.ref a:=rx;exact vjc hu I3 g ry rv λs4 I4=>#[σ,H4,I4,q3]
end
theorem vvc{P w H}(h:Heap)(hb:sysModules<h.objs.size):ObjOk P w H (h.push {cls:=.type "dict",data:=.dict (List.toArray [])}) h.objs.size (.dK []):=
 #[Yg _,beq_eq_false_iff_ne.mpr (Ne.symm (Xl hb)),[],.nil,Heap.DictOf.new h]
abbrev wq8:TE:=λ_ H Q=>∀p,H p=none->Q (.ref p) (upd H p (.dK []))
section
variable {X:Cx}{pos:Pos}
theorem vqh:PE X (.Dict [] [] pos) wq8:=λaa s σ H Q I h=>
 wpAny_Dict_empty #[.ref s.heap.objs.size,_,I.laid (t':=s.toks) (λ_ _ q=>X2 _ q) (X8 _) (vvc s.heap I.big),rfl,h _ (I.hok.fresh (X8 _))]
end
noncomputable def vw3:List (TE×TE)->St->Hp->(List (V×V)->Hp->Prop)->Prop
 |[],_,H,Q=>Q [] H|(tk,tv)::r,σ,H,Q=>tk σ H λx H1=>tv σ H1 λy H2=>vw3 r σ H2 λps H3=>Q ((x,y)::ps) H3
abbrev VV:List (V×V)->List (Value×Value)->Prop:=Paired λp q=>RelV p.1 q.1/\RelV p.2 q.2
noncomputable def PPs(X:Cx)(pos:Pos)(keys:List (Option Expr))(rq:List Expr)(trs:List (TE×TE)):Prop:=
 ∀(aa:LA9) (s:Shared) (σ:St) (H:Hp) (Q:List (V×V)->Hp->Prop),Inv X aa σ H s->vw3 trs σ H Q ->
  wpAny (model X.prog X.w) X.A (evalPairs (pairTrees keys rq X.env pos)) (λvs s'=>∃ps H',Inv X aa σ H' s'/\VV ps vs/\Q ps H') X.xe s
theorem vzl{X:Cx}{pos:Pos}:PPs X pos [] [] []:=λaa s σ H Q I h=>pairTrees_nil_walk #[[],H,I,.nil,h]
theorem vq9{X:Cx}{pos:Pos}{k v:Expr}{ks:List (Option Expr)}{vs:List Expr}{tk tv:TE}{trs:List (TE×TE)}(hk:PE X k tk)(hv:PE X v tv)(hr:PPs X pos ks vs trs):
  PPs X pos (some k::ks) (v::vs) ((tk,tv)::trs):=λaa s σ H Q I h=>
 pairTrees_cons_walk (thn (hk aa s σ H _ I h) λu s1 #[x,H1,I1,rx,q1]=>thn (hv aa s1 σ H1 _ I1 q1) λw2 s2 hz=>by
  obtain⟨y,H2,I2,ry,q2⟩:=hz;exact thn (hr aa s2 σ H2 _ I2 q2) λws s3 hz=>by obtain⟨ps,H3,I3,fk,q3⟩:=hz;exact#[(x,y)::ps,H3,I3,.cons #[rx,ry] fk,q3])
structure M2 (X:Cx)(o:Expr)(m:Str)(apos:Pos)(e f:Expr)(ak:Pos):Prop where
 base:attributeBase o m X.env (eval o X.env)=eval o X.env
 few:((backTo ak (starEach [e,f] X.env)).all (λx=>!x.1)&&(backToKw ak (keywordEach [] X.env)).all (λx=>x.1.isSome)
  && decide (([e,f]:List Expr).length+([]:List Keyword).length+(if([]:List Keyword).isEmpty then 0 else 1)<30))=true
 line:(apos.endLine==ak.line)=true
 trees:backTo ak (starEach [e,f] X.env)=[(false,eval e X.env),(false,eval f X.env)]
noncomputable def IsD(H:Hp)(a:Addr):Prop:=(∃kvs,Rd H a (.dK kvs))\/∃kvs,Rd H a (.dT kvs)
theorem wx2{X aa}{σ:St}{H s a}(I:Inv X aa σ H s)(d:IsD H a):
  s.TypeIs (.ref a) "dict"/\(∀b,Value.ref a=.ref b->∃ob,s.heap.get? b=some ob/\ob.dict=none)/\(a==sysModules)=false:=by
 rcases d with⟨kvs,e⟩|⟨kvs,e⟩
 ·obtain⟨_,hd,vs,_,dd⟩:=VW I.hok e;refine#[dd.typeIs,λb q=>?_,hd];cases q;obtain⟨ob,_,_,h1,h2,_⟩:=dd;exact#[ob,h1,h2.2.1]
 ·obtain⟨_,hd,xs,_,dd⟩:=W5 I.hok e;refine#[dd.typeIs,λb q=>?_,hd];cases q;obtain⟨ob,_,_,h1,h2,_⟩:=dd;exact#[ob,h1,h2.2.1]
section
variable {X:Cx}{aa:LA9}{σ:St}{H:Hp}{s:Shared}{a:Addr}{y d:V}{u r:Value}{o:Option V}{A:Around}{E:VP9}
theorem wxm{Q}(hu:A.units+1<cLine)(I:Inv X aa σ H s)(g:DGet H a y o)(ry:RelV y u)(rd:RelV d r)(h:∀w' s',Inv X aa σ H s'->RelV (o.getD d) w'->Q w' s'):
  wpAny (model X.prog X.w) A (call (.builtin "dict.get") [.ref a,u,r]) Q E s:=by
 rcases g with⟨kvs,k,e,ey,l⟩|⟨kvs,k,b,e,ey,eb,l⟩
 ·subst ey;obtain⟨z,hd,vs,fk,dd⟩:=VW I.hok e;refine call_meetsIn PySem.F.slot_dict_get dd.typeIs PySem.F.entry_dict_get (PySem.F.args_dict_get_3 _ _ _) (meets_dict_get_default (xw X.prog X.w) a (XW ry) hd r) #[_,dd.mapOf,h _ _ (I.tok _) ?_];rw[l];exact(fk.val k).getD rd
 ·subst ey;cases(show u=Value.ref b from ry);obtain⟨z,hd,xs,fk,dd⟩:=W5 I.hok e;refine call_meetsIn PySem.F.slot_dict_get dd.typeIs PySem.F.entry_dict_get (PySem.F.args_dict_get_3 _ _ _) (meetsH_dict_get_default (tupleKind (xw X.prog X.w)) a b hd r) #[tupleKind_room_in1 hu,k,xs,kqm I.hok eb,dd,h _ _ (I.tok _) ?_];rw[l];exact(fk.val k).getD rd
end
abbrev wq9(td ty tx:TE):TE:=fun σ H Q=>td σ H λx H1=>∃a,x=.ref a/\IsD H1 a/\ty σ H1 λy H2=>tx σ H2 λz H3=>∃o,DGet H3 a y o/\Q (o.getD z) H3
section
variable {X:Cx}{o e f:Expr}{apos ak:Pos}{td ty tx:TE}
theorem vqi(hu:X.A.units+1<cLine)(ho:PE X o td)(he:PE X e ty)(hf:PE X f tx)(m:M2 X o "get" apos e f ak):PE X (.Call (.Attribute o "get" apos) [e,f] [] ak) (wq9 td ty tx):=by
 intro aa s σ H Q I h;refine wpAny_Call_method m.base m.few m.line PySem.F.plainAttrs_dict PySem.F.slot_dict_get PySem.F.type_dict_get (thn (ho aa s σ H _ I h) λu s1 hz=>?_);obtain⟨x,H1,I1,rx,a,ex,d,q1⟩:=hz;subst ex;obtain rfl:u=Value.ref a:=rx;obtain⟨t1,t2,_⟩:=wx2 I1 d;refine#[t1,t2,?_];rw[m.trees];refine Yo rfl (Yt (Calls.spliced_cons (thn (he aa s1 σ H1 _ I1 q1) λiv s2 #[y,H2,I2,ry,q2]=>
  Calls.spliced_cons (thn (hf aa s2 σ H2 _ I2 q2) λfv s3 #[z,H3,I3,rz,ov,g,q3]=>Calls.spliced_nil ?_))))
 exact wxm hu I3 g ry rz λw' s4 I4 ka=>#[_,H3,I4,ka,q3]
end
section
variable {X:Cx}
theorem vjp:CallR X (.builtin "len") (λxs H Q=>∃a kvs,xs=[V.ref a]/\H a=some (.dK kvs)/\Q (.int kvs.length) H):=by
 rintro aa s σ H xs us Q I r ⟨a,kvs,rfl,ha,q⟩;obtain⟨u,rfl,ru⟩:=J7 r;cases ru;exact xkz I (.inl ha) λt s' I'=>#[.int kvs.length,H,I',#[t,rfl],q]
end
end L2
set_option maxHeartbeats 4000000
namespace L3
open PySem PySem.Spec PyProof.Rows L2
abbrev qzc(gh:List Expr)(env:Env):Sem Bool:=
 forIn gh true λc r=>if r=true then do let ok <-isTrue c env (eval c env);pure (ForInStep.yield ok)else pure (ForInStep.yield r)
theorem jwb (env): ∀(l : List (Str × NameKind)) (cs),(∀y ∈ l,y.2 = .free -> ∃c,env.cells.lookup y.1 = some c) ->
    (∀x c,cs.lookup x = some c -> env.cells.lookup x = some c) ->
    ∃ cl,(forIn l cs (λx r=>if(x.2==NameKind.free) = true then do let a <-cellOf env x.1; pure (ForInStep.yield ((x.1,a)::r))else pure (ForInStep.yield r)): Sem (List (Str × Addr))) = pure cl /\
      (∀x c,cl.lookup x = some c -> env.cells.lookup x = some c) /\ (∀x c,cs.lookup x = some c -> ∃c',cl.lookup x = some c') /\ ∀y ∈ l,y.2 = .free -> ∃c,cl.lookup y.1 = some c
  | [],cs,_,hs=>#[cs,rfl,hs,λx c h=>#[c,h],λ_ h=>nomatch h]
  | (n,k)::r,cs,hl,hs=>by
    by_cases hk : k = .free
    · subst hk
      obtain⟨c,hc⟩:= hl _ X4 rfl;have nt : ∀x d,((n,c)::cs).lookup x = some d -> env.cells.lookup x = some d:= λx d h=>by
        rw[Z4]at h;cases hx : x==n with| true=>simp_all| false=>rw[hx]at h; exact hs x d h
      obtain⟨cl,e,a,b,d⟩:= jwb env r _ (λy hy=>hl y (lc9 _ hy)) nt;refine#[cl,?_,a,λx c' h=> ?_,λy hy hf=> ?_]
      · rw[List.forIn_cons]
        have q : cellOf env n = pure c:= by unfold cellOf; rw[hc]
        simp only[q];exact e
      · cases hx : x==n with| true=>exact b x c (by rw[Z4,hx])| false=>exact b x c' (by rw[Z4,hx]; exact h)
      · rcases aD hy with z|z
        · simp_all
        · exact d y z hf
    · obtain⟨cl,e,a,b,d⟩:= jwb env r cs (λy hy=>hl y (lc9 _ hy)) hs
      refine#[cl,?_,a,b,λy hy hf=> ?_]
      · rw[List.forIn_cons]
        have q : (k==NameKind.free) = false:= by simpa using hk
        simp only[q];exact e
      · rcases aD hy with z|z
        · subst z
          exact absurd hf hk
        · exact d y z hf
theorem kqy{scope env}(h:∀y∈scope.names,y.2=.free->∃c,env.cells.lookup y.1=some c):
  ∃cl,closureFor scope env=pure cl/\(∀x c,cl.lookup x=some c->env.cells.lookup x=some c)/\∀y∈scope.names,y.2=.free->∃c,cl.lookup y.1=some c:=by
 obtain⟨cl,e,a,_,d⟩:=jwb env scope.names [] h (λx c h=>nomatch h);refine#[cl,?_,a,d];unfold closureFor
 grind
noncomputable def lcX(X:Cx)(scope:Scope)(N:List Str)(cl:List (Str×Addr))(C:Addr)(s0:Shared)(H0:Hp)(fp:List Addr):Cx:=
 {X with N:=N,s₀:=s0,H₀:=H0,env:=compEnvC scope cl C X.env,outer:=X.stack,ex:=fp,fn:=λ_=>false,pn:=[],xe:=λ_ _=>False}
noncomputable def K7(k:Nat)(R:List Nat)(σ:L2.St):L2.St:=List.replicate k none++R.map λj=>(σ[j]?).join
structure LcOk (X:Cx)(scope:Scope)(N:List Str)(k:Nat)(R:List Nat):Prop where
 kind:scope.kind=.function
 nocell:∀y∈scope.names,y.2≠.cell
 names:∀y∈scope.names,y.2=.local->scope.names.lookup y.1=some .local
 caps:∀y∈scope.names,y.2=.free->X.env.kindOf y.1=some .cell\/X.env.kindOf y.1=some .free
 len:N.length=k+R.length
 outs:∀i j x,R[i]?=some j->N[k+i]?=some x->X.N[j]?=some x/\scope.names.lookup x=some .free
noncomputable def QJ(XN:List Str)(sc scope:Scope)(N:List Str)(k:Nat)(R:List Nat):Bool:=
 scope.names.all (λy=>y.2 != .cell)&&scope.names.all (λy=>y.2 != .local||scope.names.lookup y.1==some .local) &&
 scope.names.all (λy=>y.2 != .free||(sc.names.lookup y.1==some .cell||sc.names.lookup y.1==some .free)) &&
 (N.length==k+R.length)&&(R.zip (N.drop k)).all (λp=>XN[p.1]? == some p.2&&scope.names.lookup p.2==some .free)
theorem qqj{X scope N k R}(hk:scope.kind=.function)(h:QJ X.N X.env.scope scope N k R=true):LcOk X scope N k R:=by
 unfold QJ at h;simp only[Bool.and_eq_true,Yx,bne_iff_ne,Bool.or_eq_true,beq_iff_eq]at h;obtain⟨⟨⟨⟨h1,h2⟩,h3⟩,h4⟩,h5⟩:=h;refine#[hk,λy hy=>h1 y hy,λy hy e=>(h2 y hy).resolve_left (λz=>z e),λy hy e=>(h3 y hy).resolve_left (λz=>z e),h4,λi j x e1 e2=>?_];have m:(j,x)∈R.zip (N.drop k):=by
  refine List.mem_of_getElem? (i:=i) ?_;rw[List.getElem?_zip_eq_some]
  simp_all
 exact h5 _ m
theorem jkm {env : Env} {x q}: ∀{names : List (Str × NameKind)},(names.map λ(n,k)=>if(k==NameKind.free&&env.scope.kind == .function&&env.kindOf n==some .cell)then(n,NameKind.cell)else(n,k)).lookup x = some q ->
    (x,q) ∈ names \/ (q = .cell /\ (x,NameKind.free) ∈ names)
  | [],h=>nomatch h
  | (n,k)::r,h=>by
    have h : List.lookup x ((if _ = true then _ else _)::_) = some q:= h
    by_cases hc : (k==NameKind.free&&env.scope.kind == .function&&env.kindOf n==some .cell) = true
    · rw[Xb hc,Z4]at h
      cases hx : x==n with
      | true=>simp_all
      | false=>
        rw[hx]at h;rcases jkm h with z|⟨z,y⟩
        · exact .inl (lc9 _ z)
        · exact .inr #[z,lc9 _ y]
    · rw[Xe hc,Z4]at h
      cases hx : x==n with
      | true=>simp_all
      | false=>
        rw[hx]at h;rcases jkm h with z|⟨z,y⟩
        · exact .inl (lc9 _ z)
        · exact .inr #[z,lc9 _ y]
section
variable {X:Cx}{aa:LA9}{σ:L2.St}{H:Hp}{s:Shared}
theorem wwn{scope N k R cl C}(sc:LcOk X scope N k R)(cw:∀y∈scope.names,y.2=.free->∃c,cl.lookup y.1=some c)
  {x} (h:(compEnvC scope cl C X.env).kindOf x=some .cell\/(compEnvC scope cl C X.env).kindOf x=some .free):∃c,cl.lookup x=some c:=by
 rcases h with h|h
 ·rcases jkm h with z|⟨_,z⟩
  ·exact absurd rfl (sc.nocell _ z)
  ·exact cw _ z rfl
 ·rcases jkm h with z|⟨z,_⟩
  ·exact cw _ z rfl
  ·cases z
theorem wwo{scope N k R cl}{C:Addr}{fp}(I:Inv X aa σ H s)(sc:LcOk X scope N k R)(hf:∀b∈fp,x5 X aa H b)(ho:∀b∈fp,∃o,s.heap.get? b=some o)
  (hC:s.heap.objs.size<=C) (fy:∀x c,cl.lookup x=some c->X.env.cells.lookup x=some c) (cw:∀y∈scope.names,y.2=.free->∃c,cl.lookup y.1=some c):(lcX X scope N cl C s H fp).Ok where
 mod:=I.ok.mod
 kind:=sc.kind
 glob:=I.ok.glob
 blt:=I.ok.blt
 above:=hC
 inj:=λx y c h1 h2=>I.ok.inj x y c (fy _ _ h1) (fy _ _ h2)
 has:=λx h=>wwn sc cw h
 cab:=λx c h=>by cases h
 hd:=I.ok.hd
 frames:=I.ok.frames
 stk:=.inl rfl
 exf:=λb hb=>by
  obtain⟨o,e⟩:=ho b hb;exact#[Xl (Xf (Xd e) hC),λx c h=>(hf b hb).2.2.2.2.1 x c (fy x c h)]
 bs:=λb o e=>I.bs b o e
 bsz:=Xx I.ok.bsz I.sz
 noex:=λb o e hb=>by
  rcases(hf b hb).2.2.2.1 with z|z
  ·exact I.ok.noex b o e z
  ·exact absurd (Xf (Xd e) (Xx I.ok.bsz z)) (Ym _)
 exfs:=λb hb hs=>by
  rcases aD (I.stkSub b hs)with z|z
  ·exact(hf b hb).2.1 z
  ·exact(hf b hb).2.2.1 z
 funs:=I.stack
 frf:=I.stkFree
theorem wqd(I:Inv X aa σ H s){a:Addr}(h:s.heap.objs.size<=a):a∉frs X.stack:=λz=>by
 rcases aD (I.stkSub a z)with e|e
 ·subst e;exact absurd (Xf I.lt h) (Ym _)
 ·exact I.nofs h e
theorem wjb {scope N k R cl} {C D:Addr} {fp h1 t m oD} (I:Inv X aa σ H s) (sc:LcOk X scope N k R)
  (hf:∀ b∈fp,x5 X aa H b) (ho:∀b∈fp,∃o,s.heap.get? b=some o)
  (hC:s.heap.objs.size<=C) (hD:s.heap.objs.size<=D) (t6:D≠C) (fy:∀x c,cl.lookup x=some c->X.env.cells.lookup x=some c) (cw:∀y∈scope.names,y.2=.free->∃c,cl.lookup y.1=some c)
  (i8:∀ b o,s.heap.get? b=some o->h1.get? b=some o) (hn:h1.Ns C m) (eD:h1.get? D=some oD) (dD:∀v,oD.data≠.cell v):
  Inv (lcX X scope N cl C s H fp) [(D,oD)] (K7 k R σ) H {s with heap:=h1,toks:=t} where
 ok:=wwo I sc hf ho hC fy cw
 os:=rfl
 bare:=I.bare
 base:=Un.kept i8
 loc:=#[m,hn,λi x v e1 e2 vis=>by
  obtain⟨mX,hnX,hl⟩:=I.loc;unfold K7 at e2
  by_cases hi:i<k
  ·rw [Yh (by simp_all),List.getElem?_replicate,Xb hi]at e2
   grind
  ·have hk:k<=i:=Nat.le_of_not_lt hi;rw [List.getElem?_append_right (Z1▸hk),Z1,Xq]at e2;cases er:R[i - k]? with
   | none=>simp_all
   | some j=>
    rw [er]at e2;have ej:(σ[j]?).join=some v:=by simpa using e2
    have ej':σ[j]?=some (some v):=by
     cases q:σ[j]? with| none=>rw[q]at ej;cases ej| some z=>simp_all
    obtain⟨o1,o2⟩:=sc.outs _ j x er (by rw[show k+(i - k)=i by lia];exact e1);have cap:=sc.caps (x,.free) (Yp o2) rfl;have visX:Vis X.env.scope x:=cap.elim (λz=>.inr (.inl z)) λz=>.inr (.inr z)
    obtain⟨u,ru,q⟩:=hl j x v o1 ej' visX;refine#[u,ru,?_];rcases q with⟨q,_⟩|⟨_,c,ec,hc⟩
    ·simp_all
    ·obtain⟨c',ec'⟩:=cw (x,.free) (Yp o2) rfl;have e:=oq9 ((fy x c' ec').symm.trans ec);subst e;refine .inr #[?_,c',ec',?_]
     ·rcases vis with z|z|z
      ·rcases jkm (env:=X.env) (names:=scope.names) z with y|⟨y,_⟩
       ·have y':=sc.names _ y rfl
        grind
       ·cases y
      ·exact .inl z
      ·exact .inr z
     ·obtain⟨o,h1,h2⟩:=hc;exact#[o,i8 _ _ h1,h2]]
 cell:=λx c h=>by
  obtain⟨v,o,h1,h2⟩:=I.cell x c (fy x c h);exact#[v,o,i8 _ _ h1,h2]
 free:=I.hok.fresh hC
 freeC:=λx c h=>I.freeC x c (fy x c h)
 pin:=λp hp=>by
  have e:p=(D,oD):=by
   have hp:p∈([]++[(D,oD)]:LA9):=hp
   simpa using hp
  subst e;exact#[eD,I.hok.fresh hD,t6,wqd I hD,dD]
 hok:=I.hok.kept i8
 len:=by
  show(K7 k R σ).length=N.length;unfold K7;rw[sc.len,Xi,Z1,X3]
theorem jxq{a o}(I:Inv X aa σ H s)(hn:H a=none)(hL:a≠X.env.locals)(h1:a∈X.ex\/X.s₀.heap.objs.size<=a)(h2:∀x c,X.env.cells.lookup x=some c->c≠a)(h3:∀p∈X.pn++aa,p.1≠a)
  (new:ObjOk X.prog X.w (upd H a o) s.heap a o):Inv X aa σ (upd H a o) s:=by
 have hok:HOk X.prog X.w (upd H a o) s.heap:=λb u e=>by
  by_cases hb:b=a
  ·subst hb;rw[vx]at e;cases e;exact new
  ·rw[k6 hb]at e;exact(I.hok b u e).stay (λ_ _ _ q=>q) (λc q=>by rw[k6 (xK q hn)];exact q) λc xs q=>by rw[k6 (xK q hn)];exact q
 have na:∀b,b∉[a]->b≠a:=λb hb z=>hb (z▸aB rfl)
 exact I.step (h':=s.heap) (H':=upd H a o) (g':=s.gens) (t':=s.toks) (d':=s.drawn)
  (λb hb=>by rw[aC hb];exact#[h1.imp id λz=>Yf z,hL,h2,h3]) (λb o _ _ _ e _=>e) (λb o _ _ _ e _=>#[o.slots,e]) (λb o hb _ q=>by rw[k6 (na b hb)];exact q)
  (λb o _ e=>#[o,e]) (λb xs q=>by rw[k6 (xK q hn)];exact q) (λb o u q=>by rw[k6 (xK q hn)];exact q) (λb ps q=>#[(List.toArray []),by rw[k6 (xK q hn),q];simp])
  (λm hm=>hm) hok I.bare
end
noncomputable def PTs(X:Cx)(gh:List Expr)(t:TT):Prop:=
 ∀(aa:LA9) (s:Shared) (σ:L2.St) (H:Hp) (Q:Bool->Hp->Prop),Inv X aa σ H s->t σ H Q->wpAny (model X.prog X.w) X.A (qzc gh X.env) (TP X aa σ Q) X.xe s
abbrev tYes:TT:=λ_ H Q=>Q true H
theorem vzf{X}:PTs X [] tYes:=λ_ _ _ H _ I h=>wpAny_tests_nil #[H,I,h]
theorem vze{X c t}(hc:PT X c t):PTs X [c] t:=λaa s σ H Q I h=>wpAny_tests_one (hc aa s σ H Q I h)
noncomputable def LcW(g:TG)(tt:TT)(te:TE)(Q:VK)(J:It)(W:Nat->Nat->List V->L2.St->Hp->Prop):Prop:=∀i m ys σ H,W i m ys σ H ->
 (J.stop i H/\ys.length<=sizeLine/\∀p,H p=none->Q (.ref p) (upd H p (.lst ys))) \/
 (J.go i H/\∀x H1,J.yld i H x H1->g x σ H1 fun σ2 H2=>∃(Ny:VK) (Nn:Hp->Prop),(∀y H4,Ny y H4->ys.length<=sizeLine/\∃m',m'<m/\W (i+1) m' (ys++[y]) σ2 H4) /\
  (∀H4,Nn H4->∃m',m'<m/\W (i+1) m' ys σ2 H4)/\tt σ2 H2 λb H3=>if b=true then te σ2 H3 Ny else Nn H3)
abbrev tLC(wi:TI)(g:TG)(tt:TT)(te:TE)(k:Nat)(R:List Nat):TE:=fun σ H Q=>wi σ H λJ H1=>
 ∃W:Nat->Nat->List V->L2.St->Hp->Prop,(∃m,W 0 m [] (K7 k R σ) H1)/\LcW g tt te Q J W
abbrev Zx(aj:List Value)(n:Nat):Obj:={cls:=.type "list",data:=.seq aj.toArray n}
section
variable {X:Cx}
theorem op_mulI:OpR X (binaryOp .Mult) (rI IntMulOk λi j=>.int (i*j)):=opI λ_ _ _ _ _ _ _ hc q=>mul_int q hc
def wz7(_i j:Int):Prop:=0<j/\j.natAbs.log2<9000
theorem vqo:OpR X (binaryOp .FloorDiv) (rI wz7 λi j=>.int (i / j)):=opI λi j _ _ _ _ _ hc q=>by
 have h1:=hc.1;exact floordiv_int ⋯ (by rw[Int.fdiv_eq_ediv_of_nonneg i ⋯];exact q) (.inl (PyProof.noPylong_of_log2 hc.2))
noncomputable def kinds:List String:=["NoneType","bool","int","str","list","tuple","dict"]
def wwz(T U:String):Bool:=T==U||(T == "bool" && U == "int")
theorem qjr{K T U}(hT:T∈kinds)(hU:U∈kinds.tail):kitOne K (.type T) (.type U)=some (wwz T U):=by
 simp only[kinds,List.tail_cons,Xz,Xm,or_false]at hT hU;rcases hT with rfl|rfl|rfl|rfl|rfl|rfl|rfl<;>rcases hU with rfl|rfl|rfl|rfl|rfl|rfl<;>ac_rfl
noncomputable def xqp(K:Frag):List V->Hp->VK->Prop:=λxs H Q=>∃x T U,xs=[x,.ty U]/\TyOf K H x (.type T)/\T∈kinds/\U∈kinds.tail/\Q (.bl (wwz T U)) H
theorem vvk:CallR X (.builtin "isinstance") (xqp X.K):=by
 rintro aa s σ H xs us Q I r ⟨x,T,U,rfl,ty,hT,hU,q⟩;obtain⟨u,w',rfl,r1,r2⟩:=qv5 r;cases(r2);exact qzr I r1 ty (qjr hT hU) λtk=>#[.bl _,H,I.tok _,rfl,q]
theorem vx7:∀{bs:List Bool} {aj} {i:Nat} {v},Vals (bs.map V.bl) aj->aj[i]?=some v->∃b,bs[i]?=some b/\v=.bool b
 |[],_,_,_,.nil,e=>by simp_all
 |b::bs,_,0,v,.cons r _,e=>by
  simp at e;subst e;exact#[b,rfl,r]
 |b::bs,_,i+1,v,.cons _ t,e=>by
  obtain⟨b',e1,e2⟩:=vx7 t (by simpa using e);exact#[b',by simpa using e1,e2]
theorem kxf(bs:List Bool):((List.range bs.length).all λi=>(bs[i]?).getD true)=bs.all id:=by
 rw[Bool.eq_iff_iff,Yx,Yx];constructor
 ·intro h b hb;obtain⟨i,hi,e⟩:=List.getElem_of_mem hb;have:=h i (List.mem_range.mpr hi);rw[X1 hi,e]at this;exact this
 ·intro h i hi;have ly:=List.mem_range.mp hi;rw[X1 ly];exact h _ (Y0 ly)
noncomputable def xjg(K:Frag):List V->Hp->VK->Prop:=λxs H Q=>∃(p:Addr) (bs:List Bool),xs=[.ref p]/\SqL K H p (bs.map V.bl)/\Q (.bl (bs.all id)) H
theorem vvm(hc:X.calm=true):CallR X (.builtin "all") (xjg X.K):=by
 rintro aa s σ H xs us Q I r ⟨p,bs,rfl,hq,q⟩;obtain⟨u,rfl,ru⟩:=J7 r;cases ru;obtain⟨aj,rv,pl,hz⟩:=I.list hq;have hl:=pl.isList;have cj:p<s.heap.objs.size:=by obtain⟨_,e,_⟩:=hl;exact Xd e
 have av:bs.length=aj.length:=by rw[<-rv.length,X3]
 refine call_all_walk (wpAny_pyIter_list hl ?_);refine#[s.heap.objs.size,[s.heap.objs.size,p],[s.heap.objs.size],aj.toArray.size,_,_,λi=>(bs[i]?).getD true,rfl,Walks.list (A:=X.A.in1) (I.ok.hd hc) _ p (Xl cj) aj.toArray,
  #[#[_,Xa _ rfl,rfl,rfl],hl.push _],λi v s' Q' E' hP hQ=>?_,λh' tk hk=>?_]
 ·obtain⟨b,e,rfl⟩:=vx7 rv (by simpa using hP);simp only[e]at hQ;exact wpAny_truthy_bool hQ
 ·have e:((List.range aj.toArray.size).all λi=>(bs[i]?).getD true)=bs.all id:=by
   rw[X6,<-av];exact kxf bs
  rw[e];refine#[.bl _,H,I.kept (t':=tk) (h':=h') λb o e=>hk b o (λz=>?_) (X2 _ e),rfl,q];exact absurd (Xd e) (aC z▸Ym _)
noncomputable def Its(x:Str):It:=#[λi _=>i<x.cps.size,λi H v H'=>H'=H/\∃c,x.cps[i]?=some c/\v=.str #[(List.toArray [c])],λi _=>i=x.cps.size]
theorem qkn{P w K tg x t it}{ty}
  (W:∀A',A'.handled=none->Walks P w A' it [it] [it] x.cps.size (SignAt x) (λi h=>h.IsStrIter it ty x t i))
  (we:∀A (i) (s) (Q) (E),s.heap.IsStrIter it ty x t i->Q (.ref it) s->wpAny (model P w) A (pyIter (.ref it)) Q E s)
  (ol:["enumerate","zip","dict_itemiterator","dict_reverseitemiterator","odict_iterator","itertools.zip_longest","itertools.pairwise"].contains ty=false):
  Turn P w K tg (Its x) [it] it (λi h=>h.IsStrIter it ty x t i) where
 mem:=by simp
 obj:=λi h st b hb=>by
  have e:b=it:=by simpa using hb
  obtain⟨o,e,c,d⟩:=st
  simp_all
 keep:=λi h h' st k=>by
  obtain⟨o,e,r⟩:=st;exact#[o,k it (by simp) o e,r]
 item:=by
  intro X hP hw hK hc i aa s σ H E I hf st hg;subst hP hw hK;obtain⟨f0,f1,f2,f3,f4,f5⟩:=hf it (by simp);refine(W X.A (I.ok.hd hc)).item i s _ _ hg st λv h' tk hv fm kk=>?_
  obtain⟨c,u,bp,rfl⟩:=hv;have I1:Inv X aa σ H {s with heap:=h',toks:=tk}:=I.turned (λb o hb e=>kk b o (by simpa using hb) e) f0 f1 f3 f4 f5;obtain⟨o,e,c1,d⟩:=id fm;exact#[_,rfl,vv4 e c1 d ol #[.str #[(List.toArray [c])],H,I1,#[u,rfl],#[rfl,c,bp,rfl],fm,λb hb=>(hf b hb).1]]
 done:=by
  intro X hP hw hK hc i aa s σ H E I hf st hg;subst hP hw hK;obtain⟨f0,f1,f2,f3,f4,f5⟩:=hf it (by simp);subst hg;exact(W X.A (I.ok.hd hc)).done s _ _ st λh' tk kk=>#[rfl,I.turned (λb o hb e=>kk b o (by simpa using hb) e) f0 f1 f3 f4 f5]
 self:=λA i s Q E st hQ=>we A i s Q E st hQ
noncomputable def xqi:V->Option Int->Option Int->Hp->VK->Prop:=λx lo hi H Q=>∃z,x=.str z/\z.length<=sizeLine/\Q (.str (Txt.slice z lo hi)) H
theorem wqh:SlR X xqi:=by
 rintro aa s σ H x v vl vu lo hi sl Q I rx hs pl pu ⟨z,rfl,hz,q⟩;obtain⟨t,rfl⟩:=rx;refine#["str",_,F.slot_str_getitem.lookup,typeIs_str _ _ _,?_];have fin:∀t' k,EP X aa σ Q _ {s with toks:=k}:=λt' k=>#[.str _,H,I.tok k,#[t',rfl],q]
 have gy:(Txt.slice z lo hi).length<=sizeLine:=Xx (Txt.slice_le z _ _) hz;cases pl with
 |none=>cases pu with|none=>exact wpAny_getItem_str_slice (l:=none) (u:=none) (st:=none) hs rfl (post_val_or_str #[gy,fin])|int j tj=>exact wpAny_getItem_str_slice (l:=none) (u:=some (j,tj)) (st:=none) hs rfl (post_val_or_str #[gy,fin])
 |int i ti=>cases pu with|none=>exact wpAny_getItem_str_slice (l:=some (i,ti)) (u:=none) (st:=none) hs rfl (post_val_or_str #[gy,fin])|int j tj=>exact wpAny_getItem_str_slice (l:=some (i,ti)) (u:=some (j,tj)) (st:=none) hs rfl (post_val_or_str #[gy,fin])
noncomputable def wqr:R2:=λx y H Q=>∃z n,x=.str z/\y=.int n/\(z.length<=1024/\n<=1024/\-1024<=n)/\Q (.str (Txt.mul z n)) H
theorem wj2:OpR X (binaryOp .Mult) wqr:=by
 rintro aa s σ H x y v u Q I rx ry ⟨z,n,rfl,rfl,⟨h1,h2,h3⟩,q⟩;obtain⟨t,rfl⟩:=rx;obtain⟨t',rfl⟩:=ry;exact SB.mul (mulOk_of 1024 1024 h1 h2 ⋯ (by simp) (by simp)) λt' k=>#[.str _,H,I.tok k,#[t',rfl],q]
theorem qkr:∀{ys aj},Vals (ys.map V.str) aj->StrsAre aj ys
 |[],_,.nil=>.nil|_::_,_,.cons #[t,e] r=>by subst e;exact .cons _ t (qkr r)
noncomputable def xje(K:Frag):V->List V->Hp->VK->Prop:=λx vs H Q=>∃z p ys,x=.str z/\vs=[.ref p]/\SqL K H p (ys.map V.str)/\(ys.map (·.length)).sum+ys.length*z.length<=16777216/\Q (.str (Txt.join z ys)) H
theorem wj9:MtR X "str.join" (xje X.K):=by
 rintro aa s σ H x xs v us Q I rx rv ⟨z,p,ys,rfl,rfl,hq,hok,q⟩;obtain⟨t,rfl⟩:=rx;obtain⟨u,rfl,ru⟩:=rv.one;cases ru;obtain⟨aj,rs,pl,hz⟩:=I.list hq;exact join_list pl.isList (qkr rs) hok λt' k=>#[.str _,H,I.tok k,#[t',rfl],q]
noncomputable def vwa(K:Frag):V->Option Int->Option Int->Hp->VK->Prop:=λx lo hi H Q=>xqj K x lo hi H Q\/xqh K x lo hi H Q\/xqi x lo hi H Q
theorem xj6 K (hK:autoParam (X.K=K) Ŕ):SlR X (vwa K):=by subst hK;exact sl_list.or (sl_tup.or wqh)
noncomputable def qx0(K:Frag):List V->Hp->VK->Prop:=λxs H Q=>(∃p ys,xs=[.ref p]/\(SqL K H p ys\/SqT K H p ys)/\Q (.int ys.length) H)\/(∃z,xs=[.str z]/\z.length<=sizeLine/\Q (.int z.length) H)\/(∃a kvs,xs=[V.ref a]/\H a=some (.dK kvs)/\Q (.int kvs.length) H)
theorem wk2 K (hK:autoParam (X.K=K) Ŕ):CallR X (.builtin "len") (qx0 K):=by subst hK;exact call_len_seq.or (call_len_str.or vjp)
theorem vjt:CallR X (.type "int") (λxs H Q=>(∃i,xs=[.int i]/\Q (.int i) H)\/∃k,xs=[.bl k]/\Q (.int (if k then 1 else 0)) H):=vjr
theorem wk3 K (hK:autoParam (X.K=K) Ŕ)(hc:autoParam (X.calm=true) Ŕ):CallR X (.builtin "all") (xjg K):=by subst hK;exact vvm hc
theorem qxr(K){o e es T name id r to t}{apos ak}
  (pa:PlainAttrs T) (slot:Slot T name id) (ol:typeOf (.builtin id)=pure (.type "method_descriptor")) (hm:MtR X id r) (ho:PE X o to) (ha:PA X (e::es) t)
  (bc:autoParam (attributeBase o name X.env (eval o X.env)=eval o X.env) Ŕ)
  (gf:autoParam (((backTo ak (starEach (e::es) X.env)).all (λx=>!x.1)&&(backToKw ak (keywordEach [] X.env)).all (λx=>x.1.isSome)
   && decide ((e::es).length+([]:List Keyword).length+(if([]:List Keyword).isEmpty then 0 else 1)<30))=true) Ŕ)
  (be:autoParam (Abe apos ak) Ŕ) (hs:autoParam (Abs e es X) Ŕ) (bo:autoParam (Abb ak es X) Ŕ) (hK:autoParam (X.K=K) Ŕ):
  PE X (.Call (.Attribute o name apos) (e::es) [] ak) (tBM K T r to t):=by subst hK;exact ww0 pa slot ol hm ho ha bc gf be hs bo
theorem qv0:bootBuiltins "len"=some (.builtin "len"):=by decide +kernel
theorem jxy:bootBuiltins "isinstance"=some (.builtin "isinstance"):=by decide +kernel
theorem wxs:bootBuiltins "all"=some (.builtin "all"):=by decide +kernel
theorem kv4:bootBuiltins "int"=some (.type "int"):=by decide +kernel
theorem wxr:bootBuiltins "str"=some (.type "str"):=by decide +kernel
theorem kws:bootBuiltins "bool"=some (.type "bool"):=by decide +kernel
theorem JW:bootBuiltins "list"=some (.type "list"):=by decide +kernel
theorem kjg:bootBuiltins "tuple"=some (.type "tuple"):=by decide +kernel
theorem wk7:bootBuiltins "dict"=some (.type "dict"):=by decide +kernel
theorem wxq:bootBuiltins "zip"=some (.type "zip"):=by decide +kernel
end
noncomputable def Cst(mg:Str->Option Value)(x:Str)(v:V):Prop:=∃u,mg x=some u/\RelV v u
section
variable {X:Cx}{x:Str}{p pos:Pos}{e:Expr}{es:List Expr}{t:TA}{ps:List Str}{sp:Sp}{k:Nat}{v:V}
theorem KZ(c:Cst X.mg x v)(hg:autoParam (Gl X x) Ŕ)(hd:autoParam (Abd x) ŕ):PE X (.Name x pos) (tC v):=by
 obtain⟨u,m,r⟩:=c;exact qxo hg m r hd
end
theorem qv1:∀{ns:List Int} {m},PySem.W.WData.weightAll (ns.map PySem.W.WData.int)<=m->∀n∈ns,Builtin.Int.intBits n<=m
 | [],_,_,_,h=>nomatch h
 | a::r,m,h,n,hn=>by
  have h':(if a==0 then 0 else a.natAbs.log2+1)+1+PySem.W.WData.weightAll _<=m:=h;rcases aD hn with z|z
  ·subst z;have e:Builtin.Int.intBits n=(if n==0 then 0 else n.natAbs.log2+1):=rfl
   grind
  ·exact qv1 ⋯ n z
theorem qka{ns:List Int}(h:PySem.W.WData.layableAll [PySem.W.WData.list (ns.map PySem.W.WData.int)]=true):∀n∈ns,Builtin.Int.intBits n<=1048576:=by
 have h1:=(PySem.W.layW_cons h).1;unfold PySem.W.WData.layable at h1;simp at h1;have h2:PySem.W.WData.weightAll _<=2 ^ 20:=h1.2;exact qv1 (by simpa using h2)
section
variable {X:Cx}
noncomputable def qwz(K:Frag):List V->Hp->VK->Prop:=λxs H Q=>∃p ys,xs=[.ref p]/\(SqL K H p ys\/SqT K H p ys)/\∀l,H l=none->Q (.ref l) (upd H l (.lst ys))
theorem Zz K (hK:autoParam (X.K=K) Ŕ):CallR X (.type "list") (qwz K):=by subst hK;exact kzi
theorem qje(K){o T name id r to}{apos ak}
  (pa:PlainAttrs T) (slot:Slot T name id) (ol:typeOf (.builtin id)=pure (.type "method_descriptor")) (hm:MtR X id r) (ho:PE X o to)
  (bc:autoParam (attributeBase o name X.env (eval o X.env)=eval o X.env) Ŕ) (be:autoParam (Abe apos ak) Ŕ) (hK:autoParam (X.K=K) Ŕ):
  PE X (.Call (.Attribute o name apos) [] [] ak) (xqe K T r to):=by subst hK;exact wvz pa slot ol hm ho bc be
end
section
variable {X:Cx}{aa:LA9}{σ:L2.St}{H:Hp}{s:Shared}
theorem ZW{t' h'}(fp:List Addr)(I:Inv X aa σ H s)(k:∀b o,b∉fp->s.heap.get? b=some o->h'.get? b=some o)(hf:∀b∈fp,x5 X aa H b):Inv X aa σ H {s with heap:=h',toks:=t' }:=by
 have xi:∀b u,H b=some u->b∉fp:=λb u e z=>by rw[(hf b z).1]at e;cases e
 refine I.step (g':=s.gens) (d':=s.drawn) (λb hb=>?_) (λb o _ _ hc e _=>k b o hc e) (λb o _ _ hc e _=>#[o.slots,k b o hc e]) (λ_ _ _ _ n=>n)
  (λb o hc e=>#[o,k b o hc e]) (λ_ _ e=>e) (λ_ _ _ e=>e) (λb ps e=>#[(List.toArray []),by rw[e];simp]) (λm hm=>?_) (λb u e=>?_) I.bare
 ·obtain⟨_,f1,_,f3,f4,f5⟩:=hf b hb;exact#[f3.imp id λz=>Yf z,f1,f4,f5]
 ·obtain⟨o,es,ep,ho,r⟩:=hm;exact#[o,es,ep,k _ o (λz=>(hf _ z).2.1 rfl) ho,r]
 ·refine(I.hok b u e).stay (λc v hc q=>k c v ?_ q) (λ_ q=>q) λ_ _ q=>q
  rcases hc with z|z
  ·rw[z];exact xi b u e
  ·exact xi c _ z
end
noncomputable def Itz(K:Frag)(l1 l2:Addr):It:=#[λi H=>∃xs ys x y,SqL K H l1 xs/\SqL K H l2 ys/\xs[i]?=some x/\ys[i]?=some y,
 λi H v H'=>∃T x y,H T=none/\v=.ref T/\H'=upd H T (.tup [x,y])/\(∀xs,SqL K H l1 xs->xs[i]?=some x)/\∀ys,SqL K H l2 ys->ys[i]?=some y,
 λi H=>∃xs ys,SqL K H l1 xs/\SqL K H l2 ys/\(xs.length<=i\/ys.length<=i)]
abbrev znt(z TI TO i1 i2 l1 l2:Addr)(i:Nat)(h:Heap):Prop:=IsZip h z TI TO .none/\IsPair h TI (.ref i1) (.ref i2)/\(∃a b,IsPair h TO a b)/\h.IsListIter i1 l1 i/\h.IsListIter i2 l2 i
theorem vkh{P w K c9 k1 pos z TI TO i1 i2 l1 l2}(ap:ZipApart z TI TO i1 i2 l1 l2):
  Turn P w K (.Tuple c9 k1 pos) (Itz K l1 l2) [z,TI,TO,i1,i2] z (znt z TI TO i1 i2 l1 l2) where
 mem:=by simp
 obj:=λi h st b hb=>by
  obtain⟨h1,h2,⟨a,c,h3⟩,⟨o4,e4,c4,d4⟩,o5,e5,c5,d5⟩:=st;simp at hb;rcases hb with rfl|rfl|rfl|rfl|rfl
  ·exact#[_,h1,λv z=>by cases z]
  ·exact#[_,h2,λv z=>by cases z]
  ·exact#[_,h3,λv z=>by cases z]
  ·exact#[_,e4,λv z=>by rw[d4]at z;cases z]
  ·exact#[_,e5,λv z=>by rw[d5]at z;cases z]
 keep:=λi h h' st k=>by
  obtain⟨h1,h2,⟨a,c,h3⟩,⟨o4,e4,c4,d4⟩,o5,e5,c5,d5⟩:=st;exact#[k _ (by simp) _ h1,k _ (by simp) _ h2,#[a,c,k _ (by simp) _ h3],#[o4,k _ (by simp) _ e4,c4,d4],o5,k _ (by simp) _ e5,c5,d5]
 item:=by
  intro X hP hw hK hc i aa s σ H E I hf st hg;subst hP hw hK;obtain⟨xs,ys,x,y,q1,q2,hx,hy⟩:=hg;obtain⟨dk,jy,p1,oj⟩:=I.list q1;obtain⟨u1,qu,xb⟩:=jy.get hx;obtain⟨dm,qf,p2,qe⟩:=I.list q2;obtain⟨u2,hu2,ru2⟩:=qf.get hy;obtain⟨t1,t2,⟨a,b,t3⟩,t4,t5⟩:=st;refine wpAny_pyNext_zip_item ap t1 t2 t3 t4 t5 p1.isList p2.isList (x:=u1) (y:=u2) (by simpa using qu) (by simpa using hu2) λh1 g1 g3 g4 g5 gT gs gk=>(#[_,rfl,wpAny_letOwnedTupleGo_zip (s:={s with heap:=h1}) g1 λh2 f1 sb=>?_])
  have fT:=I.fpOk (X8 _) (I.hok.fresh (X8 _));have nT:∀b∈[z,TI,TO,i1,i2],b≠s.heap.objs.size:=λb hb e=>by
   obtain⟨o,eo,_⟩:∃o,s.heap.get? b=some o/\True:=by
    simp at hb;obtain⟨o4,e4,_⟩:=t4;obtain⟨o5,e5,_⟩:=t5;rcases hb with rfl|rfl|rfl|rfl|rfl
    ·exact#[_,t1,trivial]
    ·exact#[_,t2,trivial]
    ·exact#[_,t3,trivial]
    ·exact#[_,e4,trivial]
    ·exact#[_,e5,trivial]
   exact absurd (Xd eo) (e▸Ym _)
  have kk:∀b o,b∉[z,TO,i1,i2]->s.heap.get? b=some o->h2.get? b=some o:=λb o hb e=>by
   simp at hb;exact(sb.2 b hb.1).trans (gk b o hb.1 hb.2.1 hb.2.2.1 hb.2.2.2 e)
  have I1:Inv X aa σ H {s with heap:=h2,toks:=s.toks}:=ZW [z,TO,i1,i2] I kk λb hb=>hf b (by
   simp at hb ⊢;rcases hb with h|h|h|h<;>simp[h])
  have nz:s.heap.objs.size≠z:=λe=>nT z (by simp) e.symm
  have I2:=jxq (a:=s.heap.objs.size) (o:=.tup [x,y]) I1 fT.1 fT.2.1 fT.2.2.2.1 fT.2.2.2.2.1 fT.2.2.2.2.2
   (show ObjOk X.prog X.w _ h2 _ (.tup [x,y])from#[by show(2:Nat)<=sizeLine;decide,[u1,u2],.cons xb (.cons ru2 .nil),#[_,(sb.2 _ nz).trans gT,rfl,rfl,0,rfl]])
  exact#[.ref s.heap.objs.size,_,I2,rfl,#[_,x,y,fT.1,rfl,rfl,λzs js=>by rw[I.list_inj js q1];exact hx,λzs js=>by rw[I.list_inj js q2];exact hy],(#[f1,((sb.2 _ ap.TIz).trans (gk _ _ ap.TIz ap.TITO ap.TIi1 ap.TIi2 t2)),#[u1,u2,(sb.2 _ ap.TOz).trans g3],g4.at λo e=>(sb.2 _ ap.i1z).trans e,g5.at λo e=>(sb.2 _ ap.i2z).trans e]),λb hb=>by rw[k6 (nT b hb)];exact(hf b hb).1]
 done:=by
  intro X hP hw hK hc i aa s σ H E I hf st hg;subst hP hw hK;obtain⟨xs,ys,q1,q2,hx⟩:=hg;obtain⟨dk,jy,p1,oj⟩:=I.list q1;obtain⟨dm,qf,p2,qe⟩:=I.list q2;obtain⟨t1,t2,⟨a,b,t3⟩,t4,t5⟩:=st;have fj:=jy.length;have mo:=qf.length;refine wpAny_pyNext_zip_end (I.ok.hd hc) ap t1 t2 t3 t4 t5 p1.isList p2.isList (hx.imp (λh=>by simp;lia) λh=>by simp;lia) λh' kk=>#[rfl,?_]
  refine ZW (t':=s.toks) [z,TO,i1,i2] I (λb o hb e=>?_) λb hb=>hf b (by
   simp only[Xz,Xm,or_false]at hb ⊢;rcases hb with h|h|h|h<;>simp[h])
  simp only[Xz,Xm,or_false,not_or]at hb;exact kk b o hb.1 hb.2.1 hb.2.2.1 hb.2.2.2 e
 self:=λ_ _ _ _ _ st h=>wpAny_pyIter_zip st.1 h
section
variable {X:Cx}
noncomputable def qx1:List V->Hp->VK->Prop:=λxs H Q=>(∃i,xs=[.int i]/\Q (.int i) H)\/(∃k,xs=[.bl k]/\Q (.int (if k then 1 else 0)) H)\/∃(x:Str) (n:Int),xs=[.str x]/\PySem.intText? x=some n/\x.length<=640/\Q (.int n) H
theorem jwc:CallR X (.type "int") qx1:=by
 intro aa s σ H xs us Q I r h;rcases h with h|h|⟨x,n,rfl,hx,hl,q⟩
 ·exact vjt aa s σ H xs us Q I r (.inl h)
 ·exact vjt aa s σ H xs us Q I r (.inr h)
 ·obtain⟨u,rfl,t,rfl⟩:=J7 r;exact PySem.W.KIN.call_text hx hl #[.int n,H,I.tok _,#[_,rfl],q]
end
end L3
namespace L2
open PySem PySem.Spec PyProof.Rows
section
variable {P:Program}{w:World}{H H':Hp}{h h':Heap}{a:Addr}{o:HO}
theorem ObjOk.obj(x:ObjOk P w H h a o):∃u,h.get? a=some u:=by
 cases o with|lst xs=>obtain⟨_,_,_,_,e⟩:=x;exact#[_,e]|tup xs=>obtain⟨_,_,_,p⟩:=x;obtain⟨u,e,_⟩:=p;exact#[u,e]|dK kvs=>obtain⟨_,_,_,_,o,_,_,e,_⟩:=x;exact#[_,e]|dT kvs=>obtain⟨_,_,_,_,o,_,_,e,_⟩:=x;exact#[_,e]|set S n=>obtain⟨o,_,_,_,e,_⟩:=x;exact#[_,e]|ins C dx fs=>obtain⟨_,_,_,e,_⟩:=x;exact#[_,e]|own y=>obtain⟨_,e⟩:=x;exact#[_,e]|xd fs=>obtain⟨_,⟨_,_,_,e,_⟩,_⟩:=x;exact#[_,e]|rng lo hi=>obtain⟨_,_,_,e⟩:=x;exact#[_,e]|frz ob u=>obtain⟨e,_⟩:=x;exact#[_,e]|tbl ps=>exact#[_,x]|met f y=>exact#[_,x]|ext φ=>obtain⟨_,⟨_,e⟩,_⟩:=x;exact#[_,e]
end
end L2
namespace L3
open PySem PySem.Spec PyProof.Rows L2
theorem kk2{e env env0}(h:env.frame=env0.frame):noteFrame e env=noteFrame e env0:=by
 unfold noteFrame PySem.frameOf;rw[h]
structure Fl0 (h:Heap)(x:Addr)(C:Value)(vs:Array Value):Prop where
 ob:h.get? x=some {cls:=C,data:=.fields vs}
 sz:1<vs.size
structure FlT (h:Heap)(x T:Addr)(C:Value)(fl:Value):Prop where
 ex:∃vs,h.get? x=some {cls:=C,data:=.fields vs}/\vs[1]?=some (.ref T)
 tb:∃oT ts,h.get? T=some oT/\oT.data=.fields ts/\ts[3]?=some fl
 ne:T≠x
structure Chg (fs ch:List Addr)(h h':Heap):Prop where
 keep:∀b o,h.get? b=some o->b∉fs->b∉ch->h'.get? b=some o
 slot:∀b o,h.get? b=some o->b∉ch->∃sl,h'.get? b=some {cls:=o.cls,dict:=o.dict,data:=o.data,slots:=sl}
 size:h.objs.size<=h'.objs.size
theorem Chg.trans{fs ch ch' h h1 h2}(a:Chg fs ch h h1)(b:Chg fs ch' h1 h2)(hc:∀x∈ch',x∈ch\/h.get? x=none):Chg fs ch h h2 where
 keep:=λx o e h1 h2=>b.keep x o (a.keep x o e h1 h2) h1 λz=>(hc x z).elim h2 λq=>by rw[q]at e;cases e
 slot:=λx o e hn=>by
  obtain⟨sl,e1⟩:=a.slot x o e hn;obtain⟨ou,e2⟩:=b.slot x _ e1 λz=>(hc x z).elim hn λq=>by rw[q]at e;cases e
  exact#[ou,e2]
 size:=Xx a.size b.size
theorem Chg.mono{fs ch ch' h h1}(a:Chg fs ch h h1)(hc:∀x∈ch,x∈ch'):Chg fs ch' h h1:=#[λb o e h1 h2=>a.keep b o e h1 λz=>h2 (hc b z),λb o e h2=>a.slot b o e λz=>h2 (hc b z),a.size]
theorem Chg.of_upd{fs h a f}: Chg fs [a] h (h.update a f):=
  #[λb o e _ hn=>by rw[Yv _ _ _ _ (λz=>hn (aB z))]; exact e,
   λb o e hn=>#[o.slots,by rw[Yv _ _ _ _ (λz=>hn (aB z))]; exact e],by rw[Heap.size_update]; exact X8 _]
theorem Chg.of_push{fs h o}:Chg fs [] h (h.push o):=
 #[λb o e _ _=>X2 _ e,λb o e _=>#[o.slots,X2 _ e],by rw[Yy];lia]
theorem Chg.of_slots{fs h h'}(s:Heap.SlotsOnly fs h h'):Chg fs [] h h':=
 #[λb o e hn _=>(s.2.1 b hn).trans e,λb o e _=>s.2.2 b o e,by rw[s.1];exact X8 _]
theorem Chg.refl{fs ch h}:Chg fs ch h h:=#[λ_ _ e _ _=>e,λb o e _=>#[o.slots,e],X8 _]
section
variable {M:Model}{A:Around}{E:VP9}{s:Shared}{base:Heap}{env:Env}{outer:List Env}{L x T:Addr}{C fl:Value}
theorem kza{head hadNext vs Q}(hA:A.frames=some (env::outer))(hF:s.heap.FunFrames base (env::outer))(hL:env.frame=some L)(ho:Fl0 s.heap x C vs)
  (h:∀h' T',Chg (frs (env::outer)) [x] s.heap h'->s.heap.objs.size<=T'->FlT h' x T' C (rawInt ↑L)->Q () {s with heap:=h' }):
  wpAny M A (do
   let a <-PySem.frameOf env
   let pl <-entryPlaceOf L hadNext
   let b <-EntryCells.newEntry head a Value.none (rawInt ↑L) Value.none pl
   setField (Value.ref x) 1 b) Q E s:=by
 refine X0 (wpAny_frameOf_fun hA hF hL λh1 s1=>?_);have hx:x∉frs _:=λz=>by
  obtain⟨_,o,e,hn⟩:=hF.mem z;rw[ho.ob]at e;cases e;exact hn _ rfl
 have o1:h1.get? x=some {cls:=C,data:=.fields vs}:=(s1.2.1 x hx).trans ho.ob;have fin:∀pl,IsPlace pl->wpAny M A (do
   let b <-EntryCells.newEntry head _ Value.none _ Value.none pl
   setField _ 1 b) Q E {s with heap:=h1}:=λpl c8=>by
  refine X0 ?_;unfold EntryCells.newEntry newFields;have har:([head,Value.ref L,Value.none,rawInt ↑L,Value.none]++if pl.isEmpty=true then List.replicate 6 Value.none else pl).toArray[3]?=some (rawInt ↑L):=by simp
  have hsz:([head,Value.ref L,Value.none,rawInt ↑L,Value.none]++if pl.isEmpty=true then List.replicate 6 Value.none else pl).toArray.size<=sizeLine+2:=by
   rcases c8 with rfl|⟨_,_,_,_,_,_,_,rfl⟩<;>simp<;>decide
  generalize ([head,Value.ref L,Value.none,rawInt ↑L,Value.none]++if pl.isEmpty=true then List.replicate 6 Value.none else pl).toArray=ar at har hsz;refine Yi ?_ hsz;have o2:(h1.push {cls:=.type "traceback",data:=.fields ar}).get? x=some {cls:=C,data:=.fields vs}:=X2 _ o1;refine Z5 o2 rfl ho.sz ?_;have cp:h1.objs.size≠x:=λe=>absurd (Xd o1) (e▸Ym _)
  have o3:((h1.push {cls:=.type "traceback",data:=.fields ar}).update x (Obj.mapFields λy=>y.setIfInBounds 1 (.ref h1.objs.size))).get? h1.objs.size=some {cls:=.type "traceback",data:=.fields ar}:=by
   rw[Yv _ _ _ _ cp];exact Xa _ rfl
  refine h _ h1.objs.size (((Chg.of_slots s1).mono (λ_ z=>nomatch z)).trans ((Chg.of_push.mono λ_ z=>nomatch z).trans Chg.of_upd λy hy=>.inl hy) λy hy=>.inl hy) (s1.1▸X8 _) #[#[vs.setIfInBounds 1 _,?_,Array.getElem?_setIfInBounds_self_of_lt ho.sz],#[_,_,o3,rfl,har],cp];exact Ys _ o2 rfl
 exact X0 (wpAny_entryPlaceOf λpl c8=>fin pl c8)
theorem xk9{vs Q}(hA:A.frames=some (env::outer))(hF:s.heap.FunFrames base (env::outer))(hL:env.frame=some L)(ho:Fl0 s.heap x C vs)(hv:vs[1]?=some .none)
  (h:∀h' T',Chg (frs (env::outer)) [x] s.heap h'->s.heap.objs.size<=T'->FlT h' x T' C (rawInt ↑L)->Q () {s with heap:=h' }):wpAny M A (noteFrame (.ref x) env) Q E s:=by
 unfold noteFrame;rw[hL];exact X0 (Y5 ho.ob rfl hv (kza hA hF hL ho h))
theorem upd3{T oT ts v}{h:Heap}(e:h.get? T=some oT)(ed:oT.data=.fields ts)(h3:3<ts.size):
  ∃o' ts',(h.update T (Obj.mapFields λy=>y.setIfInBounds 3 v)).get? T=some o'/\o'.data=.fields ts'/\ts'[3]?=some v:=by
 obtain⟨c,d,dt,sl⟩:=oT;cases(ed);exact#[_,ts.setIfInBounds 3 v,Ys _ e rfl,rfl,Array.getElem?_setIfInBounds_self_of_lt h3]
theorem xk8{Q}(hA:A.frames=some (env::outer))(hF:s.heap.FunFrames base (env::outer))(hL:env.frame=some L)(f:FlT s.heap x T C fl)
  (h:∀h' T',Chg (frs (env::outer)) [x,T] s.heap h'->(s.heap.objs.size<=T'\/T'=T)->FlT h' x T' C (rawInt ↑L)->Q () {s with heap:=h' }):wpAny M A (noteFrame (.ref x) env) Q E s:=by
 obtain⟨⟨vs,e1,v1⟩,⟨oT,ts,e2,d2,v2⟩,cp⟩:=f;have h3:3<ts.size:=by
  rw[Array.getElem?_eq_some_iff]at v2;exact v2.1
 have h1:1<vs.size:=by
  rw[Array.getElem?_eq_some_iff]at v1;exact v1.1
 unfold noteFrame;rw[hL];refine X0 (Y5 e1 rfl v1 (X0 (Y5 e2 d2 v2 ?_)))
 by_cases hf:(fl==rawInt ↑L)=true
 ·rw[Xb hf];have e:=eq_of_beq hf;subst e;exact X5 (h s.heap T Chg.refl (.inr rfl) #[#[vs,e1,v1],#[oT,ts,e2,d2,v2],cp])
 ·rw[Xe hf];refine X0 (Z5 e2 d2 h3 ?_);have c1:Chg (frs (env::outer)) [x,T] s.heap (s.heap.update T (Obj.mapFields λy=>y.setIfInBounds 3 Value.none)):=Chg.of_upd.mono λy hy=>by
   grind
  have e1':(s.heap.update T (Obj.mapFields λy=>y.setIfInBounds 3 Value.none)).get? x=some {cls:=C,data:=.fields vs}:=by
   rw[Yv _ _ _ _ cp.symm];exact e1
  have hF':(s.heap.update T (Obj.mapFields λy=>y.setIfInBounds 3 Value.none)).FunFrames base (env::outer):=by
   refine hF.of_keeps λb o e hn=>#[o,?_,rfl]
   rw[Yv _ _ _ _ λz=>?_]
   ·exact e
   ·grind
  refine kza hA hF' hL #[e1',h1] λh' T' c2 hs f'=>(h h' T' (c1.trans (c2.mono (ch':=[x,T]) λy hy=>by rw[aC hy];simp) λy hy=>.inl hy) (.inl ?_) f')
  rw[Heap.size_update]at hs;exact hs
theorem wxc{Q fr}(f:FlT s.heap x T C fl)(h:∀h',Chg (frs outer) [x,T] s.heap h'->FlT h' x T C (fr.elim Value.none λf=>rawInt ↑f)->Q () {s with heap:=h' }):wpAny M A (setFlight (.ref x) fr) Q E s:=by
 obtain⟨⟨vs,e1,v1⟩,⟨oT,ts,e2,d2,v2⟩,cp⟩:=f;have h3:3<ts.size:=by
  rw[Array.getElem?_eq_some_iff]at v2;exact v2.1
 refine X0 (Y5 e1 rfl v1 (Z5 e2 d2 h3 (h _ (Chg.of_upd.mono λy hy=>by rw[aC hy];simp) #[#[vs,?_,v1],upd3 e2 d2 h3,cp])))
 rwa [Yv _ _ _ _ cp.symm]
end
theorem vvq:plainId "BaseException.__getattribute__"=true:=by decide +kernel
theorem wk6:builtinKind "BaseException.__getattribute__"=some .slot:=by decide +kernel
theorem vvp:splitId "BaseException.__getattribute__"=some ("BaseException","__getattribute__"):=by decide +kernel
structure XCls (K:Frag)(C:Addr):Prop where
 ga:findIn K (.ref C) "__getattribute__"=some (some (.builtin "BaseException.__getattribute__"))
 gt:findIn K (.ref C) "__getattr__"=some none
 fo:PySem.W.findObj K C none "__class__"=some (.bind (.builtin "getset_descriptor.__get__") (.builtin "object.__class__"))
 ob:PySem.W.mroIn K C (.type "object")=some true
 bx:PySem.W.mroIn K C (.type "BaseException")=some true
 cl:(PySem.W.clsIn K C).isSome=true
section
variable {P:Program}{w:World}{A:Around}{E:VP9}{s:Shared}{K:Frag}{x C:Addr}{ox:Obj}
theorem Lk{α:Type}{M:Model}{A:Around}{E:VP9}{s:Shared}{t:Sem α}{r:α}{Q:α->Shared->Prop}(l:PySem.W.Looks M s.heap t r)(q:Q r s):wpAny M A t Q E s:=l A Q E s (λ_ _ e=>e) q
theorem vvs{nm:Value}{Q:Unit->Shared->Prop}(KI:K.In s.heap)(X:XCls K C)(b9:PySem.W.InstAt s.heap x ox C none)(q:Q () s):
  wpAny (model P w) A (checkBuiltinCall "BaseException.__getattribute__" {pos:=[.ref x,nm]}) Q E s:=by
 rw[checkBuiltinCall.eq_1,wk6,vvp];refine X0 ?_;unfold isInstance;refine X0 (Lk b9.type (Lk (PySem.W.looks_mroIn KI X.bx) ?_));rw[Xe ⋯];have h:=F.args_bexc_ga (.ref x) nm;unfold argsOk at h;show wpAny _ A (match Manifest.signature? "BaseException.__getattribute__" with|some sig=>Bind.checkArgs "BaseException.__getattribute__" sig {pos:=[.ref x,nm]}|x=>pure ()) Q E s;cases hs:Manifest.signature? "BaseException.__getattribute__" with
 |none=>exact X5 q
 |some sig=>
  rw[hs]at h;have h:Bind.checkArgs "BaseException.__getattribute__" sig {pos:=[.ref x,nm]}=pure ():=h;show wpAny _ A (Bind.checkArgs "BaseException.__getattribute__" sig {pos:=[.ref x,nm]}) Q E s;rw[h];exact X5 q
theorem xq0:(Value.builtin "BaseException.__getattribute__" == Value.builtin "object.__getattribute__")=false:=⋯
theorem vvr{Q:Option Value->Shared->Prop}(KI:K.In s.heap)(X:XCls K C)(b9:PySem.W.InstAt s.heap x ox C none)(q:Q (some (.ref C)) {s with toks:=s.toks+1}):
  wpAny (model P w) A (getAttr? (.ref x) "__class__") Q E s:=by
 unfold getAttr?;refine X0 (wpAny_mkText ?_);unfold getAttrBy?;refine X0 (wpAny_attempt ?_);unfold getAttrBy;refine Y9 (X0 (Lk (s:={s with toks:=s.toks+1}) b9.type (X0 (Lk (s:={s with toks:=s.toks+1}) (PySem.W.looks_findIn KI X.ga) ?_))));dsimp only;rw[Xe (by rw[xq0,Bool.and_false];decide)];unfold getAttrByItsOwn;refine X0 (Lk (s:={s with toks:=s.toks+1}) (PySem.W.looks_hook (K:=K) KI (r:=none) X.gt) ?_);refine X0 (wpAny_attempt (Y9 ?_));unfold callGetattribute;rw[Xe ⋯];unfold boundAndCalled;rw[F.excAttr_ValueError.ga.bind];refine X0 (X5 ?_);refine wpAny_call (codeAny_call_builtin vvq F.entry_bexc_ga (vvs (s:={s with toks:=s.toks+1}) KI X b9 ?_));unfold Builtin.«object.__getattribute__»;have jb:slotArgs "__getattribute__" 1 {pos:=[.ref x]++[.str "__class__" s.toks]}=pure (.ref x,[.str "__class__" s.toks]):=rfl;rw[jb];refine X0 (X5 ?_);show wpAny _ A.in1 (Builtin.ObjectAttr.attrName (.str "__class__" s.toks) >>= _) _ _ _;refine X0 (X5 ?_);refine X0 (Lk (s:={s with toks:=s.toks+1}) b9.type ?_);refine X0 (Lk (s:={s with toks:=s.toks+1}) (PySem.W.looks_find KI b9 X.fo) ?_);show wpAny _ A.in1 (Builtin.ObjectAttr.bindTo (.builtin "getset_descriptor.__get__") (.builtin "object.__class__") (.ref x) (.ref C)) _ _ _;unfold Builtin.ObjectAttr.bindTo;refine X0 (Y9 (wpAny_call (PySem.W.class_get (s:={s with toks:=s.toks+1}) KI b9 X.ob ?_)));refine X5 ?_;exact X5 (X5 q)
set_option tactic.hygienic true in
theorem vjg{h:Heap}(KI:K.In h)(X:XCls K C):∃o cd,h.get? C=some o/\o.data=.cls cd:=by
 have c:=X.cl;unfold PySem.W.clsIn at c
 split at c
 ·rename_i e;exact#[_,_,KI _ _ e,rfl]
 ·cases c
theorem qqk(X:XCls K C):PySem.W.KitX K (.ref x) (.ref C) (λh=>∃ox,PySem.W.InstAt h x ox C none) where
 ty:=λM h KI hz=>by obtain⟨ox,a⟩:=hz;exact a.type
 it:=λM h KI _=>by
  obtain⟨o,cd,e,d⟩:=vjg KI X;intro A Q E s hk q;unfold isType;refine X0 (PySem.W.Looks.ld e A _ _ s hk ?_);rw[d];exact X5 q
 ne:=λh tp dd aj n sl KI e=>by
  obtain⟨o,cd,e',d⟩:=vjg KI X
  by_cases z:C=tp
  ·subst z;rw[e']at e;cases e;cases d
  ·simpa using z
 ca:=λKI hz q=>by obtain⟨ox,a⟩:=hz;exact vvr KI X a q
end
noncomputable def FpX(X:Cx)(aa:LA9)(H:Hp)(b:Addr):Prop:=
 H b=none/\b≠X.env.locals/\b∉X.fs/\(b∈X.ex\/X.s₀.heap.get? b=none)/\(∀x c,X.env.cells.lookup x=some c->c≠b)/\∀p∈X.pn++aa,p.1≠b
section
variable {X:Cx}{aa:LA9}{σ:L2.St}{H:Hp}{s:Shared}
theorem vv1{P:Program}{w:World}{H:Hp}{h:Heap}{b:Addr}(k:HOk P w H h)(e:h.get? b=none):H b=none:=by
 cases q:H b with
 |none=>rfl
 |some u=>
  obtain⟨o,z⟩:=(k b u q).obj;rw[e]at z;cases z
theorem fpX{H' b}(I:Inv X aa σ H s)(hb:s.heap.get? b=none)(hn:H' b=none):FpX X aa H' b:=by
 refine#[hn,λz=>?_,λz=>?_,?_,λx c e z=>?_,λp hp z=>?_]
 ·obtain⟨m,⟨o,_,_,ho,_⟩,_⟩:=I.loc
  grind
 ·obtain⟨_,o,e,_⟩:=I.ok.funs.mem z
  by_cases hx:b∈X.ex
  ·exact I.ok.exfs b hx z
  ·obtain _:=I.base.there b o e hx
   grind
 ·by_cases hx:b∈X.ex
  ·exact .inl hx
  ·cases e:X.s₀.heap.get? b with
   |none=>exact .inr rfl
   |some o=>
    obtain⟨o',e'⟩:=I.base.there b o e hx
    grind
 ·obtain⟨v,o,ho,_⟩:=I.cell x c e
  grind
 ·have:=(I.pin p hp).1
  grind
theorem FpX.of{b}(h:x5 X aa H b):FpX X aa H b:=#[h.1,h.2.1,h.2.2.1,h.2.2.2.1.imp id λz=>Yf z,h.2.2.2.2]
theorem qjw{h' ch}(I:Inv X aa σ H s)(c:Chg (frs X.stack) ch s.heap h')(hf:∀b∈ch,FpX X aa H b):Inv X aa σ H {s with heap:=h' }:=by
 refine I.call (g':=s.gens) (t':=s.toks) (d':=s.drawn) #[λb o e _ h1 h2=>c.keep b o e h1 h2,λb o e _ _ h2=>c.slot b o e h2,λ_ _ _ n _=>n,λb o e h2=>?_,λ_ _ e=>e,λ_ _ _ e=>e,λ_ _ e=>#[(List.toArray []),by rw[e];simp]] (λb u e=>?_) I.bare λb hb=>?_
 ·obtain⟨sl,q⟩:=c.slot b o e h2;exact#[_,q]
 ·have no:∀d v,H d=some v->d∉frs X.stack/\d∉ch:=λd v e=>#[λz=>(by rw[I.stkFree d z]at e;cases e),λz=>(by rw[(hf d z).1]at e;cases e)]
  refine(I.hok b u e).stay (λd v hc q=>?_) (λ_ q=>q) λ_ _ q=>q
  rcases hc with z|z
  ·rw[z]at q ⊢;exact c.keep b v q (no b u e).1 (no b u e).2
  ·exact c.keep d v q (no d _ z).1 (no d _ z).2
 ·obtain⟨_,f1,_,f3,f4,f5⟩:=hf b hb;exact#[f3,f1,f4,f5]
end
structure Fx (X:Cx)(aa:LA9)(H:Hp)(h:Heap)(x:Addr)(C:Value):Prop where
 fp:FpX X aa H x
 st:(∃vs,Fl0 h x C vs/\vs[1]?=some .none)\/∃T fl,FlT h x T C fl/\FpX X aa H T
structure Xt (X:Cx)(aa:LA9)(σ:L2.St)(H:Hp)(x T:Addr)(C fl:Value)(s:Shared):Prop where
 inv:Inv X aa σ H s
 fx:FpX X aa H x
 fT:FpX X aa H T
 f:FlT s.heap x T C fl
theorem Xt.to{X aa σ H x T C fl s}(h:Xt X aa σ H x T C fl s):Fx X aa H s.heap x C:=#[h.fx,.inr #[T,fl,h.f,h.fT]]
noncomputable def Xo(X:Cx)(E:XK)(e:Value)(s:Shared):Prop:=∃aa σ H x C,e=.ref x/\Inv X aa σ H s/\Fx X aa H s.heap x C/\E C none H
noncomputable def xq(X:Cx)(E:XK):Prop:=∀aa σ H s x C,Inv X aa σ H s->Fx X aa H s.heap x C->E C none H->X.xe (.ref x) s
abbrev Cx.ex'(X:Cx)(E:XK):Cx:=X.wish (Xo X E)
theorem wJ{X E}:xq (Cx.ex' X E) E:=λaa σ H s x C I f q=>#[aa,σ,H,x,C,rfl,I.unwish,#[f.fp,f.st],q]
noncomputable def Jj(X:Cx):Prop:=∃env0 out,X.stack=env0::out/\X.env.frame=env0.frame
section
variable {X:Cx}{aa:LA9}{σ:L2.St}{H:Hp}{s:Shared}{M:Model}{E':VP9}{x T:Addr}{C fl:Value}
theorem qqa{A Q}(top:Jj X)(hA:A.frames=X.A.frames)(I:Inv X aa σ H s)(f:Fx X aa H s.heap x C)(h:∀L T s',X.env.frame=some L->Xt X aa σ H x T C (rawInt ↑L) s'->Q () s'):
  wpAny M A (noteFrame (.ref x) X.env) Q E' s:=by
 obtain⟨env0,out,e1,e2⟩:=top;have hF:=I.stack;have uh:A.frames=some (env0::out):=by rw[hA,I.ok.frames,e1]
 rw[e1]at hF;obtain⟨_,⟨L,o,hL,_⟩,_⟩:=id hF;rw[kk2 e2];have hL':=e2.trans hL;rcases f.st with⟨vs,f0,hv⟩|⟨T,fl,fT,pT⟩
 ·refine xk9 uh hF hL f0 hv λh' T' c hs qd=>h L T' _ hL' #[?_,f.fp,fpX I (Yf hs) (I.hok.fresh hs),qd]
  rw[<-e1]at c;exact qjw I c λb hb=>by rw[aC hb];exact f.fp
 ·refine xk8 uh hF hL fT λh' T' c hs qd=>?_
  rw[<-e1]at c;refine h L T' _ hL' #[qjw I c λb hb=>?_,f.fp,?_,qd]
  ·simp only[Xz,Xm,or_false]at hb;rcases hb with rfl|rfl
   ·exact f.fp
   ·exact pT
  ·rcases hs with hs|hs
   ·exact fpX I (Yf hs) (I.hok.fresh hs)
   ·rw[hs];exact pT
theorem jxr{A Q fr}(t:Xt X aa σ H x T C fl s)(h:∀s',Xt X aa σ H x T C (fr.elim Value.none λf=>rawInt ↑f) s'->Q () s'):wpAny M A (setFlight (.ref x) fr) Q E' s:=by
 refine wxc t.f λh' c qd=>h _ #[qjw t.inv c λb hb=>?_,t.fx,t.fT,qd]
 simp at hb;rcases hb with rfl|rfl
 ·exact t.fx
 ·exact t.fT
theorem ww3{α A what mj Q}(t:Xt X aa σ H x T C fl s)(h:∀s' qd,Xt X aa σ H x T C qd s'->E' (.ref x) s'):wpAny M A (PySem.passOn what (.ref x) mj:Sem α) Q E' s:=by
 obtain⟨vs,e1,v1⟩:=t.f.ex;exact X0 (Y5 e1 rfl v1 (X0 (jxr t λs' t'=>(wpAny_throw (h s' _ t')))))
theorem vqm{E}(top:Jj X):PassesOwn M X.A X.env (Xo X E):=by
 rintro e s' ⟨aa,σ,H,x,C,rfl,I,f,q⟩;refine qqa top rfl I f λL T s1 _ t=>?_
 obtain⟨vs,e1,v1⟩:=t.f.ex;exact X0 (Y5 e1 rfl v1 (jxr t λs2 t2=>#[aa,σ,H,x,C,rfl,t2.inv,t2.to,q]))
end
noncomputable def CXE(P:Program)(w:World):CXT:=λouter H s E e s'=>∃x T C fl H',e=.ref x/\s'.os=s.os/\AllBare s'.gens/\Un (frs outer) [] H H' s.heap s'.heap/\HOk P w H' s'.heap /\
 s.heap.get? x=none/\s.heap.get? T=none/\H' x=none/\H' T=none/\FlT s'.heap x T C fl/\E C none H'
theorem xk0{X E}(g:xq X E):vk7 (CXE X.prog X.w) X E:=by
 rintro aa σ H s e s' I ⟨x,T,C,fl,H',rfl,os,bare,un,hok,hx,hT,nx,nT,f,q⟩;refine g aa σ H' s' x C (I.call' os un hok bare λb hb=>nomatch hb) #[fpX I hx nx,.inr #[T,fl,f,fpX I hT nT]] q
theorem vxm{CX P w K mg base N qual scope f cd A outer s H E}:
  Jj (K4 CX P w K mg base N qual scope f cd A outer s H E):=#[_,_,rfl,rfl]
theorem qzb{P w K mg base N qual scope f cd A outer s H E e}{s'}
  (h:Xo (K4 (CXE P w) P w K mg base N qual scope f cd A outer s H E) E e s'):(K4 (CXE P w) P w K mg base N qual scope f cd A outer s H E).xe e s':=by
 obtain⟨aa,σ,H',x,C,rfl,I,fx,q⟩:=h;show wpAny _ _ _ _ _ s';refine X0 (qqa vxm rfl I fx λL T s1 _ t=>(jxr t λs2 t2=>?_));have ge:∀b,FpX (K4 (CXE P w) P w K mg base N qual scope f cd A outer s H E) aa H' b->s.heap.get? b=none:=λb hb=>hb.2.2.2.1.elim (λz=>nomatch z) λz=>z
 exact#[x,T,C,_,H',rfl,t2.inv.os,t2.inv.bare,t2.inv.base,t2.inv.hok,ge x t2.fx,ge T t2.fT,t2.fx.1,t2.fT.1,t2.f,q]
section
variable {P:Program}{w:World}{K:Frag}{mg:Str->Option Value}{base:Heap}
theorem jzn{x qual st f fd N ps k sp}(F:Fun K x qual st f fd)(S:FnScope N ps (jY st))(len:∀vs H Q E,sp vs H Q E->vs.length=ps.length)
  (n6:∀dq (A) (outer) (s) (H) (vs) (Q) (E),Room k (A.deeper (envOfC qual (jY st) s.heap.objs.size f dq))->sp vs H Q E ->
   ∃t,PSs (Cx.ex' (K4 (CXE P w) P w K mg base N qual (jY st) f dq A outer s H E) E) (KJ st) t/\t {nx:=λ_ H'=>Q .non H',rt:=Q} (L2.start N vs) H):FnOk P w K mg base (CXE P w) (k+1) f fd ps sp:=by
 obtain⟨oc,od,kV,iw,pm,an,dq,ct,qo,rfl,lk,ju⟩:=F.ex;refine xko lk ju S len λA outer s H vs Q E hr lz=>?_
 obtain⟨t,h,q⟩:=n6 dq A outer s H vs Q E hr lz;exact#[t,λaa s' σ H' D I hw=>Z6 (h aa s' σ H' D (I.wish _) hw) (λf oz z=>z.unwish) λe oz z=>qzb z,q]
noncomputable def jW(P:Program)(w:World)(K:Frag)(mg:Str->Option Value)(base:Heap)(k:Nat)(x:Str)(ps:List Str)(sp:Sp):Prop:=
 ∃(f:Addr) (fd:FuncData),FnOk P w K mg base (CXE P w) k f fd ps sp/\Binds K fd ps []/\PySem.W.keepIn K (.ref f)=true/\mg x=some (.ref f)
end
section
variable {X:Cx}{x:Str}{p pos:Pos}{e:Expr}{es:List Expr}{t:TA}{ps:List Str}{sp:Sp}{k:Nat}{v:V}{E:XK}
theorem qxp(D:jW X.prog X.w X.K X.mg X.base k x ps sp)(hr:Room k X.A)(g:xq X E)(ha:PA X (e::es) t)(hg:autoParam (Gl X x) Ŕ)(ff:autoParam (Abd x) ŕ)
  (he:autoParam (Abs e es X) Ŕ) (c8:autoParam (Abb pos es X) Ŕ):
  PE X (.Call (.Name x p) (e::es) [] pos) (vxp sp [] E t):=by
 obtain⟨f,fd,F,b,kp,m⟩:=D;exact vzw F hr hg m kp b .nil (xk0 g) ha ff he c8
end
abbrev lcE(X:Cx)(scope:Scope)(N:List Str)(cl:List (Str×Addr))(C:Addr)(s0:Shared)(H0:Hp)(fp:List Addr)(EX:XK):Cx:=Cx.ex' (lcX X scope N cl C s0 H0 fp) EX
section
variable {prog:Program}{w:World}{A:Around}{R:Result->Shared->Prop}{s:Shared}
set_option tactic.hygienic true in
theorem wjd{gm gr iter gh scope pos it aq env}(Ex)(I:Nat->Shared->Prop)
  (gp:∀n s,I n s->wpAny (model prog w) A (pyNext it) (λr s1=>match r with
   | none=>R (.ok .next) s1
   | some v=>wpAny (model prog w) A (letOwnedTupleGo gr it v) (λ_ s2=>wpAny (model prog w) A (assign gr env v) (λ_ s3=>
     wpAny (model prog w) A (qzc gh env) (λok s4=>
      if ok=true then
       wpAny (model prog w) A (eval gm env) (λx s5=>wpAny (model prog w) A (call (.builtin "list.append") [aq,x]) (λ_ s6=>∃m,m<n/\I m s6) Ex s5) Ex s4
      else ∃m,m<n/\I m s4) Ex s3) Ex s2) Ex s1) Ex s)
  (hx:∀e s,Ex e s->notedBy (model prog w) A env (λe s'=>R (.error e) s') e s) n (h:I n s):codeAny (model prog w) A (.compLoop (.ListComp gm [#[gr,iter,gh,0]] scope pos) 0 it aq env) R s:=by
 refine codeAny_loop rfl I (λn s hI=>(wpAny_noted ?_)) n h;rw[compTurn_list];refine Z6 (X0 (wpAny_standAt (X0 (thn (gp n s hI) λr s1 h1=>?_)))) (λ_ _ q=>q) (λe s q=>?_)
 rotate_left
 ·exact hx e s q
 cases r with
 |none=>exact X5 h1
 |some v=>
  refine X0 (thn h1 λ_ s2 h2=>(X0 (thn h2 λ_ s3 h3=>(X0 (thn h3 λok s4 h4=>?_)))));cases ok with|false=>exact X5 #[rfl,h4]|true=>exact X0 (X0 (thn h4 λx s5 h5=>X0 (thn h5 λ_ s6 h6=>X5 (X5 #[rfl,h6]))))
end
section
variable {X:Cx}{tg iter gm:Expr}{gh:List Expr}{scope:Scope}{N:List Str}{k:Nat}{R:List Nat}{g:TG}{tt:TT}{te:TE}{pos:Pos}
theorem vwx{EX aa ef}{σ σ':L2.St}{H2 H' s2 s' fp cl}{C x T:Addr}{Cc fl Q aq use}(gx:xq X EX)
  (I2:Inv X aa σ H2 s2) (f2:∀b∈fp,x5 X aa H2 b) (hC:s2.heap.objs.size<=C) (t:Xt (lcX X scope N cl C s2 H2 fp) ef σ' H' x T Cc fl s') (q:EX Cc none H'):
  compPost (model X.prog X.w) X.A X.xe use Q aq C (.error (.ref x)) s':=by
 obtain⟨m,hn,_⟩:=t.inv.loc;refine#[m,hn,λh' sb mj _=>?_];have fC:=I2.fpOk hC t.inv.free;have J2:Inv X aa σ H' {s' with heap:=h',toks:=s'.toks}:=(I2.call' t.inv.os t.inv.base t.inv.hok t.inv.bare λb hb=>#[((f2 b hb).2.2.2.1.imp id λz=>Yf z),(f2 b hb).2.1,(f2 b hb).2.2.2.2.1,(f2 b hb).2.2.2.2.2]).turned (λb o hb e=>(sb.2 b hb).trans e) fC.1 fC.2.1 fC.2.2.2.1 fC.2.2.2.2.1 fC.2.2.2.2.2;have fp':∀b,FpX (lcX X scope N cl C s2 H2 fp) ef H' b->FpX X aa H' b:=λb hb=>by
  rcases hb.2.2.2.1 with z|z
  ·exact#[hb.1,(FpX.of (f2 b z)).2]
  ·exact fpX I2 z hb.1
 have nx:=t.fx.2.1;have nT:=t.fT.2.1;have f:FlT h' x T Cc fl:=by
  obtain⟨⟨vs,e1,v1⟩,⟨oT,ts,e2,d2,v2⟩,cp⟩:=t.f;exact#[#[vs,(sb.2 x nx).trans e1,v1],#[oT,ts,(sb.2 T nT).trans e2,d2,v2],cp]
 refine ww3 #[J2,fp' x t.fx,fp' T t.fT,f] λs3 qd t3=>gx aa σ H' s3 x Cc t3.inv t3.to q
set_option tactic.hygienic true in
theorem kxy{EX aa}{σ:L2.St}{H2 s2 it fp tn J Q W cl}{E}
  {RR:Value->Addr->Result->Shared->Prop} (hc:X.calm=true) (top:Jj X) (sc:LcOk X scope N k R)
  (fy:∀x c,cl.lookup x=some c->X.env.cells.lookup x=some c) (cw:∀y∈scope.names,y.2=.free->∃c,cl.lookup y.1=some c)
  (hg:∀C s0 H0 fp,PG (lcE X scope N cl C s0 H0 fp EX) tg g) (ht:∀C s0 H0 fp,PTs (lcE X scope N cl C s0 H0 fp EX) gh tt) (he:∀C s0 H0 fp,PE (lcE X scope N cl C s0 H0 fp EX) gm te)
  (I2:Inv X aa σ H2 s2) (T:Turn X.prog X.w X.K tg J fp it tn) (cf:tn 0 s2.heap) (f2:∀b∈fp,x5 X aa H2 b) (w0:∃m,W 0 m [] (K7 k R σ) H2) (gp:LcW g tt te Q J W)
  (hRR:∀D C oC m ys H' s',Inv X (aa++[(C,oC)]) σ (upd H' D (.lst ys)) s'->s'.heap.get? C=some oC->s'.heap.Ns C m->x5 X aa (upd H' D (.lst ys)) C->Q (.ref D) (upd H' D (.lst ys))->RR (.ref D) C (.ok .next) s')
  (hER:∀D C s' ef σ' H' x T Cc fl,s2.heap.objs.size<=C->Xt (lcX X scope N cl C s2 H2 fp) ef σ' H' x T Cc fl s'->EX Cc none H'->RR (.ref D) C (.error (.ref x)) s'):
  wpAny (model X.prog X.w) X.A (newList []) (λaq s3=>wpAny (model X.prog X.w) X.A (newFunctionEnv scope X.env.globals cl [] X.env.qual none .none (some X.env)) (λmj s4=>
   codeAny (model X.prog X.w) X.A (.compStart (.ListComp gm [#[tg,iter,gh,0]] scope pos) 0 (.ref it) aq {mj with scope:=relabel scope X.env}) (RR aq mj.locals) s4) E s3) E s2:=by
 have xy:∀b∈fp,∃o,s2.heap.get? b=some o:=λb hb=>let ⟨o,e,_⟩:=T.obj 0 _ cf b hb;#[o,e]
 refine Yi (wpAny_newFunctionEnv sc.nocell (by intro y hy;simp at hy) (λh1 uo sb1=>?_) sc.kind);generalize eH:s2.heap.push {cls:=.type "list",dict:=none,data:=.seq ([]:List Value).toArray}=Hx at uo sb1 ⊢;have eC:Hx.objs.size=s2.heap.objs.size+1:=by rw[<-eH,Yy]
 generalize eD:s2.heap.objs.size=D at eC;generalize eC':Hx.objs.size=C at uo sb1 eC ⊢;have t6:D≠C:=⋯
 have hC:s2.heap.objs.size<=C:=⋯
 have hD:s2.heap.objs.size<=D:=⋯
 have i8:=λb o e=>by
  exact sb1.extBut b o (Xl (Xf (Xd e) hC)) (X2 _ (eH▸X2 _ e))
 have accD:h1.get? D=some (Zx [] 0):=by
  refine sb1.extBut _ _ t6 (X2 _ ?_);rw [<-eH,<-eD];exact Xa _ rfl
 have nl:∀b∈fp,b≠D/\b≠C:=λb hb=>by
  obtain⟨o,e⟩:=xy b hb;exact#[Xl (Xf (Xd e) hD),Xl (Xf (Xd e) hC)]
 have kg:∀{H' oD},(∀b∈fp,H' b=none)->∀b∈fp,x5 (lcE X scope N cl C s2 H2 fp EX) [(D,oD)] H' b:=fun {H' oD} hn b hb=>by
  obtain⟨_,f1,f3,f4,f5,f6⟩:=f2 b hb;refine#[hn b hb,(nl b hb).2,λz=>?_,.inl hb,λx c h=>f5 x c (fy x c h),λp hp=>?_]
  ·rcases aD (I2.stkSub b z)with y|y
   ·exact f1 y
   ·exact f3 y
  ·have e:p=(D,oD):=by
    have hp:p∈([]++[(D,oD)]:LA9):=hp
    simpa using hp
   rw [e];exact(nl b hb).1.symm
 have loop:∀s3,s3={s2 with heap:=h1,toks:=s2.toks+([]:List (Str×Value)).length} ->
   codeAny (model X.prog X.w) X.A (.compLoop (.ListComp gm [#[tg,iter,gh,0]] scope pos) 0 (.ref it) (.ref D) (compEnvC scope cl C X.env)) (RR (.ref D) C) s3:=by
  rintro s3 rfl;obtain⟨m0,w0⟩:=w0;have hxx:∀e s,Xo (lcX X scope N cl C s2 H2 fp) EX e s->notedBy (model X.prog X.w) X.A (compEnvC scope cl C X.env) (λe s'=>RR (.ref D) C (.error e) s') e s:=by
   rintro e s ⟨ef,σ',H',x,Cc,rfl,I',f',q'⟩;exact qqa (X:=lcX X scope N cl C s2 H2 fp) top rfl I' f' λL T s1 _ t=>hER D C s1 ef σ' H' x T Cc _ hC t q'
  refine wjd (Xo (lcX X scope N cl C s2 H2 fp) EX) (λn s'=>∃i ys aj nn σ' H',Inv (lcE X scope N cl C s2 H2 fp EX) [(D,Zx aj nn)] σ' H' s'/\Vals ys aj/\tn i s'.heap/\(∀b∈fp,H' b=none)/\W i n ys σ' H') ?_ hxx m0
   #[0,[],[],0,_,H2,(wjb I2 sc f2 xy hC hD t6 fy cw i8 uo accD (λv z=>by cases z)).wish _,.nil,T.keep _ _ _ cf (λb hb o e=>i8 b o e),λb hb=>(f2 b hb).1,w0]
  rintro n s3 ⟨i,ys,aj,nn,σ3,H3,I3,rv,dl,sv,w3⟩;rcases gp i n ys σ3 H3 w3 with⟨stop,hz,qn⟩|⟨go,step⟩
  ·refine thn (T.done (lcE X scope N cl C s2 H2 fp EX) rfl rfl rfl hc i _ s3 σ3 H3 _ I3 (kg sv) dl stop) λr s4 hz=>?_
   obtain⟨hr,I4⟩:=hz;subst hr;show RR (.ref D) C (.ok .next) s4;have hD4:=I4.pin (D,Zx aj nn) (by show _∈([]++[(D,Zx aj nn)]:LA9);simp);have fD:=I2.fpOk hD hD4.2.1;have fC:=I2.fpOk hC I4.free;have J2:Inv X aa σ (upd H3 D (.lst ys)) s4:=jxq (I2.call' I4.os I4.base I4.hok I4.bare λb hb=>#[((f2 b hb).2.2.2.1.imp id λz=>Yf z),(f2 b hb).2.1,(f2 b hb).2.2.2.2.1,(f2 b hb).2.2.2.2.2]) hD4.2.1 fD.2.1 fD.2.2.2.1 fD.2.2.2.2.1 fD.2.2.2.2.2 #[hz,aj,nn,rv,hD4.1];obtain⟨mC,nC,_⟩:=I4.loc;obtain⟨oC,es,ep,hoC,hdC,vd⟩:=id nC;have fC':x5 X aa (upd H3 D (.lst ys)) C:=#[by rw[k6 t6.symm];exact fC.1,fC.2];refine hRR D C oC mC ys H3 s4 (J2.pins_of λp hp=>?_) hoC nC fC' (qn D hD4.2.1);rcases aA hp with z|z
   ·exact J2.pin p (lr9 _ z)
   ·rw[aC z];exact#[hoC,fC'.1,fC'.2.1,fC'.2.2.1,λv y=>by rw[hdC]at y;cases y]
  ·refine thn (T.item (lcE X scope N cl C s2 H2 fp EX) rfl rfl rfl hc i _ s3 σ3 H3 _ I3 (kg sv) dl go) λr s4 hz=>?_
   obtain⟨u,hr,h4⟩:=hz;subst hr;refine thn h4 λ_ s5 hz=>?_
   obtain⟨x,H5,I5,r5,y5,se,fr5⟩:=hz;have kr:∀{σ' H' s' pl},Inv (lcE X scope N cl C s2 H2 fp EX) (pl++VQ fp s5.heap) σ' H' s'->tn (i+1) s'.heap/\∀b∈fp,H' b=none:=fun {σ' H' s' pl} I'=>by
    have q:∀b∈fp,∀o,s5.heap.get? b=some o->s'.heap.get? b=some o/\H' b=none:=λb hb o e=>by
     obtain⟨a1,a2,_⟩:=I'.pin (b,o) (lr9 _ (lr9 _ (jzf hb e)));exact#[a1,a2]
    refine#[T.keep _ _ _ se λb hb o e=>(q b hb o e).1,λb hb=>?_];obtain⟨o,e,_⟩:=T.obj _ _ se b hb;exact(q b hb o e).2
   refine thn (hg C s2 H2 fp _ s5 σ3 H5 x u _ (I5.pinned (kg fr5) (T.obj _ _ se)) r5 (step x H5 y5)) λ_ s6 #[σ6,H6,I6,Ny,Nn,hNy,hNn,q6]=>(thn (ht C s2 H2 fp _ s6 σ6 H6 _ I6 q6) λok s7 hz=>?_)
   obtain⟨H7,I7,q7⟩:=hz;cases ok with
   | false=>
    obtain⟨m',hm,w7⟩:=hNn _ q7;exact#[m',hm,i+1,ys,aj,nn,σ6,H7,I7.unpinned,rv,(kr I7).1,(kr I7).2,w7]
   | true=>
    refine thn (he C s2 H2 fp _ s7 σ6 H7 _ I7 q7) λu8 s8 hz=>?_
    obtain⟨y,H8,I8,r8,q8⟩:=hz;obtain⟨hz,m',hm,w8⟩:=hNy _ _ q8;have pD:=I8.pin (D,Zx aj nn) (lr9 _ (ll9 _ (aB rfl)));have av:=rv.length;refine append_at (hsz:=by rw[X6];lia) pD.1 λh9 sb9 e9=>?_
    have I9:Inv (lcE X scope N cl C s2 H2 fp EX) ([]++VQ fp s5.heap) σ6 H8 {s8 with heap:=h9,toks:=s8.toks}:=(I8.pins_of λp hp=>I8.pin p (lr9 _ (lr9 _ hp))).turned (it:=D) (λb o hb e=>(sb9.2 b hb).trans e) pD.2.1 t6 (.inr hD)
     (λx c h z=>by
      obtain⟨v,q⟩:=I2.cell x c (fy x c h);exact absurd (Xf q.lt (z▸hD)) (Ym _))
     (λp hp z=>by
      have hp:p∈([]++([]++VQ fp s5.heap):LA9):=hp;have hp:p∈VQ fp s5.heap:=by simpa using hp
      exact(nl p.1 (kxw hp).1).1 z)
    have e9':h9.get? D=some (Zx (aj++[u8]) (nn+1)):=by rw[e9];simp[List.push_toArray]
    refine#[m',hm,i+1,ys++[y],aj++[u8],nn+1,σ6,H8,I9.pins_of λp hp=>?_,rv.append (.cons r8 .nil),(kr I9).1,(kr I9).2,w8];rw[aC hp];exact#[e9',pD.2.1,pD.2.2.1,pD.2.2.2.1,λv z=>by cases z]
 exact codeAny_compStart_list (loop _ rfl) (T.self _ 0 _ _ _ (T.keep _ _ _ cf λb hb o e=>i8 b o e) (loop _ rfl))
theorem vwo{EX wi}(N)(k)(R)(hi:PI X tg iter wi)
  (hg:∀cl C s0 H0 fp,PG (lcE X scope N cl C s0 H0 fp EX) tg g) (ht:∀cl C s0 H0 fp,PTs (lcE X scope N cl C s0 H0 fp EX) gh tt) (he:∀cl C s0 H0 fp,PE (lcE X scope N cl C s0 H0 fp EX) gm te)
  (gx:xq X EX) (top:Jj X) (hc:autoParam (X.calm=true) Ŕ) (hk:autoParam (scope.kind=.function) Ŕ) (li:autoParam (QJ X.N X.env.scope scope N k R=true) Ŕ) (hs:autoParam (∀x,foldedSetIterable iter X.env x=pure x) Ŗ):
  PE X (.ListComp gm [#[tg,iter,gh,0]] scope pos) (tLC wi g tt te k R):=by
 intro aa s σ H Q I h;have sc:=qqj hk li;obtain⟨cl,mn,fy,cw⟩:=kqy λy hy e=>I.ok.has y.1 (sc.caps y hy e)
 refine wpAny_comprehension_free rfl hs mn sc.kind sc.names (thn (hi aa s σ H _ I h) λv s1 h1=>thn h1 λitv s2 h2=>?_);obtain⟨it,fp,tn,J,H2,e,I2,T,cf,f2,W,w0,gp⟩:=h2;subst e;refine kxy hc top sc fy cw (hg cl) (ht cl) (he cl) I2 T cf f2 w0 gp ?_ ?_
 rotate_left
 ·intro D C s' ef σ' H' x T Cc fl hC t q;exact vwx gx I2 f2 hC t q
 intro D C oC m ys H' s' I' _ nC fC q;exact#[m,nC,λh' sb=>#[.ref D,_,I'.unpinned.turned (t':=s'.toks) (λb o hb e=>(sb.2 b hb).trans e) fC.1 fC.2.1 fC.2.2.2.1 fC.2.2.2.2.1 fC.2.2.2.2.2,rfl,q]]
end
abbrev bmV:List Value:=[.type "ValueError",.type "Exception",.type "BaseException",.type "object"]
structure ECls (K:Frag)(mg:Str->Option Value)(x:Str)(C:Addr):Prop where
 bd:mg x=some (.ref C)
 ec:PySem.W.excIn K C bmV "ValueError.__new__"=true
 xc:XCls K C
set_option tactic.hygienic true in
theorem wj0{K:Frag}{h:Heap}{C:Addr}{bmB:List Value}{pw:String}(KI:K.In h)(e:PySem.W.excIn K C bmB pw=true):
  ∃ bm N nm q bs hdct sn sub ab col dd k0 k1 k2 k3 k5 mN,h.get? C=some (excClassObj nm q C N bs bm hdct sn sub ab col dd k0 k1 k2 k3 k5 pw)/\h.Ns N mN/\mN "__init__"=none/\OwnTail h bmB bm:=by
 unfold PySem.W.excIn at e
 split at e
 ·rename_i dict cd sl hl
  split at e
  ·rename_i bm C' k0 k1 k2 k3 n k5 hm hs;simp only[Bool.and_eq_true,beq_iff_eq,Bool.not_eq_true']at e;obtain⟨⟨⟨⟨⟨e1,e2⟩,e3⟩,e4⟩,e5⟩,e6⟩:=e;subst e1 e2;have g:=KI _ _ hl;obtain⟨nm,bs,mro,ns,qn,hd,hdel,sn,sub,ab,col⟩:=cd;dsimp only at hm e3 e5 e6;subst hm e3;have jb:sl=(List.toArray [k0,k1,k2,k3,some (Value.builtin n),k5]):=by
    apply Array.toList_inj.mp;rw[hs]
   subst jb;exact#[_,ns,nm,qn,bs,hd,hdel,sn,sub,ab,dict,k0,k1,k2,k3,k5,h.nsMap ns,g,Heap.Ns.of_isNs (PySem.W.isNs_of_in KI e5),PySem.W.nsMap_none_of_in KI e5 e6,PySem.W.tail_of_in KI e4]
  ·cases e
 ·cases e
section
variable {X:Cx}{x:Str}{np ak pos:Pos}{e:Expr}{es:List Expr}{ta:TA}{C:Addr}{E:XK}
abbrev wq6(E:XK)(C:Addr)(ta:TA):TS:=λ_ σ H=>ta σ H λvs H1=>vs.length<=sizeLine/\E (.ref C) none H1
theorem vq8(c:ECls X.K X.mg x C)(g:xq X E)(ha:PA X (e::es) ta)(hg:autoParam (Gl X x) Ŕ)(hc:autoParam (X.calm=true) Ŕ)(ff:autoParam (Abd x) ŕ)
  (he:autoParam (Abs e es X) Ŕ) (c8:autoParam (((backTo ak (starEach (e::es) X.env)).any (·.1))=false) Ŕ):
  PS X (.Raise (some (.Call (.Name x np) (e::es) [] ak)) none pos) (wq6 E C ta):=by
 intro aa s σ H D I h;obtain⟨bm,N,nm,q,bs,hdct,sn,sub,ab,col,dd,k0,k1,k2,k3,k5,mN,o1,o2,o3,o4⟩:=wj0 I.ok.mod.kin c.ec;refine wpAny_Raise_call_subT (nm:=nm) (q:=q) (C:=C) (N:=N) (bs:=bs) (bm:=bm) (hdct:=hdct) (sn:=sn) (sub:=sub) (ab:=ab) (col:=col) (dd:=dd) (k0:=k0) (k1:=k1) (k2:=k2) (k3:=k3) (k5:=k5) (bmB:=bmV) F.excBase_ValueError (o4.hasType (X:="BaseException") rfl) (I.ok.hd hc) c8 o3 (kk8 I hg c.bd #[rfl,?_] ff);obtain⟨y0,r0,mz⟩:∃y r,backTo ak (starEach (e::es) X.env)=(false,y)::r:=by rw[he];exact#[_,_,rfl]
 have lz:=ha ak aa s σ H _ I h;rw[mz]at lz ⊢;refine Yt (thn lz λus s2 #[vs,H1,I1,r1,q1]=>#[rfl,by rw[<-r1.length];exact q1.1,I1.bk _ _ o1,?_,?_,λh' ea p6=>?_])
 ·obtain⟨o,es',ep,ho,r⟩:=o2;exact#[o,es',ep,I1.bk _ _ ho,r]
 ·exact o4.keeps λb o e=>I1.bk b o e
 ·obtain⟨t,m1,m2,m3⟩:=p6.there;have J:Inv X aa σ H1 {s2 with heap:=h',toks:=s2.toks}:=I1.kept p6.keeps;exact g aa σ H1 _ ea (.ref C) J #[fpX I1 p6.new (vv1 I1.hok p6.new),.inl #[_,#[m1,by show(1:Nat)<6;decide],rfl]] q1.2
noncomputable def XX(X:Cx)(aa:LA9)(σ:L2.St)(E:XK)(e:Value)(s:Shared):Prop:=∃H x C,e=.ref x/\Inv X aa σ H s/\Fx X aa H s.heap x C/\E C none H
noncomputable def PSX(X:Cx)(st:Stmt)(t:XK->TS):Prop:=∀(E:XK) (aa:LA9) (s:Shared) (σ:L2.St) (H:Hp) (D:Ends),Inv X aa σ H s->t E D σ H->wpAny (model X.prog X.w) X.A (exec st X.env) (SP X aa D) (XX X aa σ E) s
noncomputable def PEX(X:Cx)(ex:Expr)(t:XK->TE):Prop:=∀(E:XK) (aa:LA9) (s:Shared) (σ:L2.St) (H:Hp) (Q:VK),Inv X aa σ H s->t E σ H Q->wpAny (model X.prog X.w) X.A (eval ex X.env) (EP X aa σ Q) (XX X aa σ E) s
set_option tactic.hygienic true in
theorem vqb{k:Nat}{ps:List Str}{sp:Sp}(D:jW X.prog X.w X.K X.mg X.base k x ps sp)(hr:Room k X.A)(ha:PA X.nox (e::es) ta)(hg:autoParam (Gl X x) Ŕ)(ff:autoParam (Abd x) ŕ)
  (he:autoParam (Abs e es X) Ŕ) (c8:autoParam (Abb pos es X) Ŕ):
  PEX X (.Call (.Name x np) (e::es) [] pos) (λE=>vxp sp [] E ta):=by
 obtain⟨f,fd,F,hb,kp,m⟩:=D;intro E aa s σ H Q I h;refine wpAny_Call_Name_kw (kk8 I hg m ?_ ff);refine PySem.W.callWith_K (h₀:=X.base) I.ok.mod.kin kp (Z6 (ha pos aa s σ H _ (I.wish _) h) (λus s1 #[vs,H1,I1,r,q]=>#[I1.kIn,?_]) λ_ _ z=>z.elim) he c8;have I1:=I1.unwish;have q:sp (vs++[]) H1 Q E:=q;have hl:us.length=ps.length:=by
  rw[<-r.length];have:=F.len _ _ _ _ q
  rwa [Xn]at this
 refine wpAny_call (codeAny_mono (F.run X.A X.stack s1 H1 #[us,[]] us vs Q E hr I1.env0 (by have:=hb s1 us I1.kIn (by rw[Xn];exact hl);rwa [Xn]at this) r (by rwa [Xn]at q)) λrr s' hq=>?_);cases rr with
 |error e=>
  obtain⟨x,T,C,fl,H',rfl,os,bare,un,hok,hx,hT,nx,nT,f,q⟩:=hq;exact#[H',x,C,rfl,I1.call' os un hok bare (λb hb=>nomatch hb),#[fpX I1 hx nx,.inr #[T,fl,f,fpX I1 hT nT]],q]
 |ok fl=>
  cases fl with|ret u=>exact I1.after hq|next=>exact False.elim hq|brk=>exact False.elim hq|cont=>exact False.elim hq
end
section
variable {X:Cx}{aa:LA9}{σ:L2.St}{H:Hp}{s:Shared}{x:Addr}{ox:Obj}
theorem qzt{σ':L2.St}{h':Heap}{t':Nat}{m':Str->Option Value}(I:Inv X aa σ H s)(hs:Heap.SameBut X.env.locals s.heap h')(mh:h'.Ns X.env.locals m')(hl:σ'.length=X.N.length)
  (hv:∀(j:Nat) (y:Str) (v:V),X.N[j]?=some y->σ'[j]?=some (some v)->Vis X.env.scope y->∃u,RelV v u/\xv8 X.env h' m' y u):Inv X aa σ' H {s with heap:=h',toks:=t' }:=by
 have nL:∀b o,X.s₀.heap.get? b=some o->b≠X.env.locals:=λb o e=>Xl (Xf (Xd e) I.ok.above)
 refine#[I.ok,I.os,I.bare,#[λb o e n hb hx=>?_,λb o e n hb hx=>?_,I.base.free,λb o e hx=>?_,I.base.tups,I.base.frzs,I.base.tbls],#[m',mh,hv],λy c e=>?_,I.free,I.freeC,λp hp=>?_,λb ob e=>?_,hl]
 ·exact(hs.2 b (nL b o e)).trans (I.base.keep b o e n hb hx)
 ·obtain⟨sl,e1⟩:=I.base.slot b o e n hb hx;exact#[sl,(hs.2 b (nL b o e)).trans e1]
 ·obtain⟨o',e1⟩:=I.base.there b o e hx;exact#[o',(hs.2 b (nL b o e)).trans e1]
 ·obtain⟨w',z⟩:=I.cell y c e;exact#[w',z.sameBut hs (I.cne y c e)]
 ·obtain⟨e,n,ne,nf,d⟩:=I.pin p hp;exact#[(hs.2 p.1 ne).trans e,n,ne,nf,d]
 ·refine(I.hok b ob e).stay (λc w' hc q=>(hs.2 c ?_).trans q) (λ_ q=>q) λ_ _ q=>q
  rintro rfl;rcases hc with rfl|hc
  ·rw[I.free]at e;cases e
  ·rw[I.free]at hc;cases hc
theorem jxm{M:Model}{A:Around}{E:VP9}{n:Str}{i:Nat}{pos:Pos}{Q:Unit->Shared->Prop}(I:Inv X aa σ H s)(hN:X.N.Nodup)(hi:X.N[i]?=some n)(hk:X.env.scope.names.lookup n=some .local)
  (h:∀s',Inv X aa (σ.set i none) H s'->Q () s'):wpAny M A (do bindName X.env n Value.none;unbindBehindTheSuite X.env n pos) Q E s:=by
 refine X0 (wpAny_bindName (jxf I hN hi (.inl hk) (v:=.non) (u:=.none) rfl (λs1 I1=>?_) (.inr hk)));have xr:i < σ.length:=by rw[I.len];exact(List.getElem?_eq_some_iff.mp hi).1
 obtain⟨m,hn,hl⟩:=id I1.loc;obtain⟨u,ru,lk⟩:=hl i n .non hi (Xy xr) (.inl hk);have hm:m n=some u:=by
  rcases lk with⟨_,z⟩|⟨z,_⟩
  ·exact z
  ·rcases z with z|z
   ·have z:X.env.scope.names.lookup n=some .cell:=z;rw[hk]at z;cases z
   ·have z:X.env.scope.names.lookup n=some .free:=z;rw[hk]at z;cases z
 have rn:(X.env.scope.kind == .class||(X.env.scope.kind == .module&&X.env.locals != X.env.globals))=false:=by rw[I.ok.kind];rfl
 unfold unbindBehindTheSuite;refine wpAny_onRaise (wpAny_unbindName_local hk hn hm rn λh' u' mh sb=>h _ ?_);refine qzt (t':=s1.toks) I1 sb mh (by rw[Yj];exact I.len) λj y v e1 e2 e3=>?_
 by_cases hj:j=i
 ·subst hj;rw[Xy xr]at e2;cases e2
 ·rw[Xr (Ne.symm hj)]at e2;obtain⟨u2,r2,l2⟩:=hl j y v e1 (by rw[Xr (Ne.symm hj)];exact e2) e3;refine#[u2,r2,?_];rcases l2 with⟨k,e⟩|⟨k,c,e,z⟩
  ·refine .inl #[k,?_];have:y≠n:=λe=>hj (kw9 hN e1 (e▸hi))
   simp[this,e]
  ·exact .inr #[k,c,e,z.sameBut sb (I.cne y c e)]
end
structure ExAt (K:Frag)(x:Addr)(ox:Obj)(C:Addr):Prop where
 cls:ox.cls=.ref C
 no:PySem.W.notCls ox=true
 di:ox.dict=none
 xc:XCls K C
theorem vwn{X:Cx}{x:Str}{pos:Pos}{C:Addr}(h:X.mg x=some (.ref C))(hg:autoParam (Gl X x) Ŕ)(hd:autoParam (Abd x) ŕ):PE X (.Name x pos) (tC (.ref C)):=qxo hg h (v:=.ref C) rfl hd
end L3
namespace Q
open PySem
inductive D where
 |non|bl (b:Bool)|int (i:Int)|str (z:Str)|tup (xs:List D)|lst (xs:List D)|dct (kvs:List (D×D))|obj (c:Str) (fs:List (Str×D))
instance:DecidableEq D:=λa b=>Classical.propDecidable (a=b)
instance:Inhabited D:=#[.non]
mutual
noncomputable def D.pure:D->Bool
 |.tup xs=>D.pures xs|.lst _=>false|.dct _=>false|.obj _ _=>false|_=>true
noncomputable def D.pures:List D->Bool
 |[]=>true|a::x=>D.pure a&&D.pures x
end
theorem D.pures_all:∀xs,D.pures xs=xs.all D.pure
 |[]=>by simp[D.pures]|a::x=>by rw[D.pures,List.all_cons,D.pures_all x]
@[simp] theorem D.pures_map {α:Type} f (xs:List α)(h:∀x∈xs,(f x).pure=true):D.pures (xs.map f)=true:=by
 rw[D.pures_all,Yx];intro d hd;obtain⟨x,hx,rfl⟩:=aE hd;exact h x hx
mutual
noncomputable def peq:D->D->Bool
 |.non,.non=>true|.bl a,.bl b=>a==b|.bl a,.int b=>(if a then 1 else 0)==b|.int a,.bl b=>a==(if b then 1 else 0)|.int a,.int b=>a==b|.str a,.str b=>a==b|.lst as,.lst bs=>peqs as bs|.tup as,.tup bs=>peqs as bs|_,_=>false
noncomputable def peqs:List D->List D->Bool
 |[],[]=>true|a::as,b::bs=>peq a b&&peqs as bs|_,_=>false
end
mutual
noncomputable def D.flat:Nat->D->Bool
 |0,.tup _=>false|0,.lst _=>false|n+1,.tup xs=>D.flats n xs|n+1,.lst xs=>D.flats n xs|_,.dct _=>false|_,.obj _ _=>false|_,_=>true
noncomputable def D.flats:Nat->List D->Bool
 |_,[]=>true|n,a::x=>D.flat n a&&D.flats n x
end
mutual
noncomputable def v6:Nat->D->Bool
 |_,.non=>true|_,.int _=>true|_,.str _=>true|n+1,.tup xs=>keyDs n xs|_,_=>false
noncomputable def keyDs:Nat->List D->Bool
 |_,[]=>true|n,a::x=>v6 n a&&keyDs n x
end
noncomputable def unm : List (D × D) -> Bool
  |(.str _,_)::_=>false|_=>true
inductive Own where
 |no|rt|dp
 deriving DecidableEq
abbrev Sd:=Own×D
abbrev En:=List (Option Sd)
inductive Res (α:Type) where
 |ok (E:En) (a:α)
 |exc (E:En) (c:Str)
abbrev Ev(α:Type):=En->Option (Res α)
abbrev Ex:=Ev Sd
noncomputable def bnd{α β:Type}(m:Option (Res α))(f:En->α->Option (Res β)):Option (Res β):=
 match m with
 |some (.ok E a)=>f E a|some (.exc E c)=>some (.exc E c)|none=>none
@[simp] theorem xv5 {α β:Type}(E:En)(a:α)(f:En->α->Option (Res β)):bnd (some (.ok E a)) f=f E a:=rfl
@[simp] theorem xq1 {α β:Type}(E:En)(c:Str)(f:En->α->Option (Res β)):bnd (some (.exc E c)) f=some (.exc E c):=rfl
@[simp] theorem wzo {α β:Type}(f:En->α->Option (Res β)):bnd none f=none:=rfl
noncomputable def val{α:Type}(E:En)(x:Option α):Option (Res α):=x.map (Res.ok E)
@[simp] theorem wz8 {α:Type}(E:En)(x:α):val E (some x)=some (.ok E x):=rfl
@[simp] theorem wz9 {α:Type}(E:En):val E (none:Option α)=none:=rfl
def cC(d:D):Ex:=λE=>some (.ok E (.dp,d))
noncomputable def cV(i:Nat):Ex:=λE=>match E[i]? with
 |some (some (_,d))=>some (.ok (E.set i (some (.no,d))) (.no,d))|_=>none
noncomputable def cMv(i:Nat):Ex:=λE=>match E[i]? with
 |some (some x)=>some (.ok (E.set i none) x)|_=>none
noncomputable def vV(i:Nat):Ex:=λE=>match E[i]? with
 |some (some x)=>some (.ok E x)|_=>none
def vE(c:Ex):Ex:=λE=>bnd (c E) λE x=>some (.ok E (.no,x.2))
abbrev C9(z:Int):Ex:=vE (cC (.int z))
noncomputable def cH(v:Ex):Ex:=λE=>bnd (v E) λE x=>if x.1=.no then some (.ok E (.no,x.2))else if x.2.pure then some (.ok E (.dp,x.2))else none
noncomputable def cF1(f:Sd->Option Sd)(a:Ex):Ex:=λE=>bnd (a E) λE x=>val E (f x)
noncomputable def cF2(f:Sd->Sd->Option Sd)(a b:Ex):Ex:=λE=>bnd (a E) λE x=>bnd (b E) λE y=>val E (f x y)
noncomputable def pu1(f:D->Option D):Sd->Option Sd:=λx=>(f x.2).map λd=>(.dp,d)
noncomputable def pu2(f:D->D->Option D):Sd->Sd->Option Sd:=λx y=>(f x.2 y.2).map λd=>(.dp,d)
noncomputable def xqy:D->List D
 |.lst xs=>xs|.tup xs=>xs|.dct kvs=>kvs.map (·.2)|_=>[]
def qQ(x:Sd):Bool:=x.1 != .dp||D.pures (xqy x.2)
def sub:Own->Own
 |.dp=>.dp|_=>.no
noncomputable def ixN(n:Nat)(i:Int):Option Nat:=if 0<=i then(if i<n then some i.toNat else none)else if -(n:Int)<=i then some (i+n).toNat else none
noncomputable def ixD:D->D->Option D
 |.lst xs,.int i=>(ixN xs.length i).bind λj=>xs[j]?|.tup xs,.int i=>(ixN xs.length i).bind λj=>xs[j]?|.str z,.int i=>(ixN z.cps.size i).bind λj=>(z.cps.toList[j]?).map λc=>.str #[(List.toArray [c])]|.dct kvs,k=>(kvs.find? λe=>decide (e.1=k)).map (·.2)|_,_=>none
def big:Nat:=16777216
noncomputable def i2(f:Int->Int->Option Int):D->D->Option D
 |.int a,.int b=>(f a b).map .int|_,_=>none
noncomputable def c2(f:Int->Int->Bool):D->D->Option D
 |.int a,.int b=>some (.bl (f a b))|_,_=>none
def qwp(a:Int):Bool:=decide (-(2 ^ 64)<a)&&decide (a<2 ^ 64)
noncomputable def k4:Sd->Sd->Option Sd:=λx y=>match x.2,y.2 with
 |.int a,.int b=>some (.dp,.int (a+b))|.str a,.str b=>if a.cps.size+b.cps.size<=big then some (.dp,.str (a++b))else none|.lst a,.lst b=>if a.length+b.length<=big/\qQ x/\qQ y then some (.rt,.lst (a++b))else none|.tup a,.tup b=>if a.length+b.length<=big/\qQ x/\qQ y then some (.no,.tup (a++b))else none|_,_=>none
noncomputable def ZZ(a b:Int):Bool:=qwp a||qwp b||(decide (a.natAbs.log2<2000000)&&decide (b.natAbs.log2<2000000))
noncomputable def wxe:Sd->Sd->Option Sd:=λx y=>match x.2,y.2 with
 |.int a,.int b=>if ZZ a b then some (.dp,.int (a*b))else none|.lst a,.int k=>if -(2 ^ 63)<=k/\k<2 ^ 63/\a.length*k.toNat<=big/\qQ x then some (.rt,.lst (List.replicate k.toNat a).flatten)else none|.str z,.int n=>if(z.cps.size<=1024/\n<=1024/\-1024<=n)/\(Txt.mul z n).cps.size<=big then some (.dp,.str (Txt.mul z n))else none|_,_=>none
def wzk:D->D->Option D:=i2 λa b=>some (a - b)
noncomputable def xk:D->D->Option D:=i2 λa b=>if 0<b/\b.natAbs.log2<9000 then some (a / b)else none
noncomputable def qv:D->D->Option D:=i2 λa b=>if 0<b then some (a % b)else none
noncomputable def fEq:D->D->Option D:=λa b=>if a.flat 40&&b.flat 40 then some (.bl (peq a b))else none
noncomputable def fNe:D->D->Option D:=λa b=>if a.flat 40&&b.flat 40 then some (.bl (!peq a b))else none
def isNon:D->Bool
 |.non=>true|_=>false
def fLt:D->D->Option D:=c2 λa b=>decide (a<b)
def fLe:D->D->Option D:=c2 λa b=>decide (a<=b)
def fGt:D->D->Option D:=c2 λa b=>decide (b<a)
def fGe:D->D->Option D:=c2 λa b=>decide (b<=a)
def KQ:D->Option D
 |.int a=>some (.int (-a))|_=>none
noncomputable def xkr(a b:Str):Bool:=!(Builtin.Str.occurrences b a 0 b.length 1).isEmpty
noncomputable def fIn:D->D->Option D:=λx y=>match y with
 |.lst ys=>if x.flat 30&&D.flats 30 ys then some (.bl (ys.any λz=>peq z x))else none|.tup ys=>if x.flat 30&&D.flats 30 ys then some (.bl (ys.any λz=>peq z x))else none
 |.str b=>(match x with
  |.str a=>some (.bl (xkr a b))
  |_=>none)
 |.dct kvs=>some (.bl (kvs.any λe=>decide (e.1=x)))|_=>none
noncomputable def W9:D->D->Option D:=λx y=>(fIn x y).bind λd=>match d with
 |.bl k=>some (.bl (!k))|_=>none
noncomputable def qw:D->Option D
 |.lst xs=>some (.int xs.length)|.tup xs=>some (.int xs.length)|.str z=>some (.int z.length)|_=>none
noncomputable def kind:D->String
 |.non=>"NoneType"|.bl _=>"bool"|.int _=>"int"|.str _=>"str"|.tup _=>"tuple"|.lst _=>"list"|.dct _=>"dict"|.obj _ _=>""
def isaK(t u:String):Bool:=t==u||(t == "bool" && u == "int")
noncomputable def qj(u:String):D->Option D:=λd=>match d with
 |.obj _ _=>none|.dct _=>none|_=>some (.bl (isaK (kind d) u))
def fIsNon:D->Option D:=λd=>some (.bl (isNon d))
def fNotNon:D->Option D:=λd=>some (.bl (!isNon d))
abbrev Ts:=Ev Bool
noncomputable def truth:D->Option Bool
 |.bl b=>some b|.non=>some false|.int i=>some (i != 0)|.str z=>some (z.cps.size != 0)|.lst xs=>some (!xs.isEmpty)|.tup xs=>some (!xs.isEmpty)|.dct xs=>some (!xs.isEmpty)|.obj _ _=>none
def tE(c:Ex):Ts:=λE=>bnd (c E) λE x=>val E (truth x.2)
noncomputable def tAnd(a b:Ts):Ts:=λE=>bnd (a E) λE x=>if x then b E else some (.ok E false)
noncomputable def tOr(a b:Ts):Ts:=λE=>bnd (a E) λE x=>if x then some (.ok E true)else b E
def tNot(a:Ts):Ts:=λE=>bnd (a E) λE x=>some (.ok E (!x))
def tYes:Ts:=λE=>some (.ok E true)
noncomputable def cIf(t:Ts)(a b:Ex):Ex:=λE=>bnd (t E) λE x=>if x then a E else b E
noncomputable def Jk(a b:Ex):Ex:=λE=>bnd (a E) λE x=>match x.2 with
 |.bl true=>b E|.bl false=>some (.ok E (.dp,.bl false))|_=>none
noncomputable def cOr(a b:Ex):Ex:=λE=>bnd (a E) λE x=>match x.2 with
 |.bl true=>some (.ok E (.dp,.bl true))|.bl false=>b E|_=>none
noncomputable def Kz:D->D->Option D:=λx y=>match y with
 |.dct _=>none|_=>fIn x y
noncomputable def J0:D->D->Option D:=λx y=>match y with
 |.dct _=>none|_=>W9 x y
noncomputable def f2First(f:D->Option D):Sd->Sd->Option Sd:=λx y=>if isNon y.2 then(f x.2).map λd=>(.dp,d)else none
noncomputable def jJ:D->D->Option D:=λx y=>match x with
 |.dct _=>none|_=>ixD x y
noncomputable def jk(a b:Ex):Ex:=λE=>bnd (a E) λE x=>bnd (b E) λE y=>val E ((jJ x.2 y.2).map λd=>(sub x.1,d))
noncomputable def truthQ:D->Option Bool:=λd=>match d with
 |.dct _=>none|_=>truth d
def tEQ(c:Ex):Ts:=λE=>bnd (c E) λE x=>val E (truthQ x.2)
noncomputable def vjw(c:Ex):Ex:=λE=>bnd (c E) λE x=>val E ((truthQ x.2).map λk=>(.dp,.bl (!k)))
noncomputable def v8:List Ex->Ev (List Sd)
 |[],E=>some (.ok E [])|c::cs,E=>bnd (c E) λE x=>bnd (v8 cs E) λE xs=>some (.ok E (x::xs))
def ww(x:Sd):Bool:=x.1 == .dp||x.2.pure
noncomputable def kq(o:Own)(cs:List Ex):Ex:=λE=>bnd (v8 cs E) λE xs=>if o=.dp then(if xs.all ww then some (.ok E (.dp,.lst (xs.map (·.2))))else none)else some (.ok E (.rt,.lst (xs.map (·.2))))
noncomputable def kw(o:Own)(cs:List Ex):Ex:=λE=>bnd (v8 cs E) λE xs=>if o=.dp then(if xs.all ww then some (.ok E (.dp,.tup (xs.map (·.2))))else none)else some (.ok E (.no,.tup (xs.map (·.2))))
inductive Fl where
 |nx (E:En)|rt (E:En) (x:Sd)|ct (E:En)|bk (E:En)|xc (E:En) (c:Str)
abbrev Sm:=En->Option Fl
noncomputable def ofE{α:Type}(m:Option (Res α))(f:En->α->Option Fl):Option Fl:=
 match m with
 |some (.ok E a)=>f E a|some (.exc E c)=>some (.xc E c)|none=>none
@[simp] theorem xqx {α:Type}(E:En)(a:α)(f:En->α->Option Fl):ofE (some (.ok E a)) f=f E a:=rfl
@[simp] theorem xk7 {α:Type}(E:En)(c:Str)(f:En->α->Option Fl):ofE (some (.exc E c)) f=some (.xc E c):=rfl
@[simp] theorem wzh {α:Type}(f:En->α->Option Fl):ofE none f=none:=rfl
noncomputable def j6(a b:Sm):Sm:=λE=>match a E with
 |some (.nx E)=>b E|r=>r
def k9:Sm:=λE=>some (.nx E)
noncomputable def jq(i:Nat)(c:Ex):Sm:=λE=>ofE (c E) λE x=>some (.nx (E.set i (some x)))
def jw(c:Ex):Sm:=λE=>ofE (c E) λE x=>some (.rt E x)
noncomputable def sIf(t:Ts)(a b:Sm):Sm:=λE=>ofE (t E) λE x=>if x then a E else b E
inductive Tg where
 |n (i:Nat)|t (ts:List Nat)
noncomputable def setAll:List Nat->List D->En->Option En
 |[],[],E=>some E|i::is,d::ds,E=>setAll is ds (E.set i (some (.no,d)))|_,_,_=>none
noncomputable def Tg.put:Tg->D->En->Option En
 |.n i,d,E=>some (E.set i (some (.no,d)))|.t is,.tup ds,E=>setAll is ds E|.t is,.lst ds,E=>setAll is ds E|.t _,_,_=>none
noncomputable def Wj(is:List Nat)(c:Ex):Sm:=λE=>ofE (c E) λE x=>(Tg.put (.t is) x.2 E).map .nx
noncomputable def Q7(tg:Tg)(b:Sm):List D->En->Option Fl
 | [],E=>some (.nx E)
 | d::ds,E=>match tg.put d E with
  |none=>none
  |some E=>match b E with
   |some (.nx E)=>Q7 tg b ds E|some (.ct E)=>Q7 tg b ds E|some (.bk E)=>some (.nx E)|r=>r
noncomputable def vw(it:Ev (List D))(tg:Tg)(b:Sm):Sm:=λE=>ofE (it E) λE ds=>Q7 tg b ds E
noncomputable def sWhile(t:Ts)(b:Sm)(E:En):Option Fl:=
 match t E with
 |some (.ok E true)=>(match b E with
  |some (.nx E)=>sWhile t b E|some (.ct E)=>sWhile t b E|some (.bk E)=>some (.nx E)
  |r=>r)
 |some (.ok E false)=>some (.nx E)|some (.exc E c)=>some (.xc E c)|none=>none
partial_fixpoint
noncomputable def whN(t:Ts)(b:Sm):Nat->En->Option Fl
 | 0,_=>none
 | n+1,E=>match t E with
  |some (.ok E true)=>(match b E with
   |some (.nx E)=>whN t b n E|some (.ct E)=>whN t b n E|some (.bk E)=>some (.nx E)
   |r=>r)
  |some (.ok E false)=>some (.nx E)|some (.exc E c)=>some (.xc E c)|none=>none
theorem vxg{t b}:∀{E r},sWhile t b E=some r->∃n,whN t b n E=some r:=by
 intro E r;refine sWhile.partial_correctness t b (λE r=>∃n,whN t b n E=some r) ?_ E r;intro f ih E r h;cases ht:t E with
 | none=>rw[ht]at h;cases h
 | some q=>
  cases q with
  | exc E1 c=>rw[ht]at h;exact#[1,by simp only[whN,ht];exact h]
  | ok E1 k=>
   rw[ht]at h;cases k with
   | false=>exact#[1,by simp only[whN,ht];exact h]
   | true=>
    dsimp only at h;cases hb:b E1 with
    |none=>rw[hb]at h;cases h
    |some g=>
     rw[hb]at h;cases g with|nx E2=>obtain⟨n,hn⟩:=ih _ _ h;exact#[n+1,by simp only[whN,ht,hb];exact hn]|ct E2=>obtain⟨n,hn⟩:=ih _ _ h;exact#[n+1,by simp only[whN,ht,hb];exact hn]|bk E2=>exact#[1,by simp only[whN,ht,hb];exact h]|rt E2 x=>exact#[1,by simp only[whN,ht,hb];exact h]|xc E2 c=>exact#[1,by simp only[whN,ht,hb];exact h]
noncomputable def at'{α:Type}(L:List (Option α))(j:Nat):Option α:=(L[j]?).join
noncomputable def clr{α:Type}:List Nat->List (Option α)->List (Option α)
 |[],L=>L|j::R,L=>clr R (L.set j none)
noncomputable def back{α:Type}:List Nat->List (Option α)->List (Option α)->List (Option α)
 |j::R,q::B,L=>back R B (L.set j q)|_,_,L=>L
noncomputable def wkk(k:Nat)(R:List Nat)(E:En):En:=List.replicate k none++R.map (at' E)
noncomputable def JV(k:Nat)(R:List Nat)(B E:En):En:=back R (B.drop k) (clr R E)
noncomputable def lcL(tg:Tg)(t:Ts)(c:Ex):List D->En->List Sd->Option (Res (List Sd))
 |[],B,aq=>some (.ok B aq)
 |d::ds,B,aq=>match tg.put d B with
  |none=>none|some B=>bnd (t B) λB x=>if x then bnd (c B) λB y=>lcL tg t c ds B (aq++[y])else lcL tg t c ds B aq
noncomputable def mkL(o:Own)(E:En)(xs:List Sd):Option (Res Sd):=
 if o=.dp then(if xs.all ww then some (.ok E (.dp,.lst (xs.map (·.2))))else none)else some (.ok E (.rt,.lst (xs.map (·.2))))
noncomputable def cLC(o:Own)(k:Nat)(R:List Nat)(it:Ev (List D))(tg:Tg)(t:Ts)(c:Ex):Ex:=λE=>bnd (it E) λE ds=>
 match lcL tg t c ds (wkk k R E) []with
 |some (.ok B xs)=>mkL o (JV k R B E) xs|some (.exc B e)=>some (.exc (JV k R B E) e)|none=>none
noncomputable def WV:Option (Option Sd)->Bool
 |some (some (_,.lst _))=>true|_=>false
noncomputable def wqk(g0:Option (Option Sd)->Bool)(g:Sd->D->D->Option D)(i:Nat)(kc vc:Ex):Sm:=λE=>ofE (vc E) λE v=>if g0 E[i]?=true then ofE (kc E) λE k=>(match E[i]? with
 |some (some s)=>(g s k.2 v.2).map λd=>.nx (E.set i (some (.rt,d)))
 |_=>none)else none
noncomputable def qW(f:List D->D->Option (List D))(i:Nat)(c:Ex):Sm:=λE=>if WV E[i]? then ofE (c E) λE x=>match E[i]? with
 |some (some (o,.lst xs))=>if o=.no then none else(match f xs x.2 with
  |some ys=>some (.nx (E.set i (some (if o=.dp/\ww x then .dp else .rt,.lst ys))))
  |none=>none)
 |_=>none
 else none
noncomputable def qX:List D->D->Option (List D):=λxs d=>if xs.length<big then some (xs++[d])else none
noncomputable def JK:D->Option D
 |.int i=>some (.int i)|.bl k=>some (.int (if k then 1 else 0))|.str z=>if z.length<=640 then(PySem.intText? z).map .int else none|_=>none
noncomputable def K6:Sd->Option Sd:=λx=>match x.2 with
 |.lst xs=>if qQ x then some (.rt,.lst xs)else none|.tup xs=>if qQ x then some (.rt,.lst xs)else none|_=>none
noncomputable def xV:Sd->Option Sd:=λx=>match x.2 with
 |.lst xs=>if qQ x then some (.no,.tup xs)else none|.tup xs=>if qQ x then some (.no,.tup xs)else none|_=>none
noncomputable def bls:List D->Option (List Bool)
 |[]=>some []|.bl b::ds=>(bls ds).map (b :: ·)|_=>none
noncomputable def wzl:D->Option D
 |.lst ds=>(bls ds).map λbs=>.bl (bs.all id)|_=>none
noncomputable def seqOf:D->Option (List D)
 |.lst xs=>some xs|.tup xs=>some xs|.str z=>if z.cps.size<=big then some (z.cps.toList.map λc=>.str #[(List.toArray [c])])else none|_=>none
noncomputable def itS(c:Ex):Ev (List D):=λE=>bnd (c E) λE x=>val E (seqOf x.2)
def xQ(i:Int):Bool:=decide (-(2 ^ 62)<=i)&&decide (i<2 ^ 62)
noncomputable def k8(lo hi:Int):List D:=(List.range (hi - lo).toNat).map λ(k:Nat)=>.int (lo+(k:Int))
noncomputable def vW(c:Ex):Ev (List D):=λE=>bnd (c E) λE x=>match x.2 with
 |.int j=>if xQ j/\j.toNat<=big then some (.ok E (k8 0 j))else none|_=>none
noncomputable def YQ(c:Ex):Ex:=λE=>bnd (c E) λE x=>match x.2 with
 |.int j=>if xQ j/\j.toNat<=big then some (.ok E (.rt,.lst (k8 0 j)))else none|_=>none
abbrev Fn:=List Sd->Option (Res Sd)
noncomputable def fn(n:Nat)(b:Sm):Fn:=λxs=>match b (xs.map some++List.replicate (n - xs.length) none)with
 |some (.rt E x)=>some (.ok E x)|some (.nx E)=>some (.ok E (.dp,.non))|some (.xc E c)=>some (.exc E c)|_=>none
def letAll(xs:List Sd):List Sd:=xs.map λx=>(.no,x.2)
noncomputable def jx(f:Fn)(cs:List Ex):Ex:=λE=>bnd (v8 cs E) λE xs=>match f (letAll xs)with
 |some (.ok _ y)=>some (.ok E y)|some (.exc _ c)=>some (.exc E c)|none=>none
end Q
namespace Q
open PySem PySem.Spec PyProof.Rows L2 L3
mutual
noncomputable def Qz(w:PySem.World):D->Int
 |.int i=>hashInt i|.str z=>hashStr w z|.tup xs=>reduceHash (Builtin.Tuple.tupleHashOf (hashDs w xs))|_=>4238894112
noncomputable def hashDs(w:PySem.World):List D->List Int
 |[]=>[]|a::x=>Qz w a::hashDs w x
end
def Kd:Type:={d:D // v6 6 d=true}
instance:DecidableEq Kd:=λa b=>Classical.propDecidable (a=b)
abbrev Ent:=Kd×Addr×Value
noncomputable def qK(a:Addr)(es:List Ent)(ep:Nat):HO:=.ext λw h=>∃o ds,h.get? a=some o/\o.ExactDict/\o.data=.dict ds ep/\ds.toList=es.map λx=>(#[Qz w x.1.1,.ref x.2.1,x.2.2]:DictEntry)
mutual
noncomputable def PuR(K:Frag)(H:Hp):D->V->Prop
 |.non,v=>v=.non|.int i,v=>v=.int i|.str z,v=>v=.str z/\z.length<=sizeLine|.tup ds,v=>∃a xs,v=.ref a/\SqT K H a xs/\PuRs K H ds xs|_,_=>False
noncomputable def PuRs(K:Frag)(H:Hp):List D->List V->Prop
 |[],xs=>xs=[]|d::ds,xs=>∃x r,xs=x::r/\PuR K H d x/\PuRs K H ds r
end
noncomputable def DcN(K:Frag)(H:Hp)(a:Addr)(ks:List D)(vs:List V):Prop:=∃(es:List Ent) (ep:Nat),H a=some (qK a es ep)/\(a==sysModules)=false/\es.length<=sizeLine/\(es.map (·.1)).Nodup/\ks=es.map (·.1.1)/\(∀x∈es,PuR K H x.1.1 (.ref x.2.1))/\Vals vs (es.map (·.2.2))
noncomputable def DcI(H:Hp)(a:Addr)(ks:List D)(vs:List V):Prop:=∃(kv:List (Int×V)) (m:Str),H a=some (.dK (kv.map λp=>(Sum.inl p.1,p.2)))/\ks=.str m::kv.map (λp=>D.int p.1)/\vs=.non::kv.map (·.2)
noncomputable def DcA(K:Frag)(H:Hp)(a:Addr)(ks:List D)(vs:List V):Prop:=DcN K H a ks vs\/DcI H a ks vs
theorem DcA.un{K H a kvs vs}(h:DcA K H a (kvs.map (·.1)) vs)(hu:unm kvs=true):DcN K H a (kvs.map (·.1)) vs:=by
 rcases h with h|⟨kv,m,_,h,_⟩
 ·exact h
 ·cases kvs with
  |nil=>cases h
  |cons p r=>
   obtain⟨k,d⟩:=p;injection h with h1 _;subst h1;cases hu
noncomputable def xv7(K:Frag)(a:Addr)(xs:List V):Prop:=∃(aj:Array Value) (n:Nat),K.lookup a=some {cls:=.type "list",data:=.seq aj n}/\aj.size<=sizeLine/\Vals xs aj.toList
noncomputable def wzs(K:Frag)(H:Hp)(a:Addr)(xs:List V):Prop:=(∃o,H a=some (.frz o (.lst xs)))\/xv7 K a xs
noncomputable def LsR(K:Frag)(H:Hp)(a:Addr)(xs:List V):Prop:=Rd H a (.lst xs)\/xv7 K a xs
theorem LsR.of{K H a xs}(h:wzs K H a xs):LsR K H a xs:=h.imp .inr id
theorem LsR.sq{K H a xs}(h:LsR K H a xs):SqL K H a xs:=by
 rcases h with h|⟨aj,n,h1,h2,h3⟩
 ·exact .inl h
 ·exact .inr #[_,aj,n,h1,rfl,rfl,rfl,h2,h3]
theorem LsR.is{X aa}{σ:L2.St}{H s a xs}(I:L2.Inv X aa σ H s)(h:LsR X.K H a xs):xs.length<=sizeLine/\∃(aj:List Value) (n:Nat),Vals xs aj/\s.heap.get? a=some {cls:=.type "list",data:=.seq aj.toArray n}:=by
 rcases h with h|⟨aj,n,h1,h2,h3⟩
 ·obtain⟨z,aj,n,r,e⟩:=h.ok I.hok;exact#[z,aj,n,r,e]
 ·have hl:=h3.length;simp at hl;exact#[⋯,aj.toList,n,h3,by simpa using I.kIn a _ h1]
noncomputable def ExD(K:Frag)(H:Hp)(c:Str)(v:V):Prop:=∃x o C,v=.ref x/\H x=some (.frz o (.ext λ_ _=>True))/\ExAt K x o C/\nsIn K mainGlobals c=some (some (.ref C))
mutual
noncomputable def RepL(K:Frag)(H:Hp)(g:Bool):D->V->List Addr->Prop
 |.non,v,as=>v=.non/\as=[]|.bl b,v,as=>v=.bl b/\as=[]|.int i,v,as=>v=.int i/\as=[]|.str z,v,as=>v=.str z/\as=[]/\z.length<=sizeLine|.tup ds,v,as=>∃a xs,v=.ref a/\SqT K H a xs/\RepA K H g ds xs as|.lst ds,v,as=>∃a xs bs,v=.ref a/\RepA K H g ds xs bs/\((H a=some (.lst xs)/\as=a::bs)\/(g=true/\wzs K H a xs/\as=bs))|.dct kvs,v,as=>∃a xs bs,v=.ref a/\RepP K H g kvs xs bs/\DcA K H a (kvs.map (·.1)) xs/\as=a::bs|.obj c _,v,as=>as=[]/\ExD K H c v
noncomputable def RepA(K:Frag)(H:Hp)(g:Bool):List D->List V->List Addr->Prop
 |[],xs,as=>xs=[]/\as=[]|d::ds,xs,as=>∃x r bs cs,xs=x::r/\as=bs++cs/\RepL K H g d x bs/\RepA K H g ds r cs
noncomputable def RepP(K:Frag)(H:Hp)(g:Bool):List (D×D)->List V->List Addr->Prop
 |[],xs,as=>xs=[]/\as=[]|(_,d)::ds,xs,as=>∃x r bs cs,xs=x::r/\as=bs++cs/\RepL K H g d x bs/\RepP K H g ds r cs
end
noncomputable def RepR(K:Frag)(H:Hp):D->V->List Addr->Prop
 |.lst ds,v,as=>∃a xs bs,v=.ref a/\RepA K H true ds xs bs/\H a=some (.lst xs)/\as=a::bs|.dct kvs,v,as=>∃a xs bs,v=.ref a/\RepP K H true kvs xs bs/\DcA K H a (kvs.map (·.1)) xs/\as=a::bs|_,_,_=>False
noncomputable def RepO(K:Frag)(H:Hp):Own->D->V->List Addr->Prop
 |.no=>RepL K H true|.rt=>RepR K H|.dp=>RepL K H false
section
variable {K:Frag}{H H':Hp}
noncomputable def Kp(H H':Hp)(as:List Addr):Prop:=(∀a xs,H a=some (.tup xs)->H' a=some (.tup xs))/\(∀a o u,H a=some (.frz o u)->H' a=some (.frz o u))/\∀a∈as,∀ob,H a=some ob->H' a=some ob
theorem Kp.left{as bs}(k:Kp H H' (as++bs)):Kp H H' as:=#[k.1,k.2.1,λa ha=>k.2.2 a (ll9 _ ha)]
theorem Kp.right{as bs}(k:Kp H H' (as++bs)):Kp H H' bs:=#[k.1,k.2.1,λa ha=>k.2.2 a (lr9 _ ha)]
theorem Kp.tail{a bs}(k:Kp H H' (a::bs)):Kp H H' bs:=#[k.1,k.2.1,λb hb=>k.2.2 b (lc9 _ hb)]
theorem Kp.tupT{as a xs}(k:Kp H H' as)(h:SqT K H a xs):SqT K H' a xs:=by
 rcases h with(h|⟨o,h⟩)|h
 ·exact .inl (.inl (k.1 a xs h))
 ·exact .inl (.inr #[o,k.2.1 a o _ h])
 ·exact .inr h
theorem Kp.frzL{as a xs}(k:Kp H H' as)(h:wzs K H a xs):wzs K H' a xs:=by
 rcases h with⟨o,h⟩|h
 ·exact .inl #[o,k.2.1 a o _ h]
 ·exact .inr h
mutual
theorem PuR.kp{as}(k:Kp H H' as):∀{d v},PuR K H d v->PuR K H' d v
 |.non,_,h=>h|.int _,_,h=>h
 |.tup ds,_,h=>by
  obtain⟨a,xs,e,s,r⟩:=h;exact#[a,xs,e,k.tupT s,PuRs.kp k r]
 |.bl _,_,h=>h.elim|.str _,_,h=>by unfold PuR at h ⊢;exact h|.lst _,_,h=>h.elim|.dct _,_,h=>h.elim|.obj _ _,_,h=>h.elim
theorem PuRs.kp{as}(k:Kp H H' as):∀{ds xs},PuRs K H ds xs->PuRs K H' ds xs
 |[],_,h=>by unfold PuRs at h ⊢;exact h
 |d::ds,_,h=>by
  obtain⟨x,r,e,h1,h2⟩:=h;exact#[x,r,e,PuR.kp k h1,PuRs.kp k h2]
end
theorem Kp.dcn{a bs ks vs}(k:Kp H H' (a::bs))(h:DcN K H a ks vs):DcN K H' a ks vs:=by
 obtain⟨es,ep,e,h1,h2,h3,h4,h5,h6⟩:=h;exact#[es,ep,k.2.2 a X4 _ e,h1,h2,h3,h4,λx hx=>PuR.kp k (h5 x hx),h6]
theorem Kp.dca{a bs ks vs}(k:Kp H H' (a::bs))(h:DcA K H a ks vs):DcA K H' a ks vs:=by
 rcases h with h|⟨kv,m,e,h⟩
 ·exact .inl (k.dcn h)
 ·exact .inr #[kv,m,k.2.2 a X4 _ e,h]
theorem Kp.of_same{as}(s:k7 H H'):Kp H H' as:=#[λa xs h=>s a _ h,λa o u h=>s a _ h,λa _ ob h=>s a ob h]
mutual
theorem RepL.kp{g}:∀{d v as},RepL K H g d v as->Kp H H' as->RepL K H' g d v as
 | .non,_,_,h,_=>h| .bl _,_,_,h,_=>h| .int _,_,_,h,_=>h| .str _,_,_,h,_=>by unfold RepL at h ⊢;exact h
 | .tup ds,_,_,h,k=>by
  obtain⟨a,xs,e,s,r⟩:=h;exact#[a,xs,e,k.tupT s,RepA.kp r k]
 | .lst ds,_,_,h,k=>by
  obtain⟨a,xs,bs,e,r,q⟩:=h;refine#[a,xs,bs,e,?_,?_]
  ·rcases q with⟨_,rfl⟩|⟨_,_,rfl⟩
   ·exact RepA.kp r k.tail
   ·exact RepA.kp r k
  ·rcases q with⟨h1,rfl⟩|⟨hg,h1,rfl⟩
   ·exact .inl #[k.2.2 a X4 _ h1,rfl]
   ·exact .inr #[hg,k.frzL h1,rfl]
 |.dct kvs,_,_,h,k=>by
  obtain⟨a,xs,bs,e,r,q,rfl⟩:=h;exact#[a,xs,bs,e,RepP.kp r k.tail,k.dca q,rfl]
 |.obj _ _,_,_,h,k=>by
  obtain⟨e,x,o,C,h1,h2,h3⟩:=h;exact#[e,x,o,C,h1,k.2.1 _ _ _ h2,h3]
theorem RepA.kp{g}:∀{ds xs as},RepA K H g ds xs as->Kp H H' as->RepA K H' g ds xs as
 |[],_,_,h,_=>by unfold RepA at h ⊢;exact h
 |d::ds,_,_,h,k=>by
  obtain⟨x,r,bs,cs,e1,rfl,h1,h2⟩:=h;exact#[x,r,bs,cs,e1,rfl,RepL.kp h1 k.left,RepA.kp h2 k.right]
theorem RepP.kp{g}:∀{ds xs as},RepP K H g ds xs as->Kp H H' as->RepP K H' g ds xs as
 |[],_,_,h,_=>by unfold RepP at h ⊢;exact h
 |_::ds,_,_,h,k=>by
  obtain⟨x,r,bs,cs,e1,rfl,h1,h2⟩:=h;exact#[x,r,bs,cs,e1,rfl,RepL.kp h1 k.left,RepP.kp h2 k.right]
end
mutual
theorem RepL.wk:∀{d v as},RepL K H false d v as->RepL K H true d v as
 |.non,_,_,h=>h|.bl _,_,_,h=>h|.int _,_,_,h=>h|.str _,_,_,h=>by unfold RepL at h ⊢;exact h
 |.tup ds,_,_,h=>by
  obtain⟨a,xs,e,s,r⟩:=h;exact#[a,xs,e,s,RepA.wk r]
 |.lst ds,_,_,h=>by
  obtain⟨a,xs,bs,e,r,q⟩:=h;refine#[a,xs,bs,e,RepA.wk r,?_];rcases q with q|⟨z,_⟩
  ·exact .inl q
  ·grind
 |.dct kvs,_,_,h=>by
  obtain⟨a,xs,bs,e,r,q,z⟩:=h;exact#[a,xs,bs,e,RepP.wk r,q,z]
 |.obj _ _,_,_,h=>h
theorem RepA.wk:∀{ds xs as},RepA K H false ds xs as->RepA K H true ds xs as
 |[],_,_,h=>h
 |d::ds,_,_,h=>by
  obtain⟨x,r,bs,cs,e1,e2,h1,h2⟩:=h;exact#[x,r,bs,cs,e1,e2,RepL.wk h1,RepA.wk h2]
theorem RepP.wk:∀{ds xs as},RepP K H false ds xs as->RepP K H true ds xs as
 |[],_,_,h=>h
 |_::ds,_,_,h=>by
  obtain⟨x,r,bs,cs,e1,e2,h1,h2⟩:=h;exact#[x,r,bs,cs,e1,e2,RepL.wk h1,RepP.wk h2]
end
mutual
theorem RepL.al{g}:∀{d v as},RepL K H g d v as->∀a∈as,(∃xs,H a=some (.lst xs))\/(∃ φ,H a=some (.ext φ))\/∃kvs,H a=some (.dK kvs)
 | .non,_,_,h=>by rw[h.2];exact λ_ z=>nomatch z| .bl _,_,_,h=>by rw[h.2];exact λ_ z=>nomatch z| .int _,_,_,h=>by rw[h.2];exact λ_ z=>nomatch z| .str _,_,_,h=>by rw[h.2.1];exact λ_ z=>nomatch z
 | .tup ds,_,_,h=>by
  obtain⟨a,xs,e,s,r⟩:=h;exact RepA.al r
 | .lst ds,_,_,h=>by
  obtain⟨a,xs,bs,e,r,q⟩:=h;rcases q with⟨h1,rfl⟩|⟨_,_,rfl⟩
  ·intro b hb;rcases aD hb with rfl|hb
   ·exact .inl #[_,h1]
   ·exact RepA.al r b hb
  ·exact RepA.al r
 | .dct kvs,_,_,h=>by
  obtain⟨a,xs,bs,e,r,q,rfl⟩:=h;intro b hb;rcases aD hb with rfl|hb
  ·rcases q with⟨es,ep,q,_⟩|⟨kv,m,q,_⟩
   ·exact .inr (.inl #[_,q])
   ·exact .inr (.inr #[_,q])
  ·exact RepP.al r b hb
 |.obj _ _,_,_,h=>by rw[h.1];exact λ_ z=>nomatch z
theorem RepA.al{g}:∀{ds xs as},RepA K H g ds xs as->∀a∈as,(∃xs,H a=some (.lst xs))\/(∃ φ,H a=some (.ext φ))\/∃kvs,H a=some (.dK kvs)
 |[],_,_,h=>by rw[h.2];exact λ_ z=>nomatch z
 |d::ds,_,_,h=>by
  obtain⟨x,r,bs,cs,e1,rfl,h1,h2⟩:=h;intro a ha;rcases aA ha with ha|ha
  ·exact RepL.al h1 a ha
  ·exact RepA.al h2 a ha
theorem RepP.al{g}:∀{ds xs as},RepP K H g ds xs as->∀a∈as,(∃xs,H a=some (.lst xs))\/(∃ φ,H a=some (.ext φ))\/∃kvs,H a=some (.dK kvs)
 |[],_,_,h=>by rw[h.2];exact λ_ z=>nomatch z
 |_::ds,_,_,h=>by
  obtain⟨x,r,bs,cs,e1,rfl,h1,h2⟩:=h;intro a ha;rcases aA ha with ha|ha
  ·exact RepL.al h1 a ha
  ·exact RepP.al h2 a ha
end
mutual
theorem RepL.pu{g g'}:∀{d v as},RepL K H g d v as->d.pure=true->as=[]/\RepL K H g' d v []
 |.non,_,_,h,_=>#[h.2,h.1,rfl]|.bl _,_,_,h,_=>#[h.2,h.1,rfl]|.int _,_,_,h,_=>#[h.2,h.1,rfl]|.str _,_,_,h,_=>#[h.2.1,h.1,rfl,h.2.2]
 |.tup ds,_,_,h,p=>by
  obtain⟨a,xs,e,s,r⟩:=h;obtain⟨z,r'⟩:=RepA.pu (g':=g') r (p);exact#[z,a,xs,e,s,r']
 |.lst ds,_,_,h,p=>by cases p|.dct ds,_,_,h,p=>by cases p|.obj _ _,_,_,h,p=>by unfold D.pure at p;cases p
theorem RepA.pu{g g'}:∀{ds xs as},RepA K H g ds xs as->D.pures ds=true->as=[]/\RepA K H g' ds xs []
 |[],_,_,h,_=>#[h.2,h.1,rfl]
 |d::ds,_,_,h,p=>by
  unfold D.pures at p;rw[Bool.and_eq_true]at p;obtain⟨x,r,bs,cs,e1,rfl,h1,h2⟩:=h;obtain⟨rfl,q1⟩:=RepL.pu (g':=g') h1 p.1;obtain⟨rfl,q2⟩:=RepA.pu (g':=g') h2 p.2;exact#[rfl,x,r,[],[],e1,rfl,q1,q2]
end
theorem RepR.wk{d v as}(h:RepR K H d v as):RepL K H true d v as:=by
 cases d<;>first|exact False.elim h|skip
 all_goals
  obtain⟨a,xs,bs,e,r,q,z⟩:=h
  first|exact#[a,xs,bs,e,r,.inl #[q,z]]|exact#[a,xs,bs,e,r,q,z]
theorem RepR.kp{d v as}(h:RepR K H d v as)(k:Kp H H' as):RepR K H' d v as:=by
 cases d<;>first|exact False.elim h|skip
 all_goals
  obtain⟨a,xs,bs,e,r,q,rfl⟩:=h
  first|exact#[a,xs,bs,e,r.kp k.tail,k.2.2 a X4 _ q,rfl]|exact#[a,xs,bs,e,r.kp k.tail,k.dca q,rfl]
theorem RepO.wk:∀{o d v as},RepO K H o d v as->RepL K H true d v as
 |.no,_,_,_,h=>h|.rt,_,_,_,h=>RepR.wk h|.dp,_,_,_,h=>RepL.wk h
theorem RepO.kp:∀{o d v as},RepO K H o d v as->Kp H H' as->RepO K H' o d v as
 |.no,_,_,_,h,k=>RepL.kp h k|.rt,_,_,_,h,k=>RepR.kp h k|.dp,_,_,_,h,k=>RepL.kp h k
end
structure Sl where
 o:Own
 d:D
 v:V
 as:List Addr
noncomputable def Sl.own(x:Sl):List Addr:=match x.o with
 |.no=>[]|.rt=>x.as.take 1|.dp=>x.as
noncomputable def Sl.frz(x:Sl):List Addr:=match x.o with
 |.no=>x.as|.rt=>x.as.drop 1|.dp=>[]
theorem Sl.parts(x:Sl):x.own++x.frz=x.as:=by
 unfold Sl.own Sl.frz;cases x.o with|no=>rfl|rt=>exact List.take_append_drop 1 x.as|dp=>exact Xn _
theorem Sl.own_as{x:Sl}{a}(h:a∈x.own):a∈x.as:=by rw[<-x.parts];exact ll9 _ h
theorem Sl.frz_as{x:Sl}{a}(h:a∈x.frz):a∈x.as:=by rw[<-x.parts];exact lr9 _ h
theorem Sl.as_of{x:Sl}{a}(h:a∈x.as):a∈x.own\/a∈x.frz:=by rw[<-x.parts]at h;exact aA h
def Sl.let(x:Sl):Sl:={x with o:=.no}
abbrev Ls:=List (Option Sl)
def j8(L:Ls):List Addr:=L.flatMap λx=>x.elim [] Sl.own
def jV(L:Ls):List Addr:=L.flatMap λx=>x.elim [] Sl.frz
@[simp] theorem ww4:j8 []=[]:=rfl
@[simp] theorem wkm:jV []=[]:=rfl
@[simp] theorem jK x (L:Ls):j8 (some x::L)=x.own++j8 L:=by simp[j8]
@[simp] theorem vk x (L:Ls):jV (some x::L)=x.frz++jV L:=by simp[jV]
@[simp] theorem qvh (L:Ls):j8 (none::L)=j8 L:=by simp[j8]
@[simp] theorem qk0 (L:Ls):jV (none::L)=jV L:=by simp[jV]
@[simp] theorem jZ (L T):j8 (L++T)=j8 L++j8 T:=by simp[j8]
@[simp] theorem qx (L T):jV (L++T)=jV L++jV T:=by simp[jV]
theorem mem_owned{L a}:a∈j8 L↔∃x,some x∈L/\a∈x.own:=by
 unfold j8;rw[List.mem_flatMap];constructor
 ·rintro ⟨y,hy,h⟩;cases y with|none=>simp_all|some x=>exact#[x,hy,h]
 ·rintro ⟨x,hx,h⟩;exact#[some x,hx,h]
theorem mem_frozen{L a}:a∈jV L↔∃x,some x∈L/\a∈x.frz:=by
 unfold jV;rw[List.mem_flatMap];constructor
 ·rintro ⟨y,hy,h⟩;cases y with|none=>simp_all|some x=>exact#[x,hy,h]
 ·rintro ⟨x,hx,h⟩;exact#[some x,hx,h]
noncomputable def Sl.ok(K:Frag)(H:Hp)(x:Sl):Prop:=RepO K H x.o x.d x.v x.as
theorem Sl.ok.al{K H}{x:Sl}(h:x.ok K H):∀a∈x.as,(∃xs,H a=some (.lst xs))\/(∃ φ,H a=some (.ext φ))\/∃kvs,H a=some (.dK kvs):=(RepO.wk h).al
theorem Sl.ok.some{K H}{x:Sl}(h:x.ok K H){a}(ha:a∈x.as):H a≠none:=λz=>by
 rcases h.al a ha with⟨xs,e⟩|⟨xs,e⟩|⟨xs,e⟩<;>(rw[z]at e;cases e)
structure World (K:Frag)(H:Hp)(L:Ls):Prop where
 ok:∀x,some x∈L->x.ok K H
 nd:(j8 L).Nodup
 ds:∀a∈j8 L,a∉jV L
structure Step (H:Hp)(L:Ls)(H':Hp)(L':Ls):Prop where
 keep:∀a ob,H a=some ob->a∉j8 L->H' a=some ob
 own:∀a∈j8 L',a∈j8 L\/H a=none
 frz:∀a∈jV L',a∈jV L\/a∈j8 L\/H a=none
section
variable {K:Frag}{H H1 H2 H':Hp}{L L1 L2' L' T:Ls}{x y:Sl}
theorem World.own_al(w:World K H L){a}(h:a∈j8 L):(∃xs,H a=some (.lst xs))\/(∃ φ,H a=some (.ext φ))\/∃kvs,H a=some (.dK kvs):=by
 obtain⟨x,hx,ha⟩:=mem_owned.mp h;exact(w.ok x hx).al a (Sl.own_as ha)
theorem World.own_some(w:World K H L){a}(h:a∈j8 L):H a≠none:=by
 obtain⟨x,hx,ha⟩:=mem_owned.mp h;exact(w.ok x hx).some (Sl.own_as ha)
theorem World.frz_some(w:World K H L){a}(h:a∈jV L):H a≠none:=by
 obtain⟨x,hx,ha⟩:=mem_frozen.mp h;exact(w.ok x hx).some (Sl.frz_as ha)
theorem Step.refl:Step H L H L:=#[λ_ _ h _=>h,λ_ h=>.inl h,λ_ h=>.inl h]
theorem Step.trans(a:Step H L H1 L1)(b:Step H1 L1 H2 L2'):Step H L H2 L2' where
 keep:=λc ob h hn=>b.keep c ob (a.keep c ob h hn) λz=>(a.own c z).elim hn λe=>by rw[h]at e;cases e
 own:=λc hc=>by
  rcases b.own c hc with z|z
  ·exact a.own c z
  ·by_cases h:c∈j8 L
   ·exact .inl h
   ·refine .inr ?_;cases e:H c with|none=>rfl|some ob=>rw[a.keep c ob e h]at z;cases z
 frz:=λc hc=>by
  rcases b.frz c hc with z|z|z
  ·exact a.frz c z
  ·exact .inr (a.own c z)
  ·by_cases h:c∈j8 L
   ·exact .inr (.inl h)
   ·refine .inr (.inr ?_);cases e:H c with|none=>rfl|some ob=>rw[a.keep c ob e h]at z;cases z
theorem Step.kp(a:Step H L H' L')(w:World K H L){as}(h:∀b∈as,b∉j8 L):Kp H H' as:=by
 have no:∀b ob,H b=some ob->(∀xs,ob≠.lst xs)->(∀ φ,ob≠.ext φ)->(∀kvs,ob≠.dK kvs)->H' b=some ob:=λb ob e h1 h2 h3=>a.keep b ob e λz=>by
  rcases w.own_al z with _|_|_
  ·grind
  ·grind
  ·grind
 exact#[λb xs e=>no b _ e (λ_ z=>(nomatch z)) (λ_ z=>(nomatch z)) (λ_ z=>(nomatch z)),λb o u e=>no b _ e (λ_ z=>(nomatch z)) (λ_ z=>(nomatch z)) (λ_ z=>(nomatch z)),λb hb ob e=>a.keep b ob e (h b hb)]
theorem Step.frame(a:Step H L H' L')(w:World K H (L++T))(w':World K H' L')(wL:World K H L):World K H' (L'++T):=by
 have nd:=w.nd;rw [jZ,X7]at nd;have dis:=λb hb hT=>nd.2.2 b hb b hT rfl
 have lu:=λx hx=>w.ok x (lr9 _ hx)
 have nT:∀x,some x∈T->∀b∈x.as,b∉j8 L:=λx hx b hb hL=>by
  rcases Sl.as_of hb with z|z
  ·exact dis b hL (mem_owned.mpr #[x,hx,z])
  ·refine w.ds b (by rw[jZ];exact ll9 _ hL) ?_;rw[qx];exact lr9 _ (mem_frozen.mpr #[x,hx,z])
 refine#[λx hx=>?_,?_,λb hb=>?_]
 ·rcases aA hx with hx|hx
  ·exact w'.ok x hx
  ·exact(lu x hx).kp (a.kp wL (nT x hx))
 ·rw[jZ,X7];refine#[w'.nd,nd.2.1,λb hb c hc e=>?_];subst e;obtain⟨x,hx,lv⟩:=mem_owned.mp hc;rcases a.own b hb with z|z
  ·exact dis b z hc
  ·exact(lu x hx).some (Sl.own_as lv) z
 ·rw[jZ]at hb;rw[qx];intro hf;rcases aA hb with hb|hb
  ·rcases aA hf with hf|hf
   ·exact w'.ds b hb hf
   ·obtain⟨x,hx,lv⟩:=mem_frozen.mp hf;rcases a.own b hb with z|z
    ·exact nT x hx b (Sl.frz_as lv) z
    ·exact(lu x hx).some (Sl.frz_as lv) z
  ·rcases aA hf with hf|hf
   ·obtain⟨x,hx,lv⟩:=mem_owned.mp hb;rcases a.frz b hf with z|z|z
    ·exact w.ds b (by rw[jZ];exact lr9 _ hb) (by rw[qx];exact ll9 _ z)
    ·exact dis b z hb
    ·exact(lu x hx).some (Sl.own_as lv) z
   ·exact w.ds b (by rw[jZ];exact lr9 _ hb) (by rw[qx];exact lr9 _ hf)
theorem World.left(w:World K H (L++T)):World K H L:=by
 have nd:=w.nd;rw[jZ,X7]at nd;exact#[λx hx=>w.ok x (ll9 _ hx),nd.1,λa ha hf=>w.ds a (by rw[jZ];exact ll9 _ ha) (by rw[qx];exact ll9 _ hf)]
theorem World.right(w:World K H (L++T)):World K H T:=by
 have nd:=w.nd;rw[jZ,X7]at nd;exact#[λx hx=>w.ok x (lr9 _ hx),nd.2.1,λa ha hf=>w.ds a (by rw[jZ];exact lr9 _ ha) (by rw[qx];exact lr9 _ hf)]
theorem World.comm(w:World K H (L++T)):World K H (T++L):=by
 refine#[λx hx=>w.ok x ?_,?_,λa ha hf=>w.ds a ?_ ?_]
 ·grind
 ·have nd:=w.nd;rw[jZ,X7]at nd ⊢;exact#[nd.2.1,nd.1,λa ha b hb e=>nd.2.2 b hb a ha e.symm]
 ·rw[jZ]at ha ⊢;rcases aA ha with h|h
  ·exact lr9 _ h
  ·exact ll9 _ h
 ·rw[qx]at hf ⊢;rcases aA hf with h|h
  ·exact lr9 _ h
  ·exact ll9 _ h
theorem World.tail{q}(w:World K H (q::L)):World K H L:=World.right (L:=[q]) w
theorem World.head(w:World K H (some x::L)):x.ok K H:=w.ok x X4
theorem World.apart(w:World K H (some x::L)):∀a∈x.as,a∉j8 L:=λa ha hL=>by
 rcases Sl.as_of ha with z|z
 ·have nd:=w.nd;rw[jK,X7]at nd;exact nd.2.2 a z a hL rfl
 ·exact w.ds a (lr9 _ hL) (ll9 _ z)
theorem World.cons(w:World K H L)(h:x.ok K H)(n:x.own.Nodup)(h1:∀a∈x.own,a∉j8 L)(h2:∀a∈x.own,a∉jV L)(h3:∀a∈x.frz,a∉j8 L)(h4:∀a∈x.own,a∉x.frz):World K H (some x::L):=by
 refine#[λy hy=>?_,?_,λa ha hf=>?_]
 ·rcases aD hy with z|z
  ·grind
  ·exact w.ok y z
 ·rw[jK,X7];exact#[n,w.nd,λa ha b hb e=>by subst e;exact h1 a ha hb]
 ·rcases aA ha with ha|ha
  ·simp_all
  ·rcases aA hf with hf|hf
   ·exact h3 a hf ha
   ·exact w.ds a ha hf
theorem World.consNo(w:World K H L)(h:x.ok K H)(ho:x.o=.no)(h3:∀a∈x.as,a∉j8 L):World K H (some x::L):=by
 have e1:x.own=[]:=by unfold Sl.own;rw[ho]
 have e2:x.frz=x.as:=by unfold Sl.frz;rw[ho]
 exact w.cons h (by simp_all) (e1▸λ_ z=>nomatch z) (by simp_all) (e2▸h3) (by simp_all)
theorem World.consPu(w:World K H L)(h:x.ok K H)(e:x.as=[]):World K H (some x::L):=by
 have e1:∀a,a∉x.own:=λa ha=>by have:=Sl.own_as ha;rw[e]at this;exact nomatch this
 have e2:∀a,a∉x.frz:=λa ha=>by have:=Sl.frz_as ha;rw[e]at this;exact nomatch this
 have e3:=List.eq_nil_iff_forall_not_mem.mpr e1;exact w.cons h (by simp_all) (λa z=>absurd z (e1 a)) (λa z=>absurd z (e1 a)) (λa z=>absurd z (e2 a)) (λa z=>absurd z (e1 a))
theorem jqz{L:Ls}{i q}(h:some y∈L.set i q):q=some y\/some y∈L:=by
 rcases List.mem_or_eq_of_mem_set h with z|z
 ·exact .inr z
 ·exact .inl z.symm
theorem jkj{i a}(h:a∈j8 (L.set i (some x))):a∈x.own\/a∈j8 L:=by
 obtain⟨y,hy,ha⟩:=mem_owned.mp h;rcases jqz hy with z|z
 ·grind
 ·exact .inr (mem_owned.mpr #[y,z,ha])
theorem jkn{i a}(h:a∈jV (L.set i (some x))):a∈x.frz\/a∈jV L:=by
 obtain⟨y,hy,ha⟩:=mem_frozen.mp h;rcases jqz hy with z|z
 ·grind
 ·exact .inr (mem_frozen.mpr #[y,z,ha])
theorem jqs:∀{L i},(x.own++j8 L).Nodup->(j8 (L.set i (some x))).Nodup
 |[],_,h=>by simp
 |q::L,0,h=>by
  rw[List.set_cons_zero,jK];have e:j8 (q::L)=q.elim [] Sl.own++j8 L:=by simp[j8]
  rw[e,X7]at h;obtain⟨h1,h2,h3⟩:=h;rw[X7]at h2 ⊢;exact#[h1,h2.2.1,λa ha b hb=>h3 a ha b (lr9 _ hb)]
 |q::L,i+1,h=>by
  rw[List.set_cons_succ];have e:∀M,j8 (q::M)=q.elim [] Sl.own++j8 M:=λM=>by simp[j8]
  rw[e]at h ⊢;rw[X7]at h;obtain⟨h1,h2,h3⟩:=h;rw[X7]at h2;rw[X7];refine#[h2.1,jqs (by rw[X7];exact#[h1,h2.2.1,λa ha b hb=>h3 a ha b (lr9 _ hb)]),λa ha b hb e=>?_];subst e;rcases jkj hb with z|z
  ·exact h3 a z a (ll9 _ ha) rfl
  ·exact h2.2.2 a ha a z rfl
theorem World.set{i}(w:World K H (some x::L)):World K H (L.set i (some x)):=by
 refine#[λy hy=>?_,jqs (by have:=w.nd;rwa [jK]at this),λa ha hf=>?_]
 ·rcases jqz hy with z|z
  ·cases z;exact w.head
  ·exact w.ok y (lc9 _ z)
 ·refine w.ds a ?_ ?_
  ·rw[jK];exact List.mem_append.mpr (jkj ha)
  ·rw[vk];exact List.mem_append.mpr (jkn hf)
theorem Step.set{i}:Step H (some x::L) H (L.set i (some x)) where
 keep:=λ_ _ h _=>h
 own:=λa ha=>.inl (List.mem_append.mpr (jkj ha))
 frz:=λa ha=>.inl (List.mem_append.mpr (jkn ha))
theorem Step.drop{q}:Step H (q::L) H L where
 keep:=λ_ _ h _=>h
 own:=λa ha=>.inl (by rw[show(q::L:Ls)=[q]++L from rfl];exact lr9 _ ha)
 frz:=λa ha=>.inl (by rw[show(q::L:Ls)=[q]++L from rfl];exact lr9 _ ha)
theorem vQ{i:Nat}(h:L[i]?=some (some x)):some x∈L:=List.mem_of_getElem? h
theorem kqk(x:Sl):x.let.own=[]/\x.let.frz=x.as/\x.let.as=x.as:=#[rfl,rfl,rfl]
theorem kxo{i a}(h:a∈j8 (L.set i (some x.let))):a∈j8 L:=by
 rcases jkj h with z|z
 ·exact nomatch z
 ·exact z
theorem qjp:∀{L i},(j8 L).Nodup->(∀a∈j8 L,a∉jV L)->L[i]?=some (some x)->∀a∈x.as,a∉j8 (L.set i (some x.let))
 | [],_,_,_,h,_,_=>by simp_all
 | q::L,0,nd,ds,h,a,ha=>by
  have e:q=some x:=by simpa using h
  subst e;intro hm;rcases Sl.as_of ha with z|z
  ·rw[jK,X7]at nd;exact nd.2.2 a z a hm rfl
  ·exact ds a (lr9 _ hm) (ll9 _ z)
 | q::L,i+1,nd,ds,h,a,ha=>by
  have e:∀M,j8 (q::M)=q.elim [] Sl.own++j8 M:=λM=>by simp[j8]
  have f:jV (q::L)=q.elim [] Sl.frz++jV L:=by simp[jV]
  intro hm;rw[e,X7]at nd;rcases aA hm with hm|hm
  ·rcases Sl.as_of ha with z|z
   ·exact nd.2.2 a hm a (mem_owned.mpr #[x,vQ h,z]) rfl
   ·exact ds a (ll9 _ hm) (by rw[f];exact lr9 _ (mem_frozen.mpr #[x,vQ h,z]))
  ·exact qjp nd.2.1 (λb hb hf=>ds b (lr9 _ hb) (f▸lr9 _ hf)) h a ha hm
theorem J3(h:x.ok K H):x.let.ok K H:=RepO.wk h
theorem World.let{i}(w:World K H L)(h:L[i]?=some (some x)):World K H (L.set i (some x.let)):=by
 refine#[λy hy=>?_,jqs ((kqk x).1▸w.nd),λa ha hf=>?_]
 ·rcases jqz hy with z|z
  ·cases z;exact J3 (w.ok x (vQ h))
  ·exact w.ok y z
 ·rcases jkn hf with z|z
  ·exact(qjp w.nd w.ds h) a z ha
  ·exact w.ds a (kxo ha) z
theorem World.read{i}(w:World K H L)(h:L[i]?=some (some x)):World K H (some x.let::L.set i (some x.let)):=
 (w.let h).consNo (J3 (w.ok x (vQ h))) rfl (qjp (x:=x) w.nd w.ds h)
theorem Step.read{i}(h:L[i]?=some (some x)):Step H L H (some x.let::L.set i (some x.let)) where
 keep:=λ_ _ h _=>h
 own:=λa ha=>.inl (kxo ha)
 frz:=λa ha=>by
  have hx:=vQ h;have q:∀a∈x.as,a∈jV L\/a∈j8 L\/H a=none:=λa ha=>by
   rcases Sl.as_of ha with z|z
   ·exact .inr (.inl (mem_owned.mpr #[x,hx,z]))
   ·exact .inl (mem_frozen.mpr #[x,hx,z])
  rcases aA ha with z|z
  ·exact q a z
  ·rcases jkn z with z|z
   ·exact q a z
   ·exact .inl z
end
inductive Mt:En->L2.St->Ls->Prop
 |nil:Mt [] [] []
 |un {E:En} {σ:L2.St} {L:Ls} {y:Option V}:Mt E σ L->Mt (none::E) (y :: σ) (none::L)
 |cons {E:En} {σ:L2.St} {L:Ls} {x:Sl}:Mt E σ L->Mt (some (x.o,x.d)::E) (some x.v :: σ) (some x::L)
theorem Mt.get:∀{E σ L} {i:Nat} {o d},Mt E σ L->E[i]?=some (some (o,d))->∃x,L[i]?=some (some x)/\x.o=o/\x.d=d/\σ[i]?=some (some x.v)
 |_,_,_,_,_,_,.nil,h=>by simp_all|_,_,_,0,_,_,.un _,h=>by simp_all|_,_,_,i+1,_,_,.un m,h=>by simpa using m.get (by simpa using h)
 |_,_,_,0,_,_,.cons (x:=x) m,h=>by
  simp at h;exact#[x,by simp,h.1,h.2,by simp]
 |_,_,_,i+1,_,_,.cons m,h=>by simpa using m.get (by simpa using h)
theorem Mt.set{x}:∀{E σ L} (i),Mt E σ L->Mt (E.set i (some (x.o,x.d))) (σ.set i (some x.v)) (L.set i (some x))
 |_,_,_,_,.nil=>.nil|_,_,_,0,.un m=>.cons m|_,_,_,i+1,.un m=>.un (m.set i)|_,_,_,0,.cons m=>.cons m|_,_,_,i+1,.cons m=>.cons (m.set i)
theorem Mt.let{x}:∀{E σ L i},Mt E σ L->L[i]?=some (some x)->Mt (E.set i (some (.no,x.d))) σ (L.set i (some x.let))
 |_,_,_,_,.nil,h=>by simp_all|_,_,_,i+1,.un m,h=>.un (m.let (by simpa using h))
 |_,_,_,0,.cons (x:=y) m,h=>by
  have e:y=x:=by simpa using h
  subst e;exact .cons (x:=y.let) m
 |_,_,_,i+1,.cons m,h=>.cons (m.let (by simpa using h))
theorem Mt.len:∀{E σ L},Mt E σ L->E.length=σ.length/\L.length=σ.length
 |_,_,_,.nil=>#[rfl,rfl]|_,_,_,.un m=>by simp[m.len]|_,_,_,.cons m=>by simp[m.len]
def sls(L:Ls):List Sl:=L.filterMap id
theorem QQ L:j8 L=(sls L).flatMap Sl.own:=by
 induction L with
 |nil=>rfl
 |cons q L ih=>
  cases q with|none=>rw[qvh,ih];rfl|some x=>rw[jK,ih];rfl
theorem Vz L:jV L=(sls L).flatMap Sl.frz:=by
 induction L with
 |nil=>rfl
 |cons q L ih=>
  cases q with|none=>rw[qk0,ih];rfl|some x=>rw[vk,ih];rfl
theorem mem_sls{L x}:x∈sls L↔some x∈L:=by simp[sls]
@[simp] theorem Wq (L T):sls (L++T)=sls L++sls T:=by simp[sls]
@[simp] theorem vkp (L:Ls):sls (none::L)=sls L:=rfl
@[simp] theorem wzb (x:Sl)(L:Ls):sls (some x::L)=x::sls L:=rfl
@[simp] theorem xj4:sls []=[]:=rfl
@[simp] theorem xj5 T:sls (T.map some)=T:=by simp[sls]
@[simp] theorem xj3 k:sls (List.replicate k none)=[]:=by
 induction k with|zero=>rfl|succ k ih=>rw[List.replicate_succ,vkp,ih]
theorem jqp{α β:Type}(f:α->List β){l l':List α}(h:l.Sublist l'):(l.flatMap f).Sublist (l'.flatMap f):=by
 induction h with|slnil=>exact Y8 _|cons a _ ih=>rw[List.flatMap_cons];exact List.Sublist.trans ih (List.sublist_append_right _ _)|cons_cons a _ ih=>rw[List.flatMap_cons];exact List.Sublist.append (Y8 _) ih
section
variable {K:Frag}{H H':Hp}{L L' M M':Ls}
theorem World.same(w:World K H L)(p:(sls L).Perm (sls L')):World K H L':=by
 have po:(j8 L).Perm (j8 L'):=by rw[QQ,QQ];exact p.flatMap_right _
 have pf:(jV L).Perm (jV L'):=by rw[Vz,Vz];exact p.flatMap_right _
 exact#[λx hx=>w.ok x (mem_sls.mp (p.mem_iff.mpr (mem_sls.mpr hx))),po.nodup_iff.mp w.nd,λa ha hf=>w.ds a (po.mem_iff.mpr ha) (pf.mem_iff.mpr hf)]
theorem Step.same(s:Step H L H' L')(p:(sls L).Perm (sls M))(p':(sls L').Perm (sls M')):Step H M H' M':=by
 have po:(j8 L).Perm (j8 M):=by rw[QQ,QQ];exact p.flatMap_right _
 have pf:(jV L).Perm (jV M):=by rw[Vz,Vz];exact p.flatMap_right _
 have po':(j8 L').Perm (j8 M'):=by rw[QQ,QQ];exact p'.flatMap_right _
 have pf':(jV L').Perm (jV M'):=by rw[Vz,Vz];exact p'.flatMap_right _
 exact#[λa ob h hn=>s.keep a ob h λz=>hn (po.mem_iff.mp z),λa ha=>(s.own a (po'.mem_iff.mpr ha)).imp (λz=>po.mem_iff.mp z) id,
  λa ha=>(s.frz a (pf'.mem_iff.mpr ha)).imp (λz=>pf.mem_iff.mp z) λz=>z.imp (λz=>po.mem_iff.mp z) id]
theorem World.sub(w:World K H L)(p:(sls L').Sublist (sls L)):World K H L':=by
 refine#[λx hx=>w.ok x (mem_sls.mp (p.subset (mem_sls.mpr hx))),?_,λa ha hf=>w.ds a ?_ ?_]
 ·have:=w.nd;rw[QQ]at this ⊢;exact(jqp _ p).nodup this
 ·rw[QQ]at ha ⊢;exact(jqp _ p).subset ha
 ·rw[Vz]at hf ⊢;exact(jqp _ p).subset hf
theorem Step.sub(s:Step H L H' L')(p:(sls M).Sublist (sls L')):Step H L H' M:=by
 refine#[s.keep,λa ha=>s.own a ?_,λa ha=>s.frz a ?_]
 ·rw[QQ]at ha ⊢;exact(jqp _ p).subset ha
 ·rw[Vz]at ha ⊢;exact(jqp _ p).subset ha
end
theorem jxh:∀{L:Ls} {j},(sls (at' L j::L.set j none)).Perm (sls L)
 | [],j=>by simp[at']
 | q::L,0=>by
  cases q with|none=>simp[at']|some x=>simp[at']
 | q::L,j+1=>by
  have ih:=jxh (L:=L) (j:=j);have e:at' (q::L) (j+1)=at' L j:=by simp[at']
  rw[e];have e2:∀a b M,(sls (a::b::M)).Perm (sls (b::a::M)):=λa b M=>by
   cases a<;>cases b<;>simp[sls]
   exact List.Perm.swap ..
  refine(e2 _ _ _).trans ?_;cases q with|none=>simpa [sls]using ih|some y=>simpa [sls]using ih
theorem qqx:∀{R} {L:Ls},R.Nodup->(sls (R.map (at' L)++clr R L)).Perm (sls L)
 | [],L,_=>by simp[clr]
 | j::R,L,h=>by
  rw[List.nodup_cons]at h;have e:R.map (at' L)=R.map (at' (L.set j none)):=by
   apply Yw;intro i hi;have:j≠i:=λe=>h.1 (e▸hi)
   unfold at';rw[Xr this]
  rw[List.map_cons,clr,e];have ih:=qqx (L:=L.set j none) h.2;refine List.Perm.trans ?_ (jxh (j:=j));cases hq:at' L j with|none=>simpa [sls]using ih|some x=>simpa [sls]using ih
theorem vjh{α}:∀{R} {L:List (Option α)},(clr R L).length=L.length
 |[],_=>rfl|j::R,L=>by rw[clr,vjh,Yj]
theorem vji{α}:∀{R} {L:List (Option α)} {j},j∈R->at' (clr R L) j=none
 | [],_,_,h=>by grind
 | i :: R,L,j,h=>by
  rw [clr]
  by_cases hR:j∈R
  ·exact vji hR
  ·have e:j=i:=by simpa [hR]using h
   subst e;have gen:∀{R} {M:List (Option α)},j∉R->at' (clr R M) j=at' M j:=by
    intro R
    induction R with
    |nil=>intro M _;rfl
    |cons r R ih=>
     intro M h;rw[Xz,not_or]at h;rw[clr,ih h.2];unfold at';rw[Xr (Ne.symm h.1)]
   rw[gen hR];unfold at'
   by_cases hl:j<L.length
   ·rw[Xy hl];rfl
   ·rw[List.set_eq_of_length_le ⋯,List.getElem?_eq_none ⋯];rfl
theorem kzo:∀{R} {B L:Ls},R.Nodup->(∀j∈R,at' L j=none)->(∀j∈R,j<L.length)->B.length=R.length->(sls (back R B L)).Perm (sls (B++L))
 | [],B,L,_,_,_,hl=>by
  have:B=[]:=by simpa using hl
  subst this;simp [back]
 | j :: R,q::B,L,hn,hz,hr,hl=>by
  rw [List.nodup_cons]at hn;have ih:=kzo (L:=L.set j q) hn.2 (λi hi=>by
   have:j≠i:=λe=>hn.1 (e▸hi)
   unfold at';rw [Xr this];exact hz i (lc9 _ hi)) (λi hi=>by rw[Yj];exact hr i (lc9 _ hi)) (by simpa using hl)
  refine ih.trans ?_;have sp:∀{M i},at' M i=none->i<M.length->(sls (M.set i q)).Perm (sls (q::M)):=by
   intro M
   induction M with
   | nil=>intro i _ h;simp at h
   | cons r M ihM=>
    intro i h1 h2;cases i with
    | zero=>
     have:r=none:=by simpa [at']using h1
     subst this;cases q<;>simp[sls]
    | succ i=>
     have:=ihM (by simpa [at']using h1) (by simpa using h2);cases r with
     | none=>cases q<;>simpa [sls]using this
     | some y=>
      cases q with
      |none=>simpa [sls]using this
      |some x=>
       exact(this.cons y).trans (List.Perm.swap ..)
  rw[Wq];have h2:(sls B++sls _).Perm _:=(sp (hz j X4) (hr j X4)).append_left _;refine h2.trans ?_;cases q with
  |none=>simp
  |some x=>
   simp only[Wq];exact List.perm_middle
section
variable {K:Frag}{H H1 H2 H':Hp}{L L1 L' T:Ls}{x y:Sl}
theorem ZQ(p:L.Perm L'):(j8 L).Perm (j8 L'):=p.flatMap_right _
theorem jx5(p:L.Perm L'):(jV L).Perm (jV L'):=p.flatMap_right _
theorem World.perm(w:World K H L)(p:L.Perm L'):World K H L':=
 #[λx hx=>w.ok x (p.mem_iff.mpr hx),(ZQ p).nodup_iff.mp w.nd,λa ha hf=>w.ds a ((ZQ p).mem_iff.mpr ha) ((jx5 p).mem_iff.mpr hf)]
theorem Step.perm(s : Step H L H' L'){M M' : Ls}(p : L.Perm M)(p' : L'.Perm M'): Step H M H' M':=
  #[λa ob h hn=>s.keep a ob h λz=>hn ((ZQ p).mem_iff.mp z),
   λa ha=>(s.own a ((ZQ p').mem_iff.mpr ha)).imp (λz=>(ZQ p).mem_iff.mp z) id,
   λa ha=>(s.frz a ((jx5 p').mem_iff.mpr ha)).imp (λz=>(jx5 p).mem_iff.mp z) λz=>z.imp (λz=>(ZQ p).mem_iff.mp z) id]
theorem Step.frm(s:Step H L H' L'):Step H (L++T) H' (L'++T) where
 keep:=λa ob h hn=>s.keep a ob h λz=>hn (by rw[jZ];exact ll9 _ z)
 own:=λa ha=>by
  rw[jZ]at ha ⊢;rcases aA ha with z|z
  ·exact(s.own a z).imp (ll9 _) id
  ·exact .inl (lr9 _ z)
 frz:=λa ha=>by
  rw[qx]at ha ⊢;rw[jZ];rcases aA ha with z|z
  ·exact(s.frz a z).imp (ll9 _) λz=>z.imp (ll9 _) id
  ·exact .inl (lr9 _ z)
theorem V5(w:World K H (T++L))(s:Step H L H' L')(w':World K H' L'):World K H' (T++L')/\Step H (T++L) H' (T++L'):=by
 have w1:=w.comm;exact#[(s.frame w1 w' w1.left).comm,s.frm.perm List.perm_append_comm List.perm_append_comm]
end
theorem ex8{α β γ:Type}{P:Prop}{a b c d e:α->β->γ->Prop}(h:∃x y z,a x y z/\b x y z/\c x y z/\d x y z/\e x y z)(f:∀x y z,a x y z->b x y z->c x y z->d x y z->e x y z->P):P:=
 h.elim λx h=>h.elim λy h=>h.elim λz h=>f x y z h.1 h.2.1 h.2.2.1 h.2.2.2.1 h.2.2.2.2
theorem ex7{α β γ:Type}{P:Prop}{a b c d:α->β->γ->Prop}(h:∃x y z,a x y z/\b x y z/\c x y z/\d x y z)(f:∀x y z,a x y z->b x y z->c x y z->d x y z->P):P:=
 h.elim λx h=>h.elim λy h=>h.elim λz h=>f x y z h.1 h.2.1 h.2.2.1 h.2.2.2
theorem kz{X e t t'}(h:PE X e t)(w:∀ σ H Q,t' σ H Q->t σ H Q):PE X e t':=λaa s σ H Q I q=>h aa s σ H Q I (w σ H Q q)
theorem qxd{X e t t'}(h:PT X e t)(w:∀ σ H Q,t' σ H Q->t σ H Q):PT X e t':=λaa s σ H Q I q=>h aa s σ H Q I (w σ H Q q)
theorem xW{X e t t'}(h:PS X e t)(w:∀D σ H,t' D σ H->t D σ H):PS X e t':=λaa s σ H D I q=>h aa s σ H D I (w D σ H q)
theorem qxf{X e t t'}(h:PSs X e t)(w:∀D σ H,t' D σ H->t D σ H):PSs X e t':=λaa s σ H D I q=>h aa s σ H D I (w D σ H q)
structure Fx0 where
 K:Frag
 mg:Str->Option Value
 EX:XK
noncomputable def Xc{α:Type}(Z:Fx0)(σ:L2.St)(H:Hp)(L:Ls)(r:Res α):Prop:=∀E' c,r=.exc E' c->∀C L' H',Z.mg c=some (.ref C)->Mt E' σ L'->World Z.K H' L'->Step H L H' L'->Z.EX (.ref C) none H'
theorem Xc.step{α Z σ H H1 L L1}{r:Res α}(x:Xc Z σ H L r)(s:Step H L H1 L1):Xc Z σ H1 L1 r:=λE' c e C L' H' hm m w s'=>x E' c e C L' H' hm m w (s.trans s')
theorem Xc.map{α β Z σ H L}{r:Res α}{E' c}(x:Xc Z σ H L r)(e:r=.exc E' c):Xc Z σ H L (.exc E' c:Res β):=λE1 c1 e1=>by
 injection e1 with h1 h2;subst h1 h2;exact x _ _ e
noncomputable def tQ(Z:Fx0)(q:Bool)(c:Ex):TE:=fun σ H Q=>∃E L r,Mt E σ L/\World Z.K H L/\c E=some r/\Xc Z σ H L r /\
 ∀E' a,r=.ok E' a->∀(x:Sl) L' H',x.o=a.1->x.d=a.2->Mt E' σ L'->World Z.K H' (some x::L')->Step H L H' (some x::L')->(q=true->k7 H H'/\∀b∈x.own,H b=none)->Q x.v H'
noncomputable def Src(H:Hp)(L:Ls)(as:List Addr):Prop:=∀b∈as,b∈jV L\/b∈j8 L\/H b=none
theorem Src.back{H H1 L L1 as}(h:Src H1 L1 as)(s:Step H L H1 L1):Src H L as:=λb hb=>by
 rcases h b hb with z|z|z
 ·exact s.frz b z
 ·exact .inr (s.own b z)
 ·by_cases ho:b∈j8 L
  ·exact .inr (.inl ho)
  ·refine .inr (.inr ?_);cases e:H b with|none=>rfl|some ob=>rw[s.keep b ob e ho]at z;cases z
noncomputable def tV(Z:Fx0)(q:Bool)(c:Ex):TE:=fun σ H Q=>∃E L r,Mt E σ L/\World Z.K H L/\c E=some r/\Xc Z σ H L r /\
 ∀E' a,r=.ok E' a->∀(x:Sl) L' H',x.o=a.1->x.d=a.2->Mt E' σ L'->World Z.K H' L'->x.ok Z.K H'->(∀b∈x.frz,b∉j8 L')->Src H L x.as->Step H L H' L'->(q=true->k7 H H')->Q x.v H'
noncomputable def QE(X:Cx)(Z:Fx0)(q:Bool)(c:Ex)(e:Expr):Prop:=PE X e (tQ Z q c)
noncomputable def QV(X:Cx)(Z:Fx0)(q:Bool)(c:Ex)(e:Expr):Prop:=PE X e (tV Z q c)
section
variable {X:Cx}{Z:Fx0}{q qa qb:Bool}{a b c:Ex}{e ea eb:Expr}{pos:Pos}{α:Type}{σ:L2.St}{H:Hp}{L:Ls}{E:En}
theorem x6{β m}{F:En->α->Option _}{r:Res β}(h:bnd m F=some r):(∃E1 x,m=some (.ok E1 x)/\F E1 x=some r)\/∃E1 c,m=some (.exc E1 c)/\r=.exc E1 c:=by
 cases m with
 |none=>cases h
 |some q=>
  cases q with|ok E1 x=>exact .inl #[E1,x,rfl,h]|exc E1 c=>exact .inr #[E1,c,rfl,(oq9 h).symm]
theorem Kw{F}{r:Res α}{G}(m:Mt E σ L)(w:World Z.K H L)(h:bnd (a E) F=some r)(xc:Xc Z σ H L r)
  (k:∀E1 s,F E1 s=some r->∀x L1 H1,x.o=s.1->x.d=s.2->Mt E1 σ L1->World Z.K H1 (some x::L1)->Step H L H1 (some x::L1)->(q=true->k7 H H1/\∀b∈x.own,H b=none)->G x.v H1):tQ Z q a σ H G:=by
 rcases x6 h with⟨E1,s,h1,h2⟩|⟨E1,c,h1,h2⟩
 ·exact#[E,L,_,m,w,h1,(λ_ _ z=>by cases z),λE' s' z x L' H' e1 e2 m' w' st sm=>by
   injection z with z1 z2;subst z1 z2;exact k _ _ h2 x L' H' e1 e2 m' w' st sm]
 ·exact#[E,L,_,m,w,h1,xc.map h2,λE' s' z=>by cases z]
theorem v9{F}{r:Res α}{G}(m:Mt E σ L)(w:World Z.K H L)(h:bnd (a E) F=some r)(xc:Xc Z σ H L r)
  (k:∀E1 s,F E1 s=some r->∀(x:Sl) L1 H1,x.o=s.1->x.d=s.2->Mt E1 σ L1->World Z.K H1 L1->x.ok Z.K H1->(∀b∈x.frz,b∉j8 L1)->Src H L x.as->Step H L H1 L1->(q=true->k7 H H1)->G x.v H1):tV Z q a σ H G:=by
 rcases x6 h with⟨E1,s,h1,h2⟩|⟨E1,c,h1,h2⟩
 ·exact#[E,L,_,m,w,h1,(λ_ _ z=>by cases z),λE' s' z x L' H' e1 e2 m' w' ok fr sr st sm=>by
   injection z with z1 z2;subst z1 z2;exact k _ _ h2 x L' H' e1 e2 m' w' ok fr sr st sm]
 ·exact#[E,L,_,m,w,h1,xc.map h2,λE' s' z=>by cases z]
theorem W1{x:Sl}{K H1 H2 L1 L2'}(ok:x.ok K H1)(fr:∀b∈x.frz,b∉j8 L1)(st:Step H1 L1 H2 L2')(sm:k7 H1 H2):x.ok K H2/\∀b∈x.frz,b∉j8 L2':=
 #[RepO.kp ok (Kp.of_same sm),λb hb ho=>(st.own b ho).elim (fr b hb) λz=>ok.some (Sl.frz_as hb) z]
theorem zj{x}{r:Res α}(h:val E x=some r):∃y,x=some y/\r=.ok E y:=by
 cases x with|none=>cases h|some y=>exact#[y,rfl,(oq9 h).symm]
theorem QE.weak(h:QE X Z true c e):QE X Z q c e:=kz h fun σ H Q ax=>ex8 ax λE L r m w hc xc k=>#[E,L,r,m,w,hc,xc,λE' s z x L' H' e1 e2 m' w' st sm=>k E' s z x L' H' e1 e2 m' w' st λ_=>sm rfl]
theorem kj4{x H1}{L1:Ls}(st:Step H L H1 (some x::L1)):Src H L x.as:=λb hb=>by
 rcases Sl.as_of hb with z|z
 ·exact .inr (st.own b (ll9 _ z))
 ·exact st.frz b (ll9 _ z)
theorem j5(h:QE X Z q c e):QV X Z q (vE c) e:=kz h fun σ H Q ax=>ex8 ax λE L r m w hc xc k=>
 Kw m w hc xc λE1 s h1 x L1 H1 e1 e2 m1 w1 st sm=>by
  cases oq9 h1;exact k _ _ rfl x.let L1 H1 rfl e2 m1 w1.tail (J3 w1.head) (λb hb=>w1.apart b hb) (kj4 (x:=x) st) (st.trans Step.drop) λhq=>(sm hq).1
theorem Jz{x H1 L1}(st:Step H L H1 L1)(sr:Src H L x.as)(ho:x.own=[]):Step H L H1 (some x::L1) where
 keep:=st.keep
 own:=λb hb=>by rw[jK,ho]at hb;exact st.own b hb
 frz:=λb hb=>by
  rcases aA hb with z|z
  ·exact sr b (Sl.frz_as z)
  ·exact st.frz b z
theorem qxv{x:Sl}(h:x.o=.no):x.own=[]:=by unfold Sl.own;rw[h]
theorem kz5{x:Sl}(h:x.o=.no):x.frz=x.as:=by unfold Sl.frz;rw[h]
theorem wj1{x:Sl}(h:x.as=[]):x.own=[]:=List.eq_nil_iff_forall_not_mem.mpr λa ha=>by have:=Sl.own_as ha;rw[h]at this;exact nomatch this
theorem jQ(h:QV X Z q c e):QE X Z q (cH c) e:=kz h fun σ H Q ax=>ex8 ax λE L r m w hc xc k=>
 v9 m w hc xc λE1 s h1 x L1 H1 e1 e2 m1 w1 ok fr sr st sm=>by
  by_cases ho:s.1=.no
  ·rw[Xb ho]at h1;cases oq9 h1;have eo:=e1.trans ho;exact k _ _ rfl x L1 H1 eo e2 m1 (w1.consNo ok eo λb hb=>fr b (kz5 eo▸hb)) (Jz st sr (qxv eo)) λhq=>#[sm hq,by rw[qxv eo];exact λ_ z=>(nomatch z)]
  ·rw[Xe ho]at h1
   by_cases hp:s.2.pure=true
   ·rw[Xb hp]at h1;cases oq9 h1;obtain⟨z,rp⟩:=RepL.pu (g':=false) (RepO.wk ok) (by simp_all);exact k _ _ rfl #[.dp,x.d,x.v,[]] L1 H1 rfl e2 m1 (w1.consPu rp rfl) (Jz st (λb hb=>nomatch hb) rfl) λhq=>#[sm hq,λ_ z=>(nomatch z)]
   ·simp_all
theorem q_C{d v}(h:PE X e (tC v))(hr:∀H,RepL Z.K H false d v []):QE X Z true (cC d) e:=kz h fun σ H Q ax=>ex8 ax λE L r m w hc xc k=>by
 cases oq9 hc;exact k _ _ rfl #[.dp,d,v,[]] L H rfl rfl m (w.consPu (hr H) rfl) (Jz Step.refl (λb hb=>nomatch hb) rfl) λ_=>#[λ_ _ z=>z,λ_ z=>(nomatch z)]
set_option tactic.hygienic true in
theorem q_V{i}(h:PE X e (x9 i)):QE X Z true (cV i) e:=kz h fun σ H Q ax=>ex8 ax λE L r m w hc xc k=>by
 unfold cV at hc
 split at hc
 ·rename_i o d hE;cases oq9 hc;obtain⟨x,h1,h2,h3,h4⟩:=m.get hE;refine#[x.v,h4,k _ _ rfl x.let _ H rfl h3 ?_ (w.read h1) (Step.read h1) λ_=>#[λ_ _ z=>z,λ_ z=>(nomatch z)]];have:=m.let h1
  rwa [h3]at this
 ·cases hc
theorem Q2:∀{E σ} {L} j,Mt E σ L->Mt (E.set j none) σ (L.set j none):=by
 intro E σ L j m
 induction m generalizing j with
 |nil=>exact .nil
 |un m ih=>cases j with|zero=>exact .un m|succ j=>exact .un (ih j)
 |cons m ih=>cases j with|zero=>exact .un m|succ j=>exact .cons (ih j)
theorem jve{x}:∀{L:Ls} {i},L[i]?=some (some x)->(none::L).Perm (some x::L.set i none)
 |[],_,h=>by simp_all
 |q::L,0,h=>by
  have e:q=some x:=by simpa using h
  subst e;exact List.Perm.swap ..
 |q::L,i+1,h=>by
  have:=jve (by simpa using h);exact(List.Perm.swap ..).trans ((this.cons q).trans (List.Perm.swap ..))
set_option tactic.hygienic true in
theorem Qv{i}(h:PE X e (x9 i)):QE X Z false (cMv i) e:=kz h fun σ H Q ax=>ex8 ax λE L r m w hc xc k=>by
 unfold cMv at hc
 split at hc
 ·rename_i s hE;cases oq9 hc;obtain⟨x,h1,h2,h3,h4⟩:=m.get hE;have wn:World Z.K H (none::L):=#[λy hy=>w.ok y (by simp_all),by simpa using w.nd,by simpa using w.ds];have sn:Step H L H (none::L):=#[λ_ _ z _=>z,λa z=>.inl (by simp_all),λa z=>.inl (by simp_all)];exact#[x.v,h4,k _ _ rfl x _ H h2 h3 (Q2 i m) (wn.perm (jve h1)) (sn.trans (Step.refl.perm (List.Perm.refl _) (jve h1))) λz=>(nomatch z)]
 ·cases hc
set_option tactic.hygienic true in
theorem q_vV{i}(h:PE X e (x9 i)):QV X Z true (vV i) e:=kz h fun σ H Q ax=>ex8 ax λE L r m w hc xc k=>by
 unfold vV at hc
 split at hc
 ·rename_i s hE;cases oq9 hc;obtain⟨x,h1,h2,h3,h4⟩:=m.get hE;have hx:=vQ h1;refine#[x.v,h4,k _ _ rfl x L H h2 h3 m w (w.ok x hx) (λb hb ho=>w.ds b ho (mem_frozen.mpr #[x,hx,hb])) (λb hb=>?_) Step.refl λ_=>λ_ _ z=>z];rcases Sl.as_of hb with z|z
  ·exact .inr (.inl (mem_owned.mpr #[x,hx,z]))
  ·exact .inl (mem_frozen.mpr #[x,hx,z])
 ·cases hc
structure Out (K:Frag)(H H':Hp)(z:Sl)(fr:List Addr):Prop where
 same:k7 H H'
 ok:z.ok K H'
 new:∀b∈z.own,H b=none
 nd:z.own.Nodup
 fr:∀b∈z.frz,b∈fr
noncomputable def Ad1(K:Frag)(r:V->Hp->VK->Prop)(f:Sd->Option Sd):Prop:=∀(H:Hp) (x:Sl) (s:Sd) (Q:VK),x.ok K H->f (x.o,x.d)=some s->(∀(z:Sl) H',z.o=s.1->z.d=s.2->Out K H H' z x.frz->Q z.v H')->r x.v H Q
noncomputable def Ad2(K:Frag)(r:R2)(f:Sd->Sd->Option Sd):Prop:=∀(H:Hp) (x y:Sl) (s:Sd) (Q:VK),x.ok K H->y.ok K H->f (x.o,x.d) (y.o,y.d)=some s->(∀(z:Sl) H',z.o=s.1->z.d=s.2->Out K H H' z (x.frz++y.frz)->Q z.v H')->r x.v y.v H Q
theorem kj9{K H H' d v fr}(s:k7 H H')(r:RepL K H' false d v []):Out K H H' #[.dp,d,v,[]] fr:=#[s,r,λ_ h=>(nomatch h),Y2,λ_ h=>(nomatch h)]
theorem z9{H}:k7 H H:=λ_ _ z=>z
theorem kX{H H1 H2}(a:k7 H H1)(b:k7 H1 H2):k7 H H2:=λc ob h=>b c ob (a c ob h)
theorem V1{z fr H1 H2 L1}(w:World Z.K H1 L1)(st:Step H L H1 L1)(o:Out Z.K H1 H2 z fr)(ap:∀b∈fr,b∉j8 L1)(al:∀b∈fr,H1 b≠none)(sr:Src H L fr):
  World Z.K H2 (some z::L1)/\Step H L H2 (some z::L1):=by
 have w2:World Z.K H2 L1:=#[λx hx=>RepO.kp (w.ok x hx) (Kp.of_same o.same),w.nd,w.ds];refine#[w2.cons o.ok o.nd (λb hb ho=>w.own_some ho (o.new b hb)) (λb hb hf=>w.frz_some hf (o.new b hb)) (λb hb=>ap b (o.fr b hb)) (λb hb hf=>al b (o.fr b hf) (o.new b hb)),(#[λb ob h hn=>o.same b ob (st.keep b ob h hn),λb hb=>?_,λb hb=>?_])]
 ·rcases aA hb with z|z
  ·by_cases ho:b∈j8 L
   ·exact .inl ho
   ·refine .inr ?_;cases e:H b with|none=>rfl|some ob=>have:=o.new b z;rw[st.keep b ob e ho]at this;cases this
  ·exact st.own b z
 ·rcases aA hb with z|z
  ·exact sr b (o.fr b z)
  ·exact st.frz b z
theorem jxg{as bs}(h:Src H L as)(hb:∀b∈bs,b∈as):Src H L bs:=λb z=>h b (hb b z)
theorem vxr{as bs}(h:Src H L as)(h':Src H L bs):Src H L (as++bs):=λb z=>(aA z).elim (h b) (h' b)
theorem J8{H H1 b}(s:k7 H H1)(h:H1 b=none):H b=none:=by
 cases e:H b with|none=>rfl|some ob=>rw[s b ob e]at h;cases h
theorem jz2{r f}(ad:Ad1 Z.K r f){Q}(h:tQ Z q (cF1 f a) σ H Q):tUn r (tV Z q a) σ H Q:=by
 obtain⟨E,L,R,m,w,hc,xc,k⟩:=h;refine v9 m w hc xc λE1 s h1 x L1 H1 e1 e2 m1 w1 ok fr sr st sm=>?_
 obtain⟨z,hz,rfl⟩:=zj h1;refine ad H1 x z Q ok (by simp_all) λy H' ho hd o=>?_
 obtain⟨w3,dl⟩:=V1 w1 st o fr (λb hb=>ok.some (Sl.frz_as hb)) (jxg sr λb hb=>Sl.frz_as hb);exact k _ _ rfl y L1 H' ho hd m1 w3 dl λhq=>#[kX (sm hq) o.same,λb hb=>J8 (sm hq) (o.new b hb)]
theorem kwt{r f}(ad:Ad2 Z.K r f){Q}(h:tQ Z qa (cF2 f a b) σ H Q):tOp r (tV Z qa a) (tV Z true b) σ H Q:=by
 obtain⟨E,L,R,m,w,hc,xc,k⟩:=h;refine v9 m w hc xc λE1 s h1 x L1 H1 e1 e2 m1 w1 ok fr sr st sm=>(v9 m1 w1 h1 (xc.step st) λE2 s2 h2 y L2 H2 e3 e4 m2 w2 i3 u7 tf cf f9=>?_)
 obtain⟨z,hz,rfl⟩:=zj h2;have kx:=W1 ok fr cf (f9 rfl);refine ad H2 x y z Q kx.1 i3 (by simp_all) λy' H' ho hd o=>?_
 obtain⟨w3,dl⟩:=V1 w2 (st.trans cf) o (λb hb=>(aA hb).elim (kx.2 b) (u7 b)) (λb hb=>(aA hb).elim (λz=>kx.1.some (Sl.frz_as z)) λz=>i3.some (Sl.frz_as z))
  (vxr (jxg sr λb hb=>Sl.frz_as hb) (jxg (tf.back st) λb hb=>Sl.frz_as hb))
 exact k _ _ rfl y' L2 H' ho hd m2 w3 dl λhq=>#[kX (sm hq) (kX (f9 rfl) o.same),λb hb=>J8 (kX (sm hq) (f9 rfl)) (o.new b hb)]
theorem YX{op r f}(ho:OpR X (binaryOp op) r)(ad:Ad2 Z.K r f)(ha:QV X Z qa a ea)(hb:QV X Z true b eb):QE X Z qa (cF2 f a b) (.BinOp ea op eb pos):=
 kz (xjy ho ha hb) fun σ H Q h=>kwt ad h
theorem V9{op r f}(ho:OpR X (compareOp op) r)(ad:Ad2 Z.K r f)(ha:QV X Z qa a ea)(hb:QV X Z true b eb)(hm:behindInMarks op eb=false):QE X Z qa (cF2 f a b) (.Compare ea [op] [eb] pos):=
 kz (vzv ho ha hb hm) fun σ H Q h=>kwt ad h
theorem q_un{op r f}(ho:UnR X (unaryOp op) r)(ad:Ad1 Z.K r f)(ha:QV X Z q a ea):QE X Z q (cF1 f a) (.UnaryOp op ea pos):=
 kz (xjw ho ha) fun σ H Q h=>jz2 ad h
theorem RepA.get{K H g}:∀{ds xs as} {i:Nat} {d},RepA K H g ds xs as->ds[i]?=some d->∃v bs,xs[i]?=some v/\RepL K H g d v bs/\∀b∈bs,b∈as
 | [],_,_,_,_,_,e=>by simp_all
 | d::ds,_,_,i,d',h,e=>by
  obtain⟨x,r,bs,cs,rfl,rfl,h1,h2⟩:=h;cases i with
  |zero=>
   have e:d=d':=by simpa using e
   subst e;exact#[x,bs,by simp,h1,λb hb=>ll9 _ hb]
  |succ i=>
   obtain⟨v,dr,e1,e2,e3⟩:=RepA.get h2 (by simpa using e);exact#[v,dr,by simpa using e1,e2,λb hb=>lr9 _ (e3 b hb)]
theorem RepA.len{K H g}:∀{ds xs as},RepA K H g ds xs as->ds.length=xs.length
 |[],_,_,h=>by rw[h.1];rfl
 |d::ds,_,_,h=>by
  obtain⟨x,r,bs,cs,rfl,rfl,h1,h2⟩:=h;simp[RepA.len h2]
theorem items{K H}{x:Sl}{ds}(ok:x.ok K H)(h:x.d=.lst ds\/x.d=.tup ds):∃a xs bs,x.v=.ref a/\((x.d=.lst ds/\LsR K H a xs)\/(x.d=.tup ds/\SqT K H a xs))/\RepA K H (x.o != .dp) ds xs bs/\(∀b∈bs,b∈x.as)/\(x.o≠.dp->∀b∈bs,b∈x.frz):=by
 obtain⟨o,d,v,as⟩:=x;rcases h with rfl|rfl
 ·cases o with
  |no=>
   have ok:RepL K H true _ v as:=ok;obtain⟨a,xs,bs,rfl,r,q⟩:=ok;rcases q with⟨q,rfl⟩|⟨_,q,rfl⟩
   ·exact#[a,xs,bs,rfl,.inl #[rfl,.inl (.inl q)],r,λb hb=>lc9 _ hb,λ_ b hb=>lc9 _ hb]
   ·exact#[a,xs,as,rfl,.inl #[rfl,.of q],r,λb hb=>hb,λ_ b hb=>hb]
  |rt=>
   obtain⟨a,xs,bs,rfl,r,q,rfl⟩:=(ok);exact#[a,xs,bs,rfl,.inl #[rfl,.inl (.inl q)],r,λb hb=>lc9 _ hb,λ_ b hb=>by simpa [Sl.frz]using hb]
  |dp=>
   have ok:RepL K H false _ v as:=ok;obtain⟨a,xs,bs,rfl,r,q⟩:=ok;rcases q with⟨q,rfl⟩|⟨z,_⟩
   ·exact#[a,xs,bs,rfl,.inl #[rfl,.inl (.inl q)],r,λb hb=>lc9 _ hb,λz=>absurd rfl z]
   ·grind
 ·cases o with
  |no=>
   obtain⟨a,xs,rfl,q,r⟩:=ok;exact#[a,xs,as,rfl,.inr #[rfl,q],r,λb hb=>hb,λ_ b hb=>hb]
  |rt=>exact(ok).elim
  |dp=>
   obtain⟨a,xs,rfl,q,r⟩:=ok;exact#[a,xs,as,rfl,.inr #[rfl,q],r,λb hb=>hb,λz=>absurd rfl z]
theorem Jx{K H}{x:Sl}{ds}(ok:x.ok K H)(h:x.d=.lst ds\/x.d=.tup ds)(hl:qQ (x.o,x.d)=true):∃a xs bs,x.v=.ref a/\((x.d=.lst ds/\LsR K H a xs)\/(x.d=.tup ds/\SqT K H a xs))/\RepA K H true ds xs bs/\(∀b∈bs,b∈x.frz):=by
 obtain⟨a,xs,bs,e,q,r,h1,h2⟩:=items ok h
 by_cases ho:x.o=.dp
 ·have hp:D.pures ds=true:=by
   unfold qQ at hl;rw[show(x.o,x.d).1=Own.dp from ho]at hl;have:xqy x.d=ds:=by rcases h with h|h<;>rw[h]<;>rfl
   simpa [this]using hl
  obtain⟨rfl,r'⟩:=RepA.pu (g':=true) r hp;exact#[a,xs,[],e,q,r',λ_ z=>nomatch z]
 ·have:(x.o != Own.dp)=true:=by simpa using ho
  rw[this]at r;exact#[a,xs,bs,e,q,r,h2 ho]
end
section
variable {K:Frag}{H:Hp}{x y:Sl}
theorem qk{i}(ok:x.ok K H)(h:x.d=.int i):x.v=.int i:=by
 have:=RepO.wk ok;rw[h]at this;exact this.1
theorem W0{i}(ok:x.ok K H)(h:x.d=.bl i):x.v=.bl i:=by
 have:=RepO.wk ok;rw[h]at this;exact this.1
theorem vwu(ok:x.ok K H)(h:x.d=.non):x.v=.non:=by
 have:=RepO.wk ok;rw[h]at this;exact this.1
theorem zQ{z}(ok:x.ok K H)(h:x.d=.str z):x.v=.str z/\z.length<=sizeLine:=by
 have:=RepO.wk ok;rw[h]at this;exact#[this.1,this.2.2]
theorem vK{i g}:RepL K H g (.int i) (.int i) []:=#[rfl,rfl]
theorem vw9{i g}:RepL K H g (.bl i) (.bl i) []:=#[rfl,rfl]
theorem qj3{g}:RepL K H g .non .non []:=#[rfl,rfl]
theorem Q5{z g}(h:z.length<=sizeLine):RepL K H g (.str z) (.str z) []:=#[rfl,rfl,h]
theorem QK{i fr}:Out K H H #[.dp,.int i,.int i,[]] fr:=kj9 z9 vK
theorem wY{i fr}:Out K H H #[.dp,.bl i,.bl i,[]] fr:=kj9 z9 vw9
theorem xk2{z fr}(h:z.length<=sizeLine):Out K H H #[.dp,.str z,.str z,[]] fr:=kj9 z9 (Q5 h)
set_option tactic.hygienic true in
theorem wz2{C}{g:Int->Int->Int}{f}(h:∀i j k,f i j=some k->C i j/\k=g i j):Ad2 K (rI C λi j=>.int (g i j)) (pu2 (i2 f)):=by
 intro H x y s Q ox oy hf k;unfold pu2 i2 at hf;dsimp only at hf
 split at hf
 ·rename_i i j e1 e2;cases hk:f i j with
  |none=>rw[hk]at hf;cases hf
  |some n=>
   rw[hk]at hf;cases oq9 hf;obtain⟨hc,rfl⟩:=h i j n hk;exact#[i,j,qk ox e1,qk oy e2,hc,k _ H rfl rfl QK]
 ·cases hf
set_option tactic.hygienic true in
theorem xq6{g:Int->Int->Int}{f}(h:∀i j,f i j=some (g i j)):Ad2 K (rI0 λi j=>.int (g i j)) (pu2 (i2 f)):=by
 intro H x y s Q ox oy hf k;unfold pu2 i2 at hf;dsimp only at hf
 split at hf
 ·rename_i i j e1 e2;rw[h]at hf;cases oq9 hf;exact#[i,j,qk ox e1,qk oy e2,k _ H rfl rfl QK]
 ·cases hf
set_option tactic.hygienic true in
theorem qvw{g}:Ad2 K (rI0 λi j=>.bl (g i j)) (pu2 (c2 g)):=by
 intro H x y s Q ox oy hf k;unfold pu2 c2 at hf;dsimp only at hf
 split at hf
 ·rename_i i j e1 e2;cases oq9 hf;exact#[i,j,qk ox e1,qk oy e2,k _ H rfl rfl wY]
 ·cases hf
theorem vxb:Ad2 K (rI0 λi j=>.int (i - j)) (pu2 wzk):=xq6 λ_ _=>rfl
set_option tactic.hygienic true in
theorem wz4:Ad2 K (rI wz7 λi j=>.int (i / j)) (pu2 xk):=wz2 λi j k h=>by
 split at h
 ·rename_i c;exact#[c,(oq9 h).symm]
 ·grind
set_option tactic.hygienic true in
theorem wxx:Ad2 K (rI (λ_ j=>0<j) λi j=>.int (i % j)) (pu2 qv):=wz2 λi j k h=>by
 split at h
 ·rename_i c;exact#[c,(oq9 h).symm]
 ·grind
end
noncomputable def wqy(K:Frag):R2:=λx y H Q=>∃l b xs zs,x=.ref l/\y=.ref b/\LsR K H l xs/\LsR K H b zs/\xs.length+zs.length<=sizeLine/\∀p,H p=none->Q (.ref p) (upd H p (.lst (xs++zs)))
theorem op_catL{X}:OpR X (binaryOp .Add) (wqy X.K):=by
 rintro aa s σ H x y v u Q I rx ry ⟨l,b,xs,zs,rfl,rfl,hH,hB,hz,q⟩;cases rx;cases ry;obtain⟨z,aj,n,r,e⟩:=hH.is I;obtain⟨z2,dm,n2,r2,e2⟩:=hB.is I;have hl:=r.length;have mo:=r2.length;refine PySem.P.add_list e e2 ?_ (by rw[X6,X6];lia);have ea:aj.toArray++dm.toArray=(aj++dm).toArray:=by simp
 rw[ea];exact#[.ref _,_,I.lnew (t':=s.toks) (r.append r2) (by rw[Xi];lia),rfl,q _ I.fresh]
noncomputable def wqz(K:Frag):R2:=λx y H Q=>∃a b ys,x=.ref a/\y=.ref b/\SqT K H a []/\SqT K H b ys/\Q (.ref b) H
theorem op_catE{X}:OpR X (binaryOp .Add) (wqz X.K):=by
 rintro aa s σ H x y v u Q I rx ry ⟨a,b,ys,rfl,rfl,ha,hb,q⟩;cases rx;cases ry;obtain⟨aj,r1,p1,_⟩:=I.tuple ha;obtain⟨dm,r2,p2,_⟩:=I.tuple hb;obtain⟨⟨cls,dd,data,sl⟩,ho,hc,n,hd⟩:=id p1;obtain⟨⟨cls2,dd2,data2,ou⟩,ko,t9,n2,pz⟩:=id p2;subst hc hd t9 pz;have e:=r1.nil_iff.mpr rfl;subst e;exact concat_meets #[_,ho,rfl] #[_,ko,rfl] noFill_tuple_add seq_tuple_add PySem.F.slot_tuple_add PySem.F.entry_tuple_add (PySem.F.args_tuple_add_2 _ _)
   (tuple_addW0 a b [].toArray dm.toArray n n2 dd dd2 sl ou (by simp)) #[ho,ko,#[.ref b,H,I,rfl,q]]
noncomputable def wv0(K:Frag):R2:=λx y H Q=>rI0 (λi j=>.int (i+j)) x y H Q\/(∃i j,x=.str i/\y=.str j/\i.length+j.length<=sizeLine/\Q (.str (i++j)) H)\/wqy K x y H Q\/wqz K x y H Q\/wqx K x y H Q
theorem wwa{X K}(hK:X.K=K):OpR X (binaryOp .Add) (wv0 K):=by subst hK;exact op_add.or (op_add_str.or (op_catL.or (op_catE.or wj5)))
theorem RepA.app{K H g ds' xs' dr}(h':RepA K H g ds' xs' dr):∀{ds xs as},RepA K H g ds xs as->RepA K H g (ds++ds') (xs++xs') (as++dr)
 |[],_,_,h=>by rw[h.1,h.2];exact h'
 |d::ds,_,_,h=>by
  obtain⟨x,r,bs,cs,rfl,rfl,h1,h2⟩:=h;rw[List.cons_append];exact#[x,r++xs',bs,cs++dr,rfl,by rw[Xv],h1,RepA.app h' h2]
theorem vz{H p o}(h:H p=none):k7 H (upd H p o):=λb u q=>by rw[k6 (xK q h)];exact q
theorem WJ{K H p ds xs bs fr}(hp:H p=none)(r:RepA K H true ds xs bs)(hb:∀b∈bs,b∈fr):Out K H (upd H p (.lst xs)) #[.rt,.lst ds,.ref p,p::bs] fr:=by
 refine#[vz hp,#[p,xs,bs,rfl,r.kp (Kp.of_same (vz hp)),vx,rfl],λb hb=>?_,?_,λb i5=>hb b (by simpa [Sl.frz]using i5)]
 ·have:b=p:=by simpa [Sl.own]using hb
  rw[this];exact hp
 ·simp[Sl.own]
theorem kjw{K H p ds xs bs fr}(hp:H p=none)(r:RepA K H true ds xs bs)(hb:∀b∈bs,b∈fr):Out K H (upd H p (.tup xs)) #[.no,.tup ds,.ref p,bs] fr:=by
 refine#[vz hp,?_,λb hb=>(nomatch hb),Y2,λb i5=>hb b i5];show RepL K _ true _ _ bs;exact#[p,xs,rfl,SqT.of vx,r.kp (Kp.of_same (vz hp))]
set_option tactic.hygienic true in
theorem wz6{K}:Ad2 K (wv0 K) k4:=by
 intro H x y s Q ox oy hf k;unfold k4 at hf;dsimp only at hf
 split at hf
 ·rename_i i j e1 e2;cases oq9 hf;exact .inl #[i,j,qk ox e1,qk oy e2,k _ H rfl rfl QK]
 ·rename_i i j e1 e2
  split at hf
  ·rename_i hl;cases oq9 hf;have hl':(i++j).length<=sizeLine:=by rw[strLen_append];exact hl
   exact .inr (.inl #[i,j,(zQ ox e1).1,(zQ oy e2).1,hl,k _ H rfl rfl (xk2 hl')])
  ·cases hf
 ·rename_i i j e1 e2
  split at hf
  ·rename_i hl;cases oq9 hf;obtain⟨a,xs,bs,e3,q3,r3,h3⟩:=Jx ox (.inl e1) hl.2.1;obtain⟨b,ys,cs,e4,q4,r4,h4⟩:=Jx oy (.inl e2) hl.2.2;have q3:LsR K H a xs:=by rcases q3 with⟨_,z⟩|⟨z,_⟩;exact z;rw[e1]at z;cases z
   have q4:LsR K H b ys:=by rcases q4 with⟨_,z⟩|⟨z,_⟩;exact z;rw[e2]at z;cases z
   exact .inr (.inr (.inl #[a,b,xs,ys,e3,e4,q3,q4,by rw[<-r3.len,<-r4.len];exact hl.1,λp hp=>(k _ _ rfl rfl (WJ hp (r4.app r3) λb hb=>(aA hb).elim (λz=>ll9 _ (h3 b z)) λz=>lr9 _ (h4 b z)))]))
  ·cases hf
 ·rename_i i j e1 e2
  split at hf
  ·rename_i hl;cases oq9 hf;obtain⟨a,xs,bs,e3,q3,r3,h3⟩:=Jx ox (.inr e1) hl.2.1;obtain⟨b,ys,cs,e4,q4,r4,h4⟩:=Jx oy (.inr e2) hl.2.2;have q3:SqT K H a xs:=by rcases q3 with⟨z,_⟩|⟨_,z⟩;rw[e1]at z;cases z;exact z
   have q4:SqT K H b ys:=by rcases q4 with⟨z,_⟩|⟨_,z⟩;rw[e2]at z;cases z;exact z
   have ap:=r4.app r3;have uh:=λb hb=>(aA hb).elim (λz=>ll9 _ (h3 b z)) λz=>lr9 _ (h4 b z)
   have same:∀c zs,zs=xs++ys->SqT K H c zs->Q (.ref c) H:=λc zs e hq=>by
    refine k #[.no,.tup _,.ref c,bs++cs] H rfl rfl #[z9,?_,λb hb=>(nomatch hb),Y2,uh];show RepL K H true _ _ _;exact#[c,zs,rfl,hq,by rw[e];exact ap]
   by_cases hx:xs=[]
   ·subst hx;exact .inr (.inr (.inr (.inl #[a,b,ys,e3,e4,q3,q4,same b ys rfl q4])))
   ·refine .inr (.inr (.inr (.inr #[a,b,xs,ys,e3,e4,q3,q4,hx,by rw[<-r3.len,<-r4.len];exact hl.1,λhy=>?_,λhy p hp=>?_])))
    ·exact same a xs (by rw[hy,Xn]) q3
    ·exact k _ _ rfl rfl (kjw hp ap uh)
  ·cases hf
 ·cases hf
noncomputable def tT(Z:Fx0)(q:Bool)(c:Ts):TT:=fun σ H Q=>∃E L r,Mt E σ L/\World Z.K H L/\c E=some r/\Xc Z σ H L r /\
 ∀E' k,r=.ok E' k->∀L' H',Mt E' σ L'->World Z.K H' L'->Step H L H' L'->(q=true->k7 H H')->Q k H'
noncomputable def QT(X:Cx)(Z:Fx0)(q:Bool)(c:Ts)(e:Expr):Prop:=PT X e (tT Z q c)
noncomputable def QW(X:Cx)(Z:Fx0)(q:Bool)(c:Ts)(e:Expr):Prop:=PW X e (tT Z q c)
section
variable {X:Cx}{Z:Fx0}{q qa qb:Bool}{a b c:Ex}{u v:Ts}{e ea eb:Expr}{es:List Expr}{pos:Pos}{α β:Type}{σ:L2.St}{H:Hp}{L:Ls}{E:En}
theorem vwe{e t t'}(h:PW X e t)(w:∀ σ H Q,t' σ H Q->t σ H Q):PW X e t':=λwh aa s σ H Q I q=>h wh aa s σ H Q I (w σ H Q q)
theorem vkl{F}{r:Res α}{G}(m:Mt E σ L)(w:World Z.K H L)(h:bnd (u E) F=some r)(xc:Xc Z σ H L r)
  (k:∀E1 s,F E1 s=some r->∀L1 H1,Mt E1 σ L1->World Z.K H1 L1->Step H L H1 L1->(q=true->k7 H H1)->G s H1):tT Z q u σ H G:=by
 rcases x6 h with⟨E1,s,h1,h2⟩|⟨E1,c,h1,h2⟩
 ·exact#[E,L,_,m,w,h1,(λ_ _ z=>by cases z),λE' s' z L' H' m' w' st sm=>by
   injection z with z1 z2;subst z1 z2;exact k _ _ h2 L' H' m' w' st sm]
 ·exact#[E,L,_,m,w,h1,xc.map h2,λE' s' z=>by cases z]
theorem kvq(ha:QT X Z q u ea):QW X Z q u (.BoolOp .And [ea] pos):=vzc ha
def Vq(ha:QT X Z q u ea):QW X Z q u (.BoolOp .Or [ea] pos):=wvh ha
theorem qkz(ha:QT X Z q u ea)(hb:QW X Z q v (.BoolOp .And (eb::es) pos)):QW X Z q (Q.tAnd u v) (.BoolOp .And (ea::eb::es) pos):=
 vwe (wvi ha hb) fun σ H Q ax=>ex8 ax λE L r m w hc xc k=>vkl m w hc xc λE1 s h1 L1 H1 m1 w1 st sm=>by
  cases s with
  |true=>
   exact#[E1,L1,r,m1,w1,h1,xc.step st,λE' k' z L' H' m' w' fm j'=>k E' k' z L' H' m' w' (st.trans fm) λhq=>kX (sm hq) (j' hq)]
  |false=>grind
theorem V6(ha:QT X Z q u ea)(hb:QW X Z q v (.BoolOp .Or (eb::es) pos)):QW X Z q (Q.tOr u v) (.BoolOp .Or (ea::eb::es) pos):=
 vwe (xjt ha hb) fun σ H Q ax=>ex8 ax λE L r m w hc xc k=>vkl m w hc xc λE1 s h1 L1 H1 m1 w1 st sm=>by
  cases s with
  |false=>
   exact#[E1,L1,r,m1,w1,h1,xc.step st,λE' k' z L' H' m' w' fm j'=>k E' k' z L' H' m' w' (st.trans fm) λhq=>kX (sm hq) (j' hq)]
  |true=>grind
theorem QW.pt(h:QW X Z q u e):QT X Z q u e:=PW.pt h
theorem ZY(ha:QT X Z q u ea):QT X Z q (Q.tNot u) (.UnaryOp .Not ea pos):=
 qxd (wvk ha) fun σ H Q ax=>ex8 ax λE L r m w hc xc k=>vkl m w hc xc λE1 s h1 L1 H1 m1 w1 st sm=>by
  cases oq9 h1;exact k _ _ rfl L1 H1 m1 w1 st sm
theorem wV{op r f}(ho:OpR X (compareOp op) r)(ad:Ad2 Z.K r f)(ha:QV X Z qa a ea)(hb:QV X Z true b eb)(hm:behindInMarks op eb=false)(hf:∀x y s,f x y=some s->∃k,s.2=.bl k):QT X Z qa (Q.tE (cF2 f a b)) (.Compare ea [op] [eb] pos):=
 qxd (vzg ho ha hb hm) fun σ H Q ax=>ex8 ax λE L r m w hc xc k=>by
  refine kwt ad ?_;rcases x6 hc with⟨E1,s,h1,h2⟩|⟨E1,c,h1,h2⟩
  ·refine#[E,L,_,m,w,h1,(λ_ _ z=>by cases z),λE' s' z x L' H' e1 e2 m' w' st sm=>?_];injection z with z1 z2;subst z1 z2;obtain⟨kk,hk⟩:∃k,s.2=.bl k:=by
    rcases x6 h1 with⟨E2,s2,h3,h4⟩|⟨_,_,_,z⟩
    ·rcases x6 h4 with⟨E3,s3,h5,h6⟩|⟨_,_,_,z⟩
     ·obtain⟨y,hy,z⟩:=zj h6;cases z;exact hf _ _ _ hy
     ·cases z
    ·cases z
   rw[hk]at h2;cases oq9 h2;exact#[kk,W0 w'.head (e2.trans hk),k _ _ rfl L' H' m' w'.tail (st.trans Step.drop) λhq=>(sm hq).1]
  ·exact#[E,L,_,m,w,h1,xc.map h2,λE' s' z=>by cases z]
end
def Pn(pn:List Nat)(σ σ':L2.St):Prop:=∀p∈pn,σ'[p]?=σ[p]?
theorem Pn.refl{pn σ}:Pn pn σ σ:=λ_ _=>rfl
theorem Pn.trans{pn σ σ1 σ2}(a:Pn pn σ σ1)(b:Pn pn σ1 σ2):Pn pn σ σ2:=λp hp=>(b p hp).trans (a p hp)
theorem Pn.set{pn σ σ1 i y}(a:Pn pn σ σ1)(h:i∉pn):Pn pn σ (σ1.set i y):=λp hp=>by
 have:i≠p:=λe=>h (e▸hp)
 rw[Xr this];exact a p hp
noncomputable def FlP(Z:Fx0)(pn:List Nat)(D:Ends)(σ:L2.St)(H:Hp)(L:Ls):Fl->Prop
 |.nx E'=>∀ σ' L' H',Pn pn σ σ'->Mt E' σ' L'->World Z.K H' L'->Step H L H' L'->D.nx σ' H'|.ct E'=>∀ σ' L' H',Pn pn σ σ'->Mt E' σ' L'->World Z.K H' L'->Step H L H' L'->D.ct σ' H'|.bk E'=>∀ σ' L' H',Pn pn σ σ'->Mt E' σ' L'->World Z.K H' L'->Step H L H' L'->D.bk σ' H'|.rt E' a=>∀(x:Sl) σ' L' H',x.o=a.1->x.d=a.2->Pn pn σ σ'->Mt E' σ' L'->World Z.K H' (some x::L')->Step H L H' (some x::L')->D.rt x.v H'|.xc E' c=>∀C σ' L' H',Z.mg c=some (.ref C)->Pn pn σ σ'->Mt E' σ' L'->World Z.K H' L'->Step H L H' L'->Z.EX (.ref C) none H'
theorem FlP.step{Z pn D σ σ1 H H1 L L1 r}(k:FlP Z pn D σ H L r)(s:Step H L H1 L1)(p:Pn pn σ σ1):FlP Z pn D σ1 H1 L1 r:=by
 cases r with|nx E'=>exact fun σ' L' H' p' m w s'=>k σ' L' H' (p.trans p') m w (s.trans s')|ct E'=>exact fun σ' L' H' p' m w s'=>k σ' L' H' (p.trans p') m w (s.trans s')|bk E'=>exact fun σ' L' H' p' m w s'=>k σ' L' H' (p.trans p') m w (s.trans s')|rt E' a=>exact λx σ' L' H' e1 e2 p' m w s'=>k x σ' L' H' e1 e2 (p.trans p') m w (s.trans s')|xc E' c=>exact λC σ' L' H' hm p' m w s'=>k C σ' L' H' hm (p.trans p') m w (s.trans s')
theorem FlP.xc{α Z pn D σ H L E' c}(k:FlP Z pn D σ H L (.xc E' c)):Xc Z σ H L (.exc E' c:Res α):=λE1 c1 e C L' H' hm m w s=>by
 injection e with h1 h2;subst h1 h2;exact k C σ L' H' hm Pn.refl m w s
noncomputable def tS(Z:Fx0)(pn:List Nat)(c:Sm):TS:=λD σ H=>∃E L r,Mt E σ L/\World Z.K H L/\c E=some r/\FlP Z pn D σ H L r
noncomputable def QS(X:Cx)(Z:Fx0)(pn:List Nat)(c:Sm)(st:Stmt):Prop:=PS X st (tS Z pn c)
noncomputable def QSs(X:Cx)(Z:Fx0)(pn:List Nat)(c:Sm)(st:List Stmt):Prop:=PSs X st (tS Z pn c)
section
variable {X:Cx}{Z:Fx0}{pn:List Nat}{q qa qb:Bool}{a b c:Ex}{u v:Ts}{A B:Sm}{e ea eb:Expr}{st:Stmt}{ss tt:List Stmt}{pos:Pos}{α:Type}{σ:L2.St}{H:Hp}{L:Ls}{E:En}{D:Ends}
theorem jw6{m}{F:En->α->Option Fl}{r}(h:ofE m F=some r):(∃E1 x,m=some (.ok E1 x)/\F E1 x=some r)\/∃E1 c,m=some (.exc E1 c)/\r=.xc E1 c:=by
 cases m with
 |none=>cases h
 |some q=>
  cases q with|ok E1 x=>exact .inl #[E1,x,rfl,h]|exc E1 c=>exact .inr #[E1,c,rfl,(oq9 h).symm]
theorem VJ{F r G}(m:Mt E σ L)(w:World Z.K H L)(h:ofE (a E) F=some r)(k:FlP Z pn D σ H L r)
  (g:∀E1 s,F E1 s=some r->∀x L1 H1,x.o=s.1->x.d=s.2->Mt E1 σ L1->World Z.K H1 (some x::L1)->Step H L H1 (some x::L1)->(q=true->k7 H H1/\∀b∈x.own,H b=none)->G x.v H1):tQ Z q a σ H G:=by
 rcases jw6 h with⟨E1,s,h1,h2⟩|⟨E1,c,h1,rfl⟩
 ·exact#[E,L,_,m,w,h1,(λ_ _ z=>by cases z),λE' s' z x L' H' e1 e2 m' w' st sm=>by
   injection z with z1 z2;subst z1 z2;exact g _ _ h2 x L' H' e1 e2 m' w' st sm]
 ·exact#[E,L,_,m,w,h1,k.xc,λE' s' z=>by cases z]
theorem wqe{F r G}(m:Mt E σ L)(w:World Z.K H L)(h:ofE (u E) F=some r)(k:FlP Z pn D σ H L r)
  (g:∀E1 s,F E1 s=some r->∀L1 H1,Mt E1 σ L1->World Z.K H1 L1->Step H L H1 L1->G s H1):tT Z q u σ H G:=by
 rcases jw6 h with⟨E1,s,h1,h2⟩|⟨E1,c,h1,rfl⟩
 ·exact#[E,L,_,m,w,h1,(λ_ _ z=>by cases z),λE' s' z L' H' m' w' st sm=>by
   injection z with z1 z2;subst z1 z2;exact g _ _ h2 L' H' m' w' st]
 ·exact#[E,L,_,m,w,h1,k.xc,λE' s' z=>by cases z]
theorem xjk:QSs X Z pn k9 []:=qxf vzi λD σ H ax=>ex7 ax λE L r m w hc k=>by
 cases oq9 hc;exact k σ L H Pn.refl m w Step.refl
theorem j7(h1:QS X Z pn A st)(h2:QSs X Z pn B ss):QSs X Z pn (j6 A B) (st::ss):=qxf (vq6 h1 h2) λD σ H ax=>ex7 ax λE L r m w hc k=>by
 unfold j6 at hc;cases ha:A E with
 |none=>rw[ha]at hc;cases hc
 |some f=>
  rw[ha]at hc;cases f with|nx E1=>exact#[E,L,_,m,w,ha,fun σ' L' H' p m' w' s=>#[E1,L',r,m',w',hc,k.step s p]]|ct E1=>cases oq9 hc;exact#[E,L,_,m,w,ha,k]|bk E1=>cases oq9 hc;exact#[E,L,_,m,w,ha,k]|rt E1 x=>cases oq9 hc;exact#[E,L,_,m,w,ha,k]|xc E1 x=>cases oq9 hc;exact#[E,L,_,m,w,ha,k]
theorem kW(h1:QS X Z pn A st):QSs X Z pn A [st]:=qxe h1
theorem xjh(h:QE X Z q a ea):QS X Z pn (jw a) (.Return (some ea) pos):=xW (wvm h) λD σ H ax=>ex7 ax λE L r m w hc k=>
 VJ m w hc k λE1 s h1 x L1 H1 e1 e2 m1 w1 st _=>by
  cases oq9 h1;exact k x σ L1 H1 e1 e2 Pn.refl m1 w1 st
theorem xjp(hc:QT X Z q u e)(ha:QSs X Z pn A ss)(hb:QSs X Z pn B tt):QS X Z pn (sIf u A B) (.If e ss tt pos):=xW (xju hc ha hb) λD σ H ax=>ex7 ax λE L r m w hc k=>
 wqe m w hc k λE1 s h1 L1 H1 m1 w1 st=>by
  cases s with|true=>rw[Xb rfl]at h1 ⊢;exact#[E1,L1,r,m1,w1,h1,k.step st Pn.refl]|false=>rw[Xe ⋯]at h1 ⊢;exact#[E1,L1,r,m1,w1,h1,k.step st Pn.refl]
theorem Jw{x i s}(m:Mt E σ L)(e1:x.o=s.1)(e2:x.d=s.2):Mt (E.set i (some s)) (σ.set i (some x.v)) (L.set i (some x)):=by
 have:=m.set (x:=x) i;rw[e1,e2]at this;exact this
theorem xjr{i y bh}(hN:X.N.Nodup)(hi:X.N[i]?=some y)(hx:Loc X.env.scope y)(h:QE X Z q a ea)(hp:autoParam (i∉pn) ŕ)(hs:autoParam (swapsWith ea (some (.Name y bh)) pos.line X.env=pure false) Ŕ)(hf:autoParam (X.fn y=true\/X.env.scope.names.lookup y=some .local) Ř):
  QS X Z pn (jq i a) (.Assign [.Name y bh] ea pos):=xW (wvl hN hi hx h hs hf) λD σ H ax=>ex7 ax λE L r m w hc k=>
 VJ m w hc k λE1 s h1 x L1 H1 e1 e2 m1 w1 st _=>by
  cases oq9 h1;exact k _ _ H1 (Pn.refl.set hp) (Jw m1 e1 e2) w1.set (st.trans Step.set)
theorem wvg{i y bh}(hp:i∉pn)(h:PS X (.Assign [.Name y bh] ea pos) (λD σ H=>tQ Z q a σ H λv H1=>D.nx (σ.set i (some v)) H1)):
  QS X Z pn (jq i a) (.Assign [.Name y bh] ea pos):=xW h λD σ H ax=>ex7 ax λE L r m w hc k=>
 VJ m w hc k λE1 s h1 x L1 H1 e1 e2 m1 w1 st _=>by
  cases oq9 h1;exact k _ _ H1 (Pn.refl.set hp) (Jw m1 e1 e2) w1.set (st.trans Step.set)
theorem qx6(hp:PassesOwn (model X.prog X.w) X.A X.env X.xe)(hc:QT X Z q u e)(hb:QSs X Z pn B ss):QS X Z pn (sWhile u B) (.While e ss [] pos):=xW (vq7 hp hc hb) λD σ H ax=>ex7 ax λE L r m w hr k=>by
 obtain⟨n0,hn⟩:=vxg hr;refine#[λn σ1 H1=>∃E1 L1,Mt E1 σ1 L1/\World Z.K H1 L1/\whN u B n E1=some r/\Step H L H1 L1/\Pn pn σ σ1,#[n0,E,L,m,w,hn,Step.refl,Pn.refl],?_];rintro n σ1 H1 ⟨E1,L1,m1,w1,h1,i4,p1⟩;cases n with
 | zero=>cases h1
 | succ n=>
  have k1:=k.step i4 p1;unfold whN at h1;cases ht:u E1 with
  | none=>rw[ht]at h1;cases h1
  | some f=>
   rw [ht]at h1;cases f with
   | exc E2 c=>
    cases oq9 h1;exact#[E1,L1,_,m1,w1,ht,k1.xc,λE' s' z=>by cases z]
   | ok E2 kk=>
    refine#[E1,L1,_,m1,w1,ht,(λ_ _ z=>by cases z),λE' s' z L' H' m' w' st sm=>?_];injection z with z1 z2;subst z1 z2;cases kk with
    | false=>
     rw[Xe ⋯];cases oq9 h1;exact k1 σ1 L' H' Pn.refl m' w' st
    | true=>
     rw[Xb rfl];dsimp only at h1;refine#[fun σ2 H2=>∃E2 L2,Mt E2 σ2 L2/\World Z.K H2 L2/\whN u B n E2=some r/\Step H L H2 L2/\Pn pn σ σ2,fun σ2 H2 h2=>#[n,by omega,h2],?_];cases hB:B E2 with
     |none=>rw[hB]at h1;cases h1
     |some g=>
      rw[hB]at h1;have k2:=k1.step st Pn.refl;refine#[E2,L',g,m',w',hB,?_];cases g with|nx E3=>exact fun σ3 L3 H3 p3 m3 w3 s3=>#[E3,L3,m3,w3,h1,i4.trans (st.trans s3),p1.trans p3]|ct E3=>exact fun σ3 L3 H3 p3 m3 w3 s3=>#[E3,L3,m3,w3,h1,i4.trans (st.trans s3),p1.trans p3]|bk E3=>cases oq9 h1;exact k2|rt E3 x=>cases oq9 h1;exact k2|xc E3 c=>cases oq9 h1;exact k2
end
structure Walks (K:Frag)(J:It)(T:List Sl)(ds:List D):Prop where
 no:∀t∈T,t.o=.no
 go:∀i H,(∀t∈T,t.ok K H)->i<ds.length->J.go i H
 stop:∀H,(∀t∈T,t.ok K H)->J.stop ds.length H
 yld:∀i H v H' d,(∀t∈T,t.ok K H)->J.yld i H v H'->ds[i]?=some d->∃z:Sl,z.o=.no/\z.d=d/\z.v=v/\k7 H H'/\z.ok K H'/\∀b∈z.as,∃t∈T,b∈t.as
noncomputable def tI(Z:Fx0)(q:Bool)(it:Ev (List D)):TI:=fun σ H R=>∃E L r,Mt E σ L/\World Z.K H L/\it E=some r/\Xc Z σ H L r /\
 ∀E' ds,r=.ok E' ds->∀J T L' H',Mt E' σ L'->World Z.K H' (L'++T.map some)->Step H L H' (L'++T.map some)->ds.length<=sizeLine->(q=true->k7 H H')->Walks Z.K J T ds->R J H'
noncomputable def QI(X:Cx)(Z:Fx0)(q:Bool)(tg:Expr)(it:Ev (List D))(e:Expr):Prop:=PI X tg e (tI Z q it)
noncomputable def xqa(K:Frag)(H0:Hp)(T:List Sl)(H:Hp):Prop:=(∀t∈T,t.ok K H)/\∀t∈T,Kp H0 H t.as
structure WalksD (K:Frag)(H0:Hp)(J:It)(T:List Sl)(ds:List D):Prop where
 no:∀t∈T,t.o=.no
 go:∀i H,xqa K H0 T H->i<ds.length->J.go i H
 stop:∀H,xqa K H0 T H->J.stop ds.length H
 yld:∀i H v H' d,xqa K H0 T H->J.yld i H v H'->ds[i]?=some d->∃z:Sl,z.o=.no/\z.d=d/\z.v=v/\k7 H H'/\z.ok K H'/\∀b∈z.as,∃t∈T,b∈t.as
theorem Walks.D{K H0 J T ds}(h:Walks K J T ds):WalksD K H0 J T ds:=#[h.no,λi H o=>h.go i H o.1,λH o=>h.stop H o.1,λi H v H' d o=>h.yld i H v H' d o.1]
noncomputable def tID(Z:Fx0)(q:Bool)(it:Ev (List D)):TI:=fun σ H R=>∃E L r,Mt E σ L/\World Z.K H L/\it E=some r/\Xc Z σ H L r /\
 ∀E' ds,r=.ok E' ds->∀J T L' H',Mt E' σ L'->World Z.K H' (L'++T.map some)->Step H L H' (L'++T.map some)->ds.length<=sizeLine->(q=true->k7 H H')->WalksD Z.K H' J T ds->R J H'
noncomputable def QID(X:Cx)(Z:Fx0)(q:Bool)(tg:Expr)(it:Ev (List D))(e:Expr):Prop:=PI X tg e (tID Z q it)
theorem QI.D{X Z q tg it e}(h:QI X Z q tg it e):QID X Z q tg it e:=λaa s σ H R I hz=>h aa s σ H R I (by
 obtain⟨E,L,r,m,w,e,x,k⟩:=hz;exact#[E,L,r,m,w,e,x,λE' ds z J T L' H' m' w' st hl sm wk=>k E' ds z J T L' H' m' w' st hl sm wk.D])
structure WalksS (K:Frag)(q:Bool)(H0:Hp)(J:It)(T:List Sl)(ds:List D):Prop where
 no:∀t∈T,t.o=.no
 go:∀i H,(∀t∈T,t.ok K H)->(q=true->k7 H0 H)->i<ds.length->J.go i H
 stop:∀H,(∀t∈T,t.ok K H)->(q=true->k7 H0 H)->J.stop ds.length H
 yld:∀i H v H' d,(∀t∈T,t.ok K H)->(q=true->k7 H0 H)->J.yld i H v H'->ds[i]?=some d->∃z:Sl,z.o=.no/\z.d=d/\z.v=v/\k7 H H'/\z.ok K H'/\∀b∈z.as,∃t∈T,b∈t.as
theorem vxh{K q H0 J T ds}(h:Walks K J T ds):WalksS K q H0 J T ds:=#[h.no,λi H o _=>h.go i H o,λH o _=>h.stop H o,λi H v H' d o _=>h.yld i H v H' d o]
noncomputable def tIS(Z:Fx0)(q:Bool)(it:Ev (List D)):TI:=fun σ H R=>∃E L r,Mt E σ L/\World Z.K H L/\it E=some r/\Xc Z σ H L r /\
 ∀E' ds,r=.ok E' ds->∀J T L' H',Mt E' σ L'->World Z.K H' (L'++T.map some)->Step H L H' (L'++T.map some)->ds.length<=sizeLine->(q=true->k7 H H')->WalksS Z.K q H J T ds->R J H'
noncomputable def QIS(X:Cx)(Z:Fx0)(q:Bool)(tg:Expr)(it:Ev (List D))(e:Expr):Prop:=PI X tg e (tIS Z q it)
theorem xqs{X Z q tg it e}(h:QI X Z q tg it e):QIS X Z q tg it e:=λaa s σ H R I hz=>h aa s σ H R I (by
 obtain⟨E,L,r,m,w,e,x,k⟩:=hz;exact#[E,L,r,m,w,e,x,λE' ds z J T L' H' m' w' st hl sm wk=>k E' ds z J T L' H' m' w' st hl sm (vxh wk)])
noncomputable def tG(Z:Fx0)(pn:List Nat)(tg:Tg):TG:=λv σ H Q=>∃(E:En) (L:Ls) (z:Sl) (E':En),Mt E σ L/\World Z.K H (some z::L)/\z.o=.no/\z.v=v/\tg.put z.d E=some E' /\
 ∀ σ' L',Pn pn σ σ'->Mt E' σ' L'->World Z.K H L'->Step H (some z::L) H L'->Q σ' H
noncomputable def QG(X:Cx)(Z:Fx0)(pn:List Nat)(tg:Tg)(e:Expr):Prop:=PG X e (tG Z pn tg)
section
variable {X:Cx}{Z:Fx0}{pn:List Nat}{e:Expr}{σ:L2.St}{H:Hp}{L:Ls}{E:En}
theorem vwm{t t'}(h:PG X e t)(w:∀v σ H Q,t' v σ H Q->t v σ H Q):PG X e t':=λaa s σ H x v Q I r q=>h aa s σ H x v Q I r (w x σ H Q q)
theorem Ww{i}(h:PG X e (vj0 i))(hp:autoParam (i∉pn) ŕ):QG X Z pn (.n i) e:=vwm h λv σ H Q hz=>by
 obtain⟨E,L,z,E',m,w,ho,hv,br,k⟩:=hz;cases oq9 br;rw[<-hv];exact k _ _ (Pn.refl.set hp) (Jw m ho rfl) w.set Step.set
def gNs:List Nat->TGs
 |[]=>xqz|i::is=>wxa (vj0 i) (gNs is)
theorem qzz{Q M σ0}:∀{is ds xs bs E L σ E'},Mt E σ L->World Z.K H L->RepA Z.K H true ds xs bs->(∀b∈bs,b∉j8 L)->(∀b∈bs,b∈jV M)->Step H M H L->Pn pn σ0 σ ->
  setAll is ds E=some E'->(∀i∈is,i∉pn)->(∀ σ' L',Pn pn σ0 σ'->Mt E' σ' L'->World Z.K H L'->Step H M H L'->Q σ' H)->gNs is xs σ H Q
 | [],[],xs,bs,E,L,σ,E',m,w,r,_,_,st,p,e,_,k=>by
  cases oq9 e;exact#[r.1,k σ L p m w st]
 | [],_::_,_,_,_,_,_,_,_,_,_,_,_,_,_,e,_,_=>by cases e| _::_,[],_,_,_,_,_,_,_,_,_,_,_,_,_,e,_,_=>by cases e
 | i::is,d::ds,xs,bs,E,L,σ,E',m,w,r,hb,hf,st,p,e,hi,k=>by
  obtain⟨x,rr,cs,es,rfl,rfl,h1,h2⟩:=r;have s1:Step H M H (L.set i (some #[.no,d,x,cs])):=by
   refine#[λ_ _ h _=>h,λa ha=>?_,λa ha=>?_]
   ·rcases jkj ha with z|z
    ·exact nomatch z
    ·exact st.own a z
   ·rcases jkn ha with z|z
    ·exact .inl (hf a (ll9 _ z))
    ·exact st.frz a z
  exact#[x,rr,rfl,qzz (Jw (x:=#[.no,d,x,cs]) m rfl rfl) (w.consNo (x:=#[.no,d,x,cs]) h1 rfl λb i5=>hb b (ll9 _ i5)).set h2 (λb i5 ho=>by
   rcases jkj ho with z|z
   ·exact nomatch z
   ·exact hb b (lr9 _ i5) z) (λb i5=>hf b (lr9 _ i5)) s1 (p.set (hi i X4)) e (λj hj=>hi j (lc9 _ hj)) k]
theorem kqf:∀{is ds E E'},setAll is ds E=some E'->is.length=ds.length
 |[],[],_,_,_=>rfl|i::is,d::ds,E,E',e=>by rw[Xg,Xg,kqf (E:=E.set i _) e]
noncomputable def wx8(K:Frag)(n:Nat)(t:TGs):TG:=λv σ H Q=>∃a xs,v=.ref a/\(SqT K H a xs\/SqL K H a xs)/\xs.length=n/\t xs σ H Q
section
variable {prog:Program}{w:PySem.World}{A:Around}{E':VP9}
theorem kzd{it t items}(cp:t≠it):∀n i (s) (Q),s.heap.IsListIter it t i->s.heap.IsList t items->i+n<=items.size ->
  (∀h',h'.IsListIter it t (i+n)->Heap.SameBut it s.heap h'->Q ((items.toList.drop i).take n) {s with heap:=h' })->wpAny (model prog w) A (draw (.ref it) n) Q E' s
 | 0,i,s,Q,lj,_,_,hQ=>by
  exact X5 (by simpa using hQ s.heap lj (Heap.SameBut.refl ..))
 | n+1,i,s,Q,lj,ht,gy,hQ=>by
  have cj:i<items.size:=by omega
  refine X0 (wpAny_pyNext_list_item lj ht (x:=items[i]) (by simp) λh₁ rm ud=>?_);have ht₁:h₁.IsList t items:=by
   obtain⟨o,ho,r⟩:=ht;exact#[o,(ud.2 t cp).trans ho,r]
  refine X0 (Y9 (kzd cp n _ _ _ rm ht₁ (by omega) λh₂ hit₂ hs₂=>X5 ?_));have hd:items.toList.drop i=items[i]::items.toList.drop (i+1):=by simp[List.drop_eq_getElem_cons,cj]
  have:=hQ h₂ ⋯ (ud.trans hs₂)
  simp_all
theorem jzy{s t items Q}(hh:A.handled=none)(ht:s.heap.IsList t items)
  (hQ:∀h',Heap.ExtBut s.heap.objs.size s.heap h'->Q items.toList {s with heap:=h' }):wpAny (model prog w) A (unpackItems (.ref t) items.size none) Q E' s:=by
 have cj:t≠s.heap.objs.size:=by obtain⟨o,ho,_⟩:=ht;exact Xl (Xd ho)
 refine X0 (X0 (wpAny_specialOf ht.typeIs slot_list_iter.lookup (X5 (X0 (Y9 (wpAny_pyIter_list ht ?_))))));have ht0:∀o,(s.heap.push o).IsList t items:=λo=>by
  obtain⟨ob,ho,r⟩:=ht;exact#[ob,X2 _ ho,r]
 refine X0 (Y9 (kzd cj items.size 0 _ _ #[_,Xa _ rfl,rfl,rfl] (ht0 _) (by simp) λh₁ rm ud=>?_));have rj:List.take items.size (List.drop 0 items.toList)=items.toList:=by
  rw[List.drop_zero];exact List.take_of_length_le (by simp)
 rw[rj,Xe (by simp)];have ht₁:h₁.IsList t items:=by
  obtain⟨o,ho,r⟩:=ht0 _;exact#[o,(ud.2 t cj).trans ho,r]
 exact X0 (Y9 (wpAny_pyNext_list_end hh rm ht₁ (by simp) λh₂ he₂=>(X5 (hQ h₂ λb o hb e=>he₂ b o hb (ud.extBut b o hb (X2 _ e))))))
theorem jzi{s env c9 x1 pos t items Q}(hh:A.handled=none)(ht:s.heap.IsList t items)
  (hn:(assignEach c9 env).length=items.size) (wf:(assignEach c9 env).findIdx? (·.1)=none)
  (h:∀h',Heap.ExtBut s.heap.objs.size s.heap h'->wpAny (model prog w) A (assignInOrder ((assignEach c9 env).map (·.2)) items.toList) Q E' {s with heap:=h' }):
  wpAny (model prog w) A (assign (.Tuple c9 x1 pos) env (.ref t)) Q E' s:=by
 refine X0 (wpAny_standAt ?_);unfold unpack;rw[hn,wf];exact X0 (Y9 (jzy hh ht h))
end
theorem J5 K {es k t n pos}(h:PGs X es t)(hc:autoParam (X.calm=true) Ŕ)(hK:autoParam (X.K=K) Ŕ)
  (hn:autoParam ((assignEach es X.env).length=n) Ŕ) (dj:autoParam ((assignEach es X.env).findIdx? (·.1)=none) Ŕ):PG X (.Tuple es k pos) (wx8 K n t):=by
 subst hK;rintro aa s σ H v u Q I r ⟨a,xs,e1,hq,hl,hw⟩;subst e1;cases r;rcases hq with hq|hq
 ·obtain⟨aj,rv,ht,hz⟩:=I.tuple hq;refine assign_Tuple_tuple (I.ok.hd hc) ht (by simp[hn,<-hl,rv.length]) dj λh' hx=>?_
  have I1:L2.Inv X aa σ H {s with heap:=h' }:=I.kept (t':=s.toks) λb o e=>hx b o (Xl (Xd e)) e
  exact h aa _ σ H xs _ Q I1 (by simp_all) hw
 ·obtain⟨aj,rv,ht,hz⟩:=I.list hq;refine jzi (I.ok.hd hc) ht.isList (by simp[hn,<-hl,rv.length]) dj λh' hx=>?_
  have I1:L2.Inv X aa σ H {s with heap:=h' }:=I.kept (t':=s.toks) λb o e=>hx b o (Xl (Xd e)) e
  exact h aa _ σ H xs _ Q I1 (by simpa using rv) hw
theorem Kv{is}(h:PG X e (wx8 Z.K is.length (gNs is)))(hp:autoParam (∀i∈is,i∉pn) ŕ):QG X Z pn (.t is) e:=vwm h λv σ H Q hz=>by
 obtain⟨E,L,z,E',m,w,ho,hv,br,k⟩:=hz;have fin:∀ds,_->setAll is ds E=some E'->wx8 Z.K is.length (gNs is) v σ H Q:=λds hd br=>by
  obtain⟨a,xs,bs,e1,q1,r,h1,h2⟩:=items w.head hd;rw[ho]at r;refine#[a,xs,hv.symm.trans e1,?_,by rw[kqf br,r.len],qzz m w.tail r (λb hb=>w.apart b (h1 b hb)) (λb hb=>?_) Step.drop Pn.refl br hp k]
  ·rcases q1 with⟨_,z'⟩|⟨_,z'⟩
   ·exact .inr z'.sq
   ·exact .inl z'
  ·rw[vk,kz5 ho];exact ll9 _ (h1 b hb)
 cases hd:z.d with|tup ds=>rw[hd]at br;exact fin ds (.inr hd) br|lst ds=>rw[hd]at br;exact fin ds (.inl hd) br|_=>rw[hd]at br;cases br
theorem qky{is q c ea tg pos}(h:QE X Z q c ea)(hg:QG X Z pn (.t is) tg)(hs:autoParam (swapsWithSole [tg] ea pos.line X.env=pure false) Ŕ)(hw:autoParam (swappedStores [tg] ea X.env=pure none) Ŕ)(h1:autoParam ((assignEach [tg] X.env).map (·.2)=[assign tg X.env]) Ŕ):
  QS X Z pn (Wj is c) (.Assign [tg] ea pos):=xW (qxh h hg hs hw h1) λD σ H ax=>ex7 ax λE L r m w hc k=>
 VJ m w (hc) k λE1 s h1 x L1 H1 e1 e2 m1 w1 st _=>by
  cases hp:Tg.put _ s.2 E1 with
  |none=>rw[hp]at h1;cases h1
  |some E2=>
   rw[hp]at h1;cases oq9 h1;exact#[E1,L1,x.let,E2,m1,(w1.tail.consNo (J3 w1.head) rfl λb hb=>w1.apart b hb),rfl,rfl,by rw[show x.let.d=s.2 from e2];exact hp,fun σ' L' p m' w' s'=>k σ' L' H1 p m' w' ((Jz (x:=x.let) (st.trans Step.drop) (kj4 (x:=x) st) rfl).trans s')]
end
section
variable {X:Cx}{Z:Fx0}{pn:List Nat}{q:Bool}{tg iter:Expr}{it:Ev (List D)}{t:Tg}{B:Sm}{ss:List Stmt}{pos:Pos}{σ:L2.St}{H:Hp}{L:Ls}{E:En}
theorem kqo{K}{T:List Sl}{H1 H2 L1 z}(w:World K H1 (L1++T.map some))(hT:∀t∈T,t.o=.no)(sm:k7 H1 H2)(ok:z.ok K H2)(ho:z.o=.no)(hz:∀b∈z.as,∃t∈T,b∈t.as):
  World K H2 ((some z::L1)++T.map some)/\Step H1 (L1++T.map some) H2 ((some z::L1)++T.map some):=by
 have w2:World K H2 _:=#[λx hx=>RepO.kp (w.ok x hx) (Kp.of_same sm),w.nd,w.ds];have hf:∀b∈z.as,b∈jV (L1++T.map some):=λb hb=>by
  obtain⟨t,ht,hbt⟩:=hz b hb;rw[qx];exact lr9 _ (mem_frozen.mpr #[t,Xs ht,by rw[kz5 (hT t ht)];exact hbt])
 refine#[w2.consNo ok ho λb hb hL=>w2.ds b hL (hf b hb),λa ob h _=>sm a ob h,λa ha=>?_,λa ha=>?_]
 ·rw[List.cons_append,jK,qxv ho]at ha;exact .inl ha
 ·rw[List.cons_append,vk,kz5 ho]at ha;rcases aA ha with q|q
  ·exact .inl (hf a q)
  ·exact .inl q
theorem stay{K T L1 L2 H1 H2}(w:World K H1 (L1++T))(s:Step H1 L1 H2 L2)(w2:World K H2 L2):World K H2 (L2++T)/\Step H1 (L1++T) H2 (L2++T):=#[s.frame w w2 w.left,s.frm]
theorem Step.dropT{T H1 L1}:Step H1 (L1++T) H1 L1:=#[λ_ _ h _=>h,λa ha=>.inl (by rw[jZ];exact ll9 _ ha),λa ha=>.inl (by rw[qx];exact ll9 _ ha)]
theorem Kp.trans{H H1 H2 as}(a:Kp H H1 as)(b:Kp H1 H2 as):Kp H H2 as:=#[λc xs e=>b.1 c xs (a.1 c xs e),λc o u e=>b.2.1 c o u (a.2.1 c o u e),λc hc ob e=>b.2.2 c hc ob (a.2.2 c hc ob e)]
theorem qq5{K H2 H3 L2 L3}{T:List Sl}(w:World K H2 (L2++T.map some))(hT:∀t∈T,t.o=.no)(s:Step H2 L2 H3 L3){H0}(h:∀t∈T,Kp H0 H2 t.as):∀t∈T,Kp H0 H3 t.as:=λt ht=>
 (h t ht).trans (s.kp w.left λb hb z=>w.ds b (by rw[jZ];exact ll9 _ z) (by
  rw[qx];exact lr9 _ (mem_frozen.mpr #[t,Xs ht,by rw[kz5 (hT t ht)];exact hb])))
theorem wvc(hp:PassesOwn (model X.prog X.w) X.A X.env X.xe)(hc:X.calm=true)(hi:QID X Z q tg it iter)(hg:QG X Z pn t tg)(hb:QSs X Z pn B ss)(hs:autoParam (∀x,foldedSetIterable iter X.env x=pure x) Ŗ):QS X Z pn (vw it t B) (.For tg iter ss [] pos):=xW (vwi hp hc hi hg hb hs) λD σ H ax=>ex7 ax λE L r m w hr k=>by
 rcases jw6 hr with⟨E1,ds,h1,h2⟩|⟨E1,c,h1,rfl⟩
 rotate_left
 ·exact#[E,L,_,m,w,h1,k.xc,λE' s' z=>by cases z]
 refine#[E,L,_,m,w,h1,(λ_ _ z=>by cases z),λE' ds' z J T L' H' m' w' st hz _ wk=>?_];injection z with z1 z2;subst z1 z2;have lu:∀{H2 L2},World Z.K H2 (L2++T.map some)->∀t∈T,t.ok Z.K H2:=λw2 t ht=>w2.ok t (lr9 _ (Xs ht))
 refine#[λi n σ1 H1=>∃E1 L1,Mt E1 σ1 L1/\World Z.K H1 (L1++T.map some)/\Step H L H1 (L1++T.map some)/\Pn pn σ σ1/\Q7 t B (ds.drop i) E1=some r/\i<=ds.length/\n=ds.length - i/\∀t∈T,Kp H' H1 t.as,#[_,E1,L',m',w',st,Pn.refl,h2,Yg _,rfl,λ_ _=>Kp.of_same z9],?_];rintro i n σ1 H1 ⟨E1,L1,m1,w1,i4,p1,f1,hi,rfl,aa⟩
 by_cases cj:i<ds.length
 ·have hd:ds.drop i=ds[i]::ds.drop _:=List.drop_eq_getElem_cons cj;rw [hd]at f1;unfold Q7 at f1;cases br:t.put ds[i] E1 with
  | none=>rw[br]at f1;cases f1
  | some E2=>
   rw[br]at f1;dsimp only at f1;refine .inr #[wk.go i H1 #[lu w1,aa] cj,fun σ2 H2=>∃E2 L2,Mt E2 σ2 L2/\World Z.K H2 _/\Step H L H2 _/\Pn pn σ σ2/\Q7 t B _ E2=some r/\∀t∈T,Kp H' H2 t.as,fun σ2 H2 hz=>by obtain⟨E2,L2,a1,a2,a3,a4,a5,a6⟩:=hz;exact#[ds.length - _,by omega,E2,L2,a1,a2,a3,a4,a5,cj,rfl,a6],λv H2 hy=>?_];obtain⟨z,zo,zd,zv,sm,wp,zas⟩:=wk.yld i H1 v H2 ds[i] #[lu w1,aa] hy (X1 cj);obtain⟨wz,sz⟩:=kqo w1 wk.no sm wp zo zas;refine#[E1,L1,z,E2,m1,wz.left,zo,zv,by rw[zd];exact br,fun σ2 L2 p2 m2 w2 cf=>?_];obtain⟨w3,dl⟩:=stay wz cf w2;have i':=i4.trans (sz.trans dl);have qc:=λt ht=>(aa t ht).trans (Kp.of_same sm)
   cases hB:B E2 with
   | none=>rw[hB]at f1;cases f1
   | some g=>
    rw[hB]at f1;refine#[E2,L2,g,m2,w2,hB,?_];cases g with
    |nx E3=>
     intro σ3 L3 H3 p3 m3 w4 s3;obtain⟨w5,s5⟩:=stay w3 s3 w4;exact#[E3,L3,m3,w5,i'.trans s5,(p1.trans p2).trans p3,f1,qq5 w3 wk.no s3 qc]
    |ct E3=>
     intro σ3 L3 H3 p3 m3 w4 s3;obtain⟨w5,s5⟩:=stay w3 s3 w4;exact#[E3,L3,m3,w5,i'.trans s5,(p1.trans p2).trans p3,f1,qq5 w3 wk.no s3 qc]
    |bk E3=>
     have e:=oq9 f1;subst e;intro σ3 L3 H3 p3 m3 w4 s3;exact k σ3 L3 H3 ((p1.trans p2).trans p3) m3 w4 ((i'.trans Step.dropT).trans s3)
    |rt E3 x=>
     have e:=oq9 f1;subst e;intro y σ3 L3 H3 e1 e2 p3 m3 w4 s3;exact k y σ3 L3 H3 e1 e2 ((p1.trans p2).trans p3) m3 w4 ((i'.trans Step.dropT).trans s3)
    |xc E3 c=>
     have e:=oq9 f1;subst e;intro C σ3 L3 H3 hm p3 m3 w4 s3;exact k C σ3 L3 H3 hm ((p1.trans p2).trans p3) m3 w4 ((i'.trans Step.dropT).trans s3)
 ·have e:i=ds.length:=by omega
  subst e;rw[List.drop_length]at f1;cases oq9 f1;exact .inl #[wk.stop H1 #[lu w1,aa],k σ1 L1 H1 p1 m1 w1.left (i4.trans Step.dropT)]
theorem xjq(hp:PassesOwn (model X.prog X.w) X.A X.env X.xe)(hc:X.calm=true)(hi:QI X Z q tg it iter)(hg:QG X Z pn t tg)(hb:QSs X Z pn B ss)(hs:autoParam (∀x,foldedSetIterable iter X.env x=pure x) Ŗ):QS X Z pn (vw it t B) (.For tg iter ss [] pos):=wvc hp hc hi.D hg hb hs
end
mutual
noncomputable def qJ(h:Heap):D->Value->Prop
 |.non,u=>u=.none|.bl b,u=>u=.bool b|.int i,u=>∃t,u=.int i t|.str z,u=>∃t,u=.str z t|.tup ds,u=>∃a us,u=.ref a/\h.IsTuple a us.toArray/\CReps h ds us|.lst ds,u=>∃a us,u=.ref a/\h.IsList a us.toArray/\CReps h ds us|.dct _,_=>False|.obj _ _,_=>False
noncomputable def CReps(h:Heap):List D->List Value->Prop
 |[],us=>us=[]|d::ds,us=>∃u r,us=u::r/\qJ h d u/\CReps h ds r
end
theorem qqt{n k}:D.flat n (.dct k)=false:=by cases n<;>simp[D.flat]
theorem qqs{n c k}:D.flat n (.obj c k)=false:=by cases n<;>simp[D.flat]
section
variable {X:Cx}{aa:LA9}{σ:L2.St}{H:Hp}{s:Shared}
mutual
theorem VX(I:Inv X aa σ H s){g}:∀{n d v as u},RepL X.K H g d v as->d.flat n=true->RelV v u->qJ s.heap d u
 | _,.non,_,_,_,h,_,r=>by
  unfold RepL at h;rw[h.1]at r;exact r
 | _,.bl _,_,_,_,h,_,r=>by
  unfold RepL at h;rw[h.1]at r;exact r
 | _,.int _,_,_,_,h,_,r=>by
  unfold RepL at h;rw[h.1]at r;exact r
 | _,.str _,_,_,_,h,_,r=>by
  unfold RepL at h;rw[h.1]at r;unfold qJ;exact r
 | 0,.tup ds,_,_,_,h,f,r=>by cases f
 | n+1,.tup ds,_,_,_,h,f,r=>by
  obtain⟨a,xs,rfl,q,ra⟩:=h;cases r;obtain⟨aj,rv,p,_⟩:=I.tuple q;exact#[a,aj,rfl,p,creps_of I ra f rv]
 | 0,.lst ds,_,_,_,h,f,r=>by cases f
 | n+1,.lst ds,_,_,_,h,f,r=>by
  obtain⟨a,xs,bs,rfl,ra,q⟩:=h;cases r;have q':SqL X.K H a xs:=by
   rcases q with⟨q,_⟩|⟨_,q,_⟩
   ·exact SqL.of q
   ·exact(LsR.of q).sq
  obtain⟨aj,rv,p,_⟩:=I.list q';exact#[a,aj,rfl,p.isList,creps_of I ra f rv]
 |_,.dct _,_,_,_,h,f,r=>by rw[qqt]at f;cases f|_,.obj _ _,_,_,_,h,f,r=>by rw[qqs]at f;cases f
theorem creps_of(I:Inv X aa σ H s){g}:∀{n ds xs as us},RepA X.K H g ds xs as->D.flats n ds=true->Vals xs us->CReps s.heap ds us
 | _,[],_,_,_,h,_,r=>by
  rw[h.1]at r;cases r;unfold CReps;rfl
 | n,d::ds,_,_,_,h,f,r=>by
  unfold D.flats at f;rw[Bool.and_eq_true]at f;obtain⟨x,rr,bs,cs,rfl,rfl,h1,h2⟩:=h;cases r with
  |cons r1 r2=>
   exact#[_,_,rfl,VX I h1 f.1 r1,creps_of I h2 f.2 r2]
end
end
theorem CReps.len{h}:∀{ds us},CReps h ds us->ds.length=us.length
 |[],_,r=>by rw[r];rfl
 |d::ds,_,r=>by
  obtain⟨u,rr,rfl,_,h2⟩:=r;simp[CReps.len h2]
theorem CReps.get{h}:∀{ds us} {j:Nat} {d},CReps h ds us->ds[j]?=some d->∃u,us[j]?=some u/\qJ h d u
 | [],_,_,_,_,e=>by simp_all
 | d::ds,_,j,d',r,e=>by
  obtain⟨u,rr,rfl,h1,h2⟩:=r;cases j with
  |zero=>simp_all
  |succ j=>
   obtain _:=CReps.get h2 (by simpa using e)
   simp_all
theorem vxk{h:Heap}{a x y}(p:h.IsTuple a x)(q:h.IsTuple a y):x=y:=by
 obtain⟨o,h1,_,n,h2⟩:=p;obtain⟨o',h3,_,n',h4⟩:=q
 grind
theorem wja{h:Heap}{a x y}(p:h.IsList a x)(q:h.IsList a y):x=y:=by
 obtain⟨o,h1,_,n,h2⟩:=p;obtain⟨o',h3,_,n',h4⟩:=q
 grind
theorem qz7{h:Heap}{a x y}(p:h.IsList a x)(q:h.IsTuple a y):False:=by
 obtain⟨o,h1,h2,_⟩:=p;obtain⟨o',h3,h4,_⟩:=q
 grind
inductive Cv (h:Heap):D->Value->Prop
 |non:Cv h .non .none
 |bl (b:Bool):Cv h (.bl b) (.bool b)
 |int (i:Int) (t:_):Cv h (.int i) (.int i t)
 |str (z:Str) (t:_):Cv h (.str z) (.str z t)
 |lst {ds:List D} {a:Addr} {us:List Value} (p:h.IsList a us.toArray) (q:CReps h ds us):Cv h (.lst ds) (.ref a)
 |tup {ds:List D} {a:Addr} {us:List Value} (p:h.IsTuple a us.toArray) (q:CReps h ds us):Cv h (.tup ds) (.ref a)
theorem crv{h d u}(r:qJ h d u):Cv h d u:=by
 cases d<;>unfold qJ at r
 all_goals first|exact r.elim|(subst r;constructor)|(obtain⟨_,rfl⟩:=r;constructor)|(obtain⟨_,_,rfl,p,q⟩:=r;first|exact .lst p q|exact .tup p q)
set_option tactic.hygienic true in
mutual
theorem kjf{h d d' u}(a:qJ h d u)(b:qJ h d' u):d=d':=by
 cases d<;>cases crv a<;>cases crv b<;>try rfl
 ·exact(qz7 ‹_› ‹_›).elim
 ·rename_i p r _ _ r' p';cases Array.mk.inj (vxk p p');rw[creps_inj r r']
 ·rename_i p r _ _ r' p';cases Array.mk.inj (wja p p');rw[creps_inj r r']
 ·exact(qz7 ‹_› ‹_›).elim
theorem creps_inj{h}:∀{ds ds' us},CReps h ds us->CReps h ds' us->ds=ds'
 | [],ds',us,a,b=>by
  unfold CReps at a;subst a;cases ds' with|nil=>rfl|cons d ds=>unfold CReps at b;obtain⟨_,_,e,_⟩:=b;cases e
 | d::ds,ds',us,a,b=>by
  unfold CReps at a;obtain⟨u,r,rfl,h1,h2⟩:=a;cases ds' with
  |nil=>unfold CReps at b;cases b
  |cons d' ds'=>
   obtain⟨u',r',e,h3,h4⟩:=b;cases e;rw[kjf h1 h3,creps_inj h2 h4]
end
mutual
theorem jwf:∀{n d},d.flat n=true->peq d d=true
 |_,.non,_=>by rfl|_,.bl b,_=>by unfold peq;simp|_,.int b,_=>by unfold peq;simp|_,.str b,_=>by unfold peq;simp|n+1,.tup ds,f=>peqs_refl f|n+1,.lst ds,f=>peqs_refl f|_,.dct _,f=>by rw[qqt]at f;cases f|_,.obj _ _,f=>by rw[qqs]at f;cases f
theorem peqs_refl:∀{n d},D.flats n d=true->peqs d d=true
 |_,[],_=>by rfl
 |n,d::ds,f=>by
  unfold D.flats at f;rw[Bool.and_eq_true]at f;unfold peqs;rw[jwf f.1,peqs_refl f.2];rfl
end
theorem jxt:∀{n ds} {j:Nat} {d},D.flats n ds=true->ds[j]?=some d->d.flat n=true
 |_,[],_,_,_,e=>by simp_all
 |n,d::ds,j,d',f,e=>by
  unfold D.flats at f;rw[Bool.and_eq_true]at f;cases j with|zero=>simp_all|succ j=>exact jxt f.2 (by simpa using e)
noncomputable def pAt(as bs:List D)(j:Nat):Bool:=match as[j]?,bs[j]? with
 |some a,some b=>peq a b|_,_=>true
theorem jwe:∀as bs,as.length=bs.length->(List.range as.length).all (pAt as bs)=peqs as bs
 |[],[],_=>by rfl
 |a::as,b::bs,h=>by
  rw[Xg,List.range_succ_eq_map,List.all_cons,List.all_map];unfold peqs;rw[<-(jwe as bs (by simpa using h))];rfl
theorem kj8:∀as bs,as.length≠bs.length->peqs as bs=false
 |[],[],h=>by simp_all
 |a::as,b::bs,h=>by
  unfold peqs;rw[kj8 as bs (by simpa using h),Bool.and_false]
 |[],_::_,_=>by rfl|_::_,[],_=>by rfl
theorem qko(as bs):((List.range (min as.length bs.length)).all (pAt as bs)&&as.length==bs.length)=peqs as bs:=by
 by_cases e:as.length=bs.length
 ·rw[<-e,Nat.min_self,jwe as bs e];simp[e]
 ·rw[kj8 as bs e]
  grind
section
variable {s:Shared}
theorem qjf{as bs us ws A}(ra:CReps s.heap as us)(rb:CReps s.heap bs ws)
  (h:∀(j:Nat) (d d') (u w),as[j]?=some d->bs[j]?=some d'->qJ s.heap d u->qJ s.heap d' w->SeqAt.EqAt A s u w (peq d d')):
  ∀j h1 (h2:j<ws.toArray.size),SeqAt.EqAt A s us.toArray[j] ws.toArray[j] (pAt as bs j):=λj h1 h2=>by
 have l1:=ra.len;have l2:=rb.len;simp at h1 h2;have ha:j<as.length:=⋯
 have hb:j<bs.length:=⋯
 obtain⟨u,eu,ru⟩:=ra.get (X1 ha);obtain⟨w,ew,ka⟩:=rb.get (X1 hb);have e1:us.toArray[j]=u:=by
  simp_all
 have e2:ws.toArray[j]=w:=by
  simp_all
 have e3:pAt as bs j=peq as[j] bs[j]:=by
  unfold pAt;rw[X1 ha,X1 hb]
 rw[e1,e2,e3];exact h j _ _ u w (X1 ha) (X1 hb) ru ka
set_option tactic.hygienic true in
theorem wqo{A d d' u w}(hu:A.units<cLine)(r:qJ s.heap d u)(r':qJ s.heap d' w)
  (el:∀as bs (us ws),(d=.lst as\/d=.tup as)->(d'=.lst bs\/d'=.tup bs)->CReps s.heap as us->CReps s.heap bs ws->∀j (h1) (h2:j<ws.toArray.size),SeqAt.EqAt A.in1 s us.toArray[j] ws.toArray[j] (pAt as bs j)):
  SeqAt.RcAt A s u w (peq d d'):=by
 cases crv r<;>cases crv r'<;>unfold peq
 ·exact SeqAt.RcAt.none_none
 ·exact SeqAt.RcAt.none_bool _
 ·exact SeqAt.RcAt.none_int _ _
 ·exact SeqAt.RcAt.none_str _ _
 ·exact SeqAt.RcAt.none_list ‹_› hu
 ·exact SeqAt.RcAt.none_tuple ‹_› hu
 ·exact SeqAt.RcAt.bool_none _
 ·exact SeqAt.RcAt.bool_bool _ _
 ·exact SeqAt.RcAt.bool_int _ _ _
 ·exact SeqAt.RcAt.bool_str _ _ _
 ·exact SeqAt.RcAt.bool_list _ ‹_› hu
 ·exact SeqAt.RcAt.bool_tuple _ ‹_› hu
 ·exact SeqAt.RcAt.int_none _ _
 ·exact SeqAt.RcAt.int_bool _ _ _
 ·exact SeqAt.RcAt.int_int _ _ _ _
 ·exact SeqAt.RcAt.int_str _ _ _ _
 ·exact SeqAt.RcAt.int_list _ _ ‹_› hu
 ·exact SeqAt.RcAt.int_tuple _ _ ‹_› hu
 ·exact SeqAt.RcAt.str_none _ _
 ·exact SeqAt.RcAt.str_bool _ _ _
 ·exact SeqAt.RcAt.str_int _ _ _ _
 ·exact SeqAt.RcAt.str_str _ _ _ _
 ·exact SeqAt.RcAt.str_list _ _ ‹_› hu
 ·exact SeqAt.RcAt.str_tuple _ _ ‹_› hu
 ·exact SeqAt.RcAt.list_none ‹_› hu
 ·exact SeqAt.RcAt.list_bool _ ‹_› hu
 ·exact SeqAt.RcAt.list_int _ _ ‹_› hu
 ·exact SeqAt.RcAt.list_str _ _ ‹_› hu
 ·rename_i as a us p ra bs b ws p' rb;have l1:=ra.len;have l2:=rb.len
  by_cases hl:as.length=bs.length
  ·rw[<-jwe as bs hl];have z:=SeqAt.RcAt.lists (A:=A) (s:=s) (e:=pAt as bs) p p' (by simp only[X6];lia) hu (el as bs us ws (.inl rfl) (.inl rfl) ra rb);rw[X6,<-l1]at z;exact z
  ·rw[kj8 as bs hl];exact SeqAt.RcAt.lists_lengths p p' (by simp only[X6,bne_iff_ne];lia) hu
 ·exact SeqAt.RcAt.list_tuple ‹_› ‹_› hu
 ·exact SeqAt.RcAt.tuple_none ‹_› hu
 ·exact SeqAt.RcAt.tuple_bool _ ‹_› hu
 ·exact SeqAt.RcAt.tuple_int _ _ ‹_› hu
 ·exact SeqAt.RcAt.tuple_str _ _ ‹_› hu
 ·exact SeqAt.RcAt.tuple_list ‹_› ‹_› hu
 ·rename_i as a us p ra bs b ws p' rb;rw[<-qko as bs];have z:=SeqAt.RcAt.tuples (A:=A) (s:=s) (e:=pAt as bs) p p' hu (el as bs us ws (.inr rfl) (.inr rfl) ra rb);rw[X6,X6,<-ra.len,<-rb.len]at z;exact z
set_option tactic.hygienic true in
theorem xjd{A d d' u w}(hu:A.units<cLine)(r:qJ s.heap d u)(r':qJ s.heap d' w)
  (el:∀as bs (us ws),(d=.lst as\/d=.tup as)->(d'=.lst bs\/d'=.tup bs)->CReps s.heap as us->CReps s.heap bs ws->∀j (h1) (h2:j<ws.toArray.size),SeqAt.EqAt A.in1 s us.toArray[j] ws.toArray[j] (pAt as bs j)):
  SeqAt.RcNeAt A s u w (!peq d d'):=by
 cases crv r<;>cases crv r'<;>unfold peq
 ·exact SeqAt.RcNeAt.none_none
 ·exact SeqAt.RcNeAt.none_bool _
 ·exact SeqAt.RcNeAt.none_int _ _
 ·exact SeqAt.RcNeAt.none_str _ _
 ·exact SeqAt.RcNeAt.none_list ‹_› hu
 ·exact SeqAt.RcNeAt.none_tuple ‹_› hu
 ·exact SeqAt.RcNeAt.bool_none _
 ·exact SeqAt.RcNeAt.bool_bool _ _
 ·exact SeqAt.RcNeAt.bool_int _ _ _
 ·exact SeqAt.RcNeAt.bool_str _ _ _
 ·exact SeqAt.RcNeAt.bool_list _ ‹_› hu
 ·exact SeqAt.RcNeAt.bool_tuple _ ‹_› hu
 ·exact SeqAt.RcNeAt.int_none _ _
 ·exact SeqAt.RcNeAt.int_bool _ _ _
 ·exact SeqAt.RcNeAt.int_int _ _ _ _
 ·exact SeqAt.RcNeAt.int_str _ _ _ _
 ·exact SeqAt.RcNeAt.int_list _ _ ‹_› hu
 ·exact SeqAt.RcNeAt.int_tuple _ _ ‹_› hu
 ·exact SeqAt.RcNeAt.str_none _ _
 ·exact SeqAt.RcNeAt.str_bool _ _ _
 ·exact SeqAt.RcNeAt.str_int _ _ _ _
 ·exact SeqAt.RcNeAt.str_str _ _ _ _
 ·exact SeqAt.RcNeAt.str_list _ _ ‹_› hu
 ·exact SeqAt.RcNeAt.str_tuple _ _ ‹_› hu
 ·exact SeqAt.RcNeAt.list_none ‹_› hu
 ·exact SeqAt.RcNeAt.list_bool _ ‹_› hu
 ·exact SeqAt.RcNeAt.list_int _ _ ‹_› hu
 ·exact SeqAt.RcNeAt.list_str _ _ ‹_› hu
 ·rename_i as a us p ra bs b ws p' rb;have l1:=ra.len;have l2:=rb.len
  by_cases hl:as.length=bs.length
  ·rw[<-jwe as bs hl];have z:=SeqAt.RcNeAt.lists (A:=A) (s:=s) (e:=pAt as bs) p p' (by simp only[X6];lia) hu (el as bs us ws (.inl rfl) (.inl rfl) ra rb);rw[X6,<-l1]at z;exact z
  ·rw[kj8 as bs hl];exact SeqAt.RcNeAt.lists_lengths p p' (by simp only[X6,bne_iff_ne];lia) hu
 ·exact SeqAt.RcNeAt.list_tuple ‹_› ‹_› hu
 ·exact SeqAt.RcNeAt.tuple_none ‹_› hu
 ·exact SeqAt.RcNeAt.tuple_bool _ ‹_› hu
 ·exact SeqAt.RcNeAt.tuple_int _ _ ‹_› hu
 ·exact SeqAt.RcNeAt.tuple_str _ _ ‹_› hu
 ·exact SeqAt.RcNeAt.tuple_list ‹_› ‹_› hu
 ·rename_i as a us p ra bs b ws p' rb;rw[<-qko as bs];have z:=SeqAt.RcNeAt.tuples (A:=A) (s:=s) (e:=pAt as bs) p p' hu (el as bs us ws (.inr rfl) (.inr rfl) ra rb);rw[X6,X6,<-ra.len,<-rb.len]at z;exact z
theorem kwm{A a a' b}(tm:Value.ref a=Value.ref a'->b=true)(rc:SeqAt.RcAt A s (.ref a) (.ref a') b):SeqAt.EqAt A s (.ref a) (.ref a') b:=by
 by_cases e:a=a'
 ·subst e;rw[tm rfl];exact SeqAt.EqAt.same _
 ·exact SeqAt.EqAt.of_refs e rc
theorem xks{A d d' u w}(hu:A.units<cLine)(r:qJ s.heap d u)(r':qJ s.heap d' w)(tm:u=w->peq d d'=true)(rc:SeqAt.RcAt A s u w (peq d d')):SeqAt.EqAt A s u w (peq d d'):=by
 cases crv r<;>cases crv r'<;>try unfold peq
 ·exact SeqAt.EqAt.same _
 ·exact SeqAt.EqAt.none_bool _
 ·exact SeqAt.EqAt.none_int _ _
 ·exact SeqAt.EqAt.none_str _ _
 ·exact SeqAt.EqAt.none_list ‹_› hu
 ·exact SeqAt.EqAt.none_tuple ‹_› hu
 ·exact SeqAt.EqAt.bool_none _
 ·exact SeqAt.EqAt.bool_bool _ _
 ·exact SeqAt.EqAt.bool_int _ _ _
 ·exact SeqAt.EqAt.bool_str _ _ _
 ·exact SeqAt.EqAt.bool_list _ ‹_› hu
 ·exact SeqAt.EqAt.bool_tuple _ ‹_› hu
 ·exact SeqAt.EqAt.int_none _ _
 ·exact SeqAt.EqAt.int_bool _ _ _
 ·exact SeqAt.EqAt.int_int _ _ _ _
 ·exact SeqAt.EqAt.int_str _ _ _ _
 ·exact SeqAt.EqAt.int_list _ _ ‹_› hu
 ·exact SeqAt.EqAt.int_tuple _ _ ‹_› hu
 ·exact SeqAt.EqAt.str_none _ _
 ·exact SeqAt.EqAt.str_bool _ _ _
 ·exact SeqAt.EqAt.str_int _ _ _ _
 ·exact SeqAt.EqAt.str_str _ _ _ _
 ·exact SeqAt.EqAt.str_list _ _ ‹_› hu
 ·exact SeqAt.EqAt.str_tuple _ _ ‹_› hu
 ·exact SeqAt.EqAt.list_none ‹_› hu
 ·exact SeqAt.EqAt.list_bool _ ‹_› hu
 ·exact SeqAt.EqAt.list_int _ _ ‹_› hu
 ·exact SeqAt.EqAt.list_str _ _ ‹_› hu
 ·exact kwm tm rc
 ·exact kwm tm rc
 ·exact SeqAt.EqAt.tuple_none ‹_› hu
 ·exact SeqAt.EqAt.tuple_bool _ ‹_› hu
 ·exact SeqAt.EqAt.tuple_int _ _ ‹_› hu
 ·exact SeqAt.EqAt.tuple_str _ _ ‹_› hu
 ·exact kwm tm rc
 ·exact kwm tm rc
theorem WZ:∀n {d d' u w A},d.flat n=true->qJ s.heap d u->qJ s.heap d' w->A.units+n<cLine->SeqAt.EqAt A s u w (peq d d')
 | n,d,d',u,w,A,f,r,r',hu=>by
  refine xks ⋯ r r' (λe=>?_) (wqo ⋯ r r' λas bs us ws h1 h2 ra rb=>?_)
  rotate_left
  ·cases n with
   |zero=>rcases h1 with rfl|rfl<;>(unfold D.flat at f;cases f)
   |succ n=>
    have fs:D.flats n as=true:=by rcases h1 with rfl|rfl<;>(unfold D.flat at f;exact f)
    exact qjf ra rb λj d d' u w e1 e2 q1 q2=>WZ n (jxt fs e1) q1 q2 ⋯
  ·subst e;rw[kjf r' r];exact jwf f
end
section
variable {X:Cx}{Z:Fx0}{K:Frag}
noncomputable def xqr(K:Frag):R2:=λx y H Q=>∃d d' as bs,RepL K H true d x as/\RepL K H true d' y bs/\d.flat 40=true/\d'.flat 40=true/\Q (.bl (peq d d')) H
noncomputable def xql(K:Frag):R2:=λx y H Q=>∃d d' as bs,RepL K H true d x as/\RepL K H true d' y bs/\d.flat 40=true/\d'.flat 40=true/\Q (.bl (!peq d d')) H
theorem ww9(hu:X.A.units+64<cLine)(hK:autoParam (X.K=K) Ŕ):OpR X (compareOp .Eq) (xqr K):=by
 subst hK;rintro aa s σ H x y v u Q I rx ry ⟨d,d',as,bs,h1,h2,f1,f2,q⟩;refine wqo ⋯ (VX I h1 f1 rx) (VX I h2 f2 ry) (λas bs us ws e1 e2 ra rb=>qjf ra rb λj d d' u w e3 e4 q1 q2=>?_) _ _ _ _ #[.bl _,H,I,rfl,q];have fs:D.flats 39 as=true:=by rcases e1 with rfl|rfl<;>(unfold D.flat at f1;exact f1)
 exact WZ 39 (jxt fs e3) q1 q2 ⋯
theorem qxx(hu:X.A.units+64<cLine)(hK:autoParam (X.K=K) Ŕ):OpR X (compareOp .NotEq) (xql K):=by
 subst hK;rintro aa s σ H x y v u Q I rx ry ⟨d,d',as,bs,h1,h2,f1,f2,q⟩;refine xjd ⋯ (VX I h1 f1 rx) (VX I h2 f2 ry) (λas bs us ws e1 e2 ra rb=>qjf ra rb λj d d' u w e3 e4 q1 q2=>?_) _ _ _ _ #[.bl _,H,I,rfl,q];have fs:D.flats 39 as=true:=by rcases e1 with rfl|rfl<;>(unfold D.flat at f1;exact f1)
 exact WZ 39 (jxt fs e3) q1 q2 ⋯
theorem wz3:Ad2 K (xqr K) (pu2 fEq):=by
 intro H x y s Q ox oy hf k;unfold pu2 fEq at hf
 by_cases hc:(x.d.flat 40&&y.d.flat 40)=true
 ·rw[Xb hc]at hf;rw[Bool.and_eq_true]at hc;cases oq9 hf;exact#[x.d,y.d,x.as,y.as,RepO.wk ox,RepO.wk oy,hc.1,hc.2,k _ H rfl rfl wY]
 ·simp_all
theorem vk5:Ad2 K (xql K) (pu2 fNe):=by
 intro H x y s Q ox oy hf k;unfold pu2 fNe at hf
 by_cases hc:(x.d.flat 40&&y.d.flat 40)=true
 ·rw[Xb hc]at hf;rw[Bool.and_eq_true]at hc;cases oq9 hf;exact#[x.d,y.d,x.as,y.as,RepO.wk ox,RepO.wk oy,hc.1,hc.2,k _ H rfl rfl wY]
 ·simp_all
end
mutual
noncomputable def wkn:D->Nat
 |.tup xs=>drwDs xs+1|_=>1
noncomputable def drwDs:List D->Nat
 |[]=>0|a::x=>wkn a+drwDs x
end
mutual
theorem qqn{n:Nat}{d:D}(h:v6 n d=true):d.flat n=true:=by
 cases d<;>cases n<;>unfold v6 at h<;>first|rfl|(cases h)|skip
 exact keys_flat h
theorem keys_flat{n:Nat}{ds:List D}(h:keyDs n ds=true):D.flats n ds=true:=by
 cases ds<;>unfold keyDs at h<;>unfold D.flats
 ·rfl
 rw[Bool.and_eq_true]at h;rw[qqn h.1,keys_flat h.2];rfl
end
mutual
theorem qjs{n m:Nat}{a b:D}(ha:v6 n a=true)(hb:v6 m b=true):peq a b=decide (a=b):=by
 cases a<;>first|(cases n<;>(unfold v6 at ha;cases ha);done)|(cases b<;>first|(cases m<;>(unfold v6 at hb;cases hb);done)|(simp[peq];done)|(simp[peq];first|rfl|exact Bool.beq_eq_decide_eq _ _)|skip)
 cases n<;>cases m<;>unfold v6 at ha hb<;>first|(cases ha)|(cases hb)|simpa [peq]using keys_peq ha hb
theorem keys_peq{n m:Nat}{a b:List D}(ha:keyDs n a=true)(hb:keyDs m b=true):peqs a b=decide (a=b):=by
 cases a<;>cases b<;>unfold keyDs at ha hb<;>simp[peqs]
 rw[Bool.and_eq_true]at ha hb;rw[qjs ha.1 hb.1,keys_peq ha.2 hb.2]
end
set_option tactic.hygienic true in
theorem vjf{h:Heap}{n:Nat}:∀{ds:List D} {us:List Value},keyDs n ds=true->CReps h ds us->∀u∈us,∃d,v6 n d=true/\qJ h d u:=by
 intro ds
 induction ds<;>intro us hk r u hu<;>unfold CReps at r
 ·subst r;cases hu
 ·rename_i ih;obtain⟨v,r,rfl,h1,h2⟩:=r;unfold keyDs at hk;rw[Bool.and_eq_true]at hk;rcases aD hu with rfl|hu
  ·exact#[_,hk.1,h1]
  ·exact ih hk.2 h2 u hu
set_option tactic.hygienic true in
theorem wje{h : Heap}{P : Nat -> Value -> Prop}(b : ∀n u,(u = .none \/ (∃i t,u = .int i t) \/ ∃x t,u = .str x t) -> P n u)(st : ∀n a (us : List Value),h.IsTuple a us.toArray -> (∀u ∈ us,P n u) -> P (n+1) (.ref a)): ∀n {d : D} {u : Value},v6 n d = true -> qJ h d u -> P n u:= by
  intro n
  induction n <;> intro d u hk hr <;> cases crv hr <;> unfold v6 at hk <;> first
    |(cases hk; done)
    |exact b _ _ (.inl rfl)
    |exact b _ _ (.inr (.inl ⟨_,_,rfl⟩))
    |exact b _ _ (.inr (.inr ⟨_,_,rfl⟩))
    |skip
  rename_i ih _ _ _ p q;refine st _ _ _ p λu hu=> ?_
  obtain⟨d,k,r⟩:= vjf hk q u hu;exact ih k r
section
variable {prog:Program}{w:PySem.World}{A:Around}{E:VP9}{s:Shared}
theorem vv3{Q:Int->Shared->Prop}(h:Q 4238894112 {s with toks:=s.toks+1}):wpAny (model prog w) A (pyHash .none) Q E s:=by
 have ty:s.TypeIs Value.none "NoneType":=rfl;unfold pyHash;refine X0 ?_;refine X5 (X0 (wpAny_specialOf ty F.slot_NoneType_hash.lookup ?_));show wpAny _ _ (callSpecialIfBoundUnlessNone? Value.none "__hash__" _ >>= _) Q E s;refine X0 (wpAny_callSpecialIfBoundUnlessNone?_slot ty F.slot_NoneType_hash (Y6 F.slot_NoneType_hash ty F.entry_NoneType_hash ?_ (F.args_NoneType_hash_1 _)));refine wpAny_ret_mkInt ?_;show wpAny _ _ (if(decide (-(2:Int) ^ 63<=(4238894112:Int))&&decide ((4238894112:Int)<2 ^ 63))=true then _ else _) Q E _;rw[Xb ⋯];exact X5 h
theorem kkb{d:D}:∀ds:List D,hashDs w (ds++[d])=hashDs w ds++[Qz w d]
 |[]=>by simp[hashDs]|a::x=>by rw[List.cons_append,hashDs,kkb x];rfl
theorem kqv{d:D}:∀ds:List D,drwDs (ds++[d])=drwDs ds+wkn d
 |[]=>by simp[drwDs]|a::x=>by rw[List.cons_append,drwDs,drwDs,kqv x];lia
set_option tactic.hygienic true in
theorem wx6:∀(n:Nat) {d:D} {u:Value} {A:Around} {s:Shared} {Q:Int->Shared->Prop},v6 n d=true->qJ s.heap d u->A.units+4*n<cLine->Q (Qz w d) {s with toks:=s.toks+wkn d}->wpAny (model prog w) A (pyHash u) Q E s:=by
 intro n
 induction n<;>intro d u A s Q hk hr hu h<;>cases crv hr<;>unfold v6 at hk<;>first|(cases hk;done)|((with_reducible refine vv3 ?_);exact h)|((with_reducible refine wpAny_pyHash_int ?_);exact h)|((with_reducible refine wpAny_pyHash_str ?_);exact h)|skip
 rename_i n ih ds a us ht hi;have ty:=ht.typeIs;obtain⟨ob,yb,fy,nn,tz⟩:=ht;unfold pyHash;unfold pyHashByItsType;refine X0 (wpAny_cRoomFor_or (.inr ⋯) ?_);refine X0 (wpAny_specialOf ty F.slot_tuple_hash.lookup ?_);show wpAny _ _ (if(some (Value.builtin "tuple.__hash__")==some Value.none)=true then _ else _) Q E s;rw [Xe (show ¬(some (Value.builtin "tuple.__hash__")==some Value.none)=true by rw[beq_builtin_none];exact Bool.false_ne_true)];refine X0 (wpAny_specialOf ty F.slot_tuple_hash.lookup ?_);show wpAny _ _ (callSpecialIfBoundUnlessNone? (Value.ref a) "__hash__" _ >>= _) Q E s;refine X0 (wpAny_callSpecialIfBoundUnlessNone?_slot ty F.slot_tuple_hash (Y6 F.slot_tuple_hash ty F.entry_tuple_hash ?_ (F.args_tuple_hash_1 _)));show wpAny _ _ (Builtin.Tuple.tupleItemsOf (Value.ref a) >>= _) _ _ s;refine X0 (wpAny_tupleItemsOf yb tz ?_);refine X0 ?_;rw [<-Array.forIn_toList];refine wpAny_forIn_list _ (λao (b:Array Int) s'=>∃pre post,ds=pre++post/\keyDs n post=true/\CReps s.heap post ao/\b.toList=hashDs w pre/\s'={s with toks:=s.toks+drwDs pre}) _ ?_ ?_ _ _ #[[],ds,rfl,hk,hi,rfl,rfl]
 ·rintro x ao b s' ⟨pre,post,rfl,hkp,hl,hb,rfl⟩;cases post with
  | nil=>unfold CReps at hl;cases hl
  | cons d post=>
   unfold CReps at hl;obtain⟨u1,r1,e1,h1,h2⟩:=hl;injection e1 with e1 e2;subst e1 e2;unfold keyDs at hkp;rw[Bool.and_eq_true]at hkp;have ru:A.in1.units+4*n<cLine:=by show A.units+1+4*n<cLine;lia
   have fin:∃p q,pre++d::post=p++q/\keyDs n q=true/\CReps s.heap q ao/\(b.push (Qz w d)).toList=hashDs w p/\({s with toks:=s.toks+drwDs pre+wkn d}:Shared)={s with toks:=s.toks+drwDs p}:=
    #[pre++[d],post,by simp,hkp.2,h2,by rw[kkb,<-hb];simp,by rw[kqv,Nat.add_assoc]]
   refine X0 (ih hkp.1 h1 ru ?_)
   first
    |exact X5 fin
    |exact X0 (X5 (X5 fin))
 ·rintro b s' ⟨pre,post,rfl,hkp,hl,hb,rfl⟩;have:post=[]:=by
   cases post with|nil=>rfl|cons d post=>unfold CReps at hl;obtain⟨_,_,z,_⟩:=hl;cases z
  subst this;rw[Xn]at h;show wpAny _ _ (retInt (Builtin.Tuple.tupleHashOf b.toList)) _ _ _;rw[hb];refine wpAny_ret_mkInt ?_;generalize hv:Builtin.Tuple.tupleHashOf (hashDs w pre)=v;have h:Q (reduceHash v) {s with toks:=s.toks+drwDs pre+1}:=by rw[<-hv];unfold Qz wkn at h;rw[Nat.add_assoc];exact h
  show wpAny _ _ (if(decide (-(2:Int) ^ 63<=v)&&decide (v<2 ^ 63))=true then _ else _) Q E _;unfold reduceHash at h
  by_cases hq:(decide (-(2:Int) ^ 63<=v)&&decide (v<2 ^ 63))=true
  ·rw[Xb hq]at h ⊢;exact X5 h
  ·rw[Xe hq]at h ⊢;exact X0 (wpAny_rule (X5 h))
theorem vz5(n m:Nat){d:D}{u:Value}{A:Around}{s:Shared}{Q:Bool->Shared->Prop}(hm:n<=m)(hk:v6 n d=true)(hr:qJ s.heap d u)(h:Q true s):wpAny (model prog w) A (eqIsQuiet m u) Q E s:=by
 refine wje (P:=λn u=>∀m (Q:Bool->Shared->Prop),n<=m->Q true s->wpAny (model prog w) A (eqIsQuiet m u) Q E s) ?_ (λn a us ht hi m Q hm h=>?_) n hk hr m Q hm h
 ·rintro n u (rfl|⟨i,t,rfl⟩|⟨i,t,rfl⟩) m Q _ h<;>(rw[eqIsQuiet_byValue m rfl];exact X5 h)
 have ty:=ht.typeIs;obtain⟨ob,yb,fy,nn,tz⟩:=ht;cases m
 ·lia
 unfold eqIsQuiet;refine X0 (wpAny_specialOf ty F.slot_tuple_eq.lookup ?_);show wpAny _ _ (isInstance (Value.ref a) (.type "tuple") >>= _) _ _ s;refine X0 (wpAny_isInstance ty isSubtype_tuple_tuple ?_);simp only[Bool.not_true,Bool.false_eq_true,if_false];refine X0 (Yz yb tz (X0 ?_));show wpAny _ _ (forIn us.toArray _ _) _ _ s;rw[<-Array.forIn_toList];refine wpAny_forIn_list _ (λao r s'=>r.1=none/\s'=s/\∀u∈ao,u∈us) _ ?_ ?_ _ _ #[rfl,rfl,λ_ h=>h]
 ·rintro v ao r s' ⟨hr,rfl,hu⟩;refine X0 (hi v (hu v X4) _ _ ⋯ ?_);simp only[Bool.not_true,Bool.false_eq_true,if_false];exact X5 #[rfl,rfl,λu h=>hu u (lc9 _ h)]
 ·rintro ⟨r1,r2⟩ s' ⟨hz,rfl,_⟩;cases hz;exact X5 h
end
mutual
theorem kzh{h h':Heap}(et:∀b ob us n,h.get? b=some ob->ob.cls=.type "tuple"->ob.data=.seq us n->h'.get? b=some ob){n:Nat}{d:D}{u:Value}(hk:v6 n d=true)(r:qJ h d u):qJ h' d u:=by
 cases d<;>cases n<;>unfold v6 at hk<;>unfold qJ at r ⊢<;>first|exact r|(cases hk;done)|skip
 obtain⟨a,us,e,⟨ob,yb,hc,nn,tz⟩,hi⟩:=r;exact#[a,us,e,#[ob,et a ob _ _ yb hc tz,hc,nn,tz],creps_keep et hk hi]
theorem creps_keep{h h':Heap}(et:∀b ob us n,h.get? b=some ob->ob.cls=.type "tuple"->ob.data=.seq us n->h'.get? b=some ob){n:Nat}{ds:List D}{us:List Value}(hk:keyDs n ds=true)(r:CReps h ds us):CReps h' ds us:=by
 cases ds<;>unfold CReps at r ⊢
 ·exact r
 unfold keyDs at hk;rw[Bool.and_eq_true]at hk;obtain⟨u,rr,e,h1,h2⟩:=r;exact#[u,rr,e,kzh et hk.1 h1,creps_keep et hk.2 h2]
end
noncomputable def qwf(prog:Program)(w:PySem.World):HeapKind prog w Kd where
 is:=λh k a=>qJ h k.1 (.ref a)
 hash:=λk=>Qz w k.1
 draws:=λk=>wkn k.1
 room:=λA=>A.units+40<cLine
 inj:=λhx hy=>Subtype.ext (kjf hx hy)
 keeps:=fun {h h' k a d o es ep} x ho hd hs=>kzh (λb ob us n e _ z=>(hs.2 b (by rintro rfl;rw[ho]at e;cases e;rw[hd]at z;cases z)).trans e) k.2 x
 pyHash:=fun {A E s k a Q} hu hk h=>wx6 6 k.2 hk (Nat.lt_of_le_of_lt (Nat.add_le_add_left ⋯ _) hu) h
 eqBool:=fun {A E s x y a b Q} hu hx hy h=>by
  have e:peq x.1 y.1=decide (x=y):=by
   rw[qjs x.2 y.2]
   by_cases z:x=y
   ·rw[Xh z,Xh (congrArg Subtype.val z)]
   ·rw[Xp z,Xp λq=>z (Subtype.ext q)]
  have:=WZ (s:=s) 6 (A:=A) (qqn x.2) hx hy (Nat.lt_of_le_of_lt (Nat.add_le_add_left ⋯ _) hu);rw[e]at this;exact this prog w E Q h
 quiet:=fun {A E s k a Q} hk h=>vz5 6 8 ⋯ k.2 hk h
abbrev Sl.sd(x:Sl):Sd:=(x.o,x.d)
noncomputable def tA(Z:Fx0)(q:Bool)(cs:List Ex):TA:=fun σ H Q=>∃E L r,Mt E σ L/\World Z.K H L/\v8 cs E=some r/\Xc Z σ H L r /\
 ∀E' ys,r=.ok E' ys->∀(xs:List Sl) L' H',xs.map Sl.sd=ys->Mt E' σ L'->World Z.K H' (xs.map some++L')->Step H L H' (xs.map some++L')->(q=true->k7 H H'/\∀b∈j8 (xs.map some),H b=none)->Q (xs.map Sl.v) H'
noncomputable def QA(X:Cx)(Z:Fx0)(q:Bool)(cs:List Ex)(es:List Expr):Prop:=PA X es (tA Z q cs)
theorem WY{X es t t'}(h:PA X es t)(w:∀ σ H Q,t' σ H Q->t σ H Q):PA X es t':=λpos aa s σ H Q I q=>h pos aa s σ H Q I (w σ H Q q)
section
variable {X:Cx}{Z:Fx0}{pn:List Nat}{q:Bool}{c:Ex}{cs:List Ex}{e:Expr}{es:List Expr}{pos:Pos}{σ:L2.St}{H:Hp}{L:Ls}{E:En}
theorem j9:QA X Z true [] []:=WY wK fun σ H Q ax=>ex8 ax λE L r m w hc xc k=>by
 cases oq9 hc;exact k _ _ rfl [] L H rfl m w Step.refl λ_=>#[λ_ _ z=>z,λ_ z=>(nomatch z)]
theorem j4(h:QE X Z q c e)(hs:QA X Z q cs es)(dj:autoParam (Abs e es X) Ŕ):QA X Z q (c::cs) (e::es):=
 WY (vJ h hs dj) fun σ H Q ax=>ex8 ax λE L r m w hc xc k=>by
  refine Kw m w (hc) xc λE1 s h1 x L1 H1 e1 e2 m1 w1 st sm=>?_
  rcases x6 h1 with⟨E2,ys,h2,h3⟩|⟨E2,cc,h2,h3⟩
  ·cases oq9 h3;refine#[E1,L1,_,m1,w1.tail,h2,(λ_ _ z=>by cases z),λE' xg z xs L2 H2 e3 m2 w2 cf f9=>?_];injection z with z1 z2;subst z1 z2;obtain⟨w3,dl⟩:=V5 (T:=[some x]) w1 cf w2;refine k _ _ rfl (x::xs) L2 H2 (by rw[List.map_cons,e3];simp[Sl.sd,e1,e2]) m2 w3 (st.trans dl) λhq=>?_
   obtain⟨a1,a2⟩:=sm hq;obtain⟨b1,b2⟩:=f9 hq;refine#[kX a1 b1,λb hb=>?_];rcases aA hb with z|z
   ·exact a2 b z
   ·exact J8 a1 (b2 b z)
  ·exact#[E1,L1,_,m1,w1.tail,h2,(xc.step (st.trans Step.drop)).map h3,λE' s' z=>by cases z]
end
section
variable {X:Cx}{Z:Fx0}{q:Bool}{cs:List Ex}{es:List Expr}{pos:Pos}{σ:L2.St}{H:Hp}{L:Ls}{E:En}{α:Type}
theorem ZX:∀{cs E E' ys},v8 cs E=some (.ok E' ys)->ys.length=cs.length
 | [],E,E',ys,h=>by cases oq9 h;rfl
 | c::cs,E,E',ys,h=>by
  rcases x6 (h)with⟨E1,x,h1,h2⟩|⟨_,_,_,z⟩
  ·rcases x6 h2 with⟨E2,xs,h3,h4⟩|⟨_,_,_,z⟩
   ·cases oq9 h4;rw[Xg,Xg,ZX h3]
   ·cases z
  ·cases z
theorem wkc{F}{r:Res α}{G}(m:Mt E σ L)(w:World Z.K H L)(h:bnd (v8 cs E) F=some r)(xc:Xc Z σ H L r)
  (k:∀E1 ys,F E1 ys=some r->ys.length=cs.length->∀(xs:List Sl) L1 H1,xs.map Sl.sd=ys->Mt E1 σ L1->World Z.K H1 (xs.map some++L1)->Step H L H1 (xs.map some++L1)->(q=true->k7 H H1/\∀b∈j8 (xs.map some),H b=none)->G (xs.map Sl.v) H1):tA Z q cs σ H G:=by
 rcases x6 h with⟨E1,s,h1,h2⟩|⟨E1,c,h1,h2⟩
 ·exact#[E,L,_,m,w,h1,(λ_ _ z=>by cases z),λE' s' z xs L' H' e1 m' w' st sm=>by
   injection z with z1 z2;subst z1 z2;exact k _ _ h2 (ZX h1) xs L' H' e1 m' w' st sm]
 ·exact#[E,L,_,m,w,h1,xc.map h2,λE' s' z=>by cases z]
theorem jzg{K H}(g):∀{xs:List Sl},(∀x∈xs,x.ok K H)->(g=false->∀x∈xs,ww x.sd=true)->∃bs,RepA K H g (xs.map Sl.d) (xs.map Sl.v) bs/\(∀b∈bs,∃x∈xs,b∈x.as)/\(g=false->bs=j8 (xs.map some))/\(g=true->bs=xs.flatMap Sl.as)
 | [],_,_=>#[[],#[rfl,rfl],λ_ h=>(nomatch h),λ_=>rfl,λ_=>rfl]
 | x :: xs,h,ht=>by
  obtain⟨bs,r,hb,ho,hg⟩:=jzg g (λy hy=>h y (lc9 _ hy)) λhg y hy=>ht hg y (lc9 _ hy)
  have hx:=h x X4;have key:∃cs,RepL K H g x.d x.v cs/\(∀b∈cs,b∈x.as)/\(g=false->cs=x.own)/\(g=true->cs=x.as):=by
   cases g with
   | true=>exact#[x.as,RepO.wk hx,λb hb=>hb,(λz=>by cases z),λ_=>rfl]
   | false=>
    by_cases ho:x.o=.dp
    ·refine#[x.as,?_,λb hb=>hb,λ_=>?_,λz=>by cases z]
     ·have:=hx;unfold Sl.ok at this;rw[ho]at this;exact this
     ·unfold Sl.own;rw[ho]
    ·have hp:x.d.pure=true:=by
      rcases Bool.or_eq_true_iff.mp (ht rfl x X4)with z|z
      ·simp_all
      ·exact z
     obtain⟨z,rp⟩:=RepL.pu (g':=false) (RepO.wk hx) hp;exact#[[],rp,λ_ h=>(nomatch h),λ_=>(wj1 z).symm,λz=>by cases z]
  obtain⟨cs,r1,h1,h2,h3⟩:=key;refine#[cs++bs,?_,λb i5=>?_,λuq=>?_,λuq=>?_]
  ·exact#[x.v,xs.map Sl.v,cs,bs,rfl,rfl,r1,r]
  ·rcases aA i5 with z|z
   ·exact#[x,X4,h1 b z]
   ·simp_all
  ·rw[List.map_cons,jK,h2 uq,ho uq]
  ·rw[List.flatMap_cons,h3 uq,hg uq]
theorem qz6{K H H' d}{o:Own}{v ps}{xs:List Sl}{L}(w:World K H (xs.map some++L))(out:∀bs,RepA K H true (xs.map Sl.d) (xs.map Sl.v) bs->Out K H H' #[o,d,v,ps++bs] bs):
  ∃bs,World K H' (some #[o,d,v,ps++bs]::L)/\Step H (xs.map some++L) H' (some #[o,d,v,ps++bs]::L):=by
 obtain⟨bs,r,hb,_,_⟩:=jzg true (λx hx=>w.ok x (ll9 _ (Xs hx))) (λz=>by cases z);have ap:∀b∈bs,b∉j8 L:=λb i5 hL=>by
  obtain⟨x,hx,lv⟩:=hb b i5;rcases Sl.as_of lv with z|z
  ·have nd:=w.nd;rw[jZ,X7]at nd;exact nd.2.2 b (mem_owned.mpr #[x,Xs hx,z]) b hL rfl
  ·exact w.ds b (by rw[jZ];exact lr9 _ hL) (by rw[qx];exact ll9 _ (mem_frozen.mpr #[x,Xs hx,z]))
 have al:∀b∈bs,H b≠none:=λb i5=>by
  obtain⟨x,hx,lv⟩:=hb b i5;exact(w.ok x (ll9 _ (Xs hx))).some lv
 have sr:Src H (xs.map some++L) bs:=λb i5=>by
  obtain⟨x,hx,lv⟩:=hb b i5;rcases Sl.as_of lv with z|z
  ·exact .inr (.inl (by rw[jZ];exact ll9 _ (mem_owned.mpr #[x,Xs hx,z])))
  ·exact .inl (by rw[qx];exact ll9 _ (mem_frozen.mpr #[x,Xs hx,z]))
 have st:Step H (xs.map some++L) H L:=#[λ_ _ h _=>h,λa ha=>.inl (by rw[jZ];exact lr9 _ ha),λa ha=>.inl (by rw[qx];exact lr9 _ ha)];exact#[bs,V1 (Z:=#[K,λ_=>none,λ_ _ _=>True]) w.right st (out bs r) ap al sr]
theorem vqv{K H p}{xs:List Sl}{L}(w:World K H (xs.map some++L))(hp:H p=none):
  ∃bs,World K (upd H p (.lst (xs.map Sl.v))) (some #[.rt,.lst (xs.map Sl.d),.ref p,p::bs]::L)/\Step H (xs.map some++L) (upd H p (.lst (xs.map Sl.v))) (some #[.rt,.lst (xs.map Sl.d),.ref p,p::bs]::L):=
 qz6 (ps:=[p]) w λ_ r=>WJ hp r λ_ h=>h
theorem vqu{K H p}{xs:List Sl}{L}(w:World K H (xs.map some++L))(hp:H p=none):
  ∃bs,World K (upd H p (.tup (xs.map Sl.v))) (some #[.no,.tup (xs.map Sl.d),.ref p,bs]::L)/\Step H (xs.map some++L) (upd H p (.tup (xs.map Sl.v))) (some #[.no,.tup (xs.map Sl.d),.ref p,bs]::L):=
 qz6 (ps:=[]) w λ_ r=>kjw hp r λ_ h=>h
theorem qz5{K H H'}{xs:List Sl}{L d v ps}(w:World K H (xs.map some++L))(ht:∀x∈xs,ww x.sd=true)(hp:∀b∈ps,H b=none)(nd:ps.Nodup)(sm:k7 H H')
  (rep:∀bs,RepA K H false (xs.map Sl.d) (xs.map Sl.v) bs->RepL K H' false d v (ps++bs)):
  World K H' (some #[.dp,d,v,ps++j8 (xs.map some)]::L)/\Step H (xs.map some++L) H' (some #[.dp,d,v,ps++j8 (xs.map some)]::L):=by
 obtain⟨bs,r,hb,ho,_⟩:=jzg false (λx hx=>w.ok x (ll9 _ (Xs hx))) (λ_=>ht);have e:=ho rfl;subst e;have w2:World K H' _:=#[λx hx=>RepO.kp (w.ok x hx) (Kp.of_same sm),w.nd,w.ds];have ndx:=w.nd;rw[jZ,X7]at ndx;have al:∀b∈j8 _,H b≠none:=λb hb=>w.own_some (by rw[jZ];exact ll9 _ hb)
 refine#[w2.right.cons (rep _ r) ?_ (λa ha hL=>?_) (λa ha hf=>?_) (λa ha=>(nomatch ha)) (λa ha=>λz=>(nomatch z)),#[λa ob h _=>sm a ob h,λa ha=>?_,λa ha=>?_]]
 ·show(ps++j8 _).Nodup;rw[X7];exact#[nd,ndx.1,λa ha b hb e=>by subst e;exact al a hb (hp a ha)]
 ·rcases aA (ha)with z|z
  ·exact w.own_some (by rw[jZ];exact lr9 _ hL) (hp a z)
  ·exact ndx.2.2 a z a hL rfl
 ·rcases aA (ha)with z|z
  ·exact w.frz_some (by rw[qx];exact lr9 _ hf) (hp a z)
  ·exact w.ds a (by rw[jZ];exact ll9 _ z) (by rw[qx];exact lr9 _ hf)
 ·rw[jK]at ha;rcases aA ha with z|z
  ·rcases aA (z)with y|y
   ·exact .inr (hp a y)
   ·exact .inl (by rw[jZ];exact ll9 _ y)
  ·simp_all
 ·exact .inl (by rw[qx];exact lr9 _ ha)
theorem wzd{xs:List Sl}{ys}(h:xs.map Sl.sd=ys):xs.map Sl.d=ys.map (·.2):=by rw[<-h,Xj];rfl
theorem qku{xs:List Sl}{ys}(h:xs.map Sl.sd=ys)(ht:ys.all ww=true):∀x∈xs,ww x.sd=true:=λx hx=>by
 rw[<-h,List.all_map,Yx]at ht;exact ht x hx
theorem qqd{o}{xs:List Sl}{ys E' r L' H1}{Q:VK}{Hq Lq}(h:mkL o E' ys=some r)(e:xs.map Sl.sd=ys)(w:World Z.K H1 (xs.map some++L'))(st:Step Hq Lq H1 (xs.map some++L'))(sm:q=true->k7 Hq H1/\∀b∈j8 (xs.map some),Hq b=none)
  (k:∀E'' a,r=.ok E'' a->∀x L'' H',x.o=a.1->x.d=a.2->Mt E'' σ L''->World Z.K H' (some x::L'')->Step Hq Lq H' (some x::L'')->(q=true->k7 Hq H'/\∀b∈x.own,Hq b=none)->Q x.v H') (m:Mt E' σ L'):
  ∀ p,H1 p=none->Q (.ref p) (upd H1 p (.lst (xs.map Sl.v))):=by
 intro p hp;unfold mkL at h
 by_cases ho:o=.dp
 ·rw[Xb ho]at h
  by_cases ht:ys.all ww=true
  ·rw[Xb ht]at h;cases oq9 h;obtain⟨w2,s2⟩:=qz5 (d:=.lst _) w (qku e ht) (λb hb=>by rw[aC hb];exact hp) (by simp) (vz hp) (λbs r=>by
    exact#[p,_,bs,rfl,r.kp (Kp.of_same (vz hp)),.inl #[vx,rfl]])
   refine k _ _ rfl _ L' _ rfl (by rw[wzd e]) m w2 (st.trans s2) λhq=>#[kX (sm hq).1 (vz hp),λb hb=>?_]
   rcases aA (hb)with z|z
   ·rw[aC z];exact J8 (sm hq).1 hp
   ·exact(sm hq).2 b z
  ·simp_all
 ·rw[Xe ho]at h;cases oq9 h;obtain⟨bs,w2,s2⟩:=vqv w hp;refine k _ _ rfl _ L' _ rfl (by rw[wzd e]) m w2 (st.trans s2) λhq=>#[kX (sm hq).1 (vz hp),λb hb=>?_]
  have:b=p:=by simpa [Sl.own]using hb
  rw[this];exact J8 (sm hq).1 hp
theorem wqa{xs:List Sl}{ys n}(h:xs.map Sl.sd=ys)(hl:ys.length=n)(hz:n<=1000):(xs.map Sl.v).length<=sizeLine:=by
 have:xs.length=n:=by rw[<-hl,<-h,X3]
 rw[X3,this];exact Xx hz ⋯
theorem v7{o}(h:QA X Z q cs es)(hz:autoParam (cs.length<=1000) ŕ):QE X Z q (kq o cs) (.List es pos):=kz (wvy h) fun σ H Q ax=>ex8 ax λE L r m w hc xc k=>
 wkc m w (hc) xc λE1 ys h1 hl xs L1 H1 e1 m1 w1 st sm=>#[wqa e1 hl hz,qqd (E':=E1) (h1) e1 w1 st sm k m1]
theorem kQ{o x1}(h:QA X Z q cs es)(hz:autoParam (cs.length<=1000) ŕ):QE X Z q (kw o cs) (.Tuple es x1 pos):=kz (wvu h) fun σ H Q ax=>ex8 ax λE L r m w hc xc k=>
 wkc m w (hc) xc λE1 ys h1 hl xs L1 H1 e1 m1 w1 st sm=>#[wqa e1 hl hz,λp hp=>by
  by_cases ho:o=.dp
  ·rw[Xb ho]at h1
   by_cases ht:ys.all ww=true
   ·rw[Xb ht]at h1;cases oq9 h1;obtain⟨w2,s2⟩:=qz5 (d:=.tup _) (ps:=[]) w1 (qku e1 ht) (λb hb=>(nomatch hb)) (by simp) (vz hp) (λbs r=>by
     exact#[p,_,rfl,SqT.of vx,r.kp (Kp.of_same (vz hp))])
    exact k _ _ rfl _ L1 _ rfl (by rw[wzd e1]) m1 w2 (st.trans s2) λhq=>#[kX (sm hq).1 (vz hp),λb hb=>(sm hq).2 b hb]
   ·simp_all
  ·rw[Xe ho]at h1;cases oq9 h1;obtain⟨bs,w2,s2⟩:=vqu w1 hp;exact k _ _ rfl _ L1 _ rfl (by rw[wzd e1]) m1 w2 (st.trans s2) λhq=>#[kX (sm hq).1 (vz hp),λb hb=>(nomatch hb)]]
end
noncomputable def spF(K:Frag)(mg:Str->Option Value)(n:Nat)(f:Fn):Sp:=λvs H Q E=>∃(xs:List Sl) (r:Res Sd),vs=xs.map Sl.v/\xs.length=n/\World K H (xs.map some)/\f (xs.map Sl.sd)=some r /\
 (∀E' c,r=.exc E' c->∀C H',mg c=some (.ref C)->Step H (xs.map some) H' []->E (.ref C) none H') /\
 ∀E' a,r=.ok E' a->∀(x:Sl) H',x.o=a.1->x.d=a.2->World K H' [some x]->Step H (xs.map some) H' [some x]->Q x.v H'
theorem kzz{K mg n f}{ps:List Str}(hn:ps.length=n):∀vs H Q E,spF K mg n f vs H Q E->vs.length=ps.length:=λvs H Q E hz=>by obtain⟨xs,r,e,hl,_⟩:=hz;rw[e,X3,hl,hn]
theorem kjc:∀(xs:List Sl) (k),Mt (xs.map (λx=>some x.sd)++List.replicate k none) (xs.map (λx=>some x.v)++List.replicate k none) (xs.map some++List.replicate k none)
 |[],0=>.nil
 |[],k+1=>by
  exact .un (kjc [] k)
 |x::xs,k=>.cons (kjc xs k)
theorem vj3{X K mg N n nn B body H vs Q E}(hN:N.length=nn)(t:QSs X #[K,mg,E] [] B body)(h:spF K mg n (fn nn B) vs H Q E):
  ∃t,PSs X body t/\t {nx:=λ_ H'=>Q .non H',rt:=Q} (L2.start N vs) H:=by
 refine#[_,t,?_];obtain⟨xs,r,rfl,hl,w,hf,hx,hk⟩:=h;unfold fn at hf;rw[X3,Xj]at hf;have e1:L2.start N (xs.map Sl.v)=xs.map (λx=>some x.v)++List.replicate (nn - xs.length) none:=by
  unfold L2.start;rw[Xj,X3,hN];rfl
 have wL:World K H (xs.map some++List.replicate (nn - xs.length) none):=w.same (by simp);have sL:Step H (xs.map some) H (xs.map some++List.replicate (nn - xs.length) none):=Step.refl.same (List.Perm.refl _) (by simp);cases hB:B _ with
 | none=>rw[show(some∘Sl.sd)=(λx:Sl=>some x.sd)from rfl,hB]at hf;cases hf
 | some g=>
  rw[show(some∘Sl.sd)=(λx:Sl=>some x.sd)from rfl,hB]at hf;refine#[_,_,g,e1▸(kjc xs _),wL,hB,?_];cases g with
  |nx E1=>
   cases oq9 hf;intro σ' L' H' _ m' w' s';exact hk _ _ rfl _ H' rfl rfl (World.consPu (x:=#[.dp,.non,.non,[]]) #[λ_ z=>(nomatch z),Y2,λ_ z=>(nomatch z)] (show RepL K H' false .non .non []from qj3) rfl) (Jz ((sL.trans s').sub (by simp)) (λb hb=>(nomatch hb)) rfl)
  |rt E1 a=>
   cases oq9 hf;intro x σ' L' H' e2 e3 _ m' w' s';exact hk _ _ rfl x H' e2 e3 (w'.sub (by simp)) ((sL.trans s').sub (by simp))
  |xc E1 c=>
   cases oq9 hf;intro C σ' L' H' hm _ m' w' s';exact hx _ _ rfl C H' hm ((sL.trans s').sub (by simp))
  |ct E1=>cases hf|bk E1=>cases hf
section
variable {X:Cx}{Z:Fx0}{q:Bool}{cs:List Ex}{e:Expr}{es:List Expr}{pos p:Pos}{x:Str}{ps:List Str}{k n:Nat}{f:Fn}
theorem KY:∀xs:List Sl,j8 ((xs.map Sl.let).map some)=[]
 |[]=>rfl|x::xs=>by rw[List.map_cons,List.map_cons,jK,KY xs];rfl
theorem jx6:∀xs:List Sl,jV ((xs.map Sl.let).map some)=xs.flatMap Sl.as
 |[]=>rfl|x::xs=>by rw[List.map_cons,List.map_cons,vk,jx6 xs];rfl
theorem kwd(xs:List Sl):(xs.map Sl.let).map Sl.sd=letAll (xs.map Sl.sd):=by
 unfold letAll;rw[Xj,Xj];rfl
theorem jz7{K H}{xs:List Sl}{L}(w:World K H (xs.map some++L)):World K H ((xs.map Sl.let).map some++L)/\Step H (xs.map some++L) H ((xs.map Sl.let).map some++L):=by
 have nd:=w.nd;rw[jZ,X7]at nd;have cl:∀a∈xs.flatMap Sl.as,a∈j8 _\/a∈jV _:=λa ha=>by
  obtain⟨x,hx,hax⟩:=List.mem_flatMap.mp ha;exact(Sl.as_of hax).imp (λz=>mem_owned.mpr #[x,Xs hx,z]) λz=>mem_frozen.mpr #[x,Xs hx,z]
 refine#[#[λx hx=>?_,by rw[jZ,KY];exact nd.2.1,λa ha hf=>?_],λ_ _ h _=>h,λa ha=>?_,λa ha=>?_]
 ·rcases aA hx with hx|hx
  ·obtain⟨y,hy,e⟩:=aE hx;cases e;obtain⟨z,hz,rfl⟩:=aE hy;exact J3 (w.ok z (ll9 _ (Xs hz)))
  ·exact w.ok x (lr9 _ hx)
 ·rw[jZ,KY]at ha;rw[qx,jx6]at hf;rcases aA hf with z|z
  ·rcases cl a z with z|z
   ·exact nd.2.2 a z a ha rfl
   ·exact w.ds a (by simp_all) (by simp_all)
  ·exact w.ds a (by simp_all) (by simp_all)
 ·rw[jZ,KY]at ha
  simp_all
 ·rw[qx,jx6]at ha;rw[qx,jZ];rcases aA ha with z|z
  ·rcases cl a z with z|z
   ·exact .inr (.inl (ll9 _ z))
   ·exact .inl (ll9 _ z)
  ·exact .inl (lr9 _ z)
theorem qx9(D:jW X.prog X.w X.K X.mg X.base k x ps (spF Z.K Z.mg n f))(hr:Room k X.A)(g:xq X Z.EX)(ha:QA X Z q cs (e::es))(hn:autoParam (cs.length=n) Ŕ)(hg:autoParam (Gl X x) Ŕ)(ff:autoParam (Abd x) ŕ)
  (he:autoParam (Abs e es X) Ŕ) (c8:autoParam (Abb pos es X) Ŕ):
  QE X Z q (jx f cs) (.Call (.Name x p) (e::es) [] pos):=kz (qxp D hr g ha hg ff he c8) fun σ H Q ax=>ex8 ax λE L r m w hc xc kk=>
 wkc m w (hc) xc λE1 ys h1 hl xs L1 H1 e1 m1 w1 st sm=>by
  rw [Xn];have av:xs.length=n:=by rw[<-hn,<-hl,<-e1,X3]
  cases hf:f (letAll ys)with
  | none=>simp_all
  | some fr=>
   rw[hf]at h1;obtain⟨wl,sl⟩:=jz7 w1;have ev:xs.map Sl.v=(xs.map Sl.let).map Sl.v:=by rw[Xj];rfl
   rw[ev];refine#[xs.map Sl.let,fr,rfl,by rw[X3];exact av,wl.left,by rw[<-e1]at hf;rw[kwd];exact hf,λE' c ee C H' hm s'=>?_,λE' a ee y H' e2 e3 w' s'=>?_]
   ·subst ee;cases oq9 h1;obtain⟨w2,s2⟩:=stay wl s' #[λ_ z=>(nomatch z),Y2,λ_ z=>(nomatch z)];exact xc _ _ rfl C L1 H' hm m1 w2 ((st.trans sl).trans s2)
   ·subst ee;cases oq9 h1;obtain⟨w2,s2⟩:=stay wl s' w';refine kk _ _ rfl y L1 H' e2 e3 m1 w2 ((st.trans sl).trans s2) λhq=>?_
    obtain⟨a1,a2⟩:=sm hq;refine#[λb ob hb=>s'.keep b ob (a1 b ob hb) λz=>?_,λb hb=>?_]
    ·rw[KY]at z;exact nomatch z
    ·rcases s'.own b (ll9 _ hb)with z|z
     ·rw[KY]at z;exact nomatch z
     ·exact J8 a1 z
end
noncomputable def wqs(K:Frag):R2:=λx y H Q=>∃l k xs,x=.ref l/\y=.int k/\LsR K H l xs/\-(2 ^ 63)<=k/\k<2 ^ 63/\xs.length*k.toNat<=sizeLine /\
 ∀p,H p=none->Q (.ref p) (upd H p (.lst (List.replicate k.toNat xs).flatten))
theorem op_repR{X}:OpR X (binaryOp .Mult) (wqs X.K):=by
 rintro aa s σ H x y v u Q I rx ry ⟨l,k,xs,rfl,rfl,hH,h1,h2,hz,q⟩;cases rx;obtain⟨t,rfl⟩:=ry;obtain⟨z,aj,n,r,e⟩:=hH.is I;have av:aj.toArray.size*k.toNat<=sizeLine:=by rw[X6,<-r.length];exact hz
 have hcap:¬aj.toArray.size*k.toNat>(2 ^ 63 - 1) / 8:=by
  have:sizeLine<=(2 ^ 63 - 1) / 8:=⋯
  lia
 have oh:¬(!Builtin.List.listFitsIndex k)=true:=by
  rw[fitsIndex_both h1 h2];exact Bool.false_ne_true
 have vg:¬Builtin.List.listTooLong (aj.toArray.size*k.toNat)=true:=by
  rw[vqr av];exact Bool.false_ne_true
 have ij:List.foldl (λx1 x2=>x1++x2) (List.toArray []) (List.replicate (if aj.toArray.isEmpty=true then 0 else k.toNat) aj.toArray)=(List.replicate k.toNat aj).flatten.toArray:=by
  have f0:∀m,List.foldl (λx1 x2=>x1++x2) (List.toArray []) (List.replicate m aj.toArray)=(List.replicate m aj).flatten.toArray:=λm=>by
   have:=kkc aj m []
   simp_all
  cases aj with|nil=>simp|cons a r'=>simp_all
 refine wpAny_binaryOp_repeat_ref ⋯ #[_,e,rfl] (λs'=>typeIs_int s' k t) noFill_list_mul F.fills_int_mul F.slot_int_rmul repeat_list F.slot_int_index.lookup
  (call_meets F.slot_int_rmul (typeIs_int s k t) F.entry_int_rmul (F.args_int_rmul_2 _ _) (int___rmul___int_list k t l aj.toArray n)
   #[e,rfl,#[_,e,rfl],call_meets F.slot_list_mul #[_,e,rfl] F.entry_list_mul (F.args_list_mul_2 _ _) (AutoListH.list___mul___list_int_3 l aj.toArray n k t oh hcap vg) #[e,?_]])
 rw[ij];exact#[.ref _,_,I.lnew (t':=s.toks) (r.rep k.toNat) (by rw[qza,Nat.mul_comm];exact hz),rfl,q _ I.fresh]
noncomputable def vz4(K:Frag):R2:=λx y H Q=>rI IntMulOk (λi j=>.int (i*j)) x y H Q\/wqs K x y H Q\/wqr x y H Q
theorem ww8{X K}(hK:autoParam (X.K=K) Ŕ):OpR X (binaryOp .Mult) (vz4 K):=by subst hK;exact op_mulI.or (op_repR.or wj2)
theorem qqg{a}(h:a.natAbs.log2<2000000):Builtin.Int.intBits a<=2000000:=by
 unfold Builtin.Int.intBits
 split
 ·simp_all
 ·omega
theorem mulOk_of{a b}(h:ZZ a b=true):IntMulOk a b:=by
 unfold ZZ qwp at h;simp at h;rcases h with(h|h)|h
 ·exact .of_left (intBits_le_64 h.1 h.2)
 ·exact .of_right (intBits_le_64 h.1 h.2)
 ·have h1:=qqg h.1;have h2:=qqg h.2;unfold IntMulOk Builtin.Int.intTooBig;have e:2 ^ 27=134217728:=⋯
  have hb:bitsLine=134217728:=e
  grind
theorem RepA.reps{K H ds xs bs}(h:RepA K H true ds xs bs):∀k,∃cs,RepA K H true (List.replicate k ds).flatten (List.replicate k xs).flatten cs/\∀b∈cs,b∈bs
 |0=>#[[],by simp only[List.replicate_zero,List.flatten_nil];unfold RepA;exact#[rfl,rfl],λ_ z=>(nomatch z)]
 |k+1=>by
  obtain⟨cs,r,hc⟩:=RepA.reps h k;exact#[bs++cs,r.app h,λb hb=>(aA hb).elim id (hc b)]
set_option tactic.hygienic true in
theorem vxc{K}:Ad2 K (vz4 K) wxe:=by
 intro H x y s Q ox oy hf k;unfold wxe at hf;dsimp only at hf
 split at hf
 ·rename_i i j e1 e2
  split at hf
  ·rename_i hm;cases oq9 hf;exact .inl #[i,j,qk ox e1,qk oy e2,mulOk_of hm,k _ H rfl rfl QK]
  ·cases hf
 ·rename_i a n e1 e2
  split at hf
  ·rename_i hc;cases oq9 hf;obtain⟨l,xs,bs,e3,q3,r3,h3⟩:=Jx ox (.inl e1) hc.2.2.2;have q3:LsR K H l xs:=by rcases q3 with⟨_,z⟩|⟨z,_⟩;exact z;rw[e1]at z;cases z
   obtain⟨cs,r4,h4⟩:=r3.reps n.toNat;exact .inr (.inl #[l,n,xs,e3,qk oy e2,q3,hc.1,hc.2.1,by rw[<-r3.len];exact hc.2.2.1,λp hp=>(k _ _ rfl rfl (WJ hp r4 λb hb=>ll9 _ (h3 b (h4 b hb))))])
  ·cases hf
 ·rename_i z n e1 e2
  split at hf
  ·rename_i hc;cases oq9 hf;exact .inr (.inr #[z,n,(zQ ox e1).1,qk oy e2,hc.1,k _ H rfl rfl (xk2 hc.2)])
  ·cases hf
 ·cases hf
noncomputable def dec(h:Heap)(u:Value):D:=open Classical in if e:∃d,qJ h d u then e.choose else .non
theorem kzg{h u d}(r:qJ h d u):dec h u=d:=by
 unfold dec;have e:∃d,qJ h d u:=#[d,r];rw[dif_pos e];exact kjf e.choose_spec r
theorem kkp{h d}:∀{ds us},CReps h ds us->us.any (λu=>peq (dec h u) d)=ds.any λz=>peq z d
 |[],_,r=>by rw[r];rfl
 |z::ds,_,r=>by
  obtain⟨u,rr,rfl,h1,h2⟩:=r;rw[List.any_cons,List.any_cons,kzg h1,kkp h2]
theorem kjd{h}:∀{ds us u},CReps h ds us->u∈us->∃d∈ds,qJ h d u
 | [],_,_,r,hu=>by rw[r]at hu;cases hu
 | z::ds,_,u,r,hu=>by
  obtain⟨u',rr,rfl,h1,h2⟩:=r;rcases aD hu with rfl|hu
  ·exact#[z,X4,h1]
  ·obtain⟨d,hd,c⟩:=kjd h2 hu;exact#[d,lc9 _ hd,c]
theorem jxs:∀{n ds d},D.flats n ds=true->d∈ds->d.flat n=true
 |_,[],_,_,h=>by grind
 |n,z::ds,d,f,h=>by
  unfold D.flats at f;rw[Bool.and_eq_true]at f;rcases aD h with rfl|h
  ·exact f.1
  ·exact jxs f.2 h
section
variable {X:Cx}{Z:Fx0}{K:Frag}{q qa qb:Bool}{a b c:Ex}{u v:Ts}{e ea eb:Expr}{es:List Expr}{pos p:Pos}{σ:L2.St}{H:Hp}{L:Ls}{E:En}
noncomputable def qx3(K:Frag)(my:Bool):R2:=λx y H Q=>∃d ds as bs p xs,RepL K H true d x as/\y=.ref p/\(SqL K H p xs\/SqT K H p xs)/\RepA K H true ds xs bs/\d.flat 30=true/\D.flats 30 ds=true/\Q (.bl (if my then !(ds.any λz=>peq z d)else ds.any λz=>peq z d)) H
theorem wj6(hu:X.A.units+64<cLine):OpR X (compareOp .In) (qx3 X.K false):=by
 rintro aa s σ H x y v u Q I rx ry ⟨d,ds,as,bs,p,xs,h1,rfl,hq,ra,f1,f2,q⟩;cases ry;have he:∀{us},CReps s.heap ds us->∀w,w∈us.toArray->SeqAt.EqAt X.A.in1 s w v (peq (dec s.heap w) d):=fun {us} cr w hw=>by
  obtain⟨d',hd,c⟩:=kjd cr (by simpa using hw);rw[kzg c];exact WZ 30 (jxs f2 hd) c (VX I h1 f1 rx) (by grind)
 rcases hq with hq|hq
 ·obtain⟨aj,r,pl,hz⟩:=I.list hq;have cr:=creps_of I ra f2 r;refine SeqAt.in_listAt _ pl.isList (he cr) #[.bl _,H,I,rfl,?_]
  rwa [List.any_toArray,kkp cr]
 ·obtain⟨aj,r,pl,hz⟩:=I.tuple hq;have cr:=creps_of I ra f2 r;refine SeqAt.in_tupleAt _ pl (he cr) #[.bl _,H,I,rfl,?_]
  rwa [List.any_toArray,kkp cr]
theorem qvi(hu:X.A.units+64<cLine):OpR X (compareOp .NotIn) (qx3 X.K true):=by
 rintro aa s σ H x y v u Q I rx ry ⟨d,ds,as,bs,p,xs,h1,rfl,hq,ra,f1,f2,q⟩;cases ry;have he:∀{us},CReps s.heap ds us->∀w,w∈us.toArray->SeqAt.EqAt X.A.in1 s w v (peq (dec s.heap w) d):=fun {us} cr w hw=>by
  obtain⟨d',hd,c⟩:=kjd cr (by simpa using hw);rw[kzg c];exact WZ 30 (jxs f2 hd) c (VX I h1 f1 rx) (by grind)
 rcases hq with hq|hq
 ·obtain⟨aj,r,pl,hz⟩:=I.list hq;have cr:=creps_of I ra f2 r;refine SeqAt.notIn_listAt _ pl.isList (he cr) #[.bl _,H,I,rfl,?_]
  rwa [List.any_toArray,kkp cr]
 ·obtain⟨aj,r,pl,hz⟩:=I.tuple hq;have cr:=creps_of I ra f2 r;refine SeqAt.notIn_tupleAt _ pl (he cr) #[.bl _,H,I,rfl,?_]
  rwa [List.any_toArray,kkp cr]
noncomputable def qx2(my:Bool):R2:=λx y H Q=>∃i j,x=.str i/\y=.str j/\Q (.bl (if my then !xkr i j else xkr i j)) H
theorem opInStr:OpR X (compareOp .In) (qx2 false):=λaa s σ H x y v u Q I rx ry hz=>by obtain⟨i,j,e1,e2,q⟩:=hz;exact qxw aa s σ H x y v u Q I rx ry #[i,j,e1,e2,q]
theorem opNotInStr:OpR X (compareOp .NotIn) (qx2 true):=λaa s σ H x y v u Q I rx ry hz=>by obtain⟨i,j,e1,e2,q⟩:=hz;exact kxp aa s σ H x y v u Q I rx ry #[i,j,e1,e2,q]
noncomputable def wqw(K:Frag)(my:Bool):R2:=λx y H Q=>qx2 my x y H Q\/qx3 K my x y H Q
theorem vqq(hu:X.A.units+64<cLine)(hK:autoParam (X.K=K) Ŕ):OpR X (compareOp .In) (wqw K false):=by subst hK;exact opInStr.or (wj6 hu)
theorem jxk(hu:X.A.units+64<cLine)(hK:autoParam (X.K=K) Ŕ):OpR X (compareOp .NotIn) (wqw K true):=by subst hK;exact opNotInStr.or (qvi hu)
theorem V4{H l xs}(h:LsR K H l xs):SqL K H l xs:=h.sq
theorem kwh{x y:Sl}{ys}{my:Bool}{Q}(ox:x.ok K H)(oy:y.ok K H)(hy:y.d=.lst ys\/y.d=.tup ys)(hc:(x.d.flat 30&&D.flats 30 ys)=true)
  (k:Q (.bl (if my then !(ys.any λz=>peq z x.d)else ys.any λz=>peq z x.d)) H):wqw K my x.v y.v H Q:=by
 rw[Bool.and_eq_true]at hc;obtain⟨l,xs,bs,e3,q3,r3,_⟩:=items oy hy;have r3':RepA K H true ys xs bs:=by
  cases ho:(y.o != .dp)with|true=>rw[ho]at r3;exact r3|false=>rw[ho]at r3;exact r3.wk
 refine .inr #[x.d,ys,x.as,bs,l,xs,RepO.wk ox,e3,?_,r3',hc.1,hc.2,k];rcases q3 with⟨_,z⟩|⟨_,z⟩
 ·exact .inl (V4 z)
 ·exact .inr z
set_option tactic.hygienic true in
theorem vvv:Ad2 K (wqw K false) (pu2 Kz):=by
 intro H x y s Q ox oy hf k;unfold pu2 Kz fIn at hf;dsimp only at hf;cases hy:y.d with
 | lst ys=>
  rw[hy]at hf;dsimp only at hf
  split at hf
  ·rename_i hc;cases oq9 hf;exact kwh ox oy (.inl hy) hc (k _ H rfl rfl wY)
  ·cases hf
 | tup ys=>
  rw[hy]at hf;dsimp only at hf
  split at hf
  ·rename_i hc;cases oq9 hf;exact kwh ox oy (.inr hy) hc (k _ H rfl rfl wY)
  ·cases hf
 | str b=>
  rw[hy]at hf;dsimp only at hf
  split at hf
  ·rename_i a hx;cases oq9 hf;exact .inl #[a,b,(zQ ox hx).1,(zQ oy hy).1,k _ H rfl rfl wY]
  ·cases hf
 |_=>simp_all
set_option tactic.hygienic true in
theorem jz1:Ad2 K (wqw K true) (pu2 J0):=by
 intro H x y s Q ox oy hf k;unfold pu2 J0 W9 fIn at hf;dsimp only at hf;cases hy:y.d with
 | lst ys=>
  rw[hy]at hf;dsimp only at hf
  split at hf
  ·rename_i hc;cases oq9 hf;exact kwh ox oy (.inl hy) hc (k _ H rfl rfl wY)
  ·cases hf
 | tup ys=>
  rw[hy]at hf;dsimp only at hf
  split at hf
  ·rename_i hc;cases oq9 hf;exact kwh ox oy (.inr hy) hc (k _ H rfl rfl wY)
  ·cases hf
 | str b=>
  rw[hy]at hf;dsimp only at hf
  split at hf
  ·rename_i a hx;cases oq9 hf;exact .inl #[a,b,(zQ ox hx).1,(zQ oy hy).1,k _ H rfl rfl wY]
  ·cases hf
 |_=>rw[hy]at hf;cases hf
theorem kj6{g d v as}(h:RepL K H g d v as):decide (v=.non)=isNon d:=by
 cases d with|non=>unfold RepL at h;rw[h.1];rfl|bl _=>unfold RepL at h;rw[h.1];rfl|int _=>unfold RepL at h;rw[h.1];rfl|str _=>unfold RepL at h;rw[h.1];rfl|tup _=>unfold RepL at h;obtain⟨a,xs,e,_⟩:=h;rw[e];rfl|lst _=>unfold RepL at h;obtain⟨a,xs,bs,e,_⟩:=h;rw[e];rfl|dct _=>unfold RepL at h;obtain⟨a,xs,bs,e,_⟩:=h;rw[e];rfl|obj _ _=>unfold RepL at h;obtain⟨_,x,o,C,e,_⟩:=h;rw[e];rfl
set_option tactic.hygienic true in
theorem vxd:Ad2 K (λx y H Q=>y=.non/\Q (.bl (decide (x=.non))) H) (f2First fIsNon):=by
 intro H x y s Q ox oy hf k;unfold f2First fIsNon at hf
 split at hf
 ·rename_i hy;cases oq9 hf;have e:=kj6 (RepO.wk oy);rw[hy]at e;refine#[of_decide_eq_true e,?_];rw[kj6 (RepO.wk ox)];exact k _ H rfl rfl wY
 ·grind
set_option tactic.hygienic true in
theorem wka:Ad2 K (λx y H Q=>y=.non/\Q (.bl (!decide (x=.non))) H) (f2First fNotNon):=by
 intro H x y s Q ox oy hf k;unfold f2First fNotNon at hf
 split at hf
 ·rename_i hy;cases oq9 hf;have e:=kj6 (RepO.wk oy);rw[hy]at e;refine#[of_decide_eq_true e,?_];rw[kj6 (RepO.wk ox)];exact k _ H rfl rfl wY
 ·grind
set_option tactic.hygienic true in
theorem wxw:Ad1 K (rU λi=>.int (-i)) (pu1 KQ):=by
 intro H x s Q ox hf k;unfold pu1 KQ at hf
 split at hf
 ·rename_i i e;cases oq9 hf;exact#[i,qk ox e,k _ H rfl rfl QK]
 ·cases hf
theorem qzn n i:_root_.Q.ixN n i=L2.ixN n i:=rfl
theorem wjg{x y:Sl}{d Q}(ox:x.ok K H)(oy:y.ok K H)(hf:jJ x.d y.d=some d)(k:∀z:Sl,z.o=sub x.o->z.d=d->z.ok K H->(∀b∈z.frz,b∈x.frz)->(∀b∈z.as,b∈x.as)->Q z.v H):rIx K x.v y.v H Q:=by
 have seq:∀ds,(x.d=.lst ds\/x.d=.tup ds)->∀i,y.d=.int i->((_root_.Q.ixN ds.length i).bind λj=>ds[j]?)=some d->rIx K x.v y.v H Q:=by
  intro ds hx i hy hd;obtain⟨l,xs,bs,e3,q3,r3,h3,h4⟩:=items ox hx;cases hj:_root_.Q.ixN ds.length i with
  | none=>grind
  | some j=>
   rw [hj]at hd;obtain⟨v,cs,e4,r4,h5⟩:=r3.get (hd);have dy:atI xs i=some v:=by
    unfold atI
    rwa [<-r3.len,<-qzn,hj]
   have fin:Q v H:=by
    cases ho:x.o with
    | dp=>
     rw[ho]at r4;exact k #[.dp,d,v,cs] (by rw[ho];rfl) rfl r4 (λb hb=>(nomatch hb)) λb hb=>h3 b (h5 b hb)
    | no=>
     rw[ho]at r4;exact k #[.no,d,v,cs] (by rw[ho];rfl) rfl r4 (λb hb=>h4 ⋯ b (h5 b hb)) λb hb=>h3 b (h5 b hb)
    | rt=>
     rw[ho]at r4;exact k #[.no,d,v,cs] (by rw[ho];rfl) rfl r4 (λb hb=>h4 ⋯ b (h5 b hb)) λb hb=>h3 b (h5 b hb)
   rcases q3 with⟨_,z⟩|⟨_,z⟩
   ·exact .inl #[l,xs,i,v,e3,qk oy hy,V4 z,dy,fin]
   ·exact .inr (.inl #[l,xs,i,v,e3,qk oy hy,z,dy,fin])
 unfold jJ at hf;cases hx:x.d with
 | lst ds=>
  rw [hx]at hf;cases hy:y.d with| int i=>rw[hy]at hf;exact seq ds (.inl hx) i hy hf| _=>rw[hy]at hf;cases hf
 | tup ds=>
  rw [hx]at hf;cases hy:y.d with| int i=>rw[hy]at hf;exact seq ds (.inr hx) i hy hf| _=>rw[hy]at hf;cases hf
 | str z=>
  rw [hx]at hf;cases hy:y.d with
  | int i=>
   rw [hy]at hf;have hf:((_root_.Q.ixN z.cps.size i).bind λj=>(z.cps.toList[j]?).map λc=>D.str #[(List.toArray [c])])=some d:=hf;cases hj:_root_.Q.ixN z.cps.size i with
   | none=>grind
   | some j=>
    rw[hj]at hf;cases hc:z.cps.toList[j]? with
    | none=>rw[Option.bind_some,hc]at hf;cases hf
    | some c=>
     rw[Option.bind_some,hc]at hf;cases oq9 hf;have dy:atI z.cps.toList i=some c:=by
      unfold atI
      rwa [Array.length_toList,<-qzn,hj]
     obtain⟨e1,hz⟩:=zQ ox hx;refine .inr (.inr #[z,i,c,e1,qk oy hy,hz,dy,?_]);have rp:∀g,RepL K H g _ (.str #[(List.toArray [c])]) []:=λg=>Q5 (show 1<=sizeLine by decide)
     cases ho:x.o with|dp=>exact k #[.dp,.str #[(List.toArray [c])],.str #[(List.toArray [c])],[]] (by rw[ho];rfl) rfl (rp false) (λb hb=>(nomatch hb)) λb hb=>(nomatch hb)|no=>exact k #[.no,.str #[(List.toArray [c])],.str #[(List.toArray [c])],[]] (by rw[ho];rfl) rfl (rp true) (λb hb=>(nomatch hb)) λb hb=>(nomatch hb)|rt=>exact k #[.no,.str #[(List.toArray [c])],.str #[(List.toArray [c])],[]] (by rw[ho];rfl) rfl (rp true) (λb hb=>(nomatch hb)) λb hb=>(nomatch hb)
  |_=>rw[hy]at hf;cases hf
 |non=>rw[hx]at hf;cases hf|bl _=>rw[hx]at hf;cases hf|int _=>rw[hx]at hf;cases hf|dct _=>simp_all|obj _ _=>rw[hx]at hf;cases hf
theorem q_ix(ha:QV X Z qa a ea)(hb:QV X Z true b eb)(hs:jzm eb)(hK:autoParam (X.K=Z.K) Ŕ):QV X Z qa (jk a b) (.Subscript ea eb pos):=
 kz (vqe (hK▸qqp) ha hb hs) fun σ H Q ax=>ex8 ax λE L r m w hc xc k=>by
  refine v9 m w (hc) xc λE1 s h1 x L1 H1 e1 e2 m1 w1 ok fr sr st sm=>(v9 m1 w1 h1 (xc.step st) λE2 s2 h2 y L2 H2 e3 e4 m2 w2 i3 u7 tf cf f9=>?_)
  obtain⟨z,hz,rfl⟩:=zj h2;cases hf:jJ s.2 s2.2 with
  |none=>simp_all
  |some d=>
   rw[hf]at hz;cases oq9 hz;have kx:=W1 ok fr cf (f9 rfl);exact wjg kx.1 i3 (by rw[e2,e4];exact hf) λz zo zd wp zf za=>k _ _ rfl z L2 H2 (by simp_all) zd m2 w2 wp (λb hb=>kx.2 b (zf b hb)) (jxg sr za) (st.trans cf) λhq=>kX (sm hq) (f9 rfl)
theorem Zj(ht:QT X Z q u e)(ha:QE X Z q a ea)(hb:QE X Z q b eb):QE X Z q (cIf u a b) (.IfExp e ea eb pos):=kz (vqg ht ha hb) fun σ H Q ax=>ex8 ax λE L r m w hc xc k=>
 vkl m w (hc) xc λE1 s h1 L1 H1 m1 w1 st sm=>by
  have fin:∀{c},c E1=some r->tQ Z q c σ H1 Q:=λhc=>#[E1,L1,r,m1,w1,hc,xc.step st,λE' a z x L' H' e1 e2 m' w' fm j'=>k E' a z x L' H' e1 e2 m' w' (st.trans fm) λhq=>#[kX (sm hq) (j' hq).1,λb hb=>J8 (sm hq) ((j' hq).2 b hb)]]
  cases s with|true=>simp_all|false=>rw[Xe (by simp)]at h1 ⊢;exact fin h1
theorem QY{op}(h:QE X Z q a ea):QE X Z q a (.BoolOp op [ea] pos):=wvw h
theorem VZ(ha:QV X Z q a ea)(hb:QE X Z q b (.BoolOp .And (eb::es) pos)):QE X Z q (Jk a b) (.BoolOp .And (ea::eb::es) pos):=kz (ww1 ha hb) fun σ H Q ax=>ex8 ax λE L r m w hc xc k=>
 v9 m w (hc) xc λE1 s h1 x L1 H1 e1 e2 m1 w1 ok fr sr st sm=>by
  cases hs:s.2 with
  | bl kk=>
   rw[hs]at h1;refine#[kk,W0 ok (e2.trans hs),?_];cases kk with
   |true=>
    exact#[E1,L1,r,m1,w1,h1,xc.step st,λE' a z x L' H' e1 e2 m' w' fm j'=>k E' a z x L' H' e1 e2 m' w' (st.trans fm) λhq=>#[kX (sm hq) (j' hq).1,λb hb=>J8 (sm hq) ((j' hq).2 b hb)]]
   |false=>
    cases oq9 h1;obtain⟨w3,dl⟩:=V1 w1 st (wY (fr:=[])) (λ_ z=>(nomatch z)) (λ_ z=>(nomatch z)) (λ_ z=>(nomatch z));exact k _ _ rfl _ L1 H1 rfl rfl m1 w3 dl λhq=>#[sm hq,λ_ z=>(nomatch z)]
  |_=>rw[hs]at h1;cases h1
theorem q_or(ha:QV X Z q a ea)(hb:QE X Z q b (.BoolOp .Or (eb::es) pos)):QE X Z q (cOr a b) (.BoolOp .Or (ea::eb::es) pos):=kz (xjx ha hb) fun σ H Q ax=>ex8 ax λE L r m w hc xc k=>
 v9 m w (hc) xc λE1 s h1 x L1 H1 e1 e2 m1 w1 ok fr sr st sm=>by
  cases hs:s.2 with
  | bl kk=>
   rw[hs]at h1;refine#[kk,W0 ok (e2.trans hs),?_];cases kk with
   |false=>
    exact#[E1,L1,r,m1,w1,h1,xc.step st,λE' a z x L' H' e1 e2 m' w' fm j'=>k E' a z x L' H' e1 e2 m' w' (st.trans fm) λhq=>#[kX (sm hq) (j' hq).1,λb hb=>J8 (sm hq) ((j' hq).2 b hb)]]
   |true=>
    cases oq9 h1;obtain⟨w3,dl⟩:=V1 w1 st (wY (fr:=[])) (λ_ z=>(nomatch z)) (λ_ z=>(nomatch z)) (λ_ z=>(nomatch z));exact k _ _ rfl _ L1 H1 rfl rfl m1 w3 dl λhq=>#[sm hq,λ_ z=>(nomatch z)]
  |_=>rw[hs]at h1;cases h1
theorem xqc{x:Sl}{k}(ok:x.ok K H)(h:truth x.d=some k)(hd:∀kvs,x.d≠.dct kvs):wzq K x.v H k:=by
 cases hx:x.d with
 |non=>rw[hx]at h;rw[vwu ok hx];exact(oq9 h).symm|bl b=>rw[hx]at h;rw[W0 ok hx];exact(oq9 h).symm|int i=>rw[hx]at h;rw[qk ok hx];exact(oq9 h).symm
 |str z=>
  rw[hx]at h;obtain⟨e,hz⟩:=zQ ok hx;rw[e];refine#[hz,?_];rw[<-oq9 h];show _=(((z.cps.size:Nat):Int) != 0);rw[Bool.eq_iff_iff];simp
 |lst ds=>
  rw[hx]at h;obtain⟨a,xs,bs,e,q,r,_⟩:=items ok (.inl hx);rw[e];have q':LsR K H a xs:=by rcases q with⟨_,z⟩|⟨z,_⟩;exact z;rw[hx]at z;cases z
  refine .inl #[xs,V4 q',?_];rw[<-oq9 h];have:=r.len;cases ds<;>cases xs<;>simp_all
 |tup ds=>
  rw[hx]at h;obtain⟨a,xs,bs,e,q,r,_⟩:=items ok (.inr hx);rw[e];have q':SqT K H a xs:=by rcases q with⟨z,_⟩|⟨_,z⟩;rw[hx]at z;cases z;exact z
  refine .inr (.inl #[xs,q',?_]);rw[<-oq9 h];have:=r.len;cases ds<;>cases xs<;>simp_all
 |dct kvs=>exact absurd hx (hd kvs)|obj c f=>rw[hx]at h;cases h
theorem kx0{d k}(h:truthQ d=some k):truth d=some k/\∀kvs,d≠.dct kvs:=by
 cases d<;>first|exact#[h,λ_ z=>nomatch z]|cases h
theorem Kk(h:QV X Z q a ea)(he:autoParam (∀gw,isTrue ea X.env gw=(do let v <-gw;standAt ea.pos;holding [v] (truthy v))) Ŗ)(hK:autoParam (X.K=Z.K) Ŕ):QT X Z q (tEQ a) ea:=qxd (vq5 h he) fun σ H Q ax=>ex8 ax λE L r m w hc xc k=>
 v9 m w (show bnd (a E) _=some r from hc) xc λE1 s h1 x L1 H1 e1 e2 m1 w1 ok fr sr st sm=>by
  obtain⟨kk,hk,rfl⟩:=zj h1;obtain⟨h2,h3⟩:=kx0 hk;exact#[kk,hK▸xqc ok (by rw[e2];exact h2) (by rw[e2];exact h3),k _ _ rfl L1 H1 m1 w1 st sm]
theorem wv6(h:QV X Z q a ea)(hK:autoParam (X.K=Z.K) Ŕ):QE X Z q (vjw a) (.UnaryOp .Not ea pos):=by
 intro aa s σ H Q I ⟨E,L,r,m,w,hc,xc,k⟩;refine UnaryOp_ (thn (h aa s σ H _ I (v9 (G:=λv H1=>∃kk,wzq X.K v H1 kk/\Q (.bl (!kk)) H1) m w (hc) xc λE1 s h1 x L1 H1 e1 e2 m1 w1 ok fr sr st sm=>?_)) λv s1 #[x,H1,I1,r1,kk,t1,q1]=>?_)
 ·obtain⟨y,hy,rfl⟩:=zj h1;cases hk:truthQ s.2 with
  |none=>simp_all
  |some kk=>
   rw[hk]at hy;cases oq9 hy;obtain⟨h2,h3⟩:=kx0 hk;refine#[kk,hK▸xqc ok (by rw[e2];exact h2) (by rw[e2];exact h3),?_];obtain⟨w3,dl⟩:=V1 w1 st (wY (fr:=[])) (λ_ z=>(nomatch z)) (λ_ z=>(nomatch z)) (λ_ z=>(nomatch z));exact k _ _ rfl _ L1 H1 rfl rfl m1 w3 dl λhq=>#[sm hq,λ_ z=>(nomatch z)]
 ·exact not_of (thn (vw2 aa s1 σ H1 x v _ I1 r1 #[kk,t1,q1]) λc s2 hz=>by obtain⟨H2,I2,q2⟩:=hz;exact#[.bl _,H2,I2,rfl,q2])
end
theorem jz0{α:Type}:∀{L i} {q:α},L[i]?=some q->∃A B,L=A++q::B/\∀q',L.set i q'=A++q'::B
 |[],_,_,h=>by simp at h
 |a::L,0,q,h=>by
  have e:a=q:=by simpa using h
  subst e;exact#[[],L,rfl,λ_=>rfl]
 |a::L,i+1,q,h=>by
  obtain⟨A,B,e,f⟩:=jz0 (by simpa using h);exact#[a::A,B,by rw[e];rfl,λq'=>by rw[List.set_cons_succ,f];rfl]
section
variable {K:Frag}{H:Hp}{M T L:Ls}{y y':Sl}{l:Addr}{ob:HO}
theorem World.write(w:World K H (some y::(T++M)))(hl:l∈y.own)(ok':y'.ok K (upd H l ob))(nd:y'.own.Nodup)(h1:∀a∈y'.own,a∈y.own\/a∈j8 T)(h2:∀a∈y'.frz,a∈y.as\/a∈j8 T\/a∈jV T)(h3:∀a∈y'.own,a∉y'.frz):
  World K (upd H l ob) (some y'::M)/\Step H (some y::(T++M)) (upd H l ob) (some y'::M):=by
 have wn:=w.nd;rw [jK,jZ,X7,X7]at wn;obtain⟨n1,⟨n2,n3,n4⟩,n5⟩:=wn;have oy:l∈j8 (some y::(T++M)):=ll9 _ hl;have hal:=w.own_al oy;have ds:∀a,(a∈y.own\/a∈j8 T\/a∈j8 M)->¬(a∈y.frz\/a∈jV T\/a∈jV M):=λa ha hf=>by
  refine w.ds a ?_ ?_
  ·rw[jK,jZ];rcases ha with z|z|z
   ·exact ll9 _ z
   ·exact lr9 _ (ll9 _ z)
   ·exact lr9 _ (lr9 _ z)
  ·rw[vk,qx];rcases hf with z|z|z
   ·exact ll9 _ z
   ·exact lr9 _ (ll9 _ z)
   ·exact lr9 _ (lr9 _ z)
 have noM:∀z,some z∈M->l∉z.as:=λz hz ha=>by
  rcases Sl.as_of ha with q|q
  ·exact n5 l hl l (lr9 _ (mem_owned.mpr #[z,hz,q])) rfl
  ·exact ds l (.inl hl) (.inr (.inr (mem_frozen.mpr #[z,hz,q])))
 have ke:∀a o,H a=some o->a≠l->upd H l ob a=some o:=λa o e ne=>by rw[k6 ne];exact e
 have kp:∀as,l∉as->Kp H _ as:=λas hn=>by
  refine#[λa xs e=>ke a _ e λz=>?_,λa o u e=>ke a _ e λz=>?_,λa ha o e=>ke a o e λz=>hn (z▸ha)]
  ·grind
  ·subst z;rcases hal with⟨_,q⟩|⟨_,q⟩|⟨_,q⟩<;>(rw[e]at q;cases q)
 have wM:World K (upd H l ob) M:=by
  have w1:=w.tail.right;exact#[λz hz=>RepO.kp (w1.ok z hz) (kp _ (noM z hz)),w1.nd,w1.ds]
 refine#[wM.cons ok' nd (λa ha hM=>?_) (λa ha hM=>?_) (λa ha hM=>?_) h3,λa o e hn=>ke a o e λz=>hn (z▸oy),λa ha=>?_,λa ha=>?_]
 ·rcases h1 a ha with z|z
  ·exact n5 a z a (lr9 _ hM) rfl
  ·exact n4 a z a hM rfl
 ·rcases h1 a ha with z|z
  ·exact ds a (.inl z) (.inr (.inr hM))
  ·exact ds a (.inr (.inl z)) (.inr (.inr hM))
 ·rcases h2 a ha with z|z|z
  ·rcases Sl.as_of z with z|z
   ·exact n5 a z a (lr9 _ hM) rfl
   ·exact ds a (.inr (.inr hM)) (.inl z)
  ·exact n4 a z a hM rfl
  ·exact ds a (.inr (.inr hM)) (.inr (.inl z))
 ·rw[jK,jZ];rcases aA ha with z|z
  ·rcases h1 a z with z|z
   ·exact .inl (ll9 _ z)
   ·exact .inl (lr9 _ (ll9 _ z))
  ·exact .inl (lr9 _ (lr9 _ z))
 ·rw[jK,jZ,vk,qx];rcases aA ha with z|z
  ·rcases h2 a z with z|z|z
   ·rcases Sl.as_of z with z|z
    ·exact .inr (.inl (ll9 _ z))
    ·exact .inl (ll9 _ z)
   ·exact .inr (.inl (lr9 _ (ll9 _ z)))
   ·exact .inl (lr9 _ (ll9 _ z))
  ·exact .inl (lr9 _ (lr9 _ z))
theorem World.writeAt{i}(w:World K H (T++L))(hy:L[i]?=some (some y))(hl:l∈y.own)(ok':y'.ok K (upd H l ob))(nd:y'.own.Nodup)(h1:∀a∈y'.own,a∈y.own\/a∈j8 T)(h2:∀a∈y'.frz,a∈y.as\/a∈j8 T\/a∈jV T)(h3:∀a∈y'.own,a∉y'.frz):
  World K (upd H l ob) (L.set i (some y'))/\Step H (T++L) (upd H l ob) (L.set i (some y')):=by
 obtain⟨A,B,e,f⟩:=jz0 hy;rw[f];subst e;have p:(T++(A++some y::B)).Perm (some y::(T++(A++B))):=by
  refine(List.Perm.append_left T (List.perm_middle)).trans List.perm_middle
 obtain⟨w2,s2⟩:=World.write (w.perm p) hl ok' nd h1 h2 h3;exact#[w2.perm List.perm_middle.symm,s2.perm p.symm List.perm_middle.symm]
end
theorem RepA.snoc{K H g d x cs}(h:RepL K H g d x cs){ds xs bs}(r:RepA K H g ds xs bs):RepA K H g (ds++[d]) (xs++[x]) (bs++cs):=by
 refine RepA.app ?_ r;exact#[x,[],cs,[],rfl,by simp,h,by unfold RepA;exact#[rfl,rfl]]
theorem kvy{K H}{y:Sl}{ds}(ok:y.ok K H)(hd:y.d=.lst ds)(ho:y.o≠.no):∃l xs bs,y.v=.ref l/\H l=some (.lst xs)/\y.as=l::bs/\l∈y.own/\RepA K H (y.o != .dp) ds xs bs:=by
 obtain⟨o,d,v,as⟩:=y;dsimp only at hd ho;subst hd;cases o with
 |no=>exact absurd rfl ho
 |rt=>
  obtain⟨a,xs,bs,rfl,r,q,rfl⟩:=(ok);exact#[a,xs,bs,rfl,q,rfl,by simp[Sl.own],r]
 |dp=>
  have ok:RepL K H false _ v as:=ok;obtain⟨a,xs,bs,rfl,r,q⟩:=ok;rcases q with⟨q,rfl⟩|⟨z,_⟩
  ·exact#[a,xs,bs,rfl,q,rfl,by simp[Sl.own],r]
  ·grind
theorem kvw{K H T L i y l xs xs' bs cs o' ds'}(w:World K H (T++L))(hy:L[i]?=some (some y))(hH:H l=some (.lst xs))(ha:y.as=l::bs)(hl:l∈y.own)(hv:y.v=.ref l)
  (r:RepA K H (o' != .dp) ds' xs' cs) (hc:(o'=.rt/\∀a∈cs,a∈bs\/a∈j8 T\/a∈jV T)\/(o'=.dp/\y.o=.dp/\cs.Nodup/\∀a∈cs,a∈bs\/a∈j8 T)):
  World K (upd H l (.lst xs')) (L.set i (some #[o',.lst ds',y.v,l::cs]))/\Step H (T++L) (upd H l (.lst xs')) (L.set i (some #[o',.lst ds',y.v,l::cs])):=by
 have oL:=mem_owned.mpr #[y,vQ hy,hl];have oy:l∈j8 (T++L):=by rw[jZ];exact lr9 _ oL
 have nd:=w.nd;rw [jZ,X7]at nd;have nT:=λz=>nd.2.2 l z l oL rfl
 have yn:y.own.Nodup:=by
  obtain⟨A,B,e,_⟩:=jz0 hy;have:=nd.2.1;rw[e,jZ,X7]at this;exact(List.nodup_append.mp this.2.1).1
 have nb:l∉bs:=λz=>by
  cases ho:y.o with
  | no=>unfold Sl.own at hl;rw[ho]at hl;exact nomatch hl
  | rt=>
   have:l∈y.frz:=by unfold Sl.frz;rw[ho,ha];exact z
   exact w.ds l oy (by rw[qx];exact lr9 _ (mem_frozen.mpr #[y,vQ hy,this]))
  | dp=>
   unfold Sl.own at yn;rw[ho,ha]at yn;exact(List.nodup_cons.mp yn).1 z
 have nc:l∉cs:=λz=>by
  rcases hc with⟨_,hc⟩|⟨_,_,_,hc⟩
  ·rcases hc l z with q|q|q
   ·exact nb q
   ·exact nT q
   ·exact(λz=>w.ds l oy (by rw[qx];exact ll9 _ z)) q
  ·rcases hc l z with q|q
   ·exact nb q
   ·exact nT q
 have kp:Kp H (upd H l (.lst xs')) cs:=by
  have k2:∀a o,H a=some o->a≠l->upd H l (.lst xs') a=some o:=λa o e ne=>by rw[k6 ne];exact e
  refine#[λa zs e=>k2 a _ e λz=>?_,λa o u e=>k2 a _ e λz=>?_,λa ha o e=>k2 a o e λz=>nc (z▸ha)]
  ·grind
  ·grind
 have r':=r.kp kp;rcases hc with⟨rfl,hc⟩|⟨rfl,hdp,hnd,hc⟩
 ·refine World.writeAt w hy hl (y':=_) #[l,xs',cs,hv,r',vx,rfl] (by simp[Sl.own]) (λa h=>?_) (λa h=>?_) (λa h z=>?_)
  ·have:a=l:=by simpa [Sl.own]using h
   grind
  ·rcases hc a (by simpa [Sl.frz]using h)with q|q
   ·exact .inl (ha▸lc9 _ q)
   ·exact .inr q
  ·have:a=l:=by simpa [Sl.own]using h
   subst this;exact nc (by simpa [Sl.frz]using z)
 ·have oa:y.own=y.as:=by unfold Sl.own;rw[hdp]
  refine World.writeAt w hy hl (y':=_) ?_ (List.nodup_cons.mpr #[nc,hnd]) (λa h=>?_) (λa h=>(nomatch h)) (λa h z=>(nomatch z))
  ·show RepL K _ false _ y.v _;exact#[l,xs',cs,hv,r',.inl #[vx,rfl]]
  ·rcases aD (h)with q|q
   ·grind
   ·rcases hc a q with q|q
    ·exact .inl (by rw[oa,ha];exact lc9 _ q)
    ·exact .inr q
section
variable {X:Cx}{Z:Fx0}{pn:List Nat}{q:Bool}{c:Ex}{e:Expr}{σ:L2.St}{H:Hp}{L:Ls}{E:En}
theorem vww{K}{x:Sl}{ds}(ok:x.ok K H)(hd:x.d=.lst ds):tyV K "list" x.v H:=by
 obtain⟨a,xs,bs,e1,q1,_⟩:=items ok (.inl hd);rw[e1];rcases q1 with⟨_,z⟩|⟨z,_⟩
 ·exact .inl #[rfl,xs,z.sq]
 ·grind
theorem xkm{K}{x:Sl}(ok:x.ok K H) b (hb:b=false->ww x.sd=true):∃cs,RepL K H b x.d x.v cs/\(∀a∈cs,a∈x.as)/\(b=false->∀a∈cs,a∈x.own)/\(b=false->x.own.Nodup->cs.Nodup):=by
 cases b with
 | true=>exact#[x.as,RepO.wk ok,λ_ h=>h,(λz=>by cases z),(λz=>by cases z)]
 | false=>
  by_cases ho:x.o=.dp
  ·have e:x.own=x.as:=by unfold Sl.own;rw[ho]
   refine#[x.as,?_,λ_ h=>h,λ_ a h=>by rw[e];exact h,λ_ n=>by rw[e]at n;exact n];have:=ok;unfold Sl.ok at this;rw[ho]at this;exact this
  ·have hp:x.d.pure=true:=by
    rcases Bool.or_eq_true_iff.mp (hb rfl)with z|z
    ·exact absurd (by simpa using z) ho
    ·exact z
   obtain⟨z,rp⟩:=RepL.pu (g':=false) (RepO.wk ok) hp;exact#[[],rp,λ_ h=>(nomatch h),λ_ _ h=>(nomatch h),λ_ _=>Y2]
theorem zX{α:Type}{l:List α}{i x}(h:l[i]?=some x):l.set i x=l:=by
 obtain⟨h1,h2⟩:=List.getElem?_eq_some_iff.mp h;rw[<-h2];simp
theorem mut1 {D' f i r} {G:V->V->Hp->Prop} (m:Mt E σ L) (w:World Z.K H L) (hc:qW f i c E=some r) (k:FlP Z pn D' σ H L r)
  (g:∀ l (x) (xs) (ds ds') (d) (bs cs) (H1) (gg),f ds d=some ds'->H1 l=some (.lst xs)->RepA Z.K H1 gg ds xs bs->RepL Z.K H1 gg d x cs ->
   (∀ xs' es,RepA Z.K H1 gg ds' xs' es->(∀a∈es,a∈bs\/a∈cs)->((bs++cs).Nodup->es.Nodup)->D'.nx σ (upd H1 l (.lst xs')))->G (.ref l) x H1):
  ∃ v,σ[i]?=some (some v)/\tyV Z.K "list" v H/\tQ Z q c σ H (G v):=by
 unfold qW at hc;cases h0:E[i]? with
 | none=>rw[h0]at hc;cases hc
 | some s0 =>
  cases s0 with
  | none=>rw[h0]at hc;cases hc
  | some s0=>
   obtain ⟨o0,d0⟩:=s0;cases d0 with
   | lst ds0=>
    rw [h0]at hc;obtain ⟨x0,a1,a2,a3,a4⟩:=m.get h0;refine #[x0.v,a4,vww (w.ok x0 (vQ a1)) a3,(VJ m w hc k λE1 s h1 x L1 H1 e1 e2 m1 w1 st _=>?_)];cases hE:E1[i]? with
    | none=>rw[hE]at h1;cases h1
    | some s1=>
     cases s1 with
     | none=>rw[hE]at h1;cases h1
     | some s1=>
      obtain⟨oo,dd⟩:=s1;rw [hE]at h1;cases dd with
      | lst ds=>
       dsimp only at h1
       by_cases iu:oo=.no
       ·rw [Xb iu]at h1;cases h1
       ·rw [Xe iu]at h1;cases hfd:f ds s.2 with
        | none=>rw[hfd]at h1;cases h1
        | some ds'=>
         rw[hfd]at h1;obtain⟨y,b1,b2,b3,b4⟩:=m1.get hE;have hv:y.v=x0.v:=by rw[a4]at b4;exact(oq9 (oq9 b4)).symm
         obtain⟨l,xs,bs,c1,c2,c3,c4,c5⟩:=kvy (w1.ok y (lc9 _ (vQ b1))) b3 (b2▸iu);have ex0:=hv▸c1;rw[ex0];have wT:=w1;have lh:=w1.head;have nd:=w1.nd;rw[jK,X7]at nd;have oT:j8 [some x]=x.own:=by simp
         have fT:jV [some x]=x.frz:=by simp
         by_cases hd:oo=.dp/\ww s=true
         ·rw[Xb hd]at h1;cases oq9 h1;have hyo:=b2.trans hd.1;rw[hyo]at c5;obtain⟨cs,r1,h3,h4,h5⟩:=xkm lh false λ_=>by rw[show x.sd=s from by simp[Sl.sd,e1,e2]];exact hd.2
          refine g l x.v xs ds ds' s.2 bs cs H1 false hfd c2 c5 (e2▸r1) λxs' es re he hn=>?_
          have ynd:(bs++cs).Nodup:=by
           have yo:y.own=l::bs:=by unfold Sl.own;rw[hyo,c3]
           obtain⟨A,B,e,_⟩:=jz0 b1;have q:=nd.2.1;rw[e,jZ,jK,X7]at q;have q2:=(List.nodup_append.mp q.2.1).1;rw[yo]at q2;rw[X7];refine#[(List.nodup_cons.mp q2).2,h5 rfl nd.1,λa ha b hb rf=>?_];subst rf;exact nd.2.2 a (h4 rfl a hb) a (mem_owned.mpr #[y,vQ b1,by rw[yo];exact lc9 _ ha]) rfl
          obtain⟨w3,s3⟩:=kvw (o':=.dp) (ds':=ds') (xs':=xs') wT b1 c2 c3 c4 c1 re (.inr #[rfl,hyo,hn ynd,λa ha=>(he a ha).imp id λz=>by rw[oT];exact h4 rfl a z]);refine k σ _ _ Pn.refl ?_ w3 (st.trans s3);have:=m1.set (x:=#[.dp,.lst ds',y.v,l::es]) i;rw[zX b4]at this;exact this
         ·rw[Xe hd]at h1;cases oq9 h1;have c6:RepA Z.K H1 true ds xs bs:=by
           cases hb:(y.o != .dp)with|true=>rw[hb]at c5;exact c5|false=>rw[hb]at c5;exact c5.wk
          refine g l x.v xs ds ds' s.2 bs x.as H1 true hfd c2 c6 (e2▸RepO.wk lh) λxs' es re he hn=>?_
          obtain⟨w3,s3⟩:=kvw (o':=.rt) (ds':=ds') (xs':=xs') wT b1 c2 c3 c4 c1 re (.inl #[rfl,λa ha=>(he a ha).imp id λz=>by rw[oT,fT];exact Sl.as_of z]);refine k σ _ _ Pn.refl ?_ w3 (st.trans s3);have:=m1.set (x:=#[.rt,.lst ds',y.v,l::es]) i;rw[zX b4]at this;exact this
      |_=>cases h1
   |_=>rw[h0]at hc;cases hc
theorem xjs{i o apos ak pos}(hb:PE X (.Call (.Attribute o "append" apos) [e] [] ak) (tBM Z.K "list" qj5 (x9 i) (vxo (tQ Z q c) wzv)))(hs:autoParam (swapsWith (.Call (.Attribute o "append" apos) [e] [] ak) none pos.line X.env=pure false) Ŕ):
  QS X Z pn (qW qX i c) (.Expr (.Call (.Attribute o "append" apos) [e] [] ak) pos):=xW (kju hb hs) λD σ H ax=>ex7 ax λE L r m w hc k=>
 mut1 m w hc k λl x xs ds ds' d bs cs H1 gg hf hH ra rx fin=>by
  unfold qX at hf
  by_cases hl:ds.length<big
  ·rw[Xb hl]at hf;cases oq9 hf;exact#[l,xs,x,rfl,rfl,hH,by rw[<-ra.len];exact hl,fin _ _ (RepA.snoc rx ra) (λa ha=>aA ha) λh=>h]
  ·rw[Xe hl]at hf;cases hf
end
section
variable {X:Cx}{Z:Fx0}{pn:List Nat}{q:Bool}{kc vc:Ex}{e ke ve:Expr}{st:Stmt}
theorem wv7{d:D}{o:Own}{ob:Addr->HO}{C:Addr->Prop}(h:PE X e λ_ H Q=>∀p,H p=none->C p->Q (.ref p) (upd H p (ob p)))(ho:o≠.no)(ok:∀H p,C p->Sl.ok Z.K (upd H p (ob p)) #[o,d,.ref p,[p]]):QE X Z true (λE=>some (.ok E (o,d))) e:=kz h fun σ H Q ax=>ex8 ax λE L r m w hc xc k=>by
 intro p hp hs;cases oq9 hc;have out:Out Z.K H (upd H p (ob p)) #[o,d,.ref p,[p]] []:=by
  refine#[vz hp,ok H p hs,λb hb=>?_,?_,λb hb=>?_]<;>cases o<;>simp_all [Sl.own,Sl.frz]
 obtain⟨w2,s2⟩:=V1 w Step.refl out (λ_ z=>nomatch z) (λ_ z=>nomatch z) (λ_ z=>nomatch z);exact k _ _ rfl #[o,d,.ref p,[p]] L _ rfl rfl m w2 s2 λ_=>#[out.same,out.new]
set_option tactic.hygienic true in
theorem wv3{g0 g}{i:Nat}{W:V->V->V->Hp->(Hp->Prop)->Prop}(hp:PS X st λD σ H=>tQ Z q vc σ H λv H1=>x9 i σ H1 λo H2=>tV Z true kc σ H2 λy H3=>W o y v H3 λH4=>D.nx σ H4)(hg:g0 none=false/\g0 (some none)=false)
  (spec:∀{H L} {y x z:Sl} {d} {C:Hp->Prop},L[i]?=some (some y)->World Z.K H (some x::L)->z.ok Z.K H->g (y.o,y.d) z.d x.d=some d->(∀H' as,World Z.K H' (L.set i (some #[.rt,d,y.v,as]))->Step H (some x::L) H' (L.set i (some #[.rt,d,y.v,as]))->C H')->W y.v z.v x.v H C):
  QS X Z pn (wqk g0 g i kc vc) st:=xW hp λD σ H ax=>ex7 ax λE L r m w hr k=>
 VJ m w hr k λE1 s1 h1 x L1 H1 e1 e2 m1 w1 i4 _=>by
  split at h1
  ·rename_i hd
   match h0:E1[i]? with
   |none=>rw[h0,hg.1]at hd;cases hd|some none=>rw[h0,hg.2]at hd;cases hd
   |some (some s0)=>
   obtain⟨y0,a1,a2,a3,a4⟩:=m1.get h0;refine#[y0.v,a4,?_];rcases jw6 h1 with⟨E2,ky,hk1,mq⟩|⟨E2,c,hk1,rfl⟩
   ·refine#[E1,L1,_,m1,w1.tail,hk1,(λ_ _ z=>by cases z),λE' s' z zk L2 H2 f1 f2 m2 w2 p7 frz _ cf sm=>?_];injection z with z1 z2;subst z1 z2
    match hE:E2[i]? with
    |none=>rw[hE]at mq;cases mq|some none=>rw[hE]at mq;cases mq
    |some (some s2)=>
    rw[hE]at mq;obtain⟨d,jo,rfl⟩:=Option.map_eq_some_iff.mp mq;obtain⟨y,b1,b2,b3,b4⟩:=m2.get hE;have hyv:y.v=y0.v:=by rw[a4]at b4;exact(oq9 (oq9 b4)).symm
    obtain⟨w3,dl⟩:=V5 (T:=[some x]) w1 cf w2;rw[<-hyv];refine spec (d:=d) b1 w3 p7 (by rw[b2,b3,f2,e2];exact jo) λH' as w4 i'=>k σ _ _ Pn.refl ?_ w4 ((i4.trans dl).trans i')
    have:=m2.set (x:=#[.rt,d,y.v,as]) i;rw[zX b4]at this;exact this
   ·exact#[E1,L1,_,m1,w1.tail,hk1,(λE' c' e C L' H' hm m' w' st=>by injection e with z1 z2;subst z1 z2;exact k C σ L' H' hm Pn.refl m' w' ((i4.trans Step.drop).trans st)),λE' s' z=>by cases z]
  ·cases h1
end
section
variable {X:Cx}{Z:Fx0}{pn:List Nat}{q:Bool}{a b c:Ex}{tg e ea eb:Expr}{σ:L2.St}{H:Hp}{L:Ls}{E:En}{pos p:Pos}
theorem wqb{aa H1 s1 x t R}(I1:L2.Inv X aa σ H1 s1)(q:R (Its x) H1):wpAny (model X.prog X.w) X.A (pyIter (.str x t)) (PIE X aa σ tg R) X.xe s1:=by
 have fp:∀b∈[s1.heap.objs.size],x5 X aa H1 b:=λb hb=>by
  have e:b=s1.heap.objs.size:=by simpa using hb
  subst e;exact I1.fpOk (X8 _) (I1.hok.fresh (X8 _))
 cases ha:x.cps.all _
 ·exact wpAny_pyIter_wide ha #[s1.heap.objs.size,[s1.heap.objs.size],_,_,H1,rfl,I1.kept (t':=s1.toks) λb o e=>X2 _ e,qkn (λA' hA=>PySem.Walks.strWide hA _ x t) (λ_ _ _ _ _ st h=>wpAny_pyIter_striter_wide st h) ⋯,#[_,Xa _ rfl,rfl,rfl],fp,q]
 ·exact wpAny_pyIter_ascii ha #[s1.heap.objs.size,[s1.heap.objs.size],_,_,H1,rfl,I1.kept (t':=s1.toks) λb o e=>X2 _ e,qkn (λA' hA=>PySem.Walks.strAscii hA _ x t) (λ_ _ _ _ _ st h=>wpAny_pyIter_striter_ascii st h) ⋯,#[_,Xa _ rfl,rfl,rfl],fp,q]
theorem wwe{K}{H} c:Sl.ok K H #[.no,.str #[(List.toArray [c])],.str #[(List.toArray [c])],[]]:=by
 show RepL K H true _ _ _;exact Q5 (show 1<=sizeLine by decide)
theorem wwd{K}{H} i:Sl.ok K H #[.no,.int i,.int i,[]]:=by
 show RepL K H true _ _ _;exact vK
noncomputable def iAny(K:Frag)(tl:TE):TI:=fun σ H R=>tl σ H λx H1=>(∃a xs,x=.ref a/\SqL K H1 a xs/\(xs.length<=sizeLine->R (Itl K a) H1))\/(∃a xs,x=.ref a/\SqT K H1 a xs/\(xs.length<=sizeLine->R (Itt K a) H1))\/∃z,x=.str z/\R (Its z) H1
theorem vwl{l tl}(hl:PE X l tl):PI X tg l (iAny X.K tl):=by
 intro aa s σ H R I h;refine thn (hl aa s σ H _ I h) λv s1 hz=>?_
 obtain⟨x,H1,I1,r1,q1⟩:=hz;rcases q1 with⟨a,xs,rfl,hq,q⟩|⟨a,xs,rfl,hq,q⟩|⟨z,rfl,q⟩
 ·cases r1;obtain⟨aj,rv,p,hz⟩:=I1.list hq;refine wpAny_pyIter_list p.isList (#[s1.heap.objs.size,[s1.heap.objs.size],_,_,H1,rfl,I1.kept (t':=s1.toks) λb o e=>X2 _ e,kwz a _,#[_,Xa _ rfl,rfl,rfl],λb hb=>?_,q hz]);have e:b=s1.heap.objs.size:=by simpa using hb
  subst e;exact I1.fpOk (X8 _) (I1.hok.fresh (X8 _))
 ·cases r1;obtain⟨aj,rv,p,hz⟩:=I1.tuple hq;refine wpAny_pyIter_tuple (p) (#[s1.heap.objs.size,[s1.heap.objs.size],_,_,H1,rfl,I1.kept (t':=s1.toks) λb o e=>X2 _ e,qv7 a _,#[_,Xa _ rfl,rfl,rfl],λb hb=>?_,q hz]);have e:b=s1.heap.objs.size:=by simpa using hb
  subst e;exact I1.fpOk (X8 _) (I1.hok.fresh (X8 _))
 ·obtain⟨t,rfl⟩:=r1;exact wqb I1 q
theorem jxo{K}{x:Sl}{es l}(hx:x.d=.lst es)(ev:x.v=.ref l):∀H2,x.let.ok K H2->∃ys cs,SqL K H2 l ys/\RepA K H2 true es ys cs/\∀b∈cs,b∈x.as:=λH2 hok=>by
 obtain⟨a',ys,cs,uk,q4,r4,h4,_⟩:=items hok (.inl hx);cases V.ref.inj (uk.symm.trans ev);rcases q4 with⟨_,z⟩|⟨z,_⟩
 ·exact#[ys,cs,z.sq,r4,h4]
 ·rw[show x.let.d=D.lst es from hx]at z;cases z
theorem jxd{K}{x:Sl}{es l}(hx:x.d=.tup es)(ev:x.v=.ref l):∀H2,x.let.ok K H2->∃ys cs,SqT K H2 l ys/\RepA K H2 true es ys cs/\∀b∈cs,b∈x.as:=λH2 hok=>by
 obtain⟨a',ys,cs,uk,q4,r4,h4,_⟩:=items hok (.inr hx);cases V.ref.inj (uk.symm.trans ev);rcases q4 with⟨z,_⟩|⟨_,z⟩
 ·rw[show x.let.d=D.tup es from hx]at z;cases z
 ·exact#[ys,cs,z,r4,h4]
theorem kv8{K H1 x L1}(w1:World K H1 (some x::L1))(st:Step H L H1 (some x::L1)):World K H1 (L1++[x.let].map some)/\Step H L H1 (L1++[x.let].map some):=by
 refine#[World.comm (w1.tail.consNo (J3 w1.head) rfl λb hb=>w1.apart b hb),st.keep,λb hb=>?_,λb hb=>?_]
 ·have:b∈j8 L1:=by simpa [kqk]using hb
  exact st.own b (lr9 _ this)
 ·have:b∈jV L1\/b∈x.as:=by simpa [kqk]using hb
  rcases this with z|z
  ·exact st.frz b (lr9 _ z)
  ·exact kj4 st b z
abbrev ItS(S:Hp->List V->Prop):It:=#[λi H=>∃xs x,S H xs/\xs[i]?=some x,λi H x H'=>H'=H/\∀xs,S H xs->xs[i]?=some x,λi H=>∃xs,S H xs/\xs.length<=i]
theorem qkj{K S}{x:Sl}{es}(ag:∀H2,x.let.ok K H2->∃ys cs,S H2 ys/\RepA K H2 true es ys cs/\∀b∈cs,b∈x.as):Walks K (ItS S) [x.let] es:=by
 refine#[λt ht=>by rw[aC ht];rfl,λi H2 hok hi=>?_,λH2 hok=>?_,λi H2 v H3 d hok hy fh=>?_]
 all_goals obtain⟨ys,cs,s1,s2,s3⟩:=ag H2 (hok _ (aB rfl))
 ·have hl:=s2.len;exact#[ys,ys[i]'_,s1,X1 ⋯]
 ·exact#[ys,s1,by rw[s2.len];exact X8 _]
 ·obtain⟨rfl,hy⟩:=hy;obtain⟨v',dr,f1,f2,f3⟩:=s2.get fh;have:=hy ys s1;rw[f1]at this;cases oq9 this;exact#[#[.no,d,v,dr],rfl,rfl,rfl,z9,f2,λb hb=>#[x.let,aB rfl,s3 b (f3 b hb)]]
set_option tactic.hygienic true in
theorem JY(h:QE X Z q c e)(hK:autoParam (X.K=Z.K) Ŕ):QI X Z q tg (itS c) e:=λaa s σ H R I ax=>ex8 ax λE L r m w hc xc k=>by
 refine(hK▸vwl h) aa s σ H R I (Kw m w (hc) xc λE1 s h1 x L1 H1 e1 e2 m1 w1 st sm=>?_);obtain⟨ds,hd,rfl⟩:=zj h1;have ok:=w1.head;obtain⟨wT,sT⟩:=kv8 w1 st;cases hx:x.d with
 | lst es=>
  rw[<-e2,hx]at hd;cases oq9 hd;obtain⟨a,_,_,ev,_⟩:=items ok (.inl hx);have ag:=jxo (K:=Z.K) hx ev;obtain⟨xs,bs,q3,r3,_⟩:=ag H1 (J3 ok);exact .inl #[a,xs,ev,q3,λav=>k _ _ rfl _ [x.let] L1 H1 m1 wT sT (r3.len▸av) (λhq=>(sm hq).1) (qkj ag)]
 | tup es=>
  rw[<-e2,hx]at hd;cases oq9 hd;obtain⟨a,_,_,ev,_⟩:=items ok (.inr hx);have ag:=jxd (K:=Z.K) hx ev;obtain⟨xs,bs,q3,r3,_⟩:=ag H1 (J3 ok);exact .inr (.inl #[a,xs,ev,q3,λav=>k _ _ rfl _ [x.let] L1 H1 m1 wT sT (r3.len▸av) (λhq=>(sm hq).1) (qkj ag)])
 | str z=>
  rw[<-e2,hx]at hd;have hd:(if z.cps.size<=big then some _ else none)=some ds:=hd
  split at hd
  ·rename_i hz;cases oq9 hd;refine .inr (.inr #[z,(zQ ok hx).1,k _ _ rfl _ [] L1 H1 m1 (by simpa using w1.tail) (by simpa using (st.trans Step.drop)) (by rw[X3];exact hz) (λhq=>(sm hq).1) #[λt ht=>(nomatch ht),λi H2 _ hi=>?_,λH2 _=>?_,λi H2 v H3 d _ hy fh=>?_]])
   ·show i<z.cps.size
    simp_all
   ·show(z.cps.toList.map λc=>D.str #[(List.toArray [c])]).length=z.cps.size;simp
   ·obtain⟨e3,cc,hc,rfl⟩:=hy;subst e3;rw[Xq,Yl,hc]at fh;cases oq9 fh;exact#[_,rfl,rfl,rfl,z9,wwe cc,λb hb=>(nomatch hb)]
  ·cases hd
 |_=>rw[<-e2,hx]at hd;cases hd
theorem qv4{K}(lo hi):Walks K (Itr lo (hi - lo).toNat) [] (k8 lo hi):=by
 have hl:(k8 lo hi).length=(hi - lo).toNat:=by simp[k8]
 refine#[λt ht=>(nomatch ht),λi H _ ly=>by rw[hl]at ly;exact ly,λH _=>by rw[hl];exact X8 _,λi H v H' d _ hy hd=>?_];obtain⟨e,rfl⟩:=hy;subst e;unfold k8 at hd;rw[Xq]at hd;cases hr:(List.range (hi - lo).toNat)[i]? with
 | none=>simp_all
 | some j=>
  rw[hr]at hd;have:j=i:=by
   obtain⟨_,h2⟩:=List.getElem?_eq_some_iff.mp hr
   simpa using h2.symm
  subst this;cases oq9 hd;exact#[_,rfl,rfl,rfl,z9,wwd _,λb hb=>(nomatch hb)]
theorem jz9{i}(h:xQ i=true):-(2 ^ 62)<=i/\i<2 ^ 62:=by
 unfold xQ at h
 simpa using h
set_option tactic.hygienic true in
theorem x8(ha:QV X Z q a ea)(hg:Gl X "range")(hm:X.mg "range"=none)(dj:autoParam (starEach [ea] X.env=[(false,eval ea X.env)]) Ŕ):QI X Z q tg (vW a) (.Call (.Name "range" p) [ea] [] pos):=λaa s σ H R I ax=>ex8 ax λE L r m w hc xc k=>by
 refine(qxm hg hm (vJ ha wK dj) dj) aa s σ H R I (v9 m w (hc) xc λE1 s h1 x L1 H1 e1 e2 m1 w1 ok fr sr st sm=>?_);cases hx:s.2 with
 | int j=>
  rw[hx]at h1;dsimp only at h1
  split at h1
  ·rename_i hj;cases oq9 h1;obtain⟨j1,j2⟩:=jz9 hj.1;refine#[j,by rw[(qk ok (e2.trans hx))],j1,j2,?_];have wk:=qv4 (K:=Z.K) 0 j;rw[Int.sub_zero]at wk;exact k _ _ rfl _ [] L1 H1 m1 (by simp_all) (by simp_all) (by simp only[k8,X3,Yd,Int.sub_zero];exact hj.2) sm wk
  ·grind
 |_=>simp_all
theorem Mt.clr:∀{R E L},Mt E σ L->Mt (Q.clr R E) σ (Q.clr R L)
 | [],_,_,m=>m
 | j::R,E,L,m=>by
  have un:∀{E σ} {L} j,Mt E σ L->Mt (E.set j none) σ (L.set j none):=by
   intro E σ L j m
   induction m generalizing j with
   |nil=>exact .nil
   |un m ih=>cases j with|zero=>exact .un m|succ j=>exact .un (ih j)
   |cons m ih=>cases j with|zero=>exact .un m|succ j=>exact .cons (ih j)
  show Mt (Q.clr R _) σ _;exact Mt.clr (un j m)
theorem Mt.drop:∀{E σ L} (k),Mt E σ L->Mt (E.drop k) (σ.drop k) (L.drop k)
 |_,_,_,0,m=>m|_,_,_,k+1,.nil=>.nil|_,_,_,k+1,.un m=>m.drop k|_,_,_,k+1,.cons m=>m.drop k
theorem Mt.none_at:∀{E σ L} {j:Nat},Mt E σ L->E[j]?=some none->L[j]?=some none
 |_,_,_,_,.nil,h=>by simp_all|_,_,_,0,.un _,_=>by simp|_,_,_,j+1,.un m,h=>by simpa using m.none_at (by simpa using h)|_,_,_,j+1,.cons m,h=>by simpa using m.none_at (by simpa using h)
theorem Mt.pick:∀{R:List Nat},Mt E σ L->Mt (R.map (at' E)) (R.map (at' σ)) (R.map (at' L))
 | [],_=>.nil
 | j::R,m=>by
  rw[List.map_cons,List.map_cons,List.map_cons];cases hE:E[j]? with
  | none=>
   have hl:=m.len;have:L[j]?=none:=by rw[List.getElem?_eq_none_iff]at hE ⊢;lia
   rw[show at' E j=none from by unfold at';rw[hE];rfl,show at' L j=none from by unfold at';rw[this];rfl];exact .un m.pick
  | some s=>
   cases s with
   |none=>
    have:L[j]?=some none:=m.none_at hE;rw[show at' E j=none from by unfold at';rw[hE];rfl,show at' L j=none from by unfold at';rw[this];rfl];exact .un m.pick
   |some s=>
    obtain⟨x,h1,h2,h3,h4⟩:=m.get hE;rw[show at' E j=some (x.o,x.d)from by unfold at';rw[hE,h2,h3];rfl,show at' L j=some x from by unfold at';rw[h1];rfl,show at' σ j=some x.v from by unfold at';rw[h4];rfl];exact .cons m.pick
theorem Mt.rep:∀{k},Mt E σ L->Mt (List.replicate k none++E) (List.replicate k none++σ) (List.replicate k none++L)
 |0,m=>by simp_all
 |k+1,m=>by
  exact .un m.rep
theorem Mt.back:∀{R B τ M E L},Mt E σ L->Mt B τ M->(∀(i j:Nat) (v),R[i]?=some j->τ[i]?=some (some v)->σ[j]?=some (some v))->Mt (Q.back R B E) σ (Q.back R M L)
 | [],B,τ,M,E,L,m,_,_=>by simpa [Q.back]using m| j::R,_,_,_,E,L,m,.nil,_=>by simpa [Q.back]using m
 | j::R,_,_,_,E,L,m,.un mB,h=>by
  have un:∀{E σ} {L} j,Mt E σ L->Mt (E.set j none) σ (L.set j none):=by
   intro E σ L j m
   induction m generalizing j with
   |nil=>exact .nil
   |un m ih=>cases j with|zero=>exact .un m|succ j=>exact .un (ih j)
   |cons m ih=>cases j with|zero=>exact .un m|succ j=>exact .cons (ih j)
  show Mt _ σ (Q.back R _ _);exact Mt.back (un j m) mB λi jj v e1 e2=>h (i+1) jj v (by simpa using e1) (by simpa using e2)
 |j::R,_,_,_,E,L,m,.cons (x:=x) mB,h=>by
  have m1:=m.set (x:=x) j;rw[zX (h 0 j x.v (by simp) (by simp))]at m1;show Mt _ σ (Q.back R _ _);exact Mt.back m1 mB λi jj v e1 e2=>h (i+1) jj v (by simpa using e1) (by simpa using e2)
section
variable {iter gm:Expr}{gh:List Expr}{scope:Scope}{N:List Str}{k:Nat}{R:List Nat}{it:Ev (List D)}{tt:Tg}{u:Ts}{o:Own}{q1 q2:Bool}
theorem wjc:K7 k R σ=List.replicate k none++R.map (at' σ):=rfl
theorem xkc{K M}(hR:R.Nodup)(w:World K H (L++M)):World K H ((List.replicate k none++R.map (at' L))++(Q.clr R L++M))/\Step H (L++M) H ((List.replicate k none++R.map (at' L))++(Q.clr R L++M)):=by
 have p:(sls (L++M)).Perm (sls ((List.replicate k none++R.map (at' L))++(Q.clr R L++M))):=by
  have:=qqx (L:=L) hR;rw[Wq]at this;simp;rw[<-Xv];exact(this.append_right _).symm
 exact#[w.same p,Step.refl.same (List.Perm.refl _) p]
theorem wwm{K B M H2}(hR:R.Nodup)(hr:∀j∈R,j<L.length)(hB:B.length=k+R.length)(w:World K H2 (B++(Q.clr R L++M))):World K H2 (Q.back R (B.drop k) (Q.clr R L)++M)/\Step H2 (B++(Q.clr R L++M)) H2 (Q.back R (B.drop k) (Q.clr R L)++M):=by
 have p2:(sls (Q.back R (B.drop k) (Q.clr R L)++M)).Perm (sls (B.drop k++(Q.clr R L++M))):=by
  rw[Wq,<-Xv,Wq _];exact(kzo hR (λj hj=>vji hj) (λj hj=>by rw[vjh];exact hr j hj) (by simp_all)).append_right _
 have sub:(sls (B.drop k++(Q.clr R L++M))).Sublist (sls (B++(Q.clr R L++M))):=by
  rw[Wq,Wq B];exact List.Sublist.append ((List.drop_sublist k B).filterMap _) (Y8 _)
 exact#[(w.sub sub).same p2.symm,(Step.refl.sub sub).same (List.Perm.refl _) p2.symm]
theorem kjl:∀{is es E E'},setAll is es E=some E'->E'.length=E.length
 |[],[],_,_,h=>by cases oq9 h;rfl|i::is,d::es,E,E',h=>by rw[kjl (E:=E.set i _) h,Yj]
theorem vzd{t:Tg}{d E E'}(h:t.put d E=some E'):E'.length=E.length:=by
 cases t with
 |n i=>cases oq9 h;rw[Yj]
 |t is=>
  cases d with|tup es=>exact kjl (h)|lst es=>exact kjl (h)|_=>cases h
theorem qjq{nN Q}(hσ:σ.length=nN)(hR:R.Nodup)(hr:∀j∈R,j<nN)(h:tQ Z q (cLC o k R it tt u c) σ H Q):tLC (tIS Z q it) (tG Z ((List.range R.length).map (k + ·)) tt) (tT Z q u) (tQ Z q c) k R σ H Q:=by
 obtain⟨E,L,r,m,w,bp,xc,kk⟩:=h;have bp:bnd (it E) (λE ds=>match lcL tt u c ds (wkk k R E) []with
  | some (.ok B xs)=>mkL o (JV k R B E) xs| some (.exc B e)=>some (.exc (JV k R B E) e)
  | none=>none)=some r:=bp
 rcases x6 bp with⟨E1,ds,h1,h2⟩|⟨E1,cc,h1,h2⟩
 rotate_left
 ·exact#[E,L,_,m,w,h1,xc.map h2,λE' s' z=>by cases z]
 refine#[E,L,_,m,w,h1,(λ_ _ z=>by cases z),λE' ds' z J T L1 H1 m1 w1 st hz sm wk=>?_];injection z with z1 z2;subst z1 z2;have hL1:∀j∈R,j<L1.length:=λj hj=>by have:=m1.len;have:=hr j hj;lia
 obtain⟨wB,sB⟩:=xkc (k:=k) hR w1;cases hrB:lcL tt u c ds (wkk k R E1) []with
 | none=>simp_all
 | some rB=>
  rw [hrB]at h2;have lu:∀{H2 A B},World Z.K H2 (A++(B++(_root_.Q.clr R L1++T.map some)))->∀t∈T,t.ok Z.K H2:=λw2 t ht=>w2.ok t (lr9 _ (lr9 _ (lr9 _ (Xs ht))))
  have mB0:Mt (wkk k R E1) (K7 k R σ) (List.replicate k none++R.map (at' L1)):=(m1.pick (R:=R)).rep;have ul:∀{B LB τ H2 A},Mt B τ LB->τ.length=k+R.length->Pn ((List.range R.length).map (k + ·)) (K7 k R σ) τ->World Z.K H2 (LB++(A++(_root_.Q.clr R L1++T.map some))) ->
    Mt (JV k R B E1) σ (_root_.Q.back R (LB.drop k) (_root_.Q.clr R L1))/\World Z.K H2 (A++_root_.Q.back R (LB.drop k) (_root_.Q.clr R L1))/\Step H2 (LB++(A++(_root_.Q.clr R L1++T.map some))) H2 (A++_root_.Q.back R (LB.drop k) (_root_.Q.clr R L1)):=fun {B LB τ H2 A} mB lB pB wB2=>by
   have hl:LB.length=k+R.length:=by rw[mB.len.2];exact lB
   have pm:(LB++(A++(_root_.Q.clr R L1++T.map some))).Perm (LB++(_root_.Q.clr R L1++(A++T.map some))):=by
    refine List.Perm.append_left _ ?_;rw [<-Xv,<-Xv];exact List.Perm.append_right _ List.perm_append_comm
   obtain⟨w3,s3⟩:=wwm (k:=k) hR hL1 hl (wB2.perm pm);have ph:(_root_.Q.back R (LB.drop k) (_root_.Q.clr R L1)++(A++T.map some)).Perm ((A++_root_.Q.back R (LB.drop k) (_root_.Q.clr R L1))++T.map some):=by
    rw [<-Xv];exact List.Perm.append_right _ List.perm_append_comm
   refine#[(Mt.back (m1.clr) (mB.drop k) λi j v e1 e2=>?_),(w3.perm ph).left,(s3.perm pm.symm ph).trans Step.dropT];have hi:=(List.getElem?_eq_some_iff.mp e1).1;rw [List.getElem?_drop,(pB (k+i) (List.mem_map.mpr #[i,List.mem_range.mpr hi,rfl])),wjc,List.getElem?_append_right (by simp),Z1,show k+i - k=i from by lia,Xq,e1]at e2;have e4:at' σ j=some v:=by simpa using e2
   unfold at' at e4;cases hh:σ[j]? with| none=>simp_all| some s=>simp_all
  refine#[λi n ys τ H2=>∃(B:En) (LB:Ls) (aq:List Sl),Mt B τ LB/\τ.length=k+R.length/\Pn ((List.range R.length).map (k + ·)) (K7 k R σ) τ/\World Z.K H2 (LB++(aq.map some++(_root_.Q.clr R L1++T.map some)))/\Step H L H2 (LB++(aq.map some++(_root_.Q.clr R L1++T.map some))) /\
   ys=aq.map Sl.v/\lcL tt u c (ds.drop i) B (aq.map Sl.sd)=some rB/\i<=ds.length/\aq.length<=i/\n=ds.length - i/\(q=true->k7 H H2/\∀b∈j8 (aq.map some),H b=none),#[_,wkk k R E1,_,[],mB0,by simp[K7],Pn.refl,wB,st.trans sB,rfl,hrB,Yg _,Yg _,rfl,λhq=>#[sm hq,λ_ z=>(nomatch z)]],?_]
  rintro i n ys τ H2 ⟨B,LB,aq,mB,lB,pB,wB2,sB2,rfl,f1,hi,ba,rfl,smB⟩
  by_cases cj:i<ds.length
  rotate_left
  ·have e:i=ds.length:=⋯
   subst e;rw [List.drop_length]at f1;cases oq9 f1;obtain⟨m3,w3,s3⟩:=ul mB lB pB wB2;exact .inl #[wk.stop H2 (lu wB2) (λhq=>(smB hq).1),by rw[X3];lia,(qqd (σ:=σ) (Q:=Q) (o:=o) (xs:=aq) h2 rfl w3 (sB2.trans s3) smB kk m3)]
  ·have hd:ds.drop i=ds[i]::ds.drop (i+1):=List.drop_eq_getElem_cons cj;rw [hd]at f1;unfold lcL at f1;cases br:tt.put ds[i] B with
   | none=>rw[br]at f1;cases f1
   | some B2=>
    rw [br]at f1;dsimp only at f1;refine .inr #[wk.go i H2 (lu wB2) (λhq=>(smB hq).1) cj,λv H3 hy=>?_];obtain⟨z,zo,zd,zv,smz,wp,zas⟩:=wk.yld i H2 v H3 ds[i] (lu wB2) (λhq=>(smB hq).1) hy (X1 cj);have pm:(LB++(aq.map some++(_root_.Q.clr R L1++T.map some))).Perm ((LB++(aq.map some++_root_.Q.clr R L1))++T.map some):=by
     rw[<-Xv (aq.map some),<-Xv]
    obtain⟨wz,sz⟩:=kqo (wB2.perm pm) wk.no smz wp zo zas;have wz':World Z.K H3 ((some z::LB)++(aq.map some++(_root_.Q.clr R L1++T.map some))):=wz.perm (by
     rw[List.cons_append,List.cons_append];exact List.Perm.cons _ pm.symm)
    have sz':Step H2 (LB++(aq.map some++(_root_.Q.clr R L1++T.map some))) H3 ((some z::LB)++(aq.map some++(_root_.Q.clr R L1++T.map some))):=sz.perm pm.symm (by
     rw[List.cons_append,List.cons_append];exact List.Perm.cons _ pm.symm)
    refine#[B,LB,z,B2,mB,wz'.left,zo,zv,by rw[zd];exact br,fun τ2 LB2 p2 mB2 wB3 sB3=>?_];obtain⟨w4,s4⟩:=stay wz' sB3 wB3;have lB2:τ2.length=k+R.length:=by
     have h1:=mB2.len.1;have h2:=mB.len.1;have h3:=vzd br;lia
    have p3:=pB.trans p2;have xt:Step H L H3 (LB2++(aq.map some++(_root_.Q.clr R L1++T.map some))):=sB2.trans (sz'.trans s4);have jd:q=true->k7 H H3/\∀b∈j8 (aq.map some),H b=none:=λhq=>#[kX (smB hq).1 smz,(smB hq).2]
    refine#[λy H5=>∃(B:En) (LB:Ls) (jn:List Sl),Mt B τ2 LB/\World Z.K H5 (LB++(jn.map some++(_root_.Q.clr R L1++T.map some)))/\Step H L H5 (LB++(jn.map some++(_root_.Q.clr R L1++T.map some)))/\aq.map Sl.v++[y]=jn.map Sl.v/\jn.length=aq.length+1/\lcL tt u c (ds.drop (i+1)) B (jn.map Sl.sd)=some rB/\(q=true->k7 H H5/\∀b∈j8 (jn.map some),H b=none),
     λH5=>∃B LB,Mt B τ2 LB/\World Z.K H5 (LB++(aq.map some++(_root_.Q.clr R L1++T.map some)))/\Step H L H5 (LB++(aq.map some++(_root_.Q.clr R L1++T.map some)))/\lcL tt u c (ds.drop (i+1)) B (aq.map Sl.sd)=some rB/\(q=true->k7 H H5/\∀b∈j8 (aq.map some),H b=none),
     λy H5 hz=>by obtain⟨B5,LB5,acc5,c1,c2,c3,c4,c5,c6,c7⟩:=hz;exact#[by rw[X3];lia,ds.length - (i+1),⋯,B5,LB5,acc5,c1,lB2,p3,c2,c3,c4,c6,cj,⋯,rfl,c7],
     λH5 hz=>by obtain⟨B5,LB5,c1,c2,c3,c6,c7⟩:=hz;exact#[ds.length - (i+1),⋯,B5,LB5,aq,c1,lB2,p3,c2,c3,rfl,c6,cj,⋯,rfl,c7],?_]
    have xcB:∀{α H6 L6 B6 cc A},rB=.exc B6 cc->World Z.K H6 (L6++(A++(_root_.Q.clr R L1++T.map some)))->Step H L H6 (L6++(A++(_root_.Q.clr R L1++T.map some)))->Xc Z τ2 H6 L6 (.exc B6 cc:Res α):=fun {α H6 L6 B6 cc A} er w6 s6 E7 c7 e7 C L7 H7 hm m7 w7 s7=>by
     injection e7 with e8 e9;subst e8 e9;subst er;cases oq9 h2;obtain⟨w8,s8⟩:=stay w6 s7 w7;obtain⟨m9,w9,s9⟩:=ul m7 lB2 p3 w8;exact xc _ _ rfl C _ H7 hm m9 w9.right ((s6.trans (s8.trans s9)).trans #[λ_ _ h _=>h,λa ha=>.inl (by rw[jZ];exact lr9 _ ha),λa ha=>.inl (by rw[qx];exact lr9 _ ha)])
    rcases x6 f1 with⟨B4,kb,g1,g2⟩|⟨B4,cc,g1,g2⟩
    rotate_left
    ·exact#[B2,LB2,_,mB2,wB3,g1,xcB g2 w4 xt,λE' s' z=>by cases z]
    refine#[B2,LB2,_,mB2,wB3,g1,(λ_ _ z=>by cases z),λE' s' z LB4 H4 mB4 wB4 sB4 sm4=>?_];injection z with z1 z2;subst z1 z2;obtain⟨w5,s5⟩:=stay w4 sB4 wB4;have m8:=xt.trans s5;cases kb with
    | false=>
     rw[Xe ⋯]at g2 ⊢;exact#[B4,LB4,mB4,w5,m8,g2,λhq=>#[kX (jd hq).1 (sm4 hq),(jd hq).2]]
    | true=>
     rw[Xb rfl]at g2 ⊢;rcases x6 g2 with⟨B6,y,g3,g4⟩|⟨B6,cc,g3,g4⟩
     rotate_left
     ·exact#[B4,LB4,_,mB4,wB4,g3,xcB g4 w5 m8,λE' s' z=>by cases z]
     refine#[B4,LB4,_,mB4,wB4,g3,(λ_ _ z=>by cases z),λE' s' z x LB6 H6 ex ey mB6 wB6 sB6 sm6=>?_];injection z with z1 z2;subst z1 z2;obtain⟨w7,s7⟩:=stay w5 sB6 wB6;have pm3:((some x::LB6)++(aq.map some++(_root_.Q.clr R L1++T.map some))).Perm (LB6++((aq++[x]).map some++(_root_.Q.clr R L1++T.map some))):=by
      rw[Xk,List.cons_append];have:(LB6++(aq.map some++[x].map some++(_root_.Q.clr R L1++T.map some)))=(LB6++aq.map some)++some x::(_root_.Q.clr R L1++T.map some):=by simp
      rw[this];refine List.Perm.trans ?_ List.perm_middle.symm;rw[Xv]
     refine#[B6,LB6,aq++[x],mB6,w7.perm pm3,(m8.trans s7).perm (List.Perm.refl _) pm3,by simp,by simp,?_,λhq=>#[kX (jd hq).1 (kX (sm4 hq) (sm6 hq).1),λb hb=>?_]]
     ·rwa [Xk,show[x].map Sl.sd=[y]from by simp[Sl.sd,ex,ey]]
     ·rw[Xk,jZ]at hb;rcases aA hb with hb|hb
      ·exact(jd hq).2 b hb
      ·have hb:b∈x.own:=by simpa using hb
       exact J8 (kX (jd hq).1 (sm4 hq)) ((sm6 hq).2 b hb)
theorem xqu(N)(hi:QI X Z q tg it iter)
  (hg:∀cl C s0 H0 fp,QG (lcE X scope N cl C s0 H0 fp Z.EX) Z ((List.range R.length).map (k + ·)) tt tg) (ht:∀cl C s0 H0 fp,PTs (lcE X scope N cl C s0 H0 fp Z.EX) gh (tT Z q u)) (he:∀cl C s0 H0 fp,QE (lcE X scope N cl C s0 H0 fp Z.EX) Z q c gm)
  (gx:xq X Z.EX) (top:Jj X) (hR:R.Nodup) (hr:∀j∈R,j<X.N.length) (hc:autoParam (X.calm=true) Ŕ) (hk:autoParam (scope.kind=.function) Ŕ) (li:autoParam (QJ X.N X.env.scope scope N k R=true) Ŕ) (hs:autoParam (∀x,foldedSetIterable iter X.env x=pure x) Ŗ):
  QE X Z q (cLC o k R it tt u c) (.ListComp gm [#[tg,iter,gh,0]] scope pos):=λaa s σ H Q I hw=>
 vwo N k R (xqs hi) hg ht he gx top hc hk li hs aa s σ H Q I (qjq I.len hR hr hw)
theorem xjm(N)(hi:QIS X Z q tg it iter)
  (hg:∀cl C s0 H0 fp,QG (lcE X scope N cl C s0 H0 fp Z.EX) Z ((List.range R.length).map (k + ·)) tt tg) (ht:∀cl C s0 H0 fp,PTs (lcE X scope N cl C s0 H0 fp Z.EX) gh (tT Z q u)) (he:∀cl C s0 H0 fp,QE (lcE X scope N cl C s0 H0 fp Z.EX) Z q c gm)
  (gx:xq X Z.EX) (top:Jj X) (hR:R.Nodup) (hr:∀j∈R,j<X.N.length) (hc:autoParam (X.calm=true) Ŕ) (hk:autoParam (scope.kind=.function) Ŕ) (li:autoParam (QJ X.N X.env.scope scope N k R=true) Ŕ) (hs:autoParam (∀x,foldedSetIterable iter X.env x=pure x) Ŗ):
  QE X Z q (cLC o k R it tt u c) (.ListComp gm [#[tg,iter,gh,0]] scope pos):=λaa s σ H Q I hw=>
 vwo N k R hi hg ht he gx top hc hk li hs aa s σ H Q I (qjq I.len hR hr hw)
theorem qxg{EX wi g tte te i y py f7}(N)(k)(R)(hN:X.N.Nodup)(hy:X.N[i]?=some y)(hx:Loc X.env.scope y)(hi:PI X tg iter wi)
  (hg:∀cl C s0 H0 fp,PG (lcE X scope N cl C s0 H0 fp EX) tg g) (ht:∀cl C s0 H0 fp,PTs (lcE X scope N cl C s0 H0 fp EX) gh tte) (he:∀cl C s0 H0 fp,PE (lcE X scope N cl C s0 H0 fp EX) gm te) (gx:xq X EX) (top:Jj X)
  (lq:autoParam (swapsWith (.ListComp gm [#[tg,iter,gh,0]] scope pos) (some (.Name y py)) f7.line X.env=pure true) Ŕ)
  (hc:autoParam (X.calm=true) Ŕ) (hk:autoParam (scope.kind=.function) Ŕ) (li:autoParam (QJ X.N X.env.scope scope N k R=true) Ŕ) (hs:autoParam (∀x,foldedSetIterable iter X.env x=pure x) Ŗ)
  (hf:autoParam (X.fn y=true\/X.env.scope.names.lookup y=some .local) ś):
  PS X (.Assign [.Name y py] (.ListComp gm [#[tg,iter,gh,0]] scope pos) f7) (λD σ H=>tLC wi g tte te k R σ H λv H1=>D.nx (σ.set i (some v)) H1):=by
 intro aa s σ H D I h;have sc:=qqj hk li;obtain⟨cl,mn,fy,cw⟩:=kqy λy hy e=>I.ok.has y.1 (sc.caps y hy e)
 rw[exec_Assign_Name_used _ _ _ _ lq];refine X0 (wpAny_standAt (X0 ?_));refine X0 (thn (wpAny_comprehension_free rfl hs mn sc.kind sc.names
  (thn (hi aa s σ H _ I h) λv s1 h1=>thn h1 λitv s2 h2=>?_)) λ_ s' hq=>X5 (X5 hq))
 obtain⟨it,fp,tn,J,H2,e,I2,T,cf,f2,W,w0,gp⟩:=h2;subst e;refine kxy hc top sc fy cw (hg cl) (ht cl) (he cl) I2 T cf f2 w0 gp ?_ ?_
 rotate_left
 ·intro D' C s' ef σ' H' x T Cc fl hC t q;exact vwx gx I2 f2 hC t q
 intro L C oC m ys H' s' I' eC nC fC q;refine wpAny_assign_Name (jxf I' hN hy hx (v:=.ref L) rfl (λoz I''=>?_) hf);have pC:=I''.pin _ (lr9 _ (lr9 _ (aB rfl)));refine#[m,nC.at' λo e=>?_,λh' sb=>#[_,_,I''.unpinned.turned (t':=oz.toks) (λb o hb e=>(sb.2 b hb).trans e) fC.1 fC.2.1 fC.2.2.2.1 fC.2.2.2.2.1 fC.2.2.2.2.2,q]]
 grind
theorem kvr{i y py f7}(N)(hN:X.N.Nodup)(hy:X.N[i]?=some y)(hx:Loc X.env.scope y)(hi:QI X Z q tg it iter)
  (hg:∀cl C s0 H0 fp,QG (lcE X scope N cl C s0 H0 fp Z.EX) Z ((List.range R.length).map (k + ·)) tt tg) (ht:∀cl C s0 H0 fp,PTs (lcE X scope N cl C s0 H0 fp Z.EX) gh (tT Z q u)) (he:∀cl C s0 H0 fp,QE (lcE X scope N cl C s0 H0 fp Z.EX) Z q c gm)
  (gx:xq X Z.EX) (top:Jj X) (hR:R.Nodup) (hr:∀j∈R,j<X.N.length) (hp:autoParam (i∉pn) ŕ)
  (lq:autoParam (swapsWith (.ListComp gm [#[tg,iter,gh,0]] scope pos) (some (.Name y py)) f7.line X.env=pure true) Ŕ)
  (hc:autoParam (X.calm=true) Ŕ) (hk:autoParam (scope.kind=.function) Ŕ) (li:autoParam (QJ X.N X.env.scope scope N k R=true) Ŕ) (hs:autoParam (∀x,foldedSetIterable iter X.env x=pure x) Ŗ)
  (hf:autoParam (X.fn y=true\/X.env.scope.names.lookup y=some .local) ś):
  QS X Z pn (jq i (cLC o k R it tt u c)) (.Assign [.Name y py] (.ListComp gm [#[tg,iter,gh,0]] scope pos) f7):=
 wvg hp λaa s σ H D I hw=>qxg N k R hN hy hx (xqs hi) hg ht he gx top lq hc hk li hs hf aa s σ H D I (qjq I.len hR hr hw)
end
end
section
variable {X:Cx}{Z:Fx0}{K:Frag}{pn:List Nat}{q qa qb:Bool}{a b c:Ex}{u:Ts}{tg e ea eb:Expr}{σ:L2.St}{H:Hp}{L:Ls}{E:En}{pos p:Pos}{x:Str}{id T:String}{r:List V->Hp->VK->Prop}{f:Sd->Option Sd}{g:Sd->Sd->Option Sd}
theorem vz6:PTs X [] (tT Z q _root_.Q.tYes):=λaa s σ H Q I ax=>ex8 ax λE L r m w hc xc k=>by
 cases oq9 hc;exact vzf aa s σ H Q I (k _ _ rfl L H m w Step.refl λ_=>z9)
theorem YV(h:QT X Z q u e):PTs X [e] (tT Z q u):=vze h
theorem wvf(hc:CallR X (.builtin id) r)(ad:Ad1 Z.K (λv H Q=>r [v] H Q) f)(ha:QV X Z q a ea)(hm:X.mg x=none)(hv:bootBuiltins x=some (.builtin id))(hg:autoParam (Gl X x) Ŕ)(hn:autoParam (x≠"__name__") ŕ)(ff:autoParam (Abd x) ŕ)
  (he:autoParam (Abs ea [] X) Ŕ) (c8:autoParam (Abb pos [] X) Ŕ):QE X Z q (cF1 f a) (.Call (.Name x p) [ea] [] pos):=
 kz (kvx hc hg hm hv (vJ ha wK he) hn ff he c8) fun σ H Q h=>jz2 ad h
theorem xZ(hc:CallR X (.type T) r)(ad:Ad1 Z.K (λv H Q=>r [v] H Q) f)(ha:QV X Z q a ea)(hm:X.mg x=none)(hv:bootBuiltins x=some (.type T))(hg:autoParam (Gl X x) Ŕ)(hn:autoParam (x≠"__name__") ŕ)(ff:autoParam (Abd x) ŕ)
  (he:autoParam (Abs ea [] X) Ŕ) (c8:autoParam (Abb pos [] X) Ŕ):QE X Z q (cF1 f a) (.Call (.Name x p) [ea] [] pos):=
 kz (qxq hc hg hm hv (vJ ha wK he) hn ff he c8) fun σ H Q h=>jz2 ad h
theorem wxy:Ad1 K (λv H Q=>qx0 K [v] H Q) (pu1 qw):=by
 intro H x s Q ok hf k;unfold pu1 at hf;have fin:∀n,qw x.d=some (.int n)->Q (.int n) H:=λn e=>by
  rw[e]at hf;cases oq9 hf;exact k _ H rfl rfl QK
 cases hx:x.d with
 |lst ds=>
  obtain⟨l,xs,bs,e,q,r,_⟩:=items ok (.inl hx);refine .inl #[l,xs,by rw[e],?_,by rw[<-r.len];exact fin ds.length (by rw[hx];rfl)];rcases q with⟨_,z⟩|⟨_,z⟩
  ·exact .inl (V4 z)
  ·exact .inr z
 |tup ds=>
  obtain⟨l,xs,bs,e,q,r,_⟩:=items ok (.inr hx);refine .inl #[l,xs,by rw[e],?_,by rw[<-r.len];exact fin ds.length (by rw[hx];rfl)];rcases q with⟨_,z⟩|⟨_,z⟩
  ·exact .inl (V4 z)
  ·exact .inr z
 |str z=>
  obtain⟨e,hz⟩:=zQ ok hx;exact .inr (.inl #[z,by rw[e],hz,fin z.length (by rw[hx];rfl)])
 |_=>rw[hx]at hf;cases hf
noncomputable def wqv(K:Frag):List V->Hp->VK->Prop:=λxs H Q=>xqp K xs H Q\/(∃p ys U,xs=[.ref p,.ty U]/\SqT K H p ys/\U∈kinds.tail/\Q (.bl (wwz "tuple" U)) H)\/∃p ys U,xs=[.ref p,.ty U]/\SqL K H p ys/\U∈kinds.tail/\Q (.bl (wwz "list" U)) H
theorem vjq(hK:autoParam (X.K=K) Ŕ):CallR X (.builtin "isinstance") (wqv K):=by
 subst hK;intro aa s σ H xs us Q I r h;rcases h with h|⟨p,ys,U,rfl,hq,hU,q⟩|⟨p,ys,U,rfl,hq,hU,q⟩
 ·exact vvk aa s σ H xs us Q I r h
 ·obtain⟨u,w',rfl,r1,r2⟩:=qv5 r;cases(show w'=Value.type U from r2);cases r1;obtain⟨aj,_,⟨o,h1,h2,_⟩,_⟩:=I.tuple hq;exact Y1 PySem.W.kitx_tuple I.kIn #[o,h1,h2] (qjr ⋯ hU) (λz=>nomatch z) λtk=>#[.bl _,H,I.tok _,rfl,q]
 ·obtain⟨u,w',rfl,r1,r2⟩:=qv5 r;cases(show w'=Value.type U from r2);cases r1;obtain⟨aj,_,⟨o,n,h1,h2,_⟩,_⟩:=I.list hq;exact Y1 PySem.W.kitx_list I.kIn #[o,h1,h2] (qjr ⋯ hU) (λz=>nomatch z) λtk=>#[.bl _,H,I.tok _,rfl,q]
theorem wxz{U}(hU:U∈kinds.tail):Ad1 K (λv H Q=>wqv K [v,.ty U] H Q) (pu1 (qj U)):=by
 intro H x s Q ok hf k;unfold pu1 qj at hf;have fin:∀T,kind x.d=T->(∀c f,x.d≠.obj c f)->Q (.bl (wwz T U)) H:=λT e ho=>by
  cases hx:x.d with
  |obj c f=>exact absurd hx (ho c f)|dct kvs=>simp_all
  |_=>
   rw[hx]at hf;cases oq9 hf;rw[<-e,hx];exact k _ H rfl rfl wY
 cases hx:x.d with
 |non=>exact .inl #[x.v,"NoneType",U,rfl,by rw[vwu ok hx];exact .non,⋯,hU,fin _ (by rw[hx];rfl) (by simp_all)]|bl k=>exact .inl #[x.v,"bool",U,rfl,by rw[W0 ok hx];exact .bl _,⋯,hU,fin _ (by rw[hx];rfl) (hx▸λ_ _ z=>nomatch z)]|int k=>exact .inl #[x.v,"int",U,rfl,by rw[qk ok hx];exact .int _,⋯,hU,fin _ (by rw[hx];rfl) (hx▸λ_ _ z=>nomatch z)]|str k=>exact .inl #[x.v,"str",U,rfl,by rw[(zQ ok hx).1];exact .str _,⋯,hU,fin _ (by rw[hx];rfl) (hx▸λ_ _ z=>nomatch z)]
 |lst ds=>
  obtain⟨l,xs,bs,e,q,r,_⟩:=items ok (.inl hx);have f:=fin "list" (by rw[hx];rfl) (hx▸λ_ _ z=>nomatch z);rcases q with⟨_,z⟩|⟨z,_⟩
  ·exact .inr (.inr #[l,xs,U,by rw[e],z.sq,hU,f])
  ·simp_all
 |tup ds=>
  obtain⟨l,xs,bs,e,q,r,_⟩:=items ok (.inr hx);have f:=fin "tuple" (by rw[hx];rfl) (hx▸λ_ _ z=>nomatch z);rcases q with⟨z,_⟩|⟨_,z⟩
  ·simp_all
  ·exact .inr (.inl #[l,xs,U,by rw[e],z,hU,f])
 |dct kvs=>simp_all|obj c f=>simp_all
theorem Jq{U y p2}(ha:QV X Z q a ea)(hm:X.mg "isinstance"=none)(hmy:X.mg y=none)(hy:bootBuiltins y=some (.type U))(hK:X.K=Z.K)(hU:autoParam (U∈kinds.tail) ŕ)(hg:autoParam (Gl X "isinstance") Ŕ)(hgy:autoParam (Gl X y) Ŕ)(hny:autoParam (y≠"__name__") ŕ)(hdy:autoParam (Abd y) ŕ)
  (he:autoParam (starEach [ea,.Name y p2] X.env=(false,eval ea X.env)::starEach [.Name y p2] X.env) Ŕ) (nh:autoParam (starEach [.Name y p2] X.env=(false,eval (.Name y p2) X.env)::starEach [] X.env) Ŕ) (c8:autoParam ((backTo pos (starEach [.Name y p2] X.env)).any (·.1)=false) Ŕ):
  QE X Z q (cF1 (pu1 (qj U)) a) (.Call (.Name "isinstance" p) [ea,.Name y p2] [] pos):=
 kz (kvx (vjq hK) hg hm jxy (vJ ha (vJ (vzx (v:=.ty U) hgy hmy hy rfl hny hdy) wK nh) he) ⋯ ⋯ he c8) fun σ H Q h=>jz2 (wxz hU) h
set_option tactic.hygienic true in
theorem kzp:Ad1 K (λv H Q=>qx1 [v] H Q) (pu1 JK):=by
 intro H x s Q ok hf k;unfold pu1 JK at hf;dsimp only at hf
 split at hf
 ·rename_i i e;cases oq9 hf;exact .inl #[i,by rw[qk ok e],k _ H rfl rfl QK]
 ·rename_i i e;cases oq9 hf;exact .inr (.inl #[i,by rw[W0 ok e],k _ H rfl rfl QK])
 ·rename_i z e
  split at hf
  ·rename_i hz;cases ht:PySem.intText? z with
   |none=>grind
   |some n=>
    rw[ht]at hf;cases oq9 hf;exact .inr (.inr #[z,n,by rw[(zQ ok e).1],ht,hz,k _ H rfl rfl QK])
  ·grind
 ·grind
set_option tactic.hygienic true in
def Zq:Ad1 K (λv H Q=>qwz K [v] H Q) K6:=by
 intro H x s Q ok hf k;unfold K6 at hf;dsimp only at hf
 split at hf
 ·rename_i ds e
  split at hf
  ·rename_i hl;cases oq9 hf;obtain⟨l,xs,bs,ev,q3,r3,h3⟩:=Jx ok (.inl e) hl;have q3:LsR K H l xs:=by rcases q3 with⟨_,z⟩|⟨z,_⟩;exact z;rw[e]at z;cases z
   exact#[l,xs,by rw[ev],.inl (V4 q3),λp hp=>k _ _ rfl rfl (WJ hp r3 h3)]
  ·cases hf
 ·rename_i ds e
  split at hf
  ·rename_i hl;cases oq9 hf;obtain⟨l,xs,bs,ev,q3,r3,h3⟩:=Jx ok (.inr e) hl;have q3:SqT K H l xs:=by rcases q3 with⟨z,_⟩|⟨_,z⟩;rw[e]at z;cases z;exact z
   exact#[l,xs,by rw[ev],.inr q3,λp hp=>k _ _ rfl rfl (WJ hp r3 h3)]
  ·cases hf
 ·cases hf
noncomputable def qkx(K:Frag):List V->Hp->VK->Prop:=λxs H Q=>∃p ys,xs=[.ref p]/\((SqL K H p ys/\∀l,H l=none->Q (.ref l) (upd H l (.tup ys)))\/(SqT K H p ys/\Q (.ref p) H))
theorem vjs(hK:X.K=K):CallR X (.type "tuple") (qkx K):=by subst hK;exact kwq
set_option tactic.hygienic true in
theorem vvu:Ad1 K (λv H Q=>qkx K [v] H Q) xV:=by
 intro H x s Q ok hf k;unfold xV at hf;dsimp only at hf
 split at hf
 ·rename_i ds e
  split at hf
  ·rename_i hl;cases oq9 hf;obtain⟨l,xs,bs,ev,q3,r3,h3⟩:=Jx ok (.inl e) hl;have q3:LsR K H l xs:=by rcases q3 with⟨_,z⟩|⟨z,_⟩;exact z;rw[e]at z;cases z
   exact#[l,xs,by rw[ev],.inl #[V4 q3,λp hp=>k _ _ rfl rfl (kjw hp r3 h3)]]
  ·cases hf
 ·rename_i ds e
  split at hf
  ·rename_i hl;cases oq9 hf;obtain⟨l,xs,bs,ev,q3,r3,h3⟩:=Jx ok (.inr e) hl;have q3:SqT K H l xs:=by rcases q3 with⟨z,_⟩|⟨_,z⟩;rw[e]at z;cases z;exact z
   exact#[l,xs,by rw[ev],.inr #[q3,k #[.no,.tup ds,.ref l,bs] H rfl rfl #[z9,(#[l,xs,rfl,q3,r3]),λb hb=>(nomatch hb),Y2,λb hb=>h3 b hb]]]
  ·cases hf
 ·cases hf
theorem vjy{g}:∀{ds bs xs as},bls ds=some bs->RepA K H g ds xs as->xs=bs.map V.bl
 | [],bs,xs,as,h,r=>by
  cases oq9 h;exact r.1
 | d::ds,bs,xs,as,h,r=>by
  cases d with
  | bl b=>
   unfold bls at h;cases hb:bls ds with
   |none=>grind
   |some dr=>
    rw[hb]at h;cases oq9 h;obtain⟨x,rr,c1,c2,rfl,rfl,h1,h2⟩:=r;rw[h1.1,vjy hb h2];rfl
  |_=>unfold bls at h;cases h
set_option tactic.hygienic true in
theorem wz5:Ad1 K (λv H Q=>xjg K [v] H Q) (pu1 wzl):=by
 intro H x s Q ok hf k;unfold pu1 wzl at hf;dsimp only at hf
 split at hf
 ·rename_i ds e;cases hb:bls ds with
  |none=>simp_all
  |some bs=>
   rw[hb]at hf;cases oq9 hf;obtain⟨l,xs,cs,ev,q3,r3,_⟩:=items ok (.inl e);have q3:LsR K H l xs:=by rcases q3 with⟨_,z⟩|⟨z,_⟩;exact z;rw[e]at z;cases z
   exact#[l,bs,by rw[ev],by rw[<-vjy hb r3];exact V4 q3,k _ H rfl rfl wY]
 ·cases hf
theorem vk0{g}:∀x y s,pu2 (c2 g) x y=some s->∃k,s.2=.bl k:=by
 intro x y s h;unfold pu2 c2 at h
 split at h
 ·grind
 ·grind
theorem xq3:∀x y s,pu2 fEq x y=some s->∃k,s.2=.bl k:=by
 intro x y s h;unfold pu2 fEq at h
 split at h
 ·grind
 ·grind
theorem xq2:∀x y s,pu2 fNe x y=some s->∃k,s.2=.bl k:=by
 intro x y s h;unfold pu2 fNe at h
 split at h
 ·grind
 ·grind
theorem vx2{x y d}(h:fIn x y=some d):∃k,d=.bl k:=by
 unfold fIn at h
 split at h
 ·split at h
  ·grind
  ·grind
 ·grind
 ·split at h
  ·grind
  ·grind
 ·grind
 ·grind
theorem vvt:∀x y s,pu2 Kz x y=some s->∃k,s.2=.bl k:=by
 intro x y s h;unfold pu2 Kz at h
 split at h
 ·grind
 ·cases hf:fIn x.2 y.2 with
  |none=>grind
  |some d=>
   rw[hf]at h;cases oq9 h;exact vx2 hf
theorem jxz:∀x y s,pu2 J0 x y=some s->∃k,s.2=.bl k:=by
 intro x y s h;unfold pu2 J0 W9 at h
 split at h
 ·grind
 ·cases hf:fIn x.2 y.2 with
  |none=>rw[hf]at h;cases h
  |some d=>
   obtain⟨k,rfl⟩:=vx2 hf;rw[hf]at h;cases oq9 h;exact#[_,rfl]
theorem wxt:∀x y s,f2First fIsNon x y=some s->∃k,s.2=.bl k:=by
 intro x y s h;unfold f2First fIsNon at h
 split at h
 ·grind
 ·grind
theorem wk9:∀x y s,f2First fNotNon x y=some s->∃k,s.2=.bl k:=by
 intro x y s h;unfold f2First fNotNon at h
 split at h
 ·grind
 ·grind
theorem qkk:∀{xs us},xs.length=us.length->(∀(i:Nat) (x) (u),xs[i]?=some x->us[i]?=some u->RelV x u)->Vals xs us
 |[],[],_,_=>.nil|[],_::_,h,_=>by simp_all|x::xs,u::us,h,f=>.cons (f 0 x u (by simp) (by simp)) (qkk (by simpa using h) λi x u e1 e2=>f (i+1) x u (by simpa using e1) (by simpa using e2))
theorem wvv{p2 pos2}(ha:QV X Z q a ea)(hmr:X.mg "range"=none)(hgr:Gl X "range")(dj:starEach [ea] X.env=(false,eval ea X.env)::starEach [] X.env)(c8:(backTo pos2 (starEach [] X.env)).any (·.1)=false):PE X (.Call (.Name "range" p2) [ea] [] pos2) (fun σ H Q=>tV Z q a σ H λv H1=>∃j,v=.int j/\∀pp,H1 pp=none->Q (.ref pp) (upd H1 pp (.rng 0 j))):=by
 intro aa s σ H Q I h;refine Call_ (Q6 I hgr hmr boot_range (Ya (thn (vJ ha wK dj pos2 aa s σ H (λvs H1=>∃j,vs=[.int j]/\∀pp,H1 pp=none->Q (.ref pp) (upd H1 pp (.rng 0 j))) I ?_) λus s1 #[vs,H1,I1,r1,j,e,q1]=>?_) dj c8))
 ·grind
 ·subst e;obtain⟨u,rfl,t,rfl⟩:=r1.one;refine call_range_1 #[.ref s1.heap.objs.size,_,I1.laid (o:=.rng 0 j) (λb o e=>X2 _ e) (X8 _) #[_,_,_,Xa _ rfl],rfl,q1 _ I1.fresh]
theorem vz1{K H}(ns:List Nat):RepA K H true (ns.map λ(i:Nat)=>D.int (0+i)) (ns.map λ(i:Nat)=>V.int (0+i)) []:=by
 induction ns with
 |nil=>unfold RepA;exact#[rfl,rfl]
 |cons i ns ih=>
  exact#[_,_,[],[],rfl,rfl,vK,ih]
theorem vke{n}{aq:Array Value}(hs:aq.size=n)(hg:∀(i:Nat) u,aq[i]?=some u->∃t,u=.int (0+i*1) t):Vals ((List.range n).map λ(i:Nat)=>V.int (0+i)) aq.toList:=qkk (by simp[hs]) λi x u ex eu=>by
 rw[Yl]at eu;obtain⟨t,rfl⟩:=hg i u eu;rw[Xq]at ex;obtain⟨m,hr,rfl⟩:=Option.map_eq_some_iff.mp ex;obtain⟨_,h2⟩:=List.getElem?_eq_some_iff.mp hr;rw[List.getElem_range]at h2;subst h2;exact#[t,by rw[Int.mul_one]]
set_option tactic.hygienic true in
theorem vz8{p2 pos2}(ha:QV X Z q a ea)(hmr:X.mg "range"=none)(hml:X.mg "list"=none)(hc:autoParam (X.calm=true) Ŕ)(hgr:autoParam (Gl X "range") Ŕ)(hgl:autoParam (Gl X "list") Ŕ)
  (dj:autoParam (Abs ea [] X) Ŕ) (c8:autoParam (Abb pos2 [] X) Ŕ)
  (kh:autoParam (starEach [.Call (.Name "range" p2) [ea] [] pos2] X.env=(false,eval (.Call (.Name "range" p2) [ea] [] pos2) X.env)::starEach [] X.env) Ŕ) (hpl2:autoParam (Abb pos [] X) Ŕ):
  QE X Z q (YQ a) (.Call (.Name "list" p) [.Call (.Name "range" p2) [ea] [] pos2] [] pos):=by
 intro aa s σ H Q I ⟨E,L,r,m,w,bp,xc,k⟩;refine wpAny_Call_Name_kw (Q6 I hgl hml JW (Ya (thn (vJ (wvv ha hmr hgr dj c8) wK kh pos aa s σ H (λvs H1=>∃pp j,vs=[.ref pp]/\H1 pp=some (.rng 0 j)/\xQ j=true/\j.toNat<=big/\∀l,H1 l=none->Q (.ref l) (upd H1 l (.lst ((List.range j.toNat).map λ(i:Nat)=>V.int (0+(i)))))) I ?_) λus s1 #[vs,H1,I1,r1,pp,j,e,hp,h62,r9,q1]=>?_) kh hpl2))
 ·refine v9 m w (bp) xc λE1 s h1 x L1 H1 e1 e2 m1 w1 ok fr sr st sm=>?_
  cases hx:s.2 with
  | int j=>
   rw[hx]at h1;dsimp only at h1
   split at h1
   ·rename_i hj;cases oq9 h1;refine#[j,qk ok (e2.trans hx),λpp hpp=>#[pp,j,rfl,vx,hj.1,hj.2,λl hl=>?_]];have s1:k7 H1 (upd H1 pp (.rng 0 j)):=vz hpp;have w2:World Z.K _ L1:=#[λx hx=>RepO.kp (w1.ok x hx) (Kp.of_same s1),w1.nd,w1.ds];have o:=WJ (K:=Z.K) (fr:=[]) hl (vz1 (List.range j.toNat)) (λ_ z=>(nomatch z));obtain⟨w3,dl⟩:=V1 w2 (st.trans #[λb ob z _=>s1 b ob z,λb z=>.inl z,λb z=>.inl z]) o (λ_ z=>(nomatch z)) (λ_ z=>(nomatch z)) (λ_ z=>(nomatch z));refine k _ _ rfl #[.rt,.lst _,.ref l,[l]] L1 _ rfl rfl m1 (by simpa [k8]using w3) (by simpa [k8]using dl) λhq=>#[kX (sm hq) (kX s1 o.same),λb hb=>?_]
    have:b=l:=by simpa [Sl.own]using hb
    subst this;exact J8 (kX (sm hq) s1) hl
   ·cases h1
  |_=>rw[hx]at h1;cases h1
 ·subst e;obtain⟨u,rfl,rx⟩:=r1.one;cases rx;obtain⟨t1,t2,t3,hg⟩:=(I1.hok pp _ hp);obtain⟨j1,j2⟩:=jz9 h62;have e2:Builtin.Range.rangeSize 0 j 1=((j.toNat:Nat):Int):=by rw[rangeSize_one];split<;>lia
  refine call_list_range (I1.ok.hd hc) (hg) (small_one ⋯ ⋯ j1 j2) e2 r9 λh' tk jn c' kp e4 lj=>?_
  obtain⟨hs,qp⟩:=lj;refine#[.ref s1.heap.objs.size,_,I1.laid (o:=.lst _) (t':=tk) kp (X8 _) #[by rw[X3,Yd];exact r9,jn.toList,c',vke hs qp,by simpa using e4],rfl,q1 _ I1.fresh]
end
end Q
namespace Q
open PySem
noncomputable def WQ(n d:Nat):Option Int->Nat
 |none=>d|some v=>if v<0 then(v+(n:Int)).toNat else min v.toNat n
noncomputable def V2(xs:List D)(lo hi:Option Int):List D:=(xs.drop (WQ xs.length 0 lo)).take (WQ xs.length xs.length hi - WQ xs.length 0 lo)
noncomputable def fSl:Sd->Option Int->Option Int->Option Sd:=λx lo hi=>match x.2 with
 |.lst xs=>if qQ x then some (.rt,.lst (V2 xs lo hi))else none|.tup xs=>if qQ x/\¬(WQ xs.length 0 lo=0/\WQ xs.length xs.length hi=xs.length)then some (.no,.tup (V2 xs lo hi))else none|.str z=>if(Txt.slice z lo hi).length<=big then some (.dp,.str (Txt.slice z lo hi))else none|_=>none
noncomputable def XY:Option Ex->Ev (Option Int)
 |none,E=>some (.ok E none)
 |some c,E=>bnd (c E) λE x=>match x.2 with
  |.int i=>some (.ok E (some i))|_=>none
noncomputable def cSl(a:Ex)(lo hi:Option Ex):Ex:=λE=>bnd (a E) λE x=>bnd (XY lo E) λE l=>bnd (XY hi E) λE h=>val E (fSl x l h)
noncomputable def zw:Nat->List D->List D
 |_,[]=>[]|k,d::ds=>.tup [.int k,d]::zw (k+1) ds
noncomputable def x4:List D->List D->List D
 |a::x,b::y=>.tup [a,b]::x4 x y|_,_=>[]
def lstOf:D->Option (List D)
 |.lst xs=>some xs|_=>none
noncomputable def wwy(c:Ex):Ev (List D):=λE=>bnd (c E) λE x=>val E ((lstOf x.2).map (zw 0))
noncomputable def Q4:List D->Option (List Str)
 |[]=>some []|.str z::ds=>(Q4 ds).map (z :: ·)|_=>none
noncomputable def kqs:D->D->Option D:=λxs x=>match xs with
 |.lst ys=>if x.flat 30&&D.flats 30 ys then(ys.findIdx? λz=>peq z x).map λ(j:Nat)=>D.int (j:Int)else none|.tup ys=>if x.flat 30&&D.flats 30 ys then(ys.findIdx? λz=>peq z x).map λ(j:Nat)=>D.int (j:Int)else none|_=>none
def isSq:D->Bool
 |.lst _=>true|.tup _=>true|_=>false
noncomputable def JQ(a b:Ex):Ex:=λE=>bnd (a E) λE x=>if isSq x.2 then bnd (b E) λE y=>val E (pu2 kqs x y)else none
noncomputable def wxo(i:Nat)(c:Ex):Ex:=λE=>if WV E[i]? then bnd (c E) λE x=>match E[i]?,x.2 with
 | some (some (o,.lst xs)),.int k=>if o=.no then none else(match ixN xs.length k with
  |some j=>(match xs[j]? with
   |some d=>if d.pure&&xQ k then some (.ok (E.set i (some (o,.lst (xs.eraseIdx j)))) (.dp,d))else none
   |none=>none)
  |none=>none)
 |_,_=>none
 else none
noncomputable def Vv(f:Fn)(cs:List Ex):Ex:=λE=>bnd (v8 cs E) λE xs=>match f (letAll xs)with
 |some (.ok _ y)=>if y.2.pure then some (.ok E (.dp,y.2))else none|some (.exc _ c)=>some (.exc E c)|none=>none
noncomputable def K8:Sd->Sd->Option Sd:=λx y=>match x.2,y.2 with
 |.tup a,.int k=>if -(2 ^ 63)<=k/\k<2 ^ 63/\a.length*k.toNat<=big/\qQ x then some (.no,.tup (List.replicate k.toNat a).flatten)else none|_,_=>wxe x y
def sRz(c:Str):Sm:=λE=>some (.xc E c)
noncomputable def kzj(f:Fn)(cs:List Ex):Ex:=λE=>match v8 cs E with
 |some (.ok E xs)=>(match f (letAll xs)with
  |some (.ok _ y)=>some (.ok E y)|some (.exc _ c)=>some (.exc E c)
  |none=>none)
 |_=>none
noncomputable def vw1(i:Nat):Option Fl->Option Fl
 |some (.nx E)=>some (.nx (E.set i none))|some (.rt E x)=>some (.rt (E.set i none) x)|some (.ct E)=>some (.ct (E.set i none))|some (.bk E)=>some (.bk (E.set i none))|_=>none
noncomputable def V8(cs:List Str)(i:Nat)(b h:Sm):Sm:=λE=>match b E with
 |some (.xc E c)=>if c∈cs then vw1 i (h (E.set i (some (.no,.obj c []))))else none|r=>r
noncomputable def Wx(t:List (Str×Bool)):D->Option D
 |.obj c _=>(t.lookup c).map .bl|_=>none
def xkf:D->Bool
 |.tup _=>true|_=>false
def J6(x:D):Bool:=v6 6 x&&xkf x
noncomputable def wx1:Option (Option Sd)->Bool
 |some (some (.rt,.dct _))=>true|_=>false
noncomputable def vvo(kc vc:Ex):Ex:=λE=>bnd (kc E) λE k=>bnd (vc E) λE v=>if J6 k.2=true then some (.ok E (.rt,.dct [(k.2,v.2)]))else none
noncomputable def WK:Sd->Option Sd:=λx=>match x.2 with
 |.dct kvs=>if kvs.length<=big/\unm kvs=true then some (.rt,.lst (kvs.map (·.1)))else none|_=>none
noncomputable def xkn : Sd -> D -> D -> Option D:= λs k v=>match s,k with
  |(o,.lst xs),.int j=>if o = .no then none else(ixN xs.length j).map λn=>.lst (xs.set n v)|_,_=>none
def wql:Nat->Ex->Ex->Sm:=wqk WV xkn
def mkD:D×D:=(.str "",.non)
noncomputable def wv(kv:List (Int×Int)):D:=.dct (mkD::kv.map λp=>(.int p.1,.int p.2))
noncomputable def qvr : List (D × D) -> Option (List (Int × Int))
  |[]=>some []|(.int k,.int v)::r=>(qvr r).map ((k,v):: ·)|_=>none
noncomputable def JX:D->Option (List (Int×Int)):=λd=>match d with
 |.dct ((.str _,.non)::kvs)=>qvr kvs|_=>none
noncomputable def qz(kv:List (Int×Int))(k:Int):Option Int:=(kv.find? λp=>decide (p.1=k)).map (·.2)
noncomputable def wq(kv:List (Int×Int))(k v:Int):List (Int×Int):=if(kv.any λp=>decide (p.1=k))=true then kv.map (λp=>if p.1=k then(p.1,v)else p)else kv++[(k,v)]
def wk4:Ex:=λE=>some (.ok E (.rt,wv []))
noncomputable def XZ:D->D->Option D:=λx y=>match x,JX y with
 |.int k,some kv=>some (.bl (qz kv k).isSome)|_,_=>none
noncomputable def kkd:D->D->Option D:=λx y=>match x,JX y with
 |.int k,some kv=>some (.bl (!(qz kv k).isSome))|_,_=>none
noncomputable def wxf:D->D->Option D:=λy x=>match x,JX y with
 |.int k,some kv=>(qz kv k).map .int|_,_=>none
noncomputable def wza(a b:Ex):Ex:=λE=>bnd (a E) λE x=>bnd (b E) λE y=>val E ((wxf x.2 y.2).map λd=>(.dp,d))
noncomputable def vj9:D->D->D->Option D:=λy x e=>match x,e,JX y with
 |.int k,.int z,some kv=>some (.int ((qz kv k).getD z))|_,_,_=>none
def wx3(d:D):Bool:=(JX d).isSome
noncomputable def vkg(a b c:Ex):Ex:=λE=>bnd (a E) λE x=>if wx3 x.2=true then bnd (b E) λE y=>bnd (c E) λE z=>val E ((vj9 x.2 y.2 z.2).map λd=>(.dp,d))else none
noncomputable def wjo : Sd -> D -> D -> Option D:= λs k v=>match s,k,v with
  |(.rt,d),.int a,.int b=>(JX d).bind λkv=>if kv.length<big then some (wv (wq kv a b))else none|_,_,_=>none
def vxz:Nat->Ex->Ex->Sm:=wqk wx1 wjo
noncomputable def Vk:List D->Option (List (Int×Int))
 |[]=>some []|.tup [.int a,.int b]::r=>(Vk r).map ((a,b):: ·)|_=>none
noncomputable def Z9:Sd->Option Sd:=λx=>match x.2 with
 |.lst ds=>(match Vk ds with
  |some ps=>if ps.length<big then some (.rt,wv (ps.foldl (λkv p=>wq kv p.1 p.2) []))else none
  |none=>none)
 |_=>none
noncomputable def vj8(z:Str):D->Option D:=λd=>match d with
 |.lst ds=>(match Q4 ds with
  |some ys=>if(ys.map (·.length)).sum+ys.length*z.length<=100000 then some (.str (Txt.join z ys))else none
  |none=>none)
 |_=>none
noncomputable def vvn(z:Str)(c:Ex):Ex:=λE=>bnd (c E) λE x=>val E ((vj8 z x.2).map λd=>(.dp,d))
def vkj:D->Option (List D)
 |.tup xs=>some xs|_=>none
noncomputable def qzp(c:Ex):Ev (List D):=λE=>bnd (c E) λE x=>val E ((vkj x.2).map (zw 0))
noncomputable def itV(i:Nat):Ev (List D):=λE=>match E[i]? with
 |some (some (_,.lst ds))=>if D.pures ds=true then some (.ok E ds)else none|_=>none
noncomputable def JZ(x:Sd):Bool:=ww x||(x.1 == .rt&&(match x.2 with
 |.lst ds=>D.pures ds
 |_=>false))
noncomputable def D.at:List Nat->D->Option D
 |[],d=>some d
 |n::p,.tup ds=>match ds[n]? with
  |some d=>D.at p d|none=>none
 |n::p,.lst ds=>match ds[n]? with
  |some d=>D.at p d|none=>none
 |_::_,_=>none
noncomputable def D.put(d':D):List Nat->D->D
 |[],_=>d'
 |n::p,.tup ds=>match ds[n]? with
  |some d=>.tup (ds.set n (D.put d' p d))|none=>.tup ds
 |n::p,.lst ds=>match ds[n]? with
  |some d=>.lst (ds.set n (D.put d' p d))|none=>.lst ds
 |_::_,d=>d
noncomputable def sPA(i:Nat)(p:List Nat)(c:Ex):Sm:=λE=>match E[i]? with
 |some (some (.dp,d))=>(match D.at p d with
  |some (.lst ds)=>if ds.length<big then ofE (c (E.set i none)) λE1 x=>if x.2.pure=true then some (.nx (E1.set i (some (.dp,D.put (.lst (ds++[x.2])) p d))))else none else none
  |_=>none)
 |_=>none
noncomputable def sPC(i:Nat)(p:List Nat):Sm:=λE=>match E[i]? with
 |some (some (.dp,d))=>(match D.at p d with
  |some (.lst _)=>some (.nx (E.set i (some (.dp,D.put (.lst []) p d))))
  |_=>none)
 |_=>none
noncomputable def zW(c:Ex):Ex:=λE=>bnd (c E) λE x=>if JZ x=true then some (.ok E (.dp,x.2))else none
noncomputable def W3:D->Option D
 |.dct kvs=>if unm kvs=true then some (.int kvs.length)else none|_=>none
noncomputable def wzj:Option (Option Sd)->Bool
 |some (some (.rt,.dct kvs))=>unm kvs|_=>false
noncomputable def xv(kvs:List (D×D))(k:D):Option D:=(kvs.find? λp=>decide (p.1=k)).map (·.2)
noncomputable def vjv(i:Nat)(kc vc:Ex):Ex:=λE=>if wzj E[i]?=true then bnd (kc E) λE k=>bnd (vc E) λE v=>(match E[i]? with
 |some (some (.rt,.dct kvs))=>if J6 k.2=true/\kvs.length<big/\unm kvs=true/\v.2.pure=true/\D.pures (kvs.map (·.2))=true then(match xv kvs k.2 with
  |some d=>some (.ok E (.dp,d))
  |none=>some (.ok (E.set i (some (.rt,.dct (kvs++[(k.2,v.2)])))) (.dp,v.2)))else none
 |_=>none)else none
noncomputable def kv3(f:Fn)(i:Nat)(cs:List Ex):Ex:=λE=>bnd (v8 cs E) λE xs=>match E[i]? with
 | some (some x)=>(match f (letAll xs++[x])with
  |some (.ok E' y)=>(match E'[xs.length]? with
   |some (some x')=>some (.ok (E.set i (some x')) y)
   |_=>none)
  |some (.exc _ c)=>some (.exc (E.set i none) c)
  |none=>none)
 |_=>none
noncomputable def vj7:D->D->Option (List D)
 |.lst xs,.lst ys=>if xs.length<=big then some (x4 xs ys)else none|.tup xs,.tup ys=>if xs.length<=big/\xs.length=ys.length then some (x4 xs ys)else none|_,_=>none
noncomputable def kz0(c d:Ex):Ev (List D):=λE=>bnd (c E) λE x=>bnd (d E) λE y=>val E (vj7 x.2 y.2)
noncomputable def Qk(E:En):List (Int ⊕ Nat)->Option (List Int)
 |[]=>some []|.inl z::r=>(Qk E r).map (z :: ·)
 |.inr m::r=>match E[m]? with
  |some (some (_,.int z))=>(Qk E r).map (z :: ·)|_=>none
noncomputable def zZ:List Int->D->Option (List Nat)
 | [],_=>some []
 | z::r,.tup ds=>(match ixN ds.length z with
  |some n=>(match ds[n]? with
   |some d=>(zZ r d).map (n :: ·)
   |none=>none)
  |none=>none)
 | z::r,.lst ds=>(match ixN ds.length z with
  |some n=>(match ds[n]? with
   |some d=>(zZ r d).map (n :: ·)
   |none=>none)
  |none=>none)
 |_::_,_=>none
noncomputable def wkf(i:Nat)(ps:List (Int ⊕ Nat))(c:Ex):Sm:=λE=>match E[i]?,Qk E ps with
 |some (some (_,d)),some zs=>(match zZ zs d with
  |some p=>sPA i p c E
  |none=>none)
 |_,_=>none
noncomputable def XV:Nat->Nat->D->Option D
 |0,_,d=>some d
 |n+1,k,d=>match D.at [k] d with
  |some (.tup [_,_,.lst _])=>XV n (k+1) (D.put (.lst []) [k,2] d)|_=>none
noncomputable def kxa(i r1 r2 r3:Nat)(p:List Nat):Sm:=λE=>match E[i]? with
 | some (some (.dp,d))=>(match D.at p d with
  |some (.lst ds)=>if r1<E.length/\r2<E.length/\r3<E.length then(match XV ds.length 0 (.lst ds)with
   |some d1=>some (.nx (((((E.set i none).set r1 none).set r2 none).set r3 none).set i (some (.dp,D.put d1 p d))))
   |none=>none)else none
  |_=>none)
 |_=>none
def xz(F:Fn->Fn):Nat->Fn
 |0=>λ_=>none|n+1=>F (xz F n)
end Q
namespace Q
open PySem PySem.Spec PyProof.Rows L2 L3
section
variable {X:Cx}{Z:Fx0}{K:Frag}{pn:List Nat}{q qa qb:Bool}{a b c:Ex}{u:Ts}{tg e ea eb:Expr}{st:Stmt}{σ:L2.St}{H:Hp}{L:Ls}{E:En}{pos p p2:Pos}{x:Str}
theorem qwc{us ns}(h:IntsAre us ns):Vals (ns.map V.int) us:=by
 induction h with|nil=>exact .nil|cons y t _ ih=>exact .cons #[t,rfl] ih
theorem qkq{g}:∀{ds bs xs as},Q4 ds=some bs->RepA K H g ds xs as->xs=bs.map V.str/\∀z∈bs,z.length<=sizeLine
 | [],bs,xs,as,h,r=>by
  cases oq9 h;unfold RepA at r
  simp_all
 | d::ds,bs,xs,as,h,r=>by
  cases d with
  | str b=>
   unfold Q4 at h;cases hb:Q4 ds with
   |none=>grind
   |some dr=>
    rw[hb]at h;cases oq9 h;obtain⟨x,rr,c1,c2,rfl,rfl,h1,h2⟩:=r;unfold RepL at h1;obtain _:=qkq hb h2
    simp_all
  |_=>unfold Q4 at h;cases h
noncomputable def tPo(Z:Fx0):Option Ex->TO
 |none=>qwg|some c=>wq7 (tV Z true c)
theorem vky:PO X none (tPo Z none):=vzn
theorem vkx(h:QV X Z true c e):PO X (some e) (tPo Z (some c)):=vzm h
theorem qxk{α co F}{r:Res α}{G}(m:Mt E σ L)(w:World Z.K H L)(h:bnd (XY co E) F=some r)(xc:Xc Z σ H L r)
  (k:∀E1 l,F E1 l=some r->∀L1 H1,Mt E1 σ L1->World Z.K H1 L1->Step H L H1 L1->k7 H H1->G l H1):tPo Z co σ H G:=by
 cases co with
 | none=>exact k E none h L H m w Step.refl z9
 | some c=>
  have h:bnd (bnd (c E) λE x=>match x.2 with|.int i=>some _|_=>none) F=some r:=h;have h':bnd (c E) (λE x=>bnd (match x.2 with|.int i=>some (.ok E (some i))|_=>none) F)=some r:=by
   cases hc:c E with|none=>rw[hc]at h;exact h|some y=>rw[hc]at h;cases y<;>exact h
  show tV Z true c σ H λx H1=>∃i,x=.int i/\G (some i) H1
  refine v9 m w h' xc λE1 s h1 x L1 H1 e1 e2 m1 w1 ok fr sr st sm=>?_
  cases hs:s.2 with
  |int i=>
   rw[hs]at h1;exact#[i,qk ok (e2.trans hs),k E1 _ h1 L1 H1 m1 w1 st (sm rfl)]
  |_=>rw[hs]at h1;cases h1
theorem RepA.drop{K H g}:∀n {ds xs as},RepA K H g ds xs as->∃bs,RepA K H g (ds.drop n) (xs.drop n) bs/\∀b∈bs,b∈as
 |0,ds,xs,as,h=>#[as,h,λ_ h=>h]
 |n+1,[],xs,as,h=>by
  obtain⟨rfl,rfl⟩:=h;exact#[[],#[rfl,rfl],λ_ h=>h]
 |n+1,d::ds,xs,as,h=>by
  obtain⟨x,r,bs,cs,rfl,rfl,h1,h2⟩:=h;obtain⟨es,r2,hb⟩:=RepA.drop n h2;exact#[es,r2,λb h=>lr9 _ (hb b h)]
theorem RepA.take{K H g}:∀n {ds xs as},RepA K H g ds xs as->∃bs,RepA K H g (ds.take n) (xs.take n) bs/\∀b∈bs,b∈as
 |0,ds,xs,as,h=>#[[],#[rfl,rfl],λ_ h=>nomatch h]
 |n+1,[],xs,as,h=>by
  obtain⟨rfl,rfl⟩:=h;exact#[[],#[rfl,rfl],λ_ h=>h]
 |n+1,d::ds,xs,as,h=>by
  obtain⟨x,r,bs,cs,rfl,rfl,h1,h2⟩:=h;obtain⟨es,r2,hb⟩:=RepA.take n h2;exact#[bs++es,(#[x,r.take n,bs,es,rfl,rfl,h1,r2]),λb h=>(aA h).elim (λz=>ll9 _ z) λz=>lr9 _ (hb b z)]
theorem RepA.cut{K H g ds xs as}(h:RepA K H g ds xs as)(lo hi):∃bs,RepA K H g (V2 ds lo hi) (Zw xs lo hi) bs/\∀b∈bs,b∈as:=by
 unfold V2 Zw;rw[<-h.len];obtain⟨bs,r,hb⟩:=h.drop _;obtain⟨cs,r2,hc⟩:=r.take _;exact#[cs,r2,λb h=>hb b (hc b h)]
set_option tactic.hygienic true in
theorem vxs{x:Sl}{s lo hi Q}(ok:x.ok K H)(hf:fSl (x.o,x.d) lo hi=some s)(k:∀z H',z.o=s.1->z.d=s.2->Out K H H' z x.frz->Q z.v H'):vwa K x.v lo hi H Q:=by
 unfold fSl at hf;cases hx:x.d with
 | lst ds=>
  rw[hx]at hf;dsimp only at hf
  split at hf
  ·rename_i hl;cases oq9 hf;obtain⟨l,xs,bs,ev,q3,r3,h3⟩:=Jx ok (.inl hx) (hx▸hl);have q3:LsR K H l xs:=by rcases q3 with⟨_,z⟩|⟨z,_⟩;exact z;rw[hx]at z;cases z
   obtain⟨cs,r4,h4⟩:=r3.cut lo hi;exact .inl #[l,xs,ev,V4 q3,λp hp=>k _ _ rfl rfl (WJ hp r4 λb hb=>h3 b (h4 b hb))]
  ·cases hf
 | tup ds=>
  rw[hx]at hf;dsimp only at hf
  split at hf
  ·rename_i hl;cases oq9 hf;obtain⟨l,xs,bs,ev,q3,r3,h3⟩:=Jx ok (.inr hx) (hx▸hl.1);have q3:SqT K H l xs:=by rcases q3 with⟨z,_⟩|⟨_,z⟩;rw[hx]at z;cases z;exact z
   obtain⟨cs,r4,h4⟩:=r3.cut lo hi;refine .inr (.inl #[l,xs,ev,q3,?_,λp hp=>k _ _ rfl rfl (kjw hp r4 λb hb=>h3 b (h4 b hb))]);rw[<-r3.len];exact hl.2
  ·cases hf
 | str z=>
  rw[hx]at hf;dsimp only at hf
  split at hf
  ·rename_i hl;cases oq9 hf;obtain⟨e,hz⟩:=zQ ok hx;exact .inr (.inr #[z,e,hz,k _ H rfl rfl (xk2 hl)])
  ·cases hf
 |_=>simp_all
theorem wzf{lo hi elo ehi}(ha:QV X Z q a ea)(hl:PO X elo (tPo Z lo))(hh:PO X ehi (tPo Z hi))(hK:autoParam (X.K=Z.K) Ŕ):QE X Z q (cSl a lo hi) (.Subscript ea (.Slice elo ehi none p2) pos):=
 kz (vqd (xj6 Z.K hK) ha hl hh) fun σ H Q ax=>ex8 ax λE L r m w hc xc k=>by
  refine v9 m w (hc) xc λE1 s h1 x L1 H1 e1 e2 m1 w1 ok fr sr st sm=>(qxk m1 w1 h1 (xc.step st) λE2 l h2 L2 H2 m2 w2 cf f9=>(qxk m2 w2 h2 (xc.step (st.trans cf)) λE3 u h3 L3 H3 m3 w3 dl sw=>?_))
  obtain⟨z,hz,rfl⟩:=zj h3;have k1:=W1 ok fr cf f9;have k2:=W1 k1.1 k1.2 dl sw;refine vxs k2.1 (by rw[e1,e2];exact hz) λy H' ho hd o=>?_
  obtain⟨w4,i'⟩:=V1 w3 ((st.trans cf).trans dl) o k2.2 (λb hb=>k2.1.some (Sl.frz_as hb)) (jxg sr λb hb=>Sl.frz_as hb);have j':=λhq=>kX (sm hq) (kX f9 sw)
  exact k _ _ rfl y L3 H' ho hd m3 w4 i' λhq=>#[kX (j' hq) o.same,λb hb=>J8 (j' hq) (o.new b hb)]
noncomputable def tAV(Z:Fx0)(cs:List Ex):TA:=fun σ H Q=>∃E L r,Mt E σ L/\World Z.K H L/\v8 cs E=some r/\Xc Z σ H L r /\
 ∀E' ys,r=.ok E' ys->∀(xs:List Sl) L' H',xs.map Sl.sd=ys->Mt E' σ L'->World Z.K H' L'->(∀x∈xs,x.ok Z.K H')->Step H L H' L'->k7 H H'->Q (xs.map Sl.v) H'
noncomputable def QAV(X:Cx)(Z:Fx0)(cs:List Ex)(es:List Expr):Prop:=PA X es (tAV Z cs)
theorem vq2:QAV X Z [] []:=WY wK fun σ H Q ax=>ex8 ax λE L r m w hc xc k=>by
 cases oq9 hc;exact k _ _ rfl [] L H rfl m w (λ_ z=>nomatch z) Step.refl z9
theorem Vw{cs es}(h:QV X Z true c e)(hs:QAV X Z cs es)(dj:autoParam (Abs e es X) Ŕ):QAV X Z (c::cs) (e::es):=
 WY (vJ h hs dj) fun σ H Q ax=>ex8 ax λE L r m w hc xc k=>by
  refine v9 m w (hc) xc λE1 s h1 x L1 H1 e1 e2 m1 w1 ok fr sr st sm=>?_
  rcases x6 h1 with⟨E2,ys,h2,h3⟩|⟨E2,cc,h2,h3⟩
  ·cases oq9 h3;refine#[E1,L1,_,m1,w1,h2,(λ_ _ z=>by cases z),λE' xg z xs L2 H2 e3 m2 w2 i3 cf f9=>?_];injection z with z1 z2;subst z1 z2;refine k _ _ rfl (x::xs) L2 H2 (by rw[List.map_cons,e3];simp[Sl.sd,e1,e2]) m2 w2 (λy hy=>?_) (st.trans cf) (kX (sm rfl) f9);rcases aD hy with rfl|hy
   ·exact(W1 ok fr cf f9).1
   ·exact i3 y hy
  ·exact#[E1,L1,_,m1,w1,h2,(xc.step st).map h3,λE' s' z=>by cases z]
set_option tactic.hygienic true in
theorem kvu{k n ps f cs es}(D:jW X.prog X.w X.K X.mg X.base k x ps (spF Z.K Z.mg n f))(hr:Room k X.A)(g:xq X Z.EX)(ha:QAV X Z cs (e::es))(hn:autoParam (cs.length=n) Ŕ)(hg:autoParam (Gl X x) Ŕ)(ff:autoParam (Abd x) ŕ)
  (he:autoParam (Abs e es X) Ŕ) (c8:autoParam (Abb pos es X) Ŕ):
  QE X Z true (Vv f cs) (.Call (.Name x p) (e::es) [] pos):=kz (qxp D hr g ha hg ff he c8) fun σ H Q ax=>ex8 ax λE L r m w hc xc kk=>by
 rcases x6 hc with⟨E1,ys,h1,h2⟩|⟨E1,cc,h1,h2⟩
 rotate_left
 ·exact#[E,L,_,m,w,h1,xc.map h2,λE' s' z=>by cases z]
 refine#[E,L,_,m,w,h1,(λ_ _ z=>by cases z),λE' xg z xs L1 H1 e1 m1 w1 ok1 st sm=>?_];injection z with z1 z2;subst z1 z2;rw [Xn];have av:xs.length=n:=by rw[<-hn,<-ZX h1,<-e1,X3]
 cases hf:f _ with
 | none=>rw[hf]at h2;cases h2
 | some fr=>
  rw[hf]at h2;have ev:xs.map Sl.v=(xs.map Sl.let).map Sl.v:=by rw[Xj];rfl
  have wl:World Z.K H1 ((xs.map Sl.let).map some):=by
   refine#[λy hy=>?_,by rw[KY];exact Y2,λa ha=>by rw[KY]at ha;exact nomatch ha];obtain⟨y',uu,e⟩:=aE hy;cases e;obtain⟨t,ht,rfl⟩:=aE uu;exact J3 (ok1 t ht)
  rw[ev];refine#[xs.map Sl.let,fr,rfl,by rw[X3];exact av,wl,by rw[<-e1]at hf;rw[kwd];exact hf,λE' c ee C H' hm s'=>?_,λE' a ee y H' e2 e3 w' s'=>?_]
  ·subst ee;cases oq9 h2;have lw:=λb ob hb=>s'.keep b ob hb λz=>by rw[KY]at z;exact nomatch z
   exact xc _ _ rfl C L1 H' hm m1 #[λy hy=>RepO.kp (w1.ok y hy) (Kp.of_same lw),w1.nd,w1.ds] (st.trans #[λb ob hb _=>lw b ob hb,λ_ h=>.inl h,λ_ h=>.inl h])
  ·subst ee;dsimp only at h2
   split at h2
   ·rename_i hp;cases oq9 h2;have lw:=λb ob hb=>s'.keep b ob hb λz=>by rw[KY]at z;exact nomatch z
    have w2:World Z.K H' L1:=#[λy hy=>RepO.kp (w1.ok y hy) (Kp.of_same lw),w1.nd,w1.ds];obtain⟨z,rp⟩:=RepL.pu (g':=false) (RepO.wk (w'.ok y X4)) (e3▸hp);exact kk _ _ rfl #[.dp,y.d,y.v,[]] L1 H' rfl e3 m1 (w2.consPu rp rfl) (Jz (st.trans #[λb ob hb _=>lw b ob hb,λ_ h=>.inl h,λ_ h=>.inl h]) (λb hb=>nomatch hb) rfl) λ_=>#[kX sm lw,λ_ z=>(nomatch z)]
   ·cases h2
end
theorem wq3{prog w A E s t items x}{e:Value->Bool}{j}{Q}
  (ht:IsTup s.heap t items) (he:∀y∈items,SeqAt.EqAt A.in1 s y x (e y)) (hj) (h1:e items[j]=true) (h2:∀m (hm:m<items.size),m<j->e items[m]=false)
  (h:Q (.int j s.toks) {s with toks:=s.toks+1}):wpAny (model prog w) A (call (.builtin "tuple.index") [.ref t,x]) Q E s:=by
 refine Y6 PySem.F.slot_tuple_index ht.typeIs PySem.F.entry_tuple_index ?_ (PySem.F.args_tuple_index_2 _ _);show wpAny _ _ (Builtin.Tuple.tupleItemsOf _ >>= _) _ _ s;refine X0 (tupleItemsOf_ ht ?_);dsimp only;refine X0 (X5 (X0 (X5 ?_)));rw[Std.Legacy.Range.forIn_eq_forIn_range'];refine X0 (wpAny_forIn_list _ (λao b s'=>b=_/\s'=s/\∃k,k<=j/\ao=List.range' k (items.size - k)) _ ?_ ?_ _ _ #[rfl,rfl,0,Yg _,?_])
 ·rintro i ao b s' ⟨rfl,rfl,k,hk,hr⟩;obtain⟨n,hn⟩:∃n,items.size - k=n+1:=#[items.size - k - 1,⋯];rw[hn]at hr;injection hr with hi vd;subst hi;have hi:i<items.size:=⋯
  rw[show items[i]?=some items[i]from Array.getElem?_eq_getElem hi];refine X0 (he items[i] (Array.getElem_mem hi) _ _ _ _ ?_)
  by_cases hij:i=j
  ·subst hij;rw[h1];exact X0 (X0 (wpAny_mkInt (X5 (X5 (X5 #[_,rfl,h])))))
  ·rw[h2 i hi ⋯];refine X5 #[rfl,rfl,i+1,⋯,?_]
   grind
 ·rintro b s' ⟨rfl,rfl,k,hk,hr⟩
  grind
 ·simp
theorem xja{prog w A E s l items k t}{Q}
  (ht:IsTup s.heap l items) (h:Q .notImplemented s):wpAny (model prog w) A (call (.builtin "int.__rmul__") [.int k t,.ref l]) Q E s:=by
 refine Y6 PySem.F.slot_int_rmul (typeIs_int s k t) PySem.F.entry_int_rmul ?_ (PySem.F.args_int_rmul_2 _ _);obtain⟨o,e,c,n,hd⟩:=ht;show wpAny _ _ (asInt? _ >>= _) _ _ s;refine X0 (X0 (wpAny_load e ?_));rw[hd];exact X5 (X0 (wpAny_rule (X5 #[_,rfl,h])))
theorem mulT{prog w A E s l items k t}{Q}
  (ht:IsTup s.heap l items) (h1:-(2 ^ 63)<=k) (h2:k<2 ^ 63) (hz:items.size*k.toNat<=sizeLine)
  (uj:(items.isEmpty=true\/k=1)->Q (.ref l) s)
  (hsz:(List.foldl (λx1 x2=>x1++x2) (List.toArray []) (List.replicate k.toNat items)).size<=sizeLine)
  (ij:Q (.ref s.heap.objs.size) {s with heap:=s.heap.push {cls:=.type "tuple",data:=.seq (List.foldl (λx1 x2=>x1++x2) (List.toArray []) (List.replicate k.toNat items))}})
  : wpAny (model prog w) A (call (.builtin "tuple.__mul__") [.ref l,.int k t]) Q E s:=by
 refine Y6 PySem.F.slot_tuple_mul ht.typeIs PySem.F.entry_tuple_mul ?_ (PySem.F.args_tuple_mul_2 _ _);show wpAny _ _ (if _=true then _ else _) _ _ s;rw[Xe ⋯];refine X0 (tupleItemsOf_ ht ?_)
 by_cases hs:(items.isEmpty||k==1)=true
 ·rw[Xb hs];refine X0 (X0 (wpAny_typeOf ht.typeIs (X5 (X0 (wpAny_rule (X5 #[_,rfl,uj ?_]))))))
  simpa using hs
 ·rw[Xe hs];have cp:items.isEmpty=false:=by
   grind
  have hm:((items.size:Int)*k)<=sizeLine\/k<=0:=by
   by_cases hk:k<=0
   ·exact .inr hk
   ·grind
  dsimp only
  by_cases hk:k<=0
  ·rw[Xb (by simp[hk])];have e:k.toNat=0:=⋯
   rw[e]at ij;exact X0 (Yi (X5 #[_,rfl,ij]) (Yg _))
  ·rw[Xe (by simp[hk,cp])];have hm:=hm.resolve_right hk;have jb:(sizeLine:Int)=16777216:=⋯
   rw[Xe ⋯,Xe (by unfold Builtin.Tuple.tupleTooMany;lia)];exact X0 (Yi (X5 #[_,rfl,ij]) hsz)
section
variable {X:Cx}{Z:Fx0}{K:Frag}{pn:List Nat}{q qa qb:Bool}{a b c:Ex}{u:Ts}{tg e ea eb:Expr}{st:Stmt}{σ:L2.St}{H:Hp}{L:Ls}{E:En}{pos p p2:Pos}{x:Str}
noncomputable def wqq(K:Frag):R2:=λx y H Q=>∃l k xs,x=.ref l/\y=.int k/\SqT K H l xs/\-(2 ^ 63)<=k/\k<2 ^ 63/\xs.length*k.toNat<=sizeLine/\((xs=[]\/k=1)->Q (.ref l) H)/\∀p,H p=none->Q (.ref p) (upd H p (.tup (List.replicate k.toNat xs).flatten))
theorem op_repT:OpR X (binaryOp .Mult) (wqq X.K):=by
 rintro aa s σ H x y v u Q I rx ry ⟨l,k,xs,rfl,rfl,hq,h1,h2,hz,q1,q2⟩;cases rx;obtain⟨t,rfl⟩:=ry;obtain⟨aj,r,ht,hl⟩:=I.tuple hq;have av:=r.length;have f0:List.foldl (λx1 x2=>x1++x2) (List.toArray []) (List.replicate k.toNat aj.toArray)=(List.replicate k.toNat aj).flatten.toArray:=by
  have:=kkc aj k.toNat [];exact this
 have qe:(List.replicate k.toNat xs).flatten.length<=sizeLine:=by rw[qza,Nat.mul_comm];exact hz
 refine wpAny_binaryOp_repeat_ref ⋯ ht.typeIs (λs'=>typeIs_int s' k t) rfl F.fills_int_mul F.slot_int_rmul (rfl) F.slot_int_index.lookup
  (xja ht #[rfl,ht.typeIs,mulT ht h1 h2 (by rw[X6,<-av];exact hz) (λhs=>?_) ?_ ?_])
 ·refine#[.ref l,H,I,rfl,q1 ?_];rcases hs with hs|hs
  ·grind
  ·exact .inr hs
 ·rwa [f0,X6,<-(r.rep k.toNat).length]
 ·rw[f0];exact#[.ref _,_,I.laid (t':=s.toks) (o:=.tup _) (λb o e=>X2 _ e) (X8 _) #[qe,_,r.rep k.toNat,IsTupD.new _ _],rfl,q2 _ (I.hok.fresh (X8 _))]
noncomputable def wqt(K:Frag):R2:=λx y H Q=>wqq K x y H Q\/vz4 K x y H Q
theorem ww7(hK:autoParam (X.K=K) Ŕ):OpR X (binaryOp .Mult) (wqt K):=by subst hK;exact op_repT.or ww8
set_option tactic.hygienic true in
theorem wkb:Ad2 K (wqt K) K8:=by
 intro H x y s Q ox oy hf k;cases hx:x.d with
 | tup ds=>
  cases hy:y.d with
  | int n=>
   unfold K8 at hf;rw [hx,hy]at hf;dsimp only at hf
   split at hf
   ·rename_i hc;cases oq9 hf;obtain⟨l,xs,bs,e3,q3,r3,h3⟩:=Jx ox (.inr hx) (hx▸hc.2.2.2);have q3:SqT K H l xs:=by rcases q3 with⟨z,_⟩|⟨_,z⟩;rw[hx]at z;cases z;exact z
    obtain⟨cs,r4,h4⟩:=r3.reps n.toNat;refine .inl #[l,n,xs,e3,qk oy hy,q3,hc.1,hc.2.1,by rw[<-r3.len];exact hc.2.2.1,λhs=>?_,λp hp=>?_]
    ·refine k #[.no,.tup _,.ref l,cs] H rfl rfl #[z9,(#[l,xs,rfl,q3,?_]),λb hb=>(nomatch hb),Y2,λb hb=>ll9 _ (h3 b (h4 b hb))];have e:(List.replicate n.toNat xs).flatten=xs:=by
      rcases hs with hs|hs
      ·subst hs;simp
      ·subst hs;simp
     rw[e]at r4;exact r4
    ·exact k _ _ rfl rfl (kjw hp r4 λb hb=>ll9 _ (h3 b (h4 b hb)))
   ·grind
  |_=>
   refine .inr (vxc H x y s Q ox oy ?_ k);rw[hx,hy]at hf;rw[hx];exact hf
 |_=>
  refine .inr (vxc H x y s Q ox oy ?_ k);unfold K8 at hf;rw[hx]at hf;rw[hx];exact hf
theorem qz4{h}:∀{ds us},CReps h ds us->us.map (dec h)=ds
 |[],_,r=>by rw[r];rfl
 |z::ds,_,r=>by
  obtain⟨u,rr,rfl,h1,h2⟩:=r;rw[List.map_cons,kzg h1,qz4 h2]
noncomputable def xjf(K:Frag)(C:Hp->List V->Prop):List V->Hp->VK->Prop:=λvs H Q=>∃v d ds as bs xs j,vs=[v]/\RepL K H true d v as/\C H xs/\RepA K H true ds xs bs/\d.flat 30=true/\D.flats 30 ds=true/\(ds.findIdx? λz=>peq z d)=some j/\Q (.int j) H
theorem vqf{o to t apos ak}(hu:X.A.units+64<cLine)(ho:PE X o to)(ha:PA X [e] t)
  (bc:autoParam (attributeBase o "index" X.env (eval o X.env)=eval o X.env) Ŕ)
  (gf:autoParam (((backTo ak (starEach [e] X.env)).all (λx=>!x.1)&&(backToKw ak (keywordEach [] X.env)).all (λx=>x.1.isSome)
   && decide ([e].length+([]:List Keyword).length+(if([]:List Keyword).isEmpty then 0 else 1)<30))=true) Ŕ)
  (be:autoParam (Abe apos ak) Ŕ) (hs:autoParam (Abs e [] X) Ŕ) (bo:autoParam (Abb ak [] X) Ŕ):
  PE X (.Call (.Attribute o "index" apos) [e] [] ak) (fun σ H Q=>to σ H λx H1=>(∃p xs,x=.ref p/\LsR X.K H1 p xs/\t σ H1 λvs H2=>xjf X.K (λH xs=>LsR X.K H p xs) vs H2 Q)\/∃p xs,x=.ref p/\SqT X.K H1 p xs/\t σ H1 λvs H2=>xjf X.K (λH xs=>SqT X.K H p xs) vs H2 Q):=by
 intro aa s σ H Q I h;refine wpAny_Call_method_late bc gf be rfl (thn (ho aa s σ H _ I h) λv s1 hz=>?_);obtain⟨x,H1,I1,r1,qq⟩:=hz;have eqs:∀{s2 H2 d v as w us ds},L2.Inv X aa σ H2 s2->RepL X.K H2 true d v as->RelV v w->d.flat 30=true->D.flats 30 ds=true->CReps s2.heap ds us->∀y∈us.toArray,SeqAt.EqAt X.A.in1 s2 y w (peq (dec s2.heap y) d):=fun {s2 H2 d v as w us ds} I2 rd rw f1 f2 cr y hy=>by
  obtain⟨d',hd,c⟩:=kjd cr (by simpa using hy);rw[kzg c];exact WZ 30 (jxs f2 hd) c (VX I2 rd f1 rw) ⋯
 have idx:∀{h ds us d j},CReps h ds us->(ds.findIdx? λz=>peq z d)=some j->∃hj,peq (dec h us.toArray[j]) d=true/\∀m hm,m<j->peq (dec h us.toArray[m]) d=false:=fun {h ds us d j} cr hf=>by
  have e:=qz4 cr;subst e;rw[List.findIdx?_eq_some_iff_getElem]at hf;obtain⟨hj,h1,h2⟩:=hf;have hj':j<us.length:=by simpa using hj
  refine#[by simpa using hj',by simpa using h1,λm hm hmj=>?_];have:=h2 m hmj
  simpa using this
 rcases qq with⟨pp,zs,rfl,ty,q1⟩|⟨pp,zs,rfl,ty,q1⟩
 ·cases r1;have hA:=ha ak aa s1 σ H1 _ I1 q1;rw[hs]at hA ⊢;obtain⟨z,aj,n,r,e0⟩:=ty.is I1;refine#["list","list.index",F.plainAttrs_list,F.slot_list_index,F.type_list_index,#[_,e0,rfl],λa e2=>?_,?_]
  ·cases e2;exact#[_,e0,rfl]
  refine Yo (by show(false||(backTo ak _).any _)=false;rw[bo]<;>rfl) (Yt (thn hA λus s2 #[vs,H2,I2,r2,d2]=>?_));obtain⟨v,d,ds,as,bs,xs,j,rfl,rd,hq,ra,f1,f2,hf,q2⟩:=d2;obtain⟨w,rfl,rw1⟩:=r2.one;obtain⟨z2,dm,n2,r3,e3⟩:=hq.is I2;have cr:=creps_of I2 ra f2 r3;obtain⟨hj,h1,h2⟩:=idx cr hf;have hsz:dm.toArray.size<=16777216:=by rw[X6,<-r3.length];exact z2
  exact call_meets F.slot_list_index #[_,e3,rfl] F.entry_list_index (F.args_list_index_2 _ _) (SeqAt.list_indexAt pp dm.toArray n2 none (List.toArray []) w (λy=>peq (dec s2.heap y) d) j hj ⋯ h1 h2) #[e3,eqs I2 rd rw1 f1 f2 cr,.int _,H2,I2.tok _,#[_,rfl],q2]
 ·cases r1;have hA:=ha ak aa s1 σ H1 _ I1 q1;rw[hs]at hA ⊢;obtain⟨aj,r,ht,hz⟩:=I1.tuple ty;refine#["tuple","tuple.index",F.plainAttrs_tuple,F.slot_tuple_index,F.type_tuple_index,ht.typeIs,λa e2=>?_,?_]
  ·cases e2;exact(I1.tupleD ty)
  refine Yo (by show(false||(backTo ak (starEach [] X.env)).any (·.1))=false;rw[bo]<;>rfl) (Yt (thn hA λus s2 #[vs,H2,I2,r2,d2]=>?_));obtain⟨v,d,ds,as,bs,xs,j,rfl,rd,hq,ra,f1,f2,hf,q2⟩:=d2;obtain⟨w,rfl,rw1⟩:=r2.one;obtain⟨dm,r3,ht2,qe⟩:=I2.tuple hq;have cr:=creps_of I2 ra f2 r3;obtain⟨hj,h1,h2⟩:=idx cr hf;exact wq3 (e:=λy=>peq (dec s2.heap y) d) ht2 (eqs I2 rd rw1 f1 f2 cr) hj h1 h2 #[.int _,H2,I2.tok _,#[_,rfl],q2]
set_option tactic.hygienic true in
theorem W4{apos ak}(hu:X.A.units+64<cLine)(ha:QV X Z q a ea)(hb:QV X Z true b eb)(hK:autoParam (X.K=Z.K) Ŕ)
  (bc:autoParam (attributeBase ea "index" X.env (eval ea X.env)=eval ea X.env) Ŕ)
  (gf:autoParam (((backTo ak (starEach [eb] X.env)).all (λx=>!x.1)&&(backToKw ak (keywordEach [] X.env)).all (λx=>x.1.isSome)
   && decide ([eb].length+([]:List Keyword).length+(if([]:List Keyword).isEmpty then 0 else 1)<30))=true) Ŕ)
  (be:autoParam (Abe apos ak) Ŕ) (hs:autoParam (Abs eb [] X) Ŕ) (bo:autoParam (Abb ak [] X) Ŕ):
  QE X Z q (JQ a b) (.Call (.Attribute ea "index" apos) [eb] [] ak):=kz (vqf hu ha (vJ hb wK hs) bc gf be hs bo) fun σ H Q ax=>ex8 ax λE L r m w hc xc k=>by
 refine v9 m w (hc) xc λE1 s h1 x L1 H1 e1 e2 m1 w1 ok fr sr st sm=>?_
 split at h1
 rotate_left
 ·grind
 rename_i hsq;rw [hK];have fin:∀{ds},(x.d=.lst ds\/x.d=.tup ds)->∀C,(∀H2,x.ok Z.K H2->∃xs bs,C H2 xs/\RepA Z.K H2 true ds xs bs)->tV Z true b σ H1 λv H2=>xjf Z.K C [v] H2 Q:=fun {ds} hx C hC=>by
  refine v9 m1 w1 h1 (xc.step st) λE2 s2 h2 y L2 H2 e3 e4 m2 w2 i3 u7 tf cf f9=>?_
  obtain⟨z,hz,rfl⟩:=zj h2;obtain⟨xs,bs,c1,c2⟩:=hC H2 (W1 ok fr cf (f9 rfl)).1;have key:∃j,y.d.flat 30=true/\D.flats 30 ds=true/\(ds.findIdx? λz=>peq z y.d)=some j/\z=(.dp,.int j):=by
   unfold pu2 kqs at hz;rw[<-e2,<-e4]at hz;have kt:(if y.d.flat 30&&D.flats 30 ds then(ds.findIdx? λz=>peq z y.d).map λ(j:Nat)=>D.int (j)else none).map (λd=>((Own.dp,d):Sd))=some z:=by
    rcases hx with hx|hx<;>(rw[hx]at hz;exact hz)
   split at kt
   ·rename_i hf;rw[Bool.and_eq_true]at hf;cases hj:ds.findIdx? λz=>peq z y.d with|none=>rw[hj]at kt;cases kt|some j=>rw[hj]at kt;exact#[j,hf.1,hf.2,rfl,(oq9 kt).symm]
   ·cases kt
  obtain⟨j,f1,f2,f3,rfl⟩:=key;exact#[y.v,y.d,ds,y.as,bs,xs,j,rfl,RepO.wk i3,c1,c2,f1,f2,f3,(k _ _ rfl _ L2 H2 rfl rfl m2 (w2.consPu (x:=#[.dp,.int j,.int j,[]]) (show RepL Z.K H2 false _ _ []from vK) rfl) (Jz (st.trans cf) (λb hb=>nomatch hb) rfl) λhq=>#[(λhq=>kX (sm hq) (f9 rfl)) hq,λ_ z=>(nomatch z)])]
 have wkA:∀{ds xs bs H2},RepA Z.K H2 (x.o != .dp) ds xs bs->RepA Z.K H2 true ds xs bs:=fun {ds xs bs H2} r=>by
  cases ho:(x.o != .dp)with|true=>rw[ho]at r;exact r|false=>rw[ho]at r;exact r.wk
 cases hx:x.d with
 |lst ds=>
  obtain⟨l,xs,bs,ev,q3,r3,h3,_⟩:=items ok (.inl hx);have q3:LsR Z.K H1 l xs:=by rcases q3 with⟨_,z⟩|⟨z,_⟩;exact z;rw[hx]at z;cases z
  refine .inl #[l,xs,ev,q3,fin (.inl hx) _ λH2 i3=>?_];obtain⟨l2,ys,cs,p9,q4,r4,_⟩:=items i3 (.inl hx);have:l2=l:=by have:=p9.symm.trans ev;exact V.ref.inj this
  subst this;rcases q4 with⟨_,z⟩|⟨z,_⟩
  ·exact#[ys,cs,z,wkA r4]
  ·grind
 |tup ds=>
  obtain⟨l,xs,bs,ev,q3,r3,h3,_⟩:=items ok (.inr hx);have q3:SqT Z.K H1 l xs:=by rcases q3 with⟨z,_⟩|⟨_,z⟩;rw[hx]at z;cases z;exact z
  refine .inr #[l,xs,ev,q3,fin (.inr hx) _ λH2 i3=>?_];obtain⟨l2,ys,cs,p9,q4,r4,_⟩:=items i3 (.inr hx);have:l2=l:=by have:=p9.symm.trans ev;exact V.ref.inj this
  subst this;rcases q4 with⟨z,_⟩|⟨_,z⟩
  ·grind
  ·exact#[ys,cs,z,wkA r4]
 |_=>rw[<-e2,hx]at hsq;cases hsq
end
noncomputable def ItE(S:Hp->List V->Prop):It:=#[λi H=>∃xs x,S H xs/\xs[i]?=some x,
 λi H v H'=>∃T x,H T=none/\v=.ref T/\H'=upd H T (.tup [.int i,x])/\∀xs,S H xs->xs[i]?=some x,
 λi H=>∃xs,S H xs/\xs.length=i]
abbrev Ite(K:Frag)(l:Addr):It:=ItE (SqL K · l)
theorem qwe{P w K c9 k1 pos}{e it l:Addr}{n:String}{S:Hp->List V->Prop}{IS:Heap->Array Value->Prop}(n1:e≠it)(n2:l≠e)
  (D:∀A:Around,A.handled=none->∀aj:Array Value,Draws P w A it [it,l] aj.size (λi v=>aj[i]?=some v) λi h=>(∃o,h.get? it=some o/\o.cls=.type n/\o.data=.fields (List.toArray [.ref l,.int i 0]))/\IS h aj)
  (G:∀(X:Cx) aa (s:Shared) σ H,X.K=K->L2.Inv X aa σ H s->∀xs,S H xs->(∃aj,Vals xs aj/\IS s.heap aj.toArray)/\∀zs,S H zs->zs=xs):
  Turn P w K (.Tuple c9 k1 pos) (ItE S) [e,it] e (λi h=>(∃i8,IsEnum h e it i i8)/\∃o,h.get? it=some o/\o.cls=.type n/\o.data=.fields (List.toArray [.ref l,.int i 0])) where
 mem:=by simp
 obj:=λi h st b hb=>by
  obtain⟨⟨i8,h1⟩,o4,e4,c4,d4⟩:=st;simp at hb;rcases hb with rfl|rfl
  ·exact#[_,h1,λv z=>by cases z]
  ·exact#[_,e4,λv z=>by rw[d4]at z;cases z]
 keep:=λi h h' st k=>by
  obtain⟨⟨i8,h1⟩,o4,e4,c4,d4⟩:=st;exact#[#[i8,k _ (by simp) _ h1],o4,k _ (by simp) _ e4,c4,d4]
 item:=by
  intro X hP hw hK hc i aa s σ H E I hf st hg;subst hP hw;obtain⟨xs,x,q1,hx⟩:=hg;obtain⟨⟨dk,jy,p1⟩,inj⟩:=G X aa s σ H hK I xs q1;obtain⟨u1,qu,xb⟩:=jy.get hx;obtain⟨⟨i8,t1⟩,t2⟩:=st;have hi:i<dk.toArray.size:=(List.getElem?_eq_some_iff.mp qu).1;refine wpAny_pyNext_enum_itemD (D X.A.in1 (by have:=I.ok.hd hc;simpa using this) dk.toArray) t1 #[t2,p1] hi n1 (by simp only[Xz,Xm,or_false,not_or];exact#[n1,n2.symm]) λu2 h1 tk hP2 g1 g2 gT gs gk=>?_
  have e2:u2=u1:=by
   have:dk[i]?=some u2:=by simpa using hP2
   rw[qu]at this;exact(oq9 this).symm
  subst e2;refine#[_,rfl,wpAny_letOwnedTupleGo_enum (s:={s with heap:=h1,toks:=tk+1}) g1 λh2 f1 sb=>?_];have fT:=I.fpOk (X8 _) (I.hok.fresh (X8 _));have nT:∀b∈[e,it],b≠s.heap.objs.size:=λb hb ee=>by
   obtain⟨o,eo,_⟩:∃o,s.heap.get? b=some o/\True:=by
    simp at hb;obtain⟨o4,e4,_⟩:=t2;rcases hb with rfl|rfl
    ·exact#[_,t1,trivial]
    ·exact#[_,e4,trivial]
   exact absurd (Xd eo) (ee▸Ym _)
  have kk:∀b o,b∉[e,it]->s.heap.get? b=some o->h2.get? b=some o:=λb o hb ee=>by
   simp at hb;exact(sb.2 b hb.1).trans (gk b o hb.1 hb.2 ee)
  have I1:L2.Inv X aa σ H {s with heap:=h2,toks:=tk+1}:=ZW [e,it] I kk hf;have I2:=jxq (a:=s.heap.objs.size) (o:=.tup [.int i,x]) I1 fT.1 fT.2.1 fT.2.2.2.1 fT.2.2.2.2.1 fT.2.2.2.2.2
   (show ObjOk X.prog X.w _ h2 _ (.tup [.int i,x])from#[by show(2:Nat)<=sizeLine;decide,[.int i tk,u2],.cons #[_,rfl] (.cons xb .nil),#[_,(sb.2 _ λee=>nT e (by simp) ee.symm).trans gT,rfl,rfl,0,rfl]])
  obtain⟨o4,e4,c4,d4⟩:=g2.1;exact#[.ref s.heap.objs.size,_,I2,rfl,#[_,x,fT.1,rfl,rfl,λzs js=>by rw[inj zs js];exact hx],#[#[u2,f1],o4,(sb.2 _ n1.symm).trans e4,c4,d4],λb hb=>by rw[k6 (nT b hb)];exact(hf b hb).1]
 done:=by
  intro X hP hw hK hc i aa s σ H E I hf st hg;subst hP hw;obtain⟨xs,q1,hx⟩:=hg;obtain⟨⟨dk,jy,p1⟩,_⟩:=G X aa s σ H hK I xs q1;obtain⟨⟨i8,t1⟩,t2⟩:=st;have hsz:dk.toArray.size=i:=by rw[X6,<-jy.length];exact hx
  refine wpAny_pyNext_enum_endD (D X.A.in1 (by have:=I.ok.hd hc;simpa using this) dk.toArray) t1 (hsz▸#[t2,p1]) λh' kk=>#[rfl,ZW (t':=s.toks) [it] I (λb o hb ee=>kk b o (by simpa using hb) ee) λb hb=>hf b (by
   simp at hb ⊢;exact .inr hb)]
 self:=λ_ _ _ _ _ st h=>by obtain⟨⟨i8,h1⟩,_⟩:=st;exact wpAny_pyIter_enum h1 h
theorem qwd{P w K c9 k1 pos e it l}(n1:e≠it)(n2:l≠e)(n3:l≠it):Turn P w K (.Tuple c9 k1 pos) (Ite K l) [e,it] e (λi h=>(∃i8,IsEnum h e it i i8)/\h.IsListIter it l i):=
 qwe (K:=K) (IS:=λh aj=>h.IsList l aj) n1 n2 (λA hh aj=>Draws.list hh it l n3 aj) λX aa s σ H hK I xs q=>by
  subst hK;obtain⟨aj,rv,p,_⟩:=I.list q;exact#[#[aj,rv,p.isList],λzs hz=>I.list_inj hz q]
abbrev xkk(K:Frag)(ta:TA):TI:=fun σ H R=>ta σ H λvs H1=>∃l,vs=[.ref l]/\(∃xs,SqL K H1 l xs/\(xs.length<=sizeLine->R (Ite K l) H1))
theorem jzs:bootBuiltins "enumerate"=some (.type "enumerate"):=boot_enumerate
section
variable {X:Cx}{Z:Fx0}{K:Frag}{pn:List Nat}{q qa qb:Bool}{a b c:Ex}{u:Ts}{tg e ea eb:Expr}{st:Stmt}{σ:L2.St}{H:Hp}{L:Ls}{E:En}{pos p p2 gc:Pos}{x:Str}{c9:List Expr}{k1:Nat}
theorem vzr K {ta:TA}(hg:Gl X "enumerate")(hm:X.mg "enumerate"=none)(ha:PA X [e] ta)(hK:autoParam (X.K=K) Ŕ)
  (hs:autoParam (starEach [e] X.env=[(false,eval e X.env)]) Ŕ):PI X (.Tuple c9 k1 gc) (.Call (.Name "enumerate" p) [e] [] pos) (xkk K ta):=by
 subst hK;intro aa s σ H R I h;refine Call_ (Q6 I hg hm jzs (Ya (thn (ha pos aa s σ H _ I h) λus s1 hz=>?_) (by rw[hs];rfl) rfl));obtain⟨vs,H1,I1,r1,q1⟩:=hz;obtain⟨l,rfl,xs,q1,q⟩:=q1;obtain⟨u1,rfl,e1⟩:=J7 r1;cases e1;obtain⟨dk,jy,p1,oj⟩:=I1.list q1;have lt:l<s1.heap.objs.size:=by obtain⟨_,ee,_⟩:=p1.isList;exact Xd ee
 refine call_enumerate_list p1.isList λh' g1 g2 gs gk=>?_
 refine wpAny_pyIter_enum g1 #[_,[_,s1.heap.objs.size],_,_,H1,rfl,I1.kept (t':=s1.toks) gk,
  qwd (Nat.succ_ne_self _) (Xl (Nat.lt_succ_of_lt lt)) (Xl lt),#[#[_,g1],g2],λb hb=>?_,q oj]
 have gy:s1.heap.objs.size<=b:=by
  simp at hb;rcases hb with rfl|rfl<;>lia
 exact I1.fpOk gy (I1.hok.fresh gy)
theorem jw8:∀(ds:List D) (k:Nat),(zw k ds).length=ds.length
 |[],_=>rfl|d::ds,k=>by rw[zw,Xg,Xg,jw8 ds]
theorem kz9:∀(ds:List D) (k i:Nat),(zw k ds)[i]?=(ds[i]?).map λd=>.tup [.int ((k+i:Nat):Int),d]
 |[],_,_=>by simp[zw]|d::ds,k,0=>by simp[zw]
 |d::ds,k,i+1=>by
  rw[zw,List.getElem?_cons_succ,List.getElem?_cons_succ,kz9 ds,show k+1+i=k+(i+1)from by lia]
theorem kv7:∀(xs ys:List D) (i:Nat),(x4 xs ys)[i]?=(xs[i]?).bind λa=>(ys[i]?).map λb=>.tup [a,b]
 |[],_,_=>by simp[x4]|_::_,[],i=>by cases i<;>simp[x4]|a::x,b::y,0=>by simp[x4]|a::x,b::y,i+1=>by rw[x4,List.getElem?_cons_succ,List.getElem?_cons_succ,List.getElem?_cons_succ,kv7 x y i]
theorem W7:∀(xs ys:List D),(x4 xs ys).length=min xs.length ys.length
 |[],_=>by simp[x4]|_::_,[]=>by simp[x4]|a::x,b::y=>by rw[x4,Xg,Xg,Xg,W7 x y];lia
theorem kvm{H2:Hp}{T:Addr}{d1 d2:D}{v1 v2:V}{b1 b2:List Addr}(hT:H2 T=none)(r1:RepL K H2 true d1 v1 b1)(r2:RepL K H2 true d2 v2 b2):RepL K (upd H2 T (.tup [v1,v2])) true (.tup [d1,d2]) (.ref T) (b1++b2):=by
 have sm:k7 H2 (upd H2 T (.tup [v1,v2])):=vz hT;refine#[T,[v1,v2],rfl,.inl (.inl vx),?_];refine#[v1,[v2],b1,b2,rfl,rfl,r1.kp (Kp.of_same sm),?_];refine#[v2,[],b2,[],rfl,by simp,r2.kp (Kp.of_same sm),?_];exact#[rfl,rfl]
theorem qwa{S:Hp->List V->Prop}{x:Sl}{es}(ag:∀H2,x.let.ok K H2->∃ys cs,S H2 ys/\RepA K H2 true es ys cs/\∀b∈cs,b∈x.as):Walks K (ItE S) [x.let] (zw 0 es):=by
 refine#[λt ht=>by rw[aC ht];rfl,λi H2 hok hi=>?_,λH2 hok=>?_,λi H2 v H3 d hok hy fh=>?_]
 all_goals obtain⟨ys,cs,s1,s2,s3⟩:=ag H2 (hok _ (aB rfl))
 ·have hl:=s2.len;rw[jw8]at hi;exact#[ys,ys[i]'⋯,s1,X1 ⋯]
 ·exact#[ys,s1,by rw[jw8,s2.len]]
 ·obtain⟨T,x',hT,rfl,rfl,hy⟩:=hy;rw[kz9]at fh;cases hes:es[i]? with
  |none=>rw[hes]at fh;cases fh
  |some d0=>
   rw[hes]at fh;cases oq9 fh;obtain⟨v',dr,f1,f2,f3⟩:=s2.get hes;have:=hy ys s1;rw[f1]at this;cases oq9 this;have rp:=kvm (v1:=.int ((0+i:Nat):Int)) hT vK f2;rw[show((0+i:Nat):Int)=i by lia]at rp ⊢;exact#[#[.no,_,.ref T,[]++dr],rfl,rfl,rfl,vz hT,rp,λb hb=>#[x.let,aB rfl,s3 b (f3 b (by simpa using hb))]]
theorem vwd(h:QE X Z q c e)(hg:Gl X "enumerate")(hm:X.mg "enumerate"=none)(hK:autoParam (X.K=Z.K) Ŕ)(hs:autoParam (starEach [e] X.env=[(false,eval e X.env)]) Ŕ):QI X Z q (.Tuple c9 k1 gc) (wwy c) (.Call (.Name "enumerate" p) [e] [] pos):=λaa s σ H R I ax=>ex8 ax λE L r m w hc xc k=>by
 refine(vzr Z.K hg hm (vJ h wK hs) hK hs) aa s σ H R I (Kw m w (show bnd (c E) _=some r from hc) xc λE1 s h1 x L1 H1 e1 e2 m1 w1 st sm=>?_);obtain⟨ds,hd,rfl⟩:=zj h1;obtain⟨wT,sT⟩:=kv8 w1 st;cases hx:x.d with
 |lst es=>
  rw[<-e2,hx]at hd;cases oq9 hd;obtain⟨a,_,_,ev,_⟩:=items w1.head (.inl hx);have ag:=jxo (K:=Z.K) hx ev;obtain⟨xs,bs,q3,r3,_⟩:=ag H1 (J3 w1.head);exact#[a,by rw[ev],xs,q3,λav=>k _ _ rfl (Ite Z.K a) [x.let] L1 H1 m1 wT sT (by rw[jw8,r3.len];exact av) (λhq=>(sm hq).1) (qwa ag)]
 |_=>rw[<-e2,hx]at hd;cases hd
end
theorem RepA.erase{K H g}:∀{j ds xs as},RepA K H g ds xs as->∃bs,RepA K H g (ds.eraseIdx j) (xs.eraseIdx j) bs/\bs.Sublist as
 |j,[],xs,as,h=>by
  obtain⟨rfl,rfl⟩:=h;exact#[[],#[rfl,rfl],Y8 _]
 |0,d::ds,xs,as,h=>by
  obtain⟨x,r,bs,cs,rfl,rfl,h1,h2⟩:=h;exact#[cs,h2,List.sublist_append_right _ _]
 |j+1,d::ds,xs,as,h=>by
  obtain⟨x,r,bs,cs,rfl,rfl,h1,h2⟩:=h;obtain⟨es,r2,hs⟩:=RepA.erase h2;refine#[bs++es,?_,List.Sublist.append (Y8 _) hs];unfold RepA;exact#[x,r.eraseIdx j,bs,es,rfl,rfl,h1,r2]
theorem wwx{n i j}(h:_root_.Q.ixN n i=some j):seqIndex? i n=some j/\j<n/\-n<=i/\i<n:=by
 have e:L2.ixN n i=some j:=by
  unfold _root_.Q.ixN at h;unfold L2.ixN
  by_cases h0:0<=i
  ·exact h
  ·rw[Xe h0]at h ⊢;exact h
 exact qju e
section
variable {X:Cx}{Z:Fx0}{K:Frag}{pn:List Nat}{q qa qb:Bool}{a b c:Ex}{u:Ts}{tg e ea eb:Expr}{st:Stmt}{σ:L2.St}{H:Hp}{L:Ls}{E:En}{pos p p2 gc:Pos}{x:Str}{c9:List Expr}{k1:Nat}
set_option tactic.hygienic true in
theorem xjj {i o apos ak} (hb:PE X (.Call (.Attribute o "pop" apos) [e] [] ak) (tBM Z.K "list" vwb (x9 i) (vxo (tV Z q c) wzv))):QE X Z false (wxo i c) (.Call (.Attribute o "pop" apos) [e] [] ak):=kz hb fun σ H Q ax=>ex8 ax λE L r m w hc xc k=>by
 unfold wxo at hc;cases h0:E[i]? with
 | none=>rw [h0]at hc;cases hc
 | some s0 =>
  cases s0 with
  | none=>rw [h0]at hc;cases hc
  | some s0 =>
   obtain ⟨o0,d0⟩:=s0;cases d0 with
   | lst ds0 =>
    rw [h0,Xb (show WV (some (some (o0,D.lst ds0)))=true from rfl)]at hc;obtain ⟨x0,a1,a2,a3,a4⟩:=m.get h0;refine #[x0.v,a4,vww (w.ok x0 (vQ a1)) a3,(v9 m w hc xc λE1 s h1 x L1 H1 e1 e2 m1 w1 lh fr sr st sm=>?_)];cases hE:E1[i]? with
    | none=>rw[hE]at h1;cases h1
    | some s1=>
     cases s1 with
     | none=>rw[hE]at h1;cases h1
     | some s1=>
      obtain ⟨oo,dd⟩:=s1;rw [hE]at h1;cases dd with
      | lst ds=>
       cases hs:s.2 with
       | int kk=>
        rw [hs]at h1;dsimp only at h1
        by_cases iu:oo=.no
        ·rw [Xb iu]at h1;cases h1
        ·rw [Xe iu]at h1;cases hj:_root_.Q.ixN ds.length kk with
         | none=>rw[hj]at h1;cases h1
         | some j=>
          rw [hj]at h1;dsimp only at h1;cases hd:ds[j]? with
          | none=>rw[hd]at h1;cases h1
          | some d=>
           rw[hd]at h1;dsimp only at h1
           split at h1
           rotate_left
           ·cases h1
           rename_i hp;rw[Bool.and_eq_true]at hp;obtain⟨hp,hsm⟩:=hp;obtain⟨lw,f9⟩:=jz9 hsm;cases oq9 h1;obtain⟨y,b1,b2,b3,b4⟩:=m1.get hE;have hv:y.v=x0.v:=by rw[a4]at b4;exact(oq9 (oq9 b4)).symm
           obtain⟨l,xs,bs,c1,c2,c3,c4,c5⟩:=kvy (w1.ok y (vQ b1)) b3 (b2▸iu);have ex0:x0.v=.ref l:=hv▸c1;rw[ex0];obtain⟨vv,dr,f1,f2,f3⟩:=c5.get hd;obtain⟨g1,g2,g3,g4⟩:=wwx hj;have r9:(2:Int) ^ 63=9223372036854775808:=⋯
           obtain⟨_,rp⟩:=RepL.pu (g':=false) f2 hp;obtain⟨cs,r6,jh⟩:=c5.erase (j:=j);refine#[l,xs,kk,j,vv,rfl,by rw[qk lh (e2.trans hs)],c2,?_,?_,by rw[<-c5.len];exact g1,f1,?_]
           ·have:(2:Int) ^ 62=4611686018427387904:=⋯
            omega
           ·have:(2:Int) ^ 62=4611686018427387904:=⋯
            omega
           have yn:y.own.Nodup:=by
            obtain⟨A,B,e,_⟩:=jz0 b1;have:=w1.nd;rw[e,jZ,jK,X7]at this;exact(List.nodup_append.mp this.2.1).1
           have hoo:y.o=.rt\/y.o=.dp:=by
            rw[b2];cases oo with|no=>exact absurd rfl iu|rt=>exact .inl rfl|dp=>exact .inr rfl
           obtain⟨w3,s3⟩:=kvw (T:=[]) (o':=y.o) (ds':=ds.eraseIdx j) (xs':=xs.eraseIdx j) (by simpa using w1) b1 c2 c3 c4 c1 r6 (by
            rcases hoo with hoo|hoo
            ·exact .inl #[hoo,λa ha=>.inl (jh.subset ha)]
            ·refine .inr #[hoo,hoo,?_,λa ha=>.inl (jh.subset ha)];unfold Sl.own at yn;rw[hoo,c3]at yn;exact jh.nodup (List.nodup_cons.mp yn).2)
           have ke:∀a o,H1 a=some o->a≠l->upd H1 l (.lst (xs.eraseIdx j)) a=some o:=λa o e ne=>by rw[k6 ne];exact e
           have rp2:RepL Z.K (upd H1 l (.lst (xs.eraseIdx j))) false d vv []:=by
            refine rp.kp #[λa zs e=>ke a _ e λz=>?_,λa o u e=>ke a _ e λz=>?_,λa ha=>nomatch ha]
            ·subst z;rw[c2]at e;cases e
            ·subst z;rw[c2]at e;cases e
           have mm:=m1.set (x:=#[y.o,.lst (ds.eraseIdx j),y.v,l::cs]) i;rw[zX b4]at mm;refine k _ _ rfl #[.dp,d,vv,[]] _ _ rfl rfl (b2▸mm) (w3.consPu rp2 rfl) (Jz (x:=#[.dp,d,vv,[]]) (st.trans (by simpa using s3)) (λb hb=>nomatch hb) rfl) λz=>nomatch z
       |_=>rw[hs]at h1;cases h1
      |_=>cases h1
   |_=>rw[h0]at hc;cases hc
theorem kqw{y:Sl}{ds:List D}(ok:y.ok K H)(hd:y.d=.lst ds)(ho:y.o=.dp):∃l xs bs,y.v=.ref l/\H l=some (.lst xs)/\y.as=l::bs/\y.own=l::bs/\RepA K H false ds xs bs:=by
 obtain⟨l,xs,bs,c1,c2,c3,c4,c5⟩:=kvy ok hd (by rw[ho];exact λz=>nomatch z);rw[ho]at c5;exact#[l,xs,bs,c1,c2,c3,by unfold Sl.own;rw[ho,c3],c5]
end
end Q
namespace L3
open PySem PySem.Spec PyProof.Rows L2
noncomputable def tX(X:Cx)(x:Addr):Cx:={X with A:=X.A.mark (some (.ref x)),calm:=false,xe:=λ_ _=>False}
abbrev exO(o:Obj):HO:=.frz o (.ext λ_ _=>True)
section
variable {X:Cx}{aa:LA9}{σ:L2.St}{H:Hp}{s:Shared}{x:Addr}{ox:Obj}
theorem vwz(I:Inv X aa σ H s):Inv (tX X x) aa σ H s:=
 #[#[I.ok.mod,I.ok.kind,I.ok.glob,I.ok.blt,I.ok.above,I.ok.inj,I.ok.has,I.ok.cab,λz=>(by cases z),I.ok.frames,I.ok.stk,I.ok.exf,I.ok.bs,I.ok.bsz,I.ok.noex,I.ok.exfs,I.ok.funs,I.ok.frf],I.os,I.bare,I.base,I.loc,I.cell,I.free,I.freeC,I.pin,I.hok,I.len]
theorem wji(ok:X.Ok)(I:Inv (tX X x) aa σ H s):Inv X aa σ H s:=#[ok,I.os,I.bare,I.base,I.loc,I.cell,I.free,I.freeC,I.pin,I.hok,I.len]
theorem wjj(I:Inv X aa σ H s)(e:s.heap.get? x=some ox)(f:FpX X aa H x):Inv X aa σ (upd H x (exO ox)) s:=by
 obtain⟨hn,f1,f2,f3,f4,f5⟩:=f;refine#[I.ok,I.os,I.bare,#[I.base.keep,I.base.slot,λb o q n hx=>?_,I.base.there,λb xs q=>?_,λb o u q=>?_,λb ps q=>?_],I.loc,I.cell,?_,λy c q=>?_,λp hp=>?_,λb u q=>?_,I.len]
 ·have hb:b≠x:=by
   rintro rfl;rcases f3 with z|z
   ·exact hx z
   ·grind
  rw[k6 hb];exact I.base.free b o q n hx
 ·have:=I.base.tups b xs q;rw[k6 (xK this hn)];exact this
 ·have:=I.base.frzs b o u q;rw[k6 (xK this hn)];exact this
 ·obtain⟨bg,this⟩:=I.base.tbls b ps q;exact#[bg,by rw[k6 (xK this hn)];exact this]
 ·rw[k6 (Ne.symm f1)];exact I.free
 ·rw[k6 (f4 y c q)];exact I.freeC y c q
 ·obtain⟨a1,a2,a3⟩:=I.pin p hp;exact#[a1,by rw[k6 (f5 p hp)];exact a2,a3]
 ·by_cases hb:b=x
  ·subst hb;rw[vx]at q;cases q;exact#[e,trivial,#[_,e],λ_ _ _ _=>trivial]
  ·rw[k6 hb]at q;exact(I.hok b u q).stay (λc v _ q=>q) (λc q=>by rw[k6 (xK q hn)];exact q) λc xs q=>by rw[k6 (xK q hn)];exact q
end
abbrev wq5(K:Frag)(UC:Addr)(i:Nat)(tb:XK->TS)(ts:TS):TS:=λD σ H=>∃E:XK,tb E D σ H/\∀x Cv H',E Cv none H'->H' x=none->∃C,Cv=.ref C/\PySem.W.exmOne K (.ref C) (.ref UC)=some true/\XCls K C /\
 ∀o,ExAt K x o C->ts {nx:=fun σ' H''=>D.nx (σ'.set i none) H'',rt:=D.rt,bk:=fun σ' H''=>D.bk (σ'.set i none) H'',ct:=fun σ' H''=>D.ct (σ'.set i none) H'' } (σ.set i (some (.ref x))) (upd H' x (exO o))
set_option tactic.hygienic true in
theorem vzj{X ux n np mz pos UC i st b0 suite tb ts}(hN:X.N.Nodup)(hi:X.N[i]?=some n)(hk:X.env.scope.names.lookup n=some .local)(top:Jj X)(hU:X.mg ux=some (.ref UC))(hb:PSX X st tb)
  (hs:∀x,PSs (tX X x) (b0::suite) ts) (hg:autoParam (Gl X ux) Ŕ) (ff:autoParam (Abd ux) ŕ):
  PS X (.Try [st] [.ExceptHandler (some (.Name ux np)) (some n) (b0::suite) mz] [] [] pos) (wq5 X.K UC i tb ts):=by
 intro aa s σ H D I ⟨E,h1,h2⟩;refine wpAny_Try_except (wpAny_execs_cons (Z6 (hb E aa s σ H D I h1) (λf s1 q=>?_) (λe s1 q=>?_)))
 ·cases f with|next=>exact wpAny_execs_nil (wpAny_execs_nil q)|ret v=>exact q|brk=>exact q|cont=>exact q
 ·obtain⟨H',x,Cv,rfl,I1,f1,q1⟩:=q;refine qqa top rfl I1 f1 λL T s2 _ t2=>jxr t2 λs3 t3=>?_
  obtain⟨C,rfl,hm,xc,ht⟩:=h2 x Cv H' q1 t3.fx.1;refine wpAny_handleBy_cons (codeAny_handlers_test ?_) (λz=>nomatch z);obtain⟨vs,ho,hv⟩:=t3.f.ex;have I3:Inv (tX X x) aa σ H' s3:=vwz t3.inv;refine kk8 I3 hg hU ?_ ff;have at3:PySem.W.InstAt s3.heap x {cls:=.ref C,data:=.fields vs} C none:=#[ho,rfl,rfl,trivial];refine Lk (PySem.W.exm_one t3.inv.kIn at3.type hm) (codeAny_handlers_suite_as (jxr t3 λs4 t4=>?_));obtain⟨vs4,ho4,hv4⟩:=t4.f.ex;have I4:Inv (tX X x) aa σ _ s4:=vwz (wjj t4.inv ho4 t4.fx);refine jxf (X:=tX X x) I4 hN hi (.inl hk) (v:=.ref x) rfl (λs5 I5=>(Z6 (hs x aa s5 _ _ _ I5 (ht _ #[rfl,rfl,rfl,xc])) (λf s6 q=>?_) λ_ _ z=>z.elim)) (.inr hk);have bk:∀{σ6 H6},Inv (tX X x) aa σ6 H6 s6->Inv X aa σ6 H6 s6:=λz=>wji I.ok z
  show wpAny _ _ _ _ _ s6;cases f with
  |next=>
   obtain⟨σ6,H6,I6,q6⟩:=q;exact jxm (bk I6) hN hi hk λs7 I7=>#[_,_,I7,q6]
  |brk=>
   obtain⟨σ6,H6,I6,q6⟩:=q;exact jxm (bk I6) hN hi hk λs7 I7=>#[_,_,I7,q6]
  |cont=>
   obtain⟨σ6,H6,I6,q6⟩:=q;exact jxm (bk I6) hN hi hk λs7 I7=>#[_,_,I7,q6]
  |ret v=>
   obtain⟨v',σ6,H6,I6,r6,q6⟩:=q;exact jxm (bk I6) hN hi hk λs7 I7=>#[v',_,_,I7,r6,q6]
noncomputable def xqq(K:Frag):List V->Hp->VK->Prop:=λxs H Q=>∃x o C b,ExAt K x o C/\H x=some (exO o)/\((∃U,xs=[.ref x,.ref U]/\kitOne K (.ref C) (.ref U)=some b)\/∃U,xs=[.ref x,.ty U]/\kitOne K (.ref C) (.type U)=some b)/\Q (.bl b) H
theorem vvl{X:Cx}:CallR X (.builtin "isinstance") (xqq X.K):=by
 intro aa s σ H xs us Q I r ⟨x,o,C,b,a,e,h,q⟩;have px:=(I.hok x _ e).1;have b9:∃o,PySem.W.InstAt s.heap x o C none:=#[o,px,a.cls,a.no,by rw[a.di];trivial];rcases h with⟨U,rfl,hk⟩|⟨U,rfl,hk⟩
 ·obtain⟨u1,u2,rfl,e1,e2⟩:=qv5 r;cases e1;cases e2;exact Y1 (qqk a.xc) I.kIn b9 hk (λz=>nomatch z) λtk=>#[.bl b,H,I.tok _,rfl,q]
 ·obtain⟨u1,u2,rfl,e1,e2⟩:=qv5 r;cases e1;cases(e2);exact Y1 (qqk a.xc) I.kIn b9 hk (λz=>nomatch z) λtk=>#[.bl b,H,I.tok _,rfl,q]
end L3
namespace Q
open PySem PySem.Spec PyProof.Rows L2 L3
theorem qw9{K:Frag}{C:Addr}(ga:findIn K (.ref C) "__getattribute__"=some (some (.builtin "BaseException.__getattribute__")))(gt:findIn K (.ref C) "__getattr__"=some none)(fa:findIn K (.ref C) "__class__"=some (some (.builtin "object.__class__")))
  (fg:PySem.W.specialIn K (.builtin "object.__class__") "__get__"=some (some (.builtin "getset_descriptor.__get__"))) (ft:PySem.W.takesIn K (.builtin "object.__class__")=some true) (ob:PySem.W.mroIn K C (.type "object")=some true) (bx:PySem.W.mroIn K C (.type "BaseException")=some true) (cl:PySem.W.isClsIn K C=true):XCls K C:=
 #[ga,gt,by
  obtain⟨cd,hc⟩:=Option.isSome_iff_exists.mp (cl);unfold PySem.W.findObj;rw[hc,fa];simp[fg,ft],ob,bx,cl]
noncomputable def XQ(K:Frag)(u:V)(t:List (Str×Bool)):Prop:=∀c b,t.lookup c=some b->∃C,nsIn K mainGlobals c=some (some (.ref C))/\((∃U,u=.ref U/\kitOne K (.ref C) (.ref U)=some b)\/∃U,u=.ty U/\kitOne K (.ref C) (.type U)=some b)
theorem qzq{K:Frag}{u:V}:XQ K u []:=λ_ _ z=>nomatch z
set_option tactic.hygienic true in
theorem vqz{K:Frag}{u:V}{c:Str}{b:Bool}{C:Addr}{t:List _}(h:nsIn K mainGlobals c=some (some (.ref C)))(k:(∃U,u=.ref U/\kitOne K (.ref C) (.ref U)=some b)\/∃U,u=.ty U/\kitOne K (.ref C) (.type U)=some b)(r:XQ K u t):XQ K u ((c,b)::t):=λc' b' z=>by
 rw[Z4]at z
 split at z
 ·rename_i e;cases eq_of_beq e;cases z;exact#[C,h,k]
 ·exact r c' b' z
theorem kwg{K:Frag}{c:Str}{b:Bool}{C U:Addr}{t:List _}(h:nsIn K mainGlobals c=some (some (.ref C)))(k:kitOne K (.ref C) (.ref U)=some b)(r:XQ K (.ref U) t):XQ K (.ref U) ((c,b)::t):=vqz h (.inl #[U,rfl,k]) r
theorem wz0{K:Frag}{u:V}{t:List _}(ht:XQ K u t):Ad1 K (λv H Q=>xqq K [v,u] H Q) (pu1 (Wx t)):=by
 intro H x s Q ok hf k;have ok:=RepO.wk ok;unfold pu1 at hf;obtain⟨o,d,v,as⟩:=x;cases d with
 | obj c fs=>
  unfold Wx at hf;cases hl:t.lookup c with
  |none=>grind
  |some b=>
   simp only[hl]at hf;cases oq9 hf;dsimp only at ok;obtain⟨e0,x,ob,C,rfl,h1,h2,h3⟩:=ok;obtain⟨C',h4,h5⟩:=ht c b hl;rw[h3]at h4;cases oq9 (oq9 h4);refine#[x,ob,C,b,h2,h1,?_,k _ H rfl rfl wY];rcases h5 with⟨U,rfl,h5⟩|⟨U,rfl,h5⟩
   ·exact .inl #[U,rfl,h5]
   ·exact .inr #[U,rfl,h5]
 |_=>cases hf
section
variable {X:Cx}{Z:Fx0}{pn:List Nat}{q:Bool}{a b c:Ex}{e ea eb:Expr}{es:List Expr}{pos p p2:Pos}{t:List (Str×Bool)}{y:Str}{u:V}
theorem wva(ha:QV X Z q a ea)(hm:X.mg "isinstance"=none)(hu:PE X (.Name y p2) (tC u))(hK:X.K=Z.K)(ht:XQ X.K u t)(hg:autoParam (Gl X "isinstance") Ŕ)
  (he:autoParam (starEach [ea,.Name y p2] X.env=(false,eval ea X.env)::starEach [.Name y p2] X.env) Ŕ) (nh:autoParam (starEach [.Name y p2] X.env=(false,eval (.Name y p2) X.env)::starEach [] X.env) Ŕ) (c8:autoParam ((backTo pos (starEach [.Name y p2] X.env)).any (·.1)=false) Ŕ):
  QE X Z q (cF1 (pu1 (Wx t)) a) (.Call (.Name "isinstance" p) [ea,.Name y p2] [] pos):=by
 rw[hK]at ht;have hc:=hK▸vvl;exact kz (kvx hc hg hm jxy (vJ ha (vJ hu wK nh) he) ⋯ ⋯ he c8) fun σ H Q h=>jz2 (wz0 ht) h
theorem qj7{x:Str}{C:Addr}{z:Str}{np ak:Pos}(c:ECls X.K X.mg x C)(hm:Z.mg x=some (.ref C))(g:xq X Z.EX)(hz:PE X e (tC (.str z)))(hg:autoParam (Gl X x) Ŕ)(hc:autoParam (X.calm=true) Ŕ)(ff:autoParam (Abd x) ŕ)
  (he:autoParam (Abs e [] X) Ŕ) (c8:autoParam (((backTo ak (starEach [e] X.env)).any (·.1))=false) Ŕ):
  QS X Z pn (sRz x) (.Raise (some (.Call (.Name x np) [e] [] ak)) none pos):=xW (vq8 c g (vJ hz wK he) hg hc ff he c8) λD σ H ax=>ex7 ax λE L r m w hr k=>by
 cases oq9 hr;exact#[show 1<=sizeLine by decide,k C σ L H hm Pn.refl m w Step.refl]
noncomputable def QEX(X:Cx)(Z:Fx0)(q:Bool)(c:Ex)(e:Expr):Prop:=PEX X e λEX=>tQ #[Z.K,Z.mg,EX] q c
theorem vzs{t t':XK->TE}(h:PEX X e t)(w:∀E σ H Q,t' E σ H Q->t E σ H Q):PEX X e t':=λE aa s σ H Q I q=>h E aa s σ H Q I (w E σ H Q q)
set_option tactic.hygienic true in
theorem vzb{k n:Nat}{x:Str}{ps:List Str}{f:Fn}{cs:List Ex}(D:jW X.prog X.w X.K X.mg X.base k x ps (spF Z.K Z.mg n f))(hr:Room k X.A)(ha:QA X.nox #[Z.K,Z.mg,λ_ _ _=>False] q cs (e::es))(hn:autoParam (cs.length=n) Ŕ)(hg:autoParam (Gl X x) Ŕ)(ff:autoParam (Abd x) ŕ)
  (he:autoParam (Abs e es X) Ŕ) (c8:autoParam (Abb pos es X) Ŕ):
  QEX X Z false (kzj f cs) (.Call (.Name x p) (e::es) [] pos):=vzs (vqb D hr ha hg ff he c8) λEX σ H Q ax=>ex8 ax λE L r m w hc xc kk=>by
 unfold kzj at hc
 split at hc
 ·rename_i E1 ys hA;refine#[E,L,_,m,w,hA,(λ_ _ z=>by cases z),λE' xg z xs L1 H1 e1 m1 w1 st sm=>?_];injection z with z1 z2;subst z1 z2;rw[Xn];have av:xs.length=n:=by
   rw[<-hn];have:ys.length=cs.length:=ZX hA;rw[<-this,<-e1,X3]
  cases hf:f _ with
  | none=>rw[hf]at hc;cases hc
  | some fr=>
   rw[hf]at hc;obtain⟨wl,sl⟩:=jz7 w1;have ev:xs.map Sl.v=(xs.map Sl.let).map Sl.v:=by rw[Xj];rfl
   rw[ev];refine#[xs.map Sl.let,fr,rfl,by rw[X3];exact av,wl.left,by rw[<-e1]at hf;rw[kwd];exact hf,λE' c ee C H' hm s'=>?_,λE' a ee y H' e2 e3 w' s'=>?_]
   ·subst ee;cases oq9 hc;obtain⟨w2,s2⟩:=stay wl s' #[λ_ z=>(nomatch z),Y2,λ_ z=>(nomatch z)];exact xc _ _ rfl C L1 H' hm m1 w2 ((st.trans sl).trans s2)
   ·subst ee;cases oq9 hc;obtain⟨w2,s2⟩:=stay wl s' w';exact kk _ _ rfl y L1 H' e2 e3 m1 w2 ((st.trans sl).trans s2) λhq=>nomatch hq
 ·cases hc
theorem Mt.unset:∀{E:En} {σ:L2.St} {L:Ls} (i:Nat),Mt E σ L->Mt (E.set i none) (σ.set i none) (L.set i none)
 |_,_,_,_,.nil=>.nil|_,_,_,0,.un m=>.un m|_,_,_,0,.cons m=>.un m|_,_,_,i+1,.un m=>.un (Mt.unset i m)|_,_,_,i+1,.cons m=>.cons (Mt.unset i m)
theorem Zv:∀(L:Ls) (i:Nat),(sls (L.set i none)).Sublist (sls L)
 |[],_=>Y8 _|none::L,0=>Y8 _|some x::L,0=>List.Sublist.cons _ (Y8 _)|none::L,i+1=>Zv L i|some x::L,i+1=>List.Sublist.cons_cons _ (Zv L i)
theorem World.unset{K:Frag}{H:Hp}{L:Ls}{i:Nat}(w:World K H L):World K H (L.set i none):=w.sub (Zv L i)
theorem Step.unset{H H':Hp}{L L':Ls}{i:Nat}(s:Step H L H' L'):Step H L H' (L'.set i none):=s.sub (Zv L' i)
theorem World.unset1{K:Frag}{H:Hp}{L:Ls}{x:Sl}{i:Nat}(w:World K H (some x::L)):World K H (some x::L.set i none):=w.sub (List.Sublist.cons_cons _ (Zv L i))
theorem Step.unset1{H H':Hp}{L L':Ls}{x:Sl}{i:Nat}(s:Step H L H' (some x::L')):Step H L H' (some x::L'.set i none):=s.sub (List.Sublist.cons_cons _ (Zv L' i))
noncomputable def kzw(K:Frag)(mg:Str->Option Value)(UC:Addr)(cs:List Str):Prop:=∀c∈cs,∃C,mg c=some (.ref C)/\nsIn K mainGlobals c=some (some (.ref C))/\PySem.W.exmOne K (.ref C) (.ref UC)=some true/\XCls K C
theorem qvt{K:Frag}{mg:Str->Option Value}{UC:Addr}:kzw K mg UC []:=λ_ z=>nomatch z
theorem kkm{K:Frag}{mg:Str->Option Value}{UC C:Addr}{c:Str}{cs:List Str}(e:ECls K mg c C)(h:nsIn K mainGlobals c=some (some (.ref C)))(k:PySem.W.exmOne K (.ref C) (.ref UC)=some true)(r:kzw K mg UC cs):kzw K mg UC (c::cs):=λc' hc=>by
 rcases aD hc with rfl|hc
 ·exact#[C,e.bd,h,k,e.xc]
 ·exact r c' hc
theorem vkk{UC:Addr}{i:Nat}{cs:List Str}{B h:Sm}{tb:XK->TS}{D:Ends}{σ:L2.St}{H:Hp}(hK:X.K=Z.K)(ca:kzw X.K Z.mg UC cs)(hp:i∉pn)
  (hb:∀(EX:XK) E L r,Mt E σ L->World Z.K H L->B E=some r->(∀E' c,r=.xc E' c->∀C L' H',Z.mg c=some (.ref C)->Mt E' σ L'->World Z.K H' L'->Step H L H' L'->EX (.ref C) none H')->((∀E' c,r≠.xc E' c)->FlP Z pn D σ H L r)->tb EX D σ H)
  (hr:tS Z pn (V8 cs i B h) D σ H):wq5 X.K UC i tb (tS #[Z.K,Z.mg,λ_ _ _=>False] pn h) D σ H:=by
 obtain⟨E,L,r,m,w,hr,k⟩:=hr;cases hB:B E with
 | none=>unfold V8 at hr;rw[hB]at hr;cases hr
 | some rb=>
  refine#[λCv _ H'=>∃E1 c C L1,rb=.xc E1 c/\Cv=.ref C/\Z.mg c=some (.ref C)/\Mt E1 σ L1/\World Z.K H' L1/\Step H L H' L1,hb _ E L rb m w hB (λE' c e C L' H' hm m' w' st=>#[E',c,C,L',e,rfl,hm,m',w',st]) (λcp=>?_),?_]
  ·unfold V8 at hr;rw [hB]at hr;cases rb with| xc E1 c1=>exact absurd rfl (cp E1 c1)| nx E1=>cases oq9 hr;exact k| ct E1=>cases oq9 hr;exact k| bk E1=>cases oq9 hr;exact k| rt E1 x=>grind
  ·rintro x Cv H' ⟨E1,c,C,L1,rfl,rfl,hm,m1,w1,i4⟩ hx;unfold V8 at hr;rw [hB]at hr;dsimp only at hr
   by_cases hc:c∈cs
   ·rw[Xb hc]at hr;obtain⟨C',g1,g2,g3,g4⟩:=ca c hc;rw[hm]at g1;cases oq9 g1;refine#[C,rfl,g3,g4,λo b9=>?_];have sm:k7 H' (upd H' x (exO o)):=vz hx
    let y:Sl:=#[.no,.obj c [],.ref x,[]]
    have wy:World Z.K (upd H' x (exO o)) (some y::L1):=by
     refine World.consPu #[λt ht=>RepO.kp (w1.ok t ht) (Kp.of_same sm),w1.nd,w1.ds] ?_ rfl;show RepL Z.K _ true _ _ [];exact#[rfl,x,o,C,rfl,vx,hK▸b9,hK▸g2]
    have sy:Step H L (upd H' x (exO o)) (some y::L1):=by
     refine#[λb ob q hn=>sm b ob (i4.keep b ob q hn),λb hb=>i4.own b (by exact hb),λb hb=>i4.frz b (by rw[vk]at hb;exact hb)]
    cases h2:h _ with
    | none=>rw[h2]at hr;cases hr
    | some r2=>
     rw[h2]at hr;refine#[_,_,r2,Jw (x:=y) m1 rfl rfl,wy.set,h2,?_];have sy2:Step H L _ (L1.set i _):=sy.trans Step.set;have pp:Pn pn σ (σ.set i (some (V.ref x))):=Pn.refl.set hp;cases r2 with
     |nx E2=>
      cases oq9 hr;intro σ' L' H2 p' m' w' fm;exact k _ _ H2 ((pp.trans p').set hp) (Mt.unset i m') w'.unset (sy2.trans fm).unset
     |ct E2=>
      cases oq9 hr;intro σ' L' H2 p' m' w' fm;exact k _ _ H2 ((pp.trans p').set hp) (Mt.unset i m') w'.unset (sy2.trans fm).unset
     |bk E2=>
      cases oq9 hr;intro σ' L' H2 p' m' w' fm;exact k _ _ H2 ((pp.trans p').set hp) (Mt.unset i m') w'.unset (sy2.trans fm).unset
     |rt E2 a2=>
      cases oq9 hr;intro z σ' L' H2 e1 e2 p' m' w' fm;exact k z _ _ H2 e1 e2 ((pp.trans p').set hp) (Mt.unset i m') w'.unset1 (sy2.trans fm).unset1
     |xc E2 c2=>cases hr
   ·grind
end
section
variable {X:Cx}{aa:LA9}{σ:L2.St}{H:Hp}{s:Shared}{a b:Addr}{es:List Ent}{A:Around}{E:VP9}{k:Kd}
mutual
theorem kj7(I:Inv X aa σ H s):∀{d v u},PuR X.K H d v->RelV v u->qJ s.heap d u
 |.non,_,_,h,r=>by rw[h]at r;exact r|.int _,_,_,h,r=>by rw[h]at r;exact r
 |.tup ds,_,_,h,r=>by
  obtain⟨a,xs,rfl,q,ra⟩:=h;cases r;obtain⟨aj,rv,p,_⟩:=I.tuple q;exact#[a,aj,rfl,p,purs_creps I ra rv]
 |.bl _,_,_,h,_=>h.elim|.str _,_,_,h,r=>by unfold PuR at h;rw[h.1]at r;exact r|.lst _,_,_,h,_=>h.elim|.dct _,_,_,h,_=>by unfold PuR at h;exact h.elim|.obj _ _,_,_,h,_=>h.elim
theorem purs_creps(I:Inv X aa σ H s):∀{ds xs us},PuRs X.K H ds xs->Vals xs us->CReps s.heap ds us
 | [],_,_,h,r=>by unfold PuRs at h;rw[h]at r;cases r;rfl
 | d::ds,_,_,h,r=>by
  obtain⟨x,rr,rfl,h1,h2⟩:=h;cases r with
  |cons r1 r2=>
   exact#[_,_,rfl,kj7 I h1 r1,purs_creps I h2 r2]
end
mutual
theorem vwh{K g}:∀{n d v as},v6 n d=true->RepL K H g d v as->PuR K H d v
 |_,.non,_,_,_,h=>h.1|_,.int _,_,_,_,h=>by unfold RepL at h;exact h.1|0,.tup _,_,_,hk,_=>by cases hk
 |n+1,.tup ds,_,_,hk,h=>by
  unfold RepL at h;obtain⟨a,xs,e,q,ra⟩:=h;exact#[a,xs,e,q,purs_of hk ra]
 |n,.bl _,_,_,hk,_=>by cases n<;>(unfold v6 at hk;cases hk)|_,.str _,_,_,_,h=>by unfold RepL at h;exact#[h.1,h.2.2]|n,.lst _,_,_,hk,_=>by cases n<;>(unfold v6 at hk;cases hk)|n,.dct _,_,_,hk,_=>by cases n<;>(unfold v6 at hk;cases hk)|n,.obj _ _,_,_,hk,_=>by cases n<;>(unfold v6 at hk;cases hk)
theorem purs_of{K g}:∀{n ds xs as},keyDs n ds=true->RepA K H g ds xs as->PuRs K H ds xs
 |_,[],_,_,_,h=>h.1
 |n,d::ds,_,_,hk,h=>by
  unfold keyDs at hk;rw[Bool.and_eq_true]at hk;obtain⟨x,r,bs,cs,rfl,rfl,h1,h2⟩:=h;exact#[x,r,rfl,vwh hk.1 h1,purs_of hk.2 h2]
end
theorem vx4{ep:Nat}(I:Inv X aa σ H s)(h:H a=some (qK a es ep))(hn:(es.map (·.1)).Nodup)(hk:∀x∈es,PuR X.K H x.1.1 (.ref x.2.1)):s.heap.DictOfH (qwf X.prog X.w) a es:=by
 obtain⟨⟨o,ds,h1,h2,h3,h4⟩,_⟩:=(show ObjOk X.prog X.w H s.heap a (qK a es ep)from I.hok a _ h);exact#[o,ds,ep,h1,h2,h3,h4,λx hx=>kj7 I (hk x hx) rfl,hn]
theorem vx8:∀(es:List Ent) (k:Kd),(atKey es k).isSome=decide (k.1∈es.map (·.1.1))
 | [],k=>by simp[atKey]
 | x::es,k=>by
  have ih:=vx8 es k
  by_cases h:x.1=k
  ·have:k.1∈(x::es).map (·.1.1):=by rw[<-h];simp
   rw[Xh this];simp[atKey,List.find?_cons,h]
  ·have e1:atKey (x::es) k=atKey es k:=by simp[atKey,List.find?_cons,h]
   have e2:(k.1∈(x::es).map (·.1.1))↔k.1∈es.map (·.1.1):=by
    rw[List.map_cons,Xz];exact#[λz=>z.elim (λq=>absurd (Subtype.ext q.symm) h) id,.inr]
   rw[e1,ih];exact decide_eq_decide.mpr e2.symm
theorem vz0(hu:A.units+64<cLine):(qwf X.prog X.w).room A.in1:=by show A.units+1+40<cLine;lia
end
theorem vx5{K:Frag}{H:Hp}{y:Sl}{kvs:List (D×D)}(ok:y.ok K H)(hd:y.d=.dct kvs)(hu:unm kvs=true):∃a xs,y.v=.ref a/\DcN K H a (kvs.map (·.1)) xs:=by
 have h:=RepO.wk ok;rw[hd]at h;unfold RepL at h;obtain⟨a,xs,bs,e,_,q,_⟩:=h;exact#[a,xs,e,DcA.un q hu]
theorem kql{K:Frag}{H:Hp}{x:Sl}(ok:x.ok K H)(hk:J6 x.d=true):∃b,x.v=.ref b/\PuR K H x.d (.ref b):=by
 unfold J6 at hk;rw[Bool.and_eq_true]at hk;have h:=vwh hk.1 (RepO.wk ok);cases hd:x.d with
 |tup ds=>
  rw[hd]at h;have h':=h;unfold PuR at h;obtain⟨a,xs,e,_⟩:=h;exact#[a,e,e▸h']
 |_=>rw[hd]at hk;cases hk.2
theorem wjy{P:Program}{w:PySem.World}{H:Hp}(h:Heap):ObjOk P w H (h.push {cls:=.type "dict",data:=.dict (List.toArray [])}) h.objs.size (qK h.objs.size [] 0):=
 #[#[_,(List.toArray []),Xa _ rfl,#[rfl,rfl,rfl],rfl,rfl],#[_,Xa _ rfl],λh1 h2 hz k=>by obtain⟨o,ds,a1,a2⟩:=hz;exact#[o,ds,k o a1,a2]]
section
variable {K:Frag}{H:Hp}{g:Bool}{k:Kd}{b:Addr}{d:D}{x:V}{r:Value}{cs:List Addr}
theorem kxb{q}(hx : RepL K H g d x cs): ∀{kvs xs bs},RepP K H g kvs xs bs -> RepP K H g (kvs ++ [(q,d)]) (xs ++ [x]) (bs ++ cs)
  | [],_,_,h=>by
    obtain⟨rfl,rfl⟩:= h;unfold RepP;exact#[x,[],cs,[],rfl,by simp,hx,by unfold RepP; exact#[rfl,rfl]]
  | (p,e)::kvs,_,_,h=>by
    obtain⟨y,rr,b1,b2,rfl,rfl,h1,h2⟩:= h;unfold RepP;exact#[y,rr ++ [x],b1,b2 ++ cs,rfl,by rw[Xv],h1,kxb hx h2]
theorem kwx:∀{xs us},Vals xs us->RelV x r->Vals (xs++[x]) (us++[r])
 |_,_,.nil,h=>.cons h .nil|_,_,.cons a t,h=>.cons a (kwx t h)
end
theorem qxb{K H T L i y l es es' ep ep' xs' bs cs kvs'}(w:World K H (T++L))(hy:L[i]?=some (some y))(hH:H l=some (qK l es ep))(ho:y.o=.rt)(ha:y.as=l::bs)(hv:y.v=.ref l)
  (r:RepP K H true kvs' xs' cs) (hc:∀a∈cs,a∈bs\/a∈j8 T\/a∈jV T) (hs:(l==sysModules)=false) (h2:es'.length<=sizeLine) (h3:(es'.map (·.1)).Nodup) (h4:kvs'.map (·.1)=es'.map (·.1.1)) (h5:∀n∈es',PuR K H n.1.1 (.ref n.2.1)) (h6:Vals xs' (es'.map (·.2.2))):
  World K (upd H l (qK l es' ep')) (L.set i (some #[.rt,.dct kvs',y.v,l::cs]))/\Step H (T++L) (upd H l (qK l es' ep')) (L.set i (some #[.rt,.dct kvs',y.v,l::cs])):=by
 have hl:l∈y.own:=by unfold Sl.own;rw[ho,ha];simp
 have oL:=mem_owned.mpr #[y,vQ hy,hl];have oy:l∈j8 (T++L):=by rw[jZ];exact lr9 _ oL
 have nd:=w.nd;rw[jZ,X7]at nd;have nb:l∉bs:=λz=>by
  have:l∈y.frz:=by unfold Sl.frz;rw[ho,ha];exact z
  exact w.ds l oy (by rw[qx];exact lr9 _ (mem_frozen.mpr #[y,vQ hy,this]))
 have nc:l∉cs:=λz=>by
  rcases hc l z with q|q|q
  ·exact nb q
  ·exact(λz=>nd.2.2 l z l oL rfl) q
  ·exact(λz=>w.ds l oy (by rw[qx];exact ll9 _ z)) q
 have kp:Kp H (upd H l (qK l es' ep')) cs:=by
  have k2:∀a o,H a=some o->a≠l->upd H l (qK l es' ep') a=some o:=λa o e ne=>by rw[k6 ne];exact e
  refine#[λa zs e=>k2 a _ e λz=>?_,λa o u e=>k2 a _ e λz=>?_,λa ha o e=>k2 a o e λz=>nc (z▸ha)]
  ·subst z;rw[hH]at e;cases e
  ·subst z;rw[hH]at e;cases e
 refine World.writeAt w hy hl (y':=_) #[l,xs',cs,hv,r.kp kp,.inl #[es',ep',vx,hs,h2,h3,h4,λn hn=>PuR.kp kp (h5 n hn),h6],rfl] (by simp[Sl.own]) (λa h=>?_) (λa h=>?_) (λa h z=>?_)
 ·have:a=l:=by simpa [Sl.own]using h
  grind
 ·rcases hc a (by simpa [Sl.frz]using h)with q|q
  ·exact .inl (ha▸lc9 _ q)
  ·exact .inr q
 ·have:a=l:=by simpa [Sl.own]using h
  subst this;exact nc (by simpa [Sl.frz]using z)
noncomputable def Qq(h:Heap)(a:Addr)(ts:List DictEntry)(ep:Nat):Prop:=∃ob i7,h.get? a=some ob/\ob.ExactDict/\ob.data=.dict i7 ep/\i7.toList=ts
theorem wjz{X:Cx}{aa:List _}{σ:L2.St}{H:Hp}{s:Shared}{a:Addr}{es:List Ent}{ep:Nat}(I:Inv X aa σ H s)(h:H a=some (qK a es ep)):Qq s.heap a (es.map λx=>(#[Qz X.w x.1.1,.ref x.2.1,x.2.2]:DictEntry)) ep:=by
 obtain⟨⟨o,ds,h1,h2,h3,h4⟩,_⟩:=(I.hok a _ h);exact#[o,ds,h1,h2,h3,h4]
mutual
theorem qwv{K H}:∀{d v},PuR K H d v->RepL K H true d v []
 |.non,_,h=>#[h,rfl]|.int _,_,h=>#[h,rfl]
 |.tup ds,_,h=>by
  obtain⟨a,xs,e,s,r⟩:=h;exact#[a,xs,e,s,rep_purs r]
 |.bl _,_,h=>h.elim|.str _,_,h=>by exact#[h.1,rfl,h.2]|.lst _,_,h=>h.elim|.dct _,_,h=>by exact h.elim|.obj _ _,_,h=>h.elim
theorem rep_purs{K H}:∀{ds xs},PuRs K H ds xs->RepA K H true ds xs []
 |[],_,h=>by unfold PuRs at h;exact#[h,rfl]
 |d::ds,_,h=>by
  obtain⟨x,r,e,h1,h2⟩:=h;exact#[x,r,[],[],e,rfl,qwv h1,rep_purs h2]
end
noncomputable def wx9(K:Frag)(p:Addr)(Q:VK)(ps:List (V×V))(H2:Hp):Prop:=∃x y,ps=[(x,y)]/\H2 p=some (qK p [] 0)/\∃(b:Addr) (kd:Kd),x=.ref b/\PuR K H2 kd.1 (.ref b)/\∀r ep',RelV y r->Q (.ref p) (upd H2 p (qK p [(kd,b,r)] ep'))
abbrev xj0(K:Frag)(tk tv:TE):TE:=fun σ H Q=>∀p,H p=none->(p==sysModules)=false->tk σ (upd H p (qK p [] 0)) λx H1=>tv σ H1 λy H2=>wx9 K p Q [(x,y)] H2
theorem vzt{X:Cx}{K:Frag}{pos:Pos}{k v:Expr}{tk tv:TE}(hu:X.A.units+64<cLine)(hk:PE X k tk)(hv:PE X v tv)(hK:autoParam (X.K=K) Ŕ):PE X (.Dict [some k] [v] pos) (xj0 K tk tv):=by
 subst hK;intro aa s σ H Q I h;have hn:=I.hok.fresh (X8 s.heap.objs.size);have I1:=I.laid (a:=s.heap.objs.size) (o:=qK s.heap.objs.size [] 0) (h':=s.heap.push {cls:=.type "dict",data:=.dict (List.toArray [])}) (t':=s.toks) (λ_ _ q=>X2 _ q) (X8 _) (wjy s.heap);refine wpAny_Dict_any rfl rfl (by simp) (by simp) (thn (vq9 hk hv vzl aa _ σ _ (wx9 X.K s.heap.objs.size Q) I1 (h _ hn (Xu (Nat.ne_of_gt I.big)))) λvs s2 hz=>?_);obtain⟨ps,H2,I2,fk,x,y,ep,e,b,kd,ex,pk,q⟩:=hz;subst ep ex;cases fk with
 |@cons p1 p2 t1 t2 h1 h2=>
  cases h2;obtain⟨u,r⟩:=p2;obtain rfl:u=Value.ref b:=h1.1;have h1:RelV y r:=h1.2;unfold storeAll;rw[List.forIn_cons];refine X0 (X0 (wpAny_dictSet_heap (knd:=qwf X.prog X.w) (xs:=[]) (k:=kd) (by show X.A.units+40<cLine;lia) (kj7 I2 pk rfl) (vx4 I2 e Y2 (λ_ z=>absurd z Xm)) (λh' dd hs=>X5 ?_) (Yg _)));show wpAny (model X.prog X.w) X.A (forIn [] PUnit.unit _) _ _ _;rw[List.forIn_nil];refine X5 ?_;obtain⟨o,ds,ep',hq,g2,g3,g4,_,_⟩:=dd;exact#[.ref s.heap.objs.size,_,kwo (ob:=qK s.heap.objs.size [(kd,b,r)] ep') I2 (by rw[e];exact Z3) hs #[o,hq] #[#[o,ds,hq,g2,g3,g4],#[o,hq],λh1 h2 hz k=>by obtain⟨o,ds,a1,a2⟩:=hz;exact#[o,ds,k o a1,a2]],rfl,q r ep' h1]
section
variable {X:Cx}{Z:Fx0}{q:Bool}{kc vc:Ex}{ke ve:Expr}{pos:Pos}
theorem wve(hu:X.A.units+64<cLine)(hk:QE X Z q kc ke)(hv:QE X Z q vc ve)(hK:autoParam (X.K=Z.K) Ŕ):QE X Z q (vvo kc vc) (.Dict [some ke] [ve] pos):=kz (vzt hu hk hv hK) fun σ H Q ax=>ex8 ax λE L r m w hc xc k=>by
 intro p hp hs;have u5:k7 H (upd H p (qK p [] 0)):=vz hp;have st0:Step H L (upd H p (qK p [] 0)) L:=#[λb ob h _=>u5 b ob h,λ_ h=>.inl h,λ_ h=>.inl h];have nL:p∉j8 L:=λz=>w.own_some z hp
 have nF:p∉jV L:=λz=>w.frz_some z hp
 have w0:World Z.K (upd H p (qK p [] 0)) L:=#[λt ht=>RepO.kp (w.ok t ht) (Kp.of_same u5),w.nd,w.ds];have wd:World Z.K (upd H p (qK p [] 0)) ([some #[.rt,.dct [],.ref p,[p]]]++L):=by
  refine World.cons w0 #[p,[],[],rfl,by unfold RepP;exact#[rfl,rfl],.inl #[[],0,vx,hs,Yg _,Y2,rfl,λ_ z=>absurd z Xm,Paired.nil],rfl] (by simp[Sl.own]) (λb hb ho=>?_) (λb hb ho=>?_) (λb hb=>by simp[Sl.frz]at hb) (λb _ hb=>by simp[Sl.frz]at hb)
  ·have:b=p:=by simpa [Sl.own]using hb
   exact nL (this▸ho)
  ·have:b=p:=by simpa [Sl.own]using hb
   exact nF (this▸ho)
 refine Kw m w0 (show bnd (kc E) _=some r from hc) (xc.step st0) λE1 s1 h1 x L1 H1 e1 e2 m1 w1 i4 lw=>?_
 obtain⟨wd1,sd1⟩:=V5 wd i4 w1;have u4:Step H L H1 L1:=(st0.trans i4).trans Step.drop;refine Kw m1 w1.tail (show bnd (vc E1) _=some r from h1) (xc.step u4) λE2 s2 h2 y L2 H2 e3 e4 m2 w2 cf f9=>?_
 have pm:(([some #[.rt,.dct [],.ref p,[p]]]:Ls)++(some x::L1)).Perm (([some x,some #[.rt,.dct [],.ref p,[p]]]:Ls)++L1):=List.Perm.swap _ _ _;obtain⟨wd2,sd2⟩:=V5 (wd1.perm pm) cf w2;have ph:(([some x,some #[.rt,.dct [],.ref p,[p]]]:Ls)++(some y::L2)).Perm (([some x,some y]:Ls)++(some #[.rt,.dct [],.ref p,[p]]::L2)):=List.Perm.cons _ (List.Perm.swap _ _ _);have w3:=wd2.perm ph;have dl:Step (upd H p (qK p [] 0)) ([some #[.rt,.dct [],.ref p,[p]]]++L) H2 ([some x,some y]++(some #[.rt,.dct [],.ref p,[p]]::L2)):=(sd1.perm (List.Perm.refl _) pm).trans (sd2.perm (List.Perm.refl _) ph)
 by_cases hkt:J6 s1.2=true
 ·rw [Xb hkt]at h2;cases oq9 h2;have lh:x.ok Z.K H2:=w3.ok x (by simp);have hkz:J6 x.d=true:=by rw[e2];exact hkt
  obtain⟨b,eb,pb⟩:=kql lh hkz;have ny:v6 6 x.d=true:=by unfold J6 at hkz;rw[Bool.and_eq_true]at hkz;exact hkz.1
  obtain⟨a,xs0,bs0,ea,_,q4,_⟩:=(show RepR Z.K H2 (.dct []) (.ref p) [p]from w3.ok #[.rt,.dct [],.ref p,[p]] (by simp));obtain⟨es,ep,g1,_⟩:=DcA.un (kvs:=[]) q4 rfl;have hH2:H2 p=some (qK p [] 0):=by
   have n1:p∉j8 (some x::L1):=λz=>by
    rcases i4.own p z with z|z
    ·exact nL z
    ·rw[vx]at z;cases z
   have hH1:H1 p=some (qK p [] 0):=i4.keep p _ vx nL;exact cf.keep p _ hH1 λz=>n1 (by rw[jK];exact lr9 _ z)
  have rv:RepL Z.K H2 true s2.2 y.v y.as:=by rw[<-e4];exact RepO.wk (w3.ok y (by simp))
  refine#[x.v,y.v,rfl,hH2,b,#[x.d,ny],eb,pb,λrr ep' hrr=>?_];obtain⟨w4,i'⟩:=qxb (ep':=ep') (es':=[(#[x.d,ny],b,rr)]) (xs':=[y.v]) (cs:=y.as) (kvs':=[(x.d,s2.2)]) (bs:=[]) (i:=0) (y:=#[.rt,.dct [],.ref p,[p]]) w3 rfl hH2 rfl rfl rfl
   (by unfold RepP;exact#[y.v,[],y.as,[],rfl,by simp,rv,by unfold RepP;exact#[rfl,rfl]])
   (λc nv=>.inr (by
    rcases Sl.as_of nv with z|z
    ·exact .inl (by simpa using .inr z)
    ·exact .inr (by simpa using .inr z))) hs (by show(1:Nat)<=sizeLine;decide) (List.nodup_cons.mpr #[Xm,Y2]) rfl (λn hn=>by rw[aC hn];exact pb) (.cons hrr .nil)
  have stA:Step (upd H p (qK p [] 0)) ([some #[.rt,.dct [],.ref p,[p]]]++L) _ _:=dl.trans i';refine k _ _ rfl #[.rt,.dct [(x.d,s2.2)],.ref p,p::y.as] L2 _ rfl (congrArg (λd=>D.dct [(d,s2.2)]) e2) m2 w4 ?_ λhq=>?_
  ·refine#[λc ob h hn=>stA.keep c ob (u5 c ob h) λz=>?_,λc nv=>?_,λc nv=>?_]
   ·rw[List.singleton_append,jK]at z;rcases aA z with z|z
    ·have:c=p:=by simpa [Sl.own]using z
     rw[this,hp]at h;cases h
    ·exact hn z
   ·rcases stA.own c nv with z|z
    ·rw[List.singleton_append,jK]at z;rcases aA z with z|z
     ·have:c=p:=by simpa [Sl.own]using z
      exact .inr (this▸hp)
     ·exact .inl z
    ·exact .inr (by
      cases hc0:H c with
      |none=>rfl
      |some ob=>rw[u5 c ob hc0]at z;cases z)
   ·have hcp:c=p->H c=none:=λz=>z▸hp
    rcases stA.frz c nv with z|z|z
    ·rw[List.singleton_append,vk]at z;rcases aA z with z|z
     ·simp[Sl.frz]at z
     ·exact .inl z
    ·rw[List.singleton_append,jK]at z;rcases aA z with z|z
     ·have:c=p:=by simpa [Sl.own]using z
      exact .inr (.inr (this▸hp))
     ·exact .inr (.inl z)
    ·exact .inr (.inr (by
      cases hc0:H c with
      |none=>rfl
      |some ob=>rw[u5 c ob hc0]at z;cases z))
  ·refine#[λc ob h=>?_,λc nv=>?_]
   ·have cp:c≠p:=λz=>by rw[z,hp]at h;cases h
    rw[k6 cp];exact(f9 hq).1 c ob ((lw hq).1 c ob (u5 c ob h))
   ·have:c=p:=by simpa [Sl.own]using nv
    exact this▸hp
 ·rw[Xe hkt]at h2;cases h2
end
section
variable {prog:Program}{w:PySem.World}{A:Around}{E:VP9}{s:Shared}{a it:Addr}{ts:List DictEntry}{ep i:Nat}
theorem qzk{Q:VP9}(hs:(a==sysModules)=false)(hd:Qq s.heap a ts ep)
  (q:Q (.ref s.heap.objs.size) {s with heap:=s.heap.push {cls:=.type "dict_keyiterator",data:=.fields (List.toArray [.ref a,.int 0 0,.int ts.length 0,.int ep 0])}}):wpAny (model prog w) A (pyIter (.ref a)) Q E s:=by
 obtain⟨ob,i7,g1,g2,g3,g4⟩:=hd;have ty:s.TypeIs (.ref a) "dict":=#[ob,g1,g2.1];have hl:i7.size=ts.length:=by rw[<-g4];simp
 refine wpAny_pyIter_slot ty F.slot_dict_iter (Y6 F.slot_dict_iter ty F.entry_dict_iter ?_ (F.args_dict_iter_1 _));unfold Builtin.«dict.__iter__» Builtin.Dict.dictSlotNone;refine X0 (X0 (wpAny_notOrdered_dict ty ?_));show wpAny _ _ (pure (Value.ref a)) _ _ s;refine X5 ?_;show wpAny _ _ (Builtin.Dict.showsAll a >>= _) _ _ s;unfold Builtin.Dict.showsAll;rw[Xe (by rw[hs];exact Bool.false_ne_true)];refine X0 (X5 (X0 (wpAny_dictEntries g1 g3 (X0 (wpAny_dictEpoch g1 g3 ?_)))));refine X0 (Yi (X5 #[_,rfl,"dict_keyiterator",_,#[_,Xa _ rfl,rfl],F.slot_dict_keyiterator_next.lookup,?_]))
 simpa [rawInt,hl]using q
theorem qzj{en:DictEntry}{Q:Option Value->Shared->Prop}(hi:s.heap.IsKeyIter it a i ts.length ep)(hd:Qq s.heap a ts ep)(hx:ts[i]?=some en)
  (q:∀h',h'.IsKeyIter it a (i+1) ts.length ep->Heap.SameBut it s.heap h'->Q (some en.key) {s with heap:=h' }):wpAny (model prog w) A (pyNext (.ref it)) Q E s:=by
 have ty:=hi.typeIs;obtain⟨o,h1,h2,h3⟩:=hi;obtain⟨ob,i7,g1,g2,g3,g4⟩:=hd;have hl:i7.size=ts.length:=by rw[<-g4];simp
 have cj:i<i7.size:=by rw[hl];exact(List.getElem?_eq_some_iff.mp hx).1
 have hen:i7[i]=en:=by
  rw[<-g4,Yl,Array.getElem?_eq_getElem cj]at hx;exact oq9 hx
 have ow:Builtin.Dict_items.ownsTuple "dict_keyiterator"=false:=⋯
 unfold pyNext;refine X0 (wpAny_attempt (Yb (name:=Str.ofString "__next__") ty F.slot_dict_keyiterator_next (Y6 F.slot_dict_keyiterator_next ty F.entry_dict_keyiterator_next ?_ (F.args_dict_keyiterator_next_1 _))));refine X0 (X5 (X0 (X0 ?_)))
 first
  |refine X0 (Yu ty (X5 (X0 (wpAny_fieldsOf h1 h3 ?_))))
  |refine X0 (wpAny_typeNameOf_keyiter ty (X5 (X0 (wpAny_fieldsOf h1 h3 ?_))))
 simp only[ow,Bool.false_eq_true,if_false];show wpAny _ _ (if(Value.ref a==Value.none)=true then _ else _) _ _ s;rw[Xe (show ¬((Value.ref a==Value.none)=true)from λz=>nomatch z)];refine X0 (X5 (X0 (wpAny_dictEntries g1 g3 ?_)));rw[Xe (by rw[hl];simp)];refine X0 (X5 (X0 (wpAny_dictEpoch g1 g3 ?_)));rw[Xe (by simp)];refine X5 ?_;simp only[show ¬((i:Int)<0)from by lia,if_false,Ye,Array.getElem?_eq_getElem cj,hen];refine X0 ?_
 first
  |refine X0 (Yu ty (X5 (X0 (wpAny_isOneOf_keyiter ty ?_))))
  |refine X0 (wpAny_typeNameOf_keyiter ty (X5 (X0 (wpAny_isOneOf_keyiter ty ?_))))
 show wpAny _ _ (setField (.ref it) 1 (rawInt ((i:Int)+1)) >>= _) _ _ s;refine X0 (Z5 h1 h3 (by simp) ?_);have pd:(s.heap.update it (Obj.mapFields (·.setIfInBounds 1 (rawInt ((i:Int)+1))))).IsKeyIter it a (i+1) ts.length ep:=⟨_,Ys _ h1 (Obj.isFreed_of_fields (Obj.data_mapFields h3 _)),(Obj.cls_mapFields ..).trans h2,by rw[Obj.data_mapFields h3];simp[rawInt]⟩;refine X0 (Y9 (X0 (wpAny_isOneOf_keyiter (s:={s with heap:=s.heap.update it (Obj.mapFields (·.setIfInBounds 1 (rawInt ((i:Int)+1))))}) pd.typeIs ?_)));show wpAny _ _ (pure en.key) _ _ _;exact X5 (X5 ⟨_,rfl,X5 (q _ pd (Yq ..))⟩)
theorem qzi{Q:Option Value->Shared->Prop}(hh:A.handled=none)(hi:s.heap.IsKeyIter it a i ts.length ep)(hd:Qq s.heap a ts ep)(hx:ts.length<=i)(q:∀h',Heap.ExtBut it s.heap h'->Q none {s with heap:=h' }):wpAny (model prog w) A (pyNext (.ref it)) Q E s:=by
 have ty:=hi.typeIs;obtain⟨o,h1,h2,h3⟩:=hi;obtain⟨ob,i7,g1,g2,g3,g4⟩:=hd;have hl:i7.size=ts.length:=by rw[<-g4];simp
 have ow:Builtin.Dict_items.ownsTuple "dict_keyiterator"=false:=⋯
 unfold pyNext;refine X0 (wpAny_attempt (Yb (name:=Str.ofString "__next__") ty F.slot_dict_keyiterator_next (Y6 F.slot_dict_keyiterator_next ty F.entry_dict_keyiterator_next ?_ (F.args_dict_keyiterator_next_1 _))));refine X0 (X5 (X0 (X0 ?_)))
 first
  |refine X0 (Yu ty (X5 (X0 (wpAny_fieldsOf h1 h3 ?_))))
  |refine X0 (wpAny_typeNameOf_keyiter ty (X5 (X0 (wpAny_fieldsOf h1 h3 ?_))))
 simp only[ow,Bool.false_eq_true,if_false];show wpAny _ _ (if(Value.ref a==Value.none)=true then _ else _) _ _ s;rw[Xe (show ¬((Value.ref a==Value.none)=true)from λz=>nomatch z)];refine X0 (X5 (X0 (wpAny_dictEntries g1 g3 ?_)));rw[Xe (by rw[hl];simp)];refine X0 (X5 (X0 (wpAny_dictEpoch g1 g3 ?_)));rw[Xe (by simp)];refine X5 ?_;simp only[show ¬((i:Int)<0)from by lia,if_false,Ye,Array.getElem?_eq_none (show i7.size<=i by lia)];refine X0 ?_
 first
  |refine X0 (Yu ty (X5 ?_))
  |refine X0 (wpAny_typeNameOf_keyiter ty (X5 ?_))
 show wpAny _ _ (setField (.ref it) 0 .none >>= _) _ _ s;refine X0 (Z5 h1 h3 (by simp) ?_);show wpAny _ _ (newExc (.type "StopIteration") [] >>= _) _ _ _;refine X0 ?_;simp only[newExc,newTuple];refine X0 (Yi (X0 (m:=firstArgMember _ _) (wpAny_of_eq (a:=Value.none) (by first|rfl|(simp only[firstArgMember];rfl)) (Yi ?_ (by size_fits)))) (by size_fits));simp only[raiseNew];refine X0 (wpAny_handled ?_);rw[show A.in1.handled=none from hh];have tyS:∀(hq:Heap) (ob:Obj),ob.cls=.type "StopIteration"->(hq.push ob).get? hq.objs.size=some ob->Shared.TypeIs {s with heap:=hq.push ob} (.ref hq.objs.size) "StopIteration":=λhq ob h1 h2=>#[_,h2,h1]
 refine X0 (X5 (wpAny_throw ?_));refine X0 (wpAny_isInstance (b:=true) (tyS _ _ rfl (Xa _ rfl)) isSubtype_stop ?_);exact X5 (q _ (((Yq ..).extBut.push _).push _))
theorem jxv{h h':Heap}(hd:Qq h a ts ep)(k:∀o,h.get? a=some o->h'.get? a=some o):Qq h' a ts ep:=by
 obtain⟨ob,i7,g1,g⟩:=hd;exact#[ob,i7,k ob g1,g]
theorem qk8{h:Heap}(hd:Qq h a ts ep):a<h.objs.size:=by
 obtain⟨ob,i7,g1,g⟩:=hd;exact Xd g1
theorem qv3(hh:A.handled=none)(I:Addr)(cp:a≠I):PySem.Walks prog w A I [I,a] [I] ts.length (λi v=>∃en,ts[i]?=some en/\v=en.key) (λi h=>h.IsKeyIter I a i ts.length ep/\Qq h a ts ep) where
 sub:=λb hb=>by simp at hb;simp[hb]
 frame:=λ_ _ _ st hk=>#[st.1.at λo e=>hk I (by simp) o e,jxv st.2 λo e=>hk a (by simp) o e]
 item:=λi s Q E hi st hQ=>qzj st.1 st.2 (X1 hi) λh' pd nt=>
  hQ _ h' s.toks #[_,X1 hi,rfl] #[pd,jxv st.2 λo e=>nt.extBut a o cp e] λb o hb e=>nt.extBut b o (λh=>hb (by simp[h])) e
 done:=λs Q E st hQ=>qzi hh st.1 st.2 (X8 _) λh' he'=>hQ h' s.toks λb o hb e=>he' b o (λh=>hb (by simp[h])) e
 self:=λ_ _ _ _ st hQ=>wpAny_pyIter_keyiter st.1 hQ
theorem vkn(lo:(a==sysModules)=false):PySem.W.KdlSrc prog w "dict" a a ts.length (λi v=>∃en,ts[i]?=some en/\v=en.key) (λh=>Qq h a ts ep) where
 type:=λ_ hm=>by obtain⟨ob,i7,g1,g2,_⟩:=hm;exact#[ob,g1,g2.1]
 there:=λ_ hm=>#[qk8 hm,qk8 hm]
 keep:=λ_ _ hm hk=>jxv hm λo e=>hk a (.inl rfl) o e
 notList:=⋯
 notTuple:=⋯
 hint:=λ_ _ _ _ hm hq=>PySem.W.kdl_hint_dict (by obtain⟨ob,i7,g1,g2,_⟩:=hm;exact#[ob,g1,g2.1]) hq
 iter:=λ_ _ hh hm=>#[_,_,(λ_ _ hq=>qzk lo hm hq),qv3 hh _ (Xl (qk8 hm)),#[#[_,Xa _ rfl,rfl,rfl],jxv hm λo e=>X2 _ e]]
end
noncomputable def vwc(K:Frag):List V->Hp->VK->Prop:=λxs H Q=>∃a es ep,xs=[.ref a]/\H a=some (qK a es ep)/\(a==sysModules)=false/\es.length<=sizeLine/\∀l,H l=none->Q (.ref l) (upd H l (.lst (es.map λn=>V.ref n.2.1)))
theorem kwy:∀(es:List Ent),Vals (es.map λn=>V.ref n.2.1) (es.map λn=>Value.ref n.2.1)
 |[]=>.nil|n::es=>.cons rfl (kwy es)
theorem kv2{X:Cx}{K:Frag}(hc:autoParam (X.calm=true) Ŕ):CallR X (.type "list") (vwc K):=by
 intro aa s σ H xs us Q I r h;obtain⟨a,es,ep,rfl,hH,hs,hl,q⟩:=h;obtain⟨u,rfl,rx⟩:=J7 r;cases rx;refine PySem.W.kdl_call (vkn (ts:=es.map λx=>(#[Qz X.w x.1.1,.ref x.2.1,x.2.2]:DictEntry)) (ep:=ep) hs) (I.ok.hd hc) (wjz I hH) (by rw[X3];exact hl) λh' tk aq c kp e ba=>?_
 have he:aq.toList=es.map λn=>Value.ref n.2.1:=by
  refine List.ext_getElem? λi=>?_
  rw[Xq];have hn:aq.size=es.length:=by have:=ba.1;simpa using this
  cases hv:aq[i]? with
  |none=>rw[Yl,hv,List.getElem?_eq_none (by have:=Array.getElem?_eq_none_iff.mp hv;lia)];rfl
  |some v=>
   obtain⟨en,h1,h2⟩:=ba.2 i v hv;rw[Yl,hv,h2];rw[Xq]at h1;cases hes:es[i]? with|none=>rw[hes]at h1;cases h1|some n=>rw[hes]at h1;cases oq9 h1;rfl
 refine#[.ref s.heap.objs.size,_,I.laid kp (X8 _) (show ObjOk X.prog X.w _ h' _ (.lst (es.map λn=>V.ref n.2.1))from#[by rw[X3];exact hl,es.map λn=>Value.ref n.2.1,c,kwy es,by rw[<-he];simpa using e]),rfl,q _ (I.hok.fresh (X8 _))]
theorem kxd{K:Frag}{H:Hp}:∀{es:List Ent},(∀n∈es,PuR K H n.1.1 (.ref n.2.1))->RepA K H true (es.map (·.1.1)) (es.map λn=>V.ref n.2.1) []
 |[],_=>by unfold RepA;exact#[rfl,rfl]
 |n::es,h=>by
  rw[List.map_cons,List.map_cons];unfold RepA;exact#[_,_,[],[],rfl,rfl,qwv (h n X4),kxd λm hm=>h m (lc9 _ hm)]
set_option tactic.hygienic true in
theorem qv2{K:Frag}:Ad1 K (λv H Q=>vwc K [v] H Q) WK:=by
 intro H x s Q ok hf k;unfold WK at hf;cases hx:x.d with
 | dct kvs=>
  rw[show(x.o,x.d).2=D.dct kvs from hx]at hf;have hf:(if kvs.length<=big/\unm kvs=true then some (Own.rt,D.lst (kvs.map (·.1)))else none)=some s:=hf
  split at hf
  rotate_left
  ·cases hf
  rename_i av;cases oq9 hf;have okL:RepL K H true (.dct kvs) x.v x.as:=by rw[<-hx];exact J3 ok
  unfold RepL at okL;obtain⟨a,xs,bs,ev,rp,q4,eas⟩:=okL;obtain⟨es,ep,g1,g2,g3,g4,g5,g6,g7⟩:=DcA.un q4 av.2;refine#[a,es,ep,by rw[ev],g1,g2,g3,λl hl=>k #[.rt,.lst (kvs.map (·.1)),.ref l,[l]] _ rfl rfl #[vz hl,#[l,_,[],rfl,?_,vx,rfl],λb hb=>?_,by simp[Sl.own],λb hb=>?_]]
  ·rw[g5];exact(kxd g6).kp (Kp.of_same (vz hl))
  ·have:b=l:=by simpa [Sl.own]using hb
   exact this▸hl
  ·simp[Sl.frz]at hb
 |_=>rw[show(x.o,x.d).2=_ from hx]at hf;cases hf
theorem RepA.put{K H g d x cs}(hx:RepL K H g d x cs):∀{ds xs bs} (n),RepA K H g ds xs bs->∃es,RepA K H g (ds.set n d) (xs.set n x) es/\∀a∈es,a∈bs\/a∈cs
 | [],_,bs,n,h=>by
  have h0:=h;obtain⟨rfl,rfl⟩:=h0;exact#[[],by simpa using h,λ_ z=>nomatch z]
 | e::ds,_,_,n,h=>by
  obtain⟨y,r,b1,b2,rfl,rfl,h1,h2⟩:=h;cases n with
  | zero=>
   refine#[cs++b2,?_,λa ha=>?_]
   ·unfold RepA;exact#[x,r,cs,b2,rfl,rfl,hx,h2]
   ·rcases aA ha with z|z
    ·exact .inr z
    ·exact .inl (lr9 _ z)
  | succ n=>
   obtain⟨es,i1,i2⟩:=RepA.put hx n h2;refine#[b1++es,?_,λa ha=>?_]
   ·unfold RepA;exact#[y,r.set n x,b1,es,rfl,rfl,h1,i1]
   ·rcases aA ha with z|z
    ·exact .inl (ll9 _ z)
    ·exact(i2 a z).imp (lr9 _) id
section
variable {X:Cx}{Z:Fx0}{pn:List Nat}{q:Bool}{kc vc:Ex}{o ke ve:Expr}{pos bh:Pos}
set_option tactic.hygienic true in
theorem vz7{i}(ho:PE X o (x9 i))(hk:QV X Z true kc ke)(hv:QE X Z q vc ve)(hs:autoParam (swapsWithSole [.Subscript o ke bh] ve pos.line X.env=pure false) Ŕ)(hw:autoParam (swappedStores [.Subscript o ke bh] ve X.env=pure none) Ŕ)
  (h1:autoParam ((assignEach [.Subscript o ke bh] X.env).map (·.2)=[assign (.Subscript o ke bh) X.env]) Ŕ)
  (ha:autoParam (∀v,assign (.Subscript o ke bh) X.env v=(do
   let ov <-holding [v] (eval o X.env)
   let iv <-holding [v,ov] (eval ke X.env)
   standAt bh
   holding [v,ov,iv] (setItem ov iv v)
   release [v,ov,iv] [])) Ŗ):
  QS X Z pn (wql i kc vc) (.Assign [.Subscript o ke bh] ve pos):=wv3 (W:=wqp) (qxh hv (wvs ho hk vkr ha) hs hw h1) #[rfl,rfl] fun {H L y x z d} {C} hy w p7 jo k=>by
 unfold xkn at jo
 split at jo
 ·rename_i o xs j heq hz;injection heq with h2 h3
  split at jo
  ·cases jo
  ·rename_i iu;obtain⟨n,hj,rfl⟩:=Option.map_eq_some_iff.mp jo;obtain⟨l,vs,bs,c1,c2,c3,c4,c5⟩:=kvy (w.tail.ok y (vQ hy)) h3 (h2▸iu);have c6:RepA Z.K H true xs vs bs:=by
    cases hb:(y.o != .dp)with|true=>rw[hb]at c5;exact c5|false=>rw[hb]at c5;exact c5.wk
   obtain⟨es,g1,g2⟩:=RepA.put (RepO.wk (w.ok x X4)) n c6;obtain⟨w4,i'⟩:=kvw (T:=[some x]) (o':=.rt) (ds':=xs.set n x.d) (xs':=vs.set n x.v) w hy c2 c3 c4 c1 g1 (.inl #[rfl,λa ha=>(g2 a ha).imp id λz=>by
    rcases Sl.as_of z with z|z
    ·exact .inl (by simpa using z)
    ·exact .inr (by simpa using z)])
   exact#[l,vs,j,n,c1,qk p7 hz,c2,by rw[<-c6.len,<-qzn];exact hj,k _ _ w4 i']
 ·cases jo
end
abbrev dkI(kv:List (Int×Int)):List (Key×V):=kv.map λp=>(Sum.inl p.1,V.int p.2)
theorem wkz kv k:J9 (dkI kv) (Sum.inl k)=(qz kv k).map V.int:=by
 induction kv with
 | nil=>rfl
 | cons p r ih=>
  unfold J9 qz at ih ⊢;rw[show dkI _=_::dkI r from rfl,List.find?_cons,List.find?_cons]
  by_cases h:p.1=k
  ·have h1:decide ((Sum.inl p.1:Key)=Sum.inl k)=true:=Xh (by rw[h]);have h2:=Xh h;simp only[h1,h2];rfl
  ·have h1:decide ((Sum.inl p.1:Key)=Sum.inl k)=false:=Xp λz=>h (Sum.inl.inj z)
   have h2:=Xp h;simp only[h1,h2];exact ih
theorem vwf kv (k v):zz (dkI kv) (Sum.inl k) (V.int v)=dkI (wq kv k v):=by
 have ha:((dkI kv).any λp=>decide (p.1=(Sum.inl k:Key)))=kv.any λp=>decide (p.1=k):=by
  rw[List.any_map]
  congr 1
  funext p;show decide ((Sum.inl p.1:Key)=Sum.inl k)=decide _;exact decide_eq_decide.mpr #[λz=>Sum.inl.inj z,λz=>by rw[z]]
 unfold zz wq;rw[ha]
 by_cases h:(kv.any λp=>decide (p.1=k))=true
 ·rw[Xb h,Xb h];unfold dkI;rw[Xj,Xj];refine Yw λp _=>?_
  by_cases z:p.1=k
  ·grind
  ·grind
 ·rw[Xe h,Xe h];unfold dkI;rw[Xk];rfl
theorem qzu:∀{kvs kv},qvr kvs=some kv->kvs=kv.map λp=>(D.int p.1,D.int p.2):=by
 intro kvs
 induction kvs with
 |nil=>intro kv h;cases oq9 h;rfl
 |cons e r ih=>
  intro kv h;obtain⟨a,b⟩:=e;cases a<;>first|(cases h;done)|(cases b<;>first|(cases h;done)|skip)
  obtain⟨q,hq,rfl⟩:=Option.map_eq_some_iff.mp (show(qvr r).map _=some kv from h);rw[List.map_cons,<-ih hq]
theorem kz2:∀kv,qvr (kv.map λp=>(D.int p.1,D.int p.2))=some kv
 |[]=>rfl
 |_::r=>by
  show(qvr _).map _=_;rw[kz2 r];rfl
theorem YZ kv:JX (wv kv)=some kv:=kz2 kv
theorem kxc{K H g}:∀{kv:List (Int×Int)} {xs bs},RepP K H g (kv.map λp=>(D.int p.1,D.int p.2)) xs bs->xs=kv.map λp=>V.int p.2
 |[],_,_,h=>by
  exact h.1
 |p::r,_,_,h=>by
  obtain⟨y,rr,b1,b2,rfl,_,h1,h2⟩:=h;rw[h1.1,kxc h2,List.map_cons]
theorem kz1{K H g}:∀(kv:List (Int×Int)),RepP K H g (kv.map λp=>(D.int p.1,D.int p.2)) (kv.map λp=>V.int p.2) []
 |[]=>#[rfl,rfl]
 |p::r=>by
  exact#[_,_,[],[],rfl,rfl,vK,kz1 r]
theorem qz2{K H g}(kv:List (Int×Int)):RepP K H g (mkD::kv.map λp=>(D.int p.1,D.int p.2)) (V.non::kv.map λp=>V.int p.2) []:=by
 exact#[_,_,[],[],rfl,rfl,#[rfl,rfl],kz1 kv]
theorem qkv{K H}{p} kv:RepR K (upd H p (.dK (dkI kv))) (wv kv) (.ref p) [p]:=
 #[p,_,[],rfl,qz2 _,.inr #[kv.map λp=>(p.1,V.int p.2),"",by rw[vx,Xj];rfl,by rw[List.map_cons,Xj,Xj];rfl,by rw[Xj];rfl],rfl]
abbrev wDK:V->V->V->Hp->(Hp->Prop)->Prop:=λx y v H C=>∃a H4,x=.ref a/\DPut H a y v H4/\C H4
theorem wvj{K H L}{i:Nat}{y x:Sl}{zv kvs kvs' d}{j:Int}{v}{C:Hp->Prop}(hy:L[i]?=some (some y))(w:World K H (some x::L))(ho:y.o=.rt)(h:∃a,y.v=.ref a/\H a=some (.dK kvs)/\∃bs,y.as=a::bs)(hz:zv=.int j)(hx:x.v=v)(hp:zz kvs (.inl j) v=kvs')(hl:kvs.length<sizeLine)
  (rep:∀{H p},RepR K (upd H p (.dK kvs')) d (.ref p) [p]) (k:∀H' as,World K H' (L.set i (some #[.rt,d,y.v,as]))->Step H (some x::L) H' (L.set i (some #[.rt,d,y.v,as]))->C H'):wDK y.v zv x.v H C:=by
 obtain⟨l,c1,c2,bs,c3⟩:=h;subst hz hx hp;have hlo:l∈y.own:=by unfold Sl.own;rw[ho,c3];simp
 obtain⟨w4,i'⟩:=World.writeAt (T:=[some x]) (ob:=.dK (zz kvs (.inl j) x.v)) (y':=#[.rt,d,y.v,[l]]) w hy hlo (by rw[c1];exact rep) (by simp[Sl.own]) (λa h=>by simp_all [Sl.own]) (λa h=>by simp[Sl.frz]at h) (λa h z=>by simp[Sl.frz]at z);exact#[l,_,c1,DPut.k (k:=Sum.inl j) c2 hl,k _ _ w4 i']
theorem qqq:∀{a:List (Int×V)} {kv},(kv.map λp=>D.int p.1)=a.map (λp=>D.int p.1)->(kv.map λp=>V.int p.2)=a.map (·.2)->(a.map λp=>((Sum.inl p.1:Key),p.2))=dkI kv
 |[],[],_,_=>rfl|[],_::_,h,_=>by simp at h
 |p::a,q::kv,h,h'=>by
  rw[List.map_cons,List.map_cons]at h h';injection h with h1 h2;injection h' with h3 h4;injection h1 with h1;unfold dkI;rw[List.map_cons,List.map_cons,qqq h2 h4,<-h1,<-h3]
theorem kze{K H}{y:Sl}{kv}(ok:y.ok K H)(hd:JX y.d=some kv):∃a,y.v=.ref a/\H a=some (.dK (dkI kv))/\∃bs,y.as=a::bs:=by
 have h:=RepO.wk ok;cases hy:y.d with
 | dct kvs=>
  rw [hy]at hd h;cases kvs with
  | nil=>cases hd
  | cons e kvs=>
   obtain⟨a,b⟩:=e;cases a with
   | str m=>
    cases b with
    | non=>
     have e:=qzu hd;subst e;obtain⟨a,xs,bs,ev,rp,qa,eas⟩:=h;rcases qa with⟨es,ep,_,_,_,_,g5,g6,_⟩|⟨kvn,mm,g1,g2,g3⟩
     ·exfalso;rw[List.map_cons]at g5;cases es with
      |nil=>cases g5
      |cons n es=>
       rw[List.map_cons]at g5;injection g5 with g5 _;have:=g6 n X4;rw[<-g5]at this;unfold PuR at this
       grind
     ·refine#[a,ev,?_,bs,eas];rw[g1]
      congr 2
      obtain⟨y1,rr,_,_,rfl,_,_,r2⟩:=rp;rw[List.map_cons,Xj]at g2;injection g2 with _ g2;injection g3 with _ g3;refine qqq g2 ?_
      rwa [<-(kxc r2)]
    |_=>cases hd
   |_=>cases b<;>cases hd
 |_=>rw[hy]at hd;cases hd
section
noncomputable def wze(my:Bool):R2:=λx y H Q=>∃(k:Int) (a:Addr) (kv:List (Int×Int)),x=.int k/\y=.ref a/\H a=some (.dK (dkI kv))/\Q (.bl (if my then !(qz kv k).isSome else(qz kv k).isSome)) H
theorem qqw{H a}{kv} k (e:H a=some (.dK (dkI kv))):DGet H a (.int k) ((qz kv k).map V.int):=by
 rw[<-wkz];exact DGet.k (k:=Sum.inl k) e
theorem xk6{X}(hu:X.A.units+64<cLine):OpR X (compareOp .In) (wze false):=by
 intro aa s σ H x y u v Q I rx ry ⟨k,a,kv,e1,e2,hd,q⟩;subst e1 e2;cases ry;refine d_in ⋯ I (qqw k hd) rx λs' I'=>#[.bl _,H,I',rfl,?_]
 rwa [Option.isSome_map]
theorem vqp{X}(hu:X.A.units+64<cLine):OpR X (compareOp .NotIn) (wze true):=by
 intro aa s σ H x y u v Q I rx ry ⟨k,a,kv,e1,e2,hd,q⟩;subst e1 e2;cases ry;refine wk0 ⋯ I (qqw k hd) rx λs' I'=>#[.bl _,H,I',rfl,?_]
 rwa [Option.isSome_map]
theorem wz1{K}:Ad2 K (wze false) (pu2 XZ):=by
 intro H x y s Q ox oy hf k;unfold pu2 XZ at hf;dsimp only at hf;cases hx:x.d with
 | int j=>
  rw[hx]at hf;cases hi:JX y.d with
  |none=>rw[hi]at hf;cases hf
  |some kv=>
   rw[hi]at hf;cases oq9 hf;obtain⟨a,e,q,_⟩:=kze oy hi;exact#[j,a,kv,qk ox hx,e,q,k _ H rfl rfl wY]
 |_=>rw[hx]at hf;cases hf
theorem vk4{K}:Ad2 K (wze true) (pu2 kkd):=by
 intro H x y s Q ox oy hf k;unfold pu2 kkd at hf;dsimp only at hf;cases hx:x.d with
 | int j=>
  rw[hx]at hf;cases hi:JX y.d with
  |none=>rw[hi]at hf;cases hf
  |some kv=>
   rw[hi]at hf;cases oq9 hf;obtain⟨a,e,q,_⟩:=kze oy hi;exact#[j,a,kv,qk ox hx,e,q,k _ H rfl rfl wY]
 |_=>rw[hx]at hf;cases hf
theorem wxu(x y s)(h:pu2 XZ x y=some s):∃k,s.2=.bl k:=by
 unfold pu2 XZ at h;cases hx:x.2 with
 |int j=>
  rw[hx]at h;cases hi:JX y.2 with|none=>rw[hi]at h;cases h|some kv=>rw[hi]at h;cases oq9 h;exact#[_,rfl]
 |_=>rw[hx]at h;cases h
end
section
variable {X:Cx}{Z:Fx0}{pn:List Nat}{q qa:Bool}{a b c kc vc:Ex}{o ea eb ec ke ve:Expr}{pos bh ak:Pos}
theorem xjn(hu:X.A.units+64<cLine)(ha:QV X Z qa a ea)(hb:QV X Z true b eb)(hs:xq9 eb):QV X Z qa (wza a b) (.Subscript ea eb pos):=
 kz (vzu ⋯ ha hb hs) fun σ H Q ax=>ex8 ax λE L r m w hc xc k=>by
  refine v9 m w (hc) xc λE1 s h1 x L1 H1 e1 e2 m1 w1 ok fr sr st sm=>(v9 m1 w1 h1 (xc.step st) λE2 s2 h2 y L2 H2 e3 e4 m2 w2 i3 u7 tf cf f9=>?_)
  obtain⟨z,hz,rfl⟩:=zj h2;unfold wxf at hz;cases hy:s2.2 with
  | int j=>
   rw [hy]at hz;cases hi:JX s.2 with
   | none=>rw[hi]at hz;cases hz
   | some kv=>
    rw[hi]at hz;dsimp only at hz;cases hv:qz kv j with
    | none=>rw[hv]at hz;cases hz
    | some v=>
     rw[hv]at hz;cases oq9 hz;obtain⟨l,e,q,_⟩:=kze (W1 ok fr cf (f9 rfl)).1 (e2▸hi);refine#[l,.int v,e,?_,?_]
     ·rw[qk i3 (e4▸hy)];have:=qqw j q;rw[hv]at this;exact this
     ·exact k _ _ rfl #[.dp,.int v,.int v,[]] L2 H2 rfl rfl m2 w2 (show RepL Z.K H2 false _ _ []from vK) (λ_ hb=>nomatch hb) (λ_ hb=>nomatch hb) (st.trans cf) λhq=>kX (sm hq) (f9 rfl)
  |_=>rw[hy]at hz;cases hz
theorem wvd:QE X Z true wk4 (.Dict [] [] pos):=wv7 (C:=λ_=>True) (ob:=λ_=>.dK []) (kz vqh λ_ _ _ h p hp=>h p hp trivial) ⋯ λ_ p _=>qkv (p:=p) []
theorem qq2 kv (k v):(wq kv k v).length<=kv.length+1:=by
 unfold wq
 split
 ·rw[X3];lia
 ·rw[Xi];simp
set_option tactic.hygienic true in
theorem wv9{i}(hu:X.A.units+64<cLine)(ho:PE X o (x9 i))(hk:QV X Z true kc ke)(hv:QE X Z q vc ve)(hs:autoParam (swapsWith ve (some (.Subscript o ke bh)) pos.line X.env=pure false) Ŕ):
  QS X Z pn (vxz i kc vc) (.Assign [.Subscript o ke bh] ve pos):=wv3 (W:=wDK) (vzk ⋯ ho hk hv hs) #[rfl,rfl] fun {H L y x z d} {C} hy w p7 jo k=>by
 unfold wjo at jo
 split at jo
 ·rename_i heq hz hx;injection heq with h2 h3;obtain⟨kv,hi,jo⟩:=Option.bind_eq_some_iff.mp jo
  split at jo
  ·rename_i hl;cases oq9 jo;refine wvj hy w h2 (kze (w.tail.ok y (vQ hy)) (h3▸hi)) (qk p7 hz) (qk (w.ok x X4) hx) (vwf _ _ _) (by show(kv.map _).length<sizeLine;rw[X3];exact hl) (qkv _) k
  ·cases jo
 ·cases jo
theorem wvb{apos}(hu:X.A.units+64<cLine)(ha:QV X Z qa a ea)(hb:QV X Z true b eb)(hc:QV X Z true c ec)(hm:M2 X ea "get" apos eb ec ak:=by exact#[rfl,rfl,rfl,rfl]):QV X Z qa (vkg a b c) (.Call (.Attribute ea "get" apos) [eb,ec] [] ak):=
 kz (vqi ⋯ ha hb hc hm) fun σ H Q ax=>ex8 ax λE L r m w hc xc k=>by
  refine v9 m w (hc) xc λE1 s h1 x L1 H1 e1 e2 m1 w1 ok fr sr st sm=>?_
  by_cases hI:wx3 s.2=true
  ·rw [Xb hI]at h1;obtain⟨kv,hi⟩:=Option.isSome_iff_exists.mp hI;obtain⟨l,el,ql,_⟩:=kze ok (e2▸hi);refine#[l,el,.inl #[_,.inl ql],(v9 m1 w1 h1 (xc.step st) λE2 s2 h2 y L2 H2 e3 e4 m2 w2 i3 u7 tf cf f9=>(v9 m2 w2 h2 (xc.step (st.trans cf)) λE3 s3 h3 t L3 H3 e5 e6 m3 w3 ok3 sv sr3 dl sw=>?_))];obtain⟨z,hz,rfl⟩:=zj h3;have s13:=kX (f9 rfl) (sw rfl);unfold vj9 at hz;cases hy:s2.2 with
   | int j=>
    cases ht:s3.2 with
    | int d=>
     rw[hy,ht,hi]at hz;cases oq9 hz;refine#[_,by rw[(qk i3 (e4▸hy))];exact qqw j (s13 _ _ ql),?_];have e7:((qz kv j).map V.int).getD t.v=.int ((qz kv j).getD d):=by
      rw[(qk ok3 (e6▸ht))];cases qz kv j<;>rfl
     rw[e7];exact k _ _ rfl #[.dp,.int _,.int _,[]] L3 H3 rfl rfl m3 w3 (show RepL Z.K H3 false _ _ []from vK) (λ_ hb=>nomatch hb) (λ_ hb=>nomatch hb) ((st.trans cf).trans dl) λhq=>kX (sm hq) s13
    |_=>rw[hy,ht]at hz;cases hz
   |_=>rw[hy]at hz;cases hz
  ·grind
end
end Q
namespace PySem
theorem qva:typeLookup (.type "list") "keys"=pure none:=am_miss_of_fast (by decide +kernel)
theorem kwk{prog w A E s a o xs k}{Q:Option Value->Shared->Prop}
  (hx:s.heap.get? a=some o) (hc:o.cls=.type "list") (ir:o.data=.seq xs k) (hd:o.dict=none) (hA:A.handled=none)
  (h:∀h' tk,(∀b ob,s.heap.get? b=some ob->h'.get? b=some ob)->Q none {s with heap:=h',toks:=tk}):
  wpAny (model prog w) A (getAttr? (.ref a) "keys") Q E s:=by
 obtain⟨c,dct,dat,sl⟩:=o;simp only at hc ir hd;subst hc ir hd;obtain⟨hp,g,d,tk,os⟩:=s;have hT:∀tk',(#[hp,g,d,tk',os]:Shared).TypeIs (.ref a) "list":=λ_=>#[_,hx,rfl]
 have f1:=sub_AttributeError;have f3:=F.slot_list_getattribute.lookup;have f4:=F.slot_list_getattribute.bind (.ref a);have f5:=am_list_getattr_none;unfold getAttr? getAttrBy? getAttrBy
 repeat (any_goals (first|assumption|exact hT _|((with_reducible show wpAny _ _ (call (Value.builtin "list.__getattribute__") _ _) _ _ _);refine call_meets F.slot_list_getattribute (hT _) am_entry_list_getattribute (F.args_list_getattribute_2 _ _) (meets_getattribute_miss_list a xs k sl "keys" _ qva ⋯ ⋯) #[hx,hA,λh' tk' e hx'=>?_])|wp_step))
 obtain⟨t',u',he⟩:=hx'.there;show wpAny _ _ (getattributeRaised _ _ _ _ _ _ _) _ _ _;unfold getattributeRaised
 repeat (any_goals (first|assumption|wp_step))
 exact h _ _ hx'.keeps
namespace F
theorem entry_dict_update_loop:entryFor table "dict.update.loop"=some Builtin.«dict.update.loop»:=entryFor_of_tree (by kernel_rfl)
theorem plain_dict_update_loop:plainId "dict.update.loop"=true:=by decide +kernel
end F
section
variable {prog:Program}{w:World}{A:Around}{R:Result->Shared->Prop}{I:Addr}{fp wr:List Addr}{G:Array GenState->Array GenState->Prop}{n:Nat}{P:Nat->Value->Prop}{St:Nat->Shared->Prop}{K:Type}[DecidableEq K]{knd:KeyKind prog w K}
theorem qvg{s T u v E Q}(h:s.heap.IsTuple T (List.toArray [u,v]))(hq:Q [u,v] s):wpAny (model prog w) A (Builtin.Dict.pairItems (.ref T)) Q E s:=by
 obtain⟨o,ho,hc,m,hd⟩:=h;obtain⟨cls,dct,dat,sl⟩:=o;subst hc hd
 repeat (any_goals (first|assumption|wp_step))
theorem jzh(W:WalksS prog w A.in1 I fp wr G n P St)(S)(hSf:S∉fp){h₀:Heap}{bg}(hn:bg.length=n)(hz:n<=sizeLine)
  (su:∀i v,P i v->∃T u x k,v=.ref T/\T∉S::wr/\h₀.IsTuple T (List.toArray [u,x])/\bg[i]?=some (k,x)/\knd.is k u=true):
  ∀k i (c) (s),n - i=k->i<=n->St i s->(∀b o,b∉S::wr->h₀.get? b=some o->s.heap.get? b=some o) ->
   s.heap.DictOf knd S (merged [] (bg.take i)) ->
   (∀s',Moved (S::wr) G s s'->s'.heap.DictOf knd S (merged [] bg)->R (.ok (.ret .none)) s') ->
   codeAny (model prog w) A (.builtin "dict.update.loop" #[[.ref S,.ref I,.int i c,.none],[]]) R s:=by
 have hSw:=λh=>hSf (W.sub _ h)
 have jh:∀b∈wr,b∈S::wr:=λb hb=>lc9 _ hb
 intro k
 induction k with
 | zero=>
  intro i c s hk hi dj hh hS hR;have lm:i=n:=⋯
  subst lm;refine codeAny_builtin F.entry_dict_update_loop (X0 (W.done s _ _ dj λs' hm=>(X0 (X5 (X5 (hR s' (hm.mono jh) ?_))))));rw[<-hn,List.take_length]at hS;obtain⟨o,es,ep,ho,ao⟩:=hS;exact#[o,es,ep,hm.heap S _ hSw ho,ao]
 | succ k ih=>
  intro i c s hk hi dj hh hS hR;have cj:i<n:=⋯
  refine codeAny_builtin F.entry_dict_update_loop (X0 (W.item i s _ _ cj dj λv s' hP hst' hm=>?_));obtain⟨T,u,x,kk,rfl,hTn,hT,ui,gl⟩:=su i v hP;have hS':s'.heap.DictOf knd S (merged [] (bg.take i)):=by
   obtain⟨o,es,ep,ho,ao⟩:=hS;exact#[o,es,ep,hm.heap S _ hSw ho,ao]
  have hT':s'.heap.IsTuple T (List.toArray [u,x]):=by
   obtain⟨o,ho,ao⟩:=hT;exact#[o,hm.heap T o (λz=>hTn (lc9 _ z)) (hh T o hTn ho),ao]
  have gy:(merged [] (bg.take i)).length<=sizeLine:=by
   have e1:=merged_length_le ([]:List _) (bg.take i);have e2:(bg.take i).length<=bg.length:=by rw[List.length_take];lia
   have e3:([]:List (K×Value)).length=0:=rfl;lia
  refine X0 (Y9 (X0 (wpAny_tryCatch (qvg hT' (Y9 (wpAny_dictSet_pairs gl hS' λh' pi nt=>(X5 #[plainId_quiet F.plain_dict_update_loop _,(ih (i+1) 0 _ ⋯ cj (W.frame _ s' _ _ hst' (Nat.le_succ _) λb hb o e=>?_) (λb o hb e=>?_) (by rw[merged_take_succ [] bg i _ ui];exact pi) λoz hm'' hS''=>?_)])))))))
  ·rw[nt.2 b (λh:b=S=>hSf (h▸hb))];exact e
  ·have hbS:b≠S:=λz=>hb (z▸X4)
   rw[nt.2 b hbS];exact hm.heap b o (λz=>hb (lc9 _ z)) (hh b o hb e)
  ·refine hR oz (Moved.trans W.gtrans ((hm.mono jh).then_heap (Nat.le_succ _) λb o hb e=>?_) hm'') hS'';rw[nt.2 b (λh:b=S=>hb (h▸X4))];exact e
theorem kqa{E s l items bg o m}{Q}
  (hh:A.handled=none) (ho:s.heap.get? l=some o) (hc:o.cls=.type "list") (ir:o.data=.seq items m) (hd:o.dict=none) (hn:bg.length=items.size) (hz:items.size<=sizeLine)
  (su:∀(i:Nat) (v),items[i]?=some v->∃T u x k,v=.ref T/\s.heap.IsTuple T (List.toArray [u,x])/\bg[i]?=some (k,x)/\knd.is k u=true)
  (h:∀h' (tk),h'.DictOf knd s.heap.objs.size (merged [] bg)->(∀b o,b<s.heap.objs.size->s.heap.get? b=some o->h'.get? b=some o)->Q (.ref s.heap.objs.size) {s with heap:=h',toks:=tk}):
  wpAny (model prog w) A (call (.type "dict") [.ref l]) Q E s:=by
 refine callType_codes (Q₁:=λobj s₁=>obj=Value.ref s.heap.objs.size/\s₁={s with heap:=s.heap.push {cls:=Value.type "dict",data:=Data.dict (List.toArray [])}}) F.kt_called_dict (F.kt_typeCall_dict_1 _) F.entry_dict_init (kt_code_dict_new _ #[rfl,rfl]) ?_;rintro obj s₁ ⟨rfl,rfl⟩;have ij:(s.heap.push {cls:=.type "dict",data:=.dict (List.toArray [])}).DictOf knd s.heap.objs.size []:=Heap.DictOf.new s.heap;have pc:(s.heap.push {cls:=.type "dict",data:=.dict (List.toArray [])}).get? l=some o:=X2 _ ho;have hT:Shared.TypeIs {s with heap:=s.heap.push {cls:=.type "dict",data:=.dict (List.toArray [])}} (.ref l) "list":=#[_,pc,hc];have hlS:=Xd ho;refine#[ij.typeIs,F.args_dict_init_2 _ _,(X0 (X0 (wpAny_notOrdered_dict ij.typeIs (X5 (X0 (wpAny_typeOf hT (X0 (kwk pc hc ir hd (by simp[hh]) λh' tk hk=>?_))))))))];have hkS:=λb q e=>hk b q (X2 _ e)
 have fj:h'.IsList l items:=#[o,hkS _ _ ho,hc,m,ir];have hS1:h'.DictOf knd s.heap.objs.size []:=by
  obtain⟨q,es,ep,hq,ao⟩:=ij;exact#[q,es,ep,hk _ _ hq,ao]
 have oi:s.heap.objs.size<h'.objs.size:=by
  obtain⟨q,es,ep,hq,ao⟩:=hS1;exact Xd hq
 refine X0 (wpAny_rule (X0 (wpAny_pyIter_list fj (X5 #[plainId_quiet F.plain_dict_update_loop _,?_]))));refine jzh (h₀:=s.heap) ((Walks.list (by simp[hh]) h'.objs.size l (Xl (Nat.lt_trans hlS oi)) items).toS) s.heap.objs.size ?_ hn hz (λi v hv=>?_) (items.size - 0) 0 0 _ ⋯ (Yg _)
  #[#[_,Xa _ rfl,rfl,rfl],fj.push _] (λb q hb e=>X2 _ (hkS b q e)) (hS1.push _) λs' hm hS'=>?_
 ·simp only[Xz,Xm,or_false,not_or];exact#[Xl oi,Nat.ne_of_gt hlS]
 ·obtain⟨T,u,x,k,e1,e2,e3,e4⟩:=su i v hv;refine#[T,u,x,k,e1,?_,e2,e3,e4];obtain⟨q,hq,_⟩:=e2;have:=Xd hq;simp;exact#[Xl this,Xl (Nat.lt_trans this oi)]
 ·obtain⟨h2,g',d',tk',os'⟩:=s';have eg:g'=s.gens:=hm.gens;have ed:d'=s.drawn:=hm.drawn;have eo:os'=s.os:=hm.os;subst eg;subst ed;subst eo;refine#[rfl,h h2 tk' hS' λb q hb e=>(hm.heap b q ?_ (X2 _ (hkS b q e)))];simp;exact#[Xl hb,Xl (Nat.lt_trans hb oi)]
end
end PySem
namespace Q
open PySem PySem.Spec PyProof.Rows L2 L3
noncomputable def qx4(K:Frag):List V->Hp->VK->Prop:=λxs H Q=>∃(a:Addr) (ts:List V) (ps:List (Int×Int)),xs=[.ref a]/\SqL K H a ts/\ts.length=ps.length /\
 (∀i (h:i<ps.length),∃T,ts[i]?=some (.ref T)/\SqT K H T [.int ps[i].1,.int ps[i].2])/\ps.length<big/\∀l,H l=none->Q (.ref l) (upd H l (.dK (dkI (ps.foldl (λkv p=>wq kv p.1 p.2) []))))
theorem kz6:∀(ps kv:List (Int×Int)),(ps.foldl (λkv p=>wq kv p.1 p.2) kv).length<=kv.length+ps.length
 |[],kv=>by simp
 |p::ps,kv=>by
  rw[List.foldl_cons,Xg];have:=kz6 ps (wq kv p.1 p.2);have:=qq2 kv p.1 p.2;lia
set_option tactic.hygienic true in
theorem vj2:∀ps (bg) (kv) (vs),KV (dkI ps) bg->KV (dkI kv) vs->KV (dkI (ps.foldl (λkv p=>wq kv p.1 p.2) kv)) (bg.foldl (λaq kv=>stored aq kv.1 kv.2) vs)
 | [],_,kv,vs,h,h'=>by cases h;exact h'
 | p::ps,_,kv,vs,h,h'=>by
  cases h with
  |cons h1 h2=>
   rename_i m bg;obtain⟨k,x⟩:=m;obtain⟨e,rx⟩:=h1;subst e;refine vj2 ps bg _ _ h2 ?_;rw[<-vwf];exact KV.put h' _ rx
set_option tactic.hygienic true in
theorem qz3{X aa}{σ:L2.St}{H s}(I:Inv X aa σ H s):∀ps (ts) (aj),ts.length=ps.length ->
  (∀ i (h:i<ps.length),∃T,ts[i]?=some (.ref T)/\SqT X.K H T [.int ps[i].1,.int ps[i].2])->Vals ts aj ->
  ∃ bg,bg.length=aj.length/\KV (dkI ps) bg/\∀(i:Nat) (v),aj[i]?=some v->∃T u x k,v=.ref T/\s.heap.IsTuple T (List.toArray [u,x])/\bg[i]?=some (k,x)/\(xw X.prog X.w).is k u=true
 | [],ts,aj,hl,_,hv=>by
  cases ts with| nil=>cases hv;exact#[[],rfl,.nil,λi v h=>by simp at h]| cons=>cases hl
 | p :: ps,t::ts,_,hl,hp,hv=>by
  cases hv with
  | cons h1 h2=>
   rename_i u us;obtain⟨T,e1,e2⟩:=hp 0 (by simp);have e1:t=.ref T:=by simpa using e1
   subst e1;cases h1;obtain⟨ii,rv,tp,_⟩:=I.tuple e2;obtain⟨u1,u2,rfl,r1,r2⟩:∃u1 u2,ii=[u1,u2]/\RelV (.int p.1) u1/\RelV (.int p.2) u2:=by
    cases rv with
    |cons a b=>
     cases b with|cons c d=>cases d;exact#[_,_,rfl,a,c]
   obtain⟨bg,m1,m2,m3⟩:=qz3 I ps ts us (by simpa using hl) (λi h=>by
    obtain⟨T,a,b⟩:=hp (i+1) (by simpa using h);exact#[T,by simpa using a,by simpa using b]) h2
   refine#[(Sum.inl p.1,u2)::bg,by rw[Xg,Xg,m1],.cons #[rfl,r2] m2,λi v h=>?_];cases i with
   |zero=>
    have h:Value.ref T=v:=by simpa using h
    subst h;exact#[T,u1,u2,Sum.inl p.1,rfl,tp,rfl,XW r1]
   |succ i=>exact m3 i v (by simpa using h)
theorem qvu{X}(hc:autoParam (X.calm=true) Ŕ):CallR X (.type "dict") (qx4 X.K):=by
 rintro aa s σ H xs us Q I r ⟨a,ts,ps,rfl,hq,hl,hp,hb,q⟩;obtain⟨u,rfl,rx⟩:=J7 r;cases rx;obtain⟨aj,rv,⟨o,n,ho,fy,hd,ir⟩,hz⟩:=I.list hq;obtain⟨bg,m1,m2,m3⟩:=qz3 I ps ts aj hl hp rv;refine kqa (I.ok.hd hc) ho fy ir hd (by rw[m1];simp) (by rw[X6,<-rv.length];exact hz) (λi v hv=>m3 i v (by simpa using hv)) λh' tk dd kp=>(#[.ref s.heap.objs.size,_,I.laid (t':=tk) (λb ob e=>kp b ob (Xd e) e) (X8 _) (vx3 ?_ (Xu (Nat.ne_of_gt I.big)) (vj2 ps bg [] [] m2 .nil) dd),rfl,q _ (I.hok.fresh (X8 _))])
 rw[X3];have:=kz6 ps []
 grind
theorem qxj:∀{ds ps},Vk ds=some ps->ds=ps.map λp=>D.tup [.int p.1,.int p.2]
 | [],ps,h=>by cases oq9 h;rfl
 | .tup [.int a,.int b]::r,ps,h=>by
  have h:(Vk r).map _=some ps:=h;cases hr:Vk r with
  |none=>grind
  |some q=>
   rw[hr]at h;cases oq9 h;rw[List.map_cons,<-qxj hr]
theorem qxi:∀ps,Vk (ps.map λp=>D.tup [.int p.1,.int p.2])=some ps
 |[]=>rfl
 |_::r=>by
  show(Vk _).map _=_;rw[qxi r];rfl
theorem vvw{K}:Ad1 K (λv H Q=>qx4 K [v] H Q) Z9:=by
 intro H x s Q ok hf k;unfold Z9 at hf;cases hx:x.d with
 | lst ds=>
  rw [show(x.o,x.d).2=D.lst ds from hx]at hf;dsimp only at hf;cases hp:Vk ds with
  | none=>rw[hp]at hf;cases hf
  | some ps=>
   rw[hp]at hf;dsimp only at hf
   by_cases hl:ps.length<big
   ·rw[Xb hl]at hf;cases oq9 hf;have e:=qxj hp;subst e;obtain⟨a,xs,bs,ev,q1,ra⟩:=items ok (.inl hx);have hq:SqL K H a xs:=by
     rcases q1 with⟨_,z⟩|⟨z,_⟩
     ·exact z.sq
     ·grind
    refine#[a,xs,ps,by rw[ev],hq,by rw[<-ra.1.len,X3],λi hi=>?_,hl,λl hl'=>k #[.rt,wv _,.ref l,[l]] _ rfl rfl #[vz hl',#[l,_,[],rfl,qz2 _,.inr #[(ps.foldl (λkv p=>wq kv p.1 p.2) []).map λp=>(p.1,V.int p.2),"",by rw[vx,Xj];rfl,by rw[List.map_cons,Xj,Xj];rfl,by rw[Xj];rfl],rfl],λb hb=>?_,by simp[Sl.own],λb hb=>?_]]
    ·obtain⟨v,cs,g1,g2,_⟩:=RepA.get ra.1 (by rw[Xq,X1 hi];rfl);obtain⟨T,ys,e1,e2,e3⟩:=g2;refine#[T,by rw[g1,e1],?_];obtain⟨y1,r1,_,_,rfl,_,f1,f2⟩:=e3;obtain⟨y2,r2,_,_,rfl,_,f3,f4⟩:=f2;obtain⟨rfl,_⟩:=f4;rw[f1.1,f3.1]at e2;exact e2
    ·have:b=l:=by simpa [Sl.own]using hb
     exact this▸hl'
    ·simp[Sl.frz]at hb
   ·rw[Xe hl]at hf;cases hf
 |_=>rw[show(x.o,x.d).2=_ from hx]at hf;cases hf
theorem vju{X} K (hK:autoParam (X.K=K) Ŕ)(hc:autoParam (X.calm=true) Ŕ):CallR X (.type "dict") (qx4 K):=by subst hK;exact qvu hc
theorem Qx{X Z q}:QA X Z q [] []:=WY wK fun σ H Q ax=>ex8 ax λE L r m w hc xc k=>by
 cases oq9 hc;exact k _ _ rfl [] L H rfl m w Step.refl λ_=>#[λ_ _ z=>z,λ_ z=>(nomatch z)]
theorem wv8{X Z q c o e z apos ak}(ho:PE X o (tC (.str z)))(hc:QV X Z q c e)(hK:autoParam (X.K=Z.K) Ŕ)
  (bc:autoParam (attributeBase o "join" X.env (eval o X.env)=eval o X.env) Ŕ)
  (gf:autoParam (((backTo ak (starEach [e] X.env)).all (λx=>!x.1)&&(backToKw ak (keywordEach [] X.env)).all (λx=>x.1.isSome)
   && decide ([e].length+([]:List Keyword).length+(if([]:List Keyword).isEmpty then 0 else 1)<30))=true) Ŕ)
  (be:autoParam (Abe apos ak) Ŕ) (hs:autoParam (Abs e [] X) Ŕ) (bo:autoParam (Abb ak [] X) Ŕ):
  QE X Z q (vvn z c) (.Call (.Attribute o "join" apos) [e] [] ak):=
 kz (ww0 PySem.F.plainAttrs_str PySem.F.slot_str_join PySem.F.type_str_join wj9 ho (vJ hc wK hs) bc gf be hs bo) fun σ H Q ax=>ex8 ax λE L r m w bp xc k=>by
  refine#[?_,?_]
  ·rfl
  ·refine v9 m w (bp) xc λE1 s h1 x L1 H1 e1 e2 m1 w1 ok fr sr st sm=>?_
   obtain⟨y,hz,rfl⟩:=zj h1;unfold vj8 at hz;cases hx:s.2 with
   | lst ds=>
    rw [hx]at hz;dsimp only at hz;cases hp:Q4 ds with
    | none=>rw[hp]at hz;cases hz
    | some ys=>
     rw[hp]at hz;dsimp only at hz
     by_cases hl:(ys.map (·.length)).sum+ys.length*z.length<=100000
     ·rw[Xb hl]at hz;cases oq9 hz;obtain⟨a,xs,bs,ev,q1,ra⟩:=items ok (.inl (e2▸hx));have hq:SqL Z.K H1 a xs:=by
       rcases q1 with⟨_,t⟩|⟨t,_⟩
       ·exact t.sq
       ·grind
      have ex:=(qkq hp ra.1).1;subst ex;have av:(Txt.join z ys).length<=sizeLine:=joinOk_length (joinOk_of ⋯);exact#[z,a,ys,rfl,by rw[ev],by rw[hK];exact hq,⋯,(k _ _ rfl _ L1 H1 rfl rfl m1 (w1.consPu (x:=#[.dp,.str _,.str _,[]]) (show RepL Z.K H1 false _ _ []from Q5 av) rfl) (Jz st (λb hb=>nomatch hb) rfl) λhq=>#[sm hq,λ_ t=>(nomatch t)])]
     ·rw[Xe hl]at hz;cases hz
   |_=>rw[hx]at hz;cases hz
end Q
namespace PySem
section
variable {prog:Program}{w:World}{A:Around}{E:VP9}{s:Shared}
theorem jxu(hh:A.handled=none)(it t)(cp:t≠it)(items):Draws prog w A it [it,t] items.size (λi v=>items[i]?=some v) (λi h=>h.IsTupleIter it t i/\h.IsTuple t items) where
 live:=λ_ _ st=>let ⟨o,ho,_⟩:=st.1;#[o,ho]
 frame:=λ_ _ _ st hk=>by
  obtain⟨⟨o,ho,r⟩,o2,ko,r2⟩:=st;exact#[#[o,hk it (by simp) o ho,r],o2,hk t (by simp) o2 ko,r2]
 item:=λi s Q E hi st hQ=>by
  obtain⟨lj,ht⟩:=st;obtain⟨o,ho,hc,hd⟩:=id lj;obtain⟨o2,ko,t9,n2,pz⟩:=id ht;have hx:items[i]?=some items[i]:=by simp[hi]
  refine X0 (Yb (name:=Str.ofString "__next__") lj.typeIs F.slot_tuple_iterator_next (Y6 F.slot_tuple_iterator_next lj.typeIs F.entry_tuple_iterator_next ?_ (F.args_tuple_iterator_next_1 _)));show wpAny _ _ (field (.ref it) 0 >>= _) _ _ s;refine X0 (Y5 ho hd (x:=.ref t) rfl (X0 (Y5 ho hd (x:=.int i 0) rfl (X0 (Yz ko pz ?_)))));simp only[Ye,hx];refine X0 (Z5 ho hd (by simp) (X5 #[items[i],rfl,X5 (hQ _ _ s.toks hx #[#[_,Ys _ ho (Obj.isFreed_of_fields (Obj.data_mapFields hd _)),(Obj.cls_mapFields ..).trans hc,by rw[Obj.data_mapFields hd];simp[rawInt]],o2,(Heap.get?_update_other _ _ (Ne.symm cp)).trans ko,t9,n2,pz] (Yq ..))]))
 done:=λs Q E st hE=>by
  obtain⟨lj,ht⟩:=st;obtain⟨o,ho,hc,hd⟩:=id lj;obtain⟨o2,ko,t9,n2,pz⟩:=id ht;have hx:items[items.size]?=none:=by simp
  refine X0 (Yb (name:=Str.ofString "__next__") lj.typeIs F.slot_tuple_iterator_next (Y6 F.slot_tuple_iterator_next lj.typeIs F.entry_tuple_iterator_next ?_ (F.args_tuple_iterator_next_1 _)));show wpAny _ _ (field (.ref it) 0 >>= _) _ _ s;refine X0 (Y5 ho hd (x:=.ref t) rfl ?_);rw[Xe (show ¬((Value.ref t==Value.none)=true)from Bool.false_ne_true)];show wpAny _ _ (field (.ref it) 1 >>= _) _ _ s;refine X0 (Y5 ho hd (x:=.int items.size 0) rfl ?_);show wpAny _ _ (seqItems? (.ref t) >>= _) _ _ s;refine X0 (Yz ko pz ?_);simp only[Ye,hx];refine X0 (wpAny_rule (X0 (Z5 ho hd (by simp) ?_)));show wpAny _ _ (newExc (.type "StopIteration") [] >>= _) _ _ _;refine X0 ?_;simp only[newExc,newTuple];refine X0 (Yi (X0 (m:=firstArgMember _ _) (wpAny_of_eq (a:=Value.none) (by first|rfl|(simp only[firstArgMember];rfl)) (Yi ?_ (by size_fits)))) (by size_fits));simp only[raiseNew];refine X0 (wpAny_handled ?_)
  first|rw[show A.in1.handled=none from hh]|rw[hh]
  exact X0 (X5 (wpAny_throw (hE _ _ (((Yq ..).extBut.push _).push _) #[_,Xa _ rfl,rfl])))
set_option tactic.hygienic true in
theorem wjv(t)(items)(n:Nat)(dct:Option Addr)(sl:Array (Option Value)):
  Meets (Builtin.«enumerate.__new__» #[[.type "enumerate",.ref t],[]]) (λ_ R s=>s.heap.get? t=some {cls:=.type "tuple",dict:=dct,data:=.seq items n,slots:=sl} /\
   R (.ok (.ret (.ref (s.heap.push {cls:=.type "tuple_iterator",data:=.fields (List.toArray [.ref t,.int 0 0])}).objs.size)))
    {s with heap:=(s.heap.push {cls:=.type "tuple_iterator",data:=.fields (List.toArray [.ref t,.int 0 0])}).push {cls:=.type "enumerate",data:=.fields (List.toArray [.none,.bool false,.ref s.heap.objs.size,rawInt 0,.none,.none])}}):=
 .of_wp λprog w A R s h=>by
  obtain⟨hp,g,d,tk,os⟩:=s;obtain⟨hl,h⟩:=h;have jh:=sub_enumerate;have hL:Heap.IsTuple (Shared.heap #[hp,g,d,tk,os]) t items:=#[_,hl,rfl,n,rfl]
  wp_walk using AutoSeq1.wpAny_loadPart' hl
  refine wpAny_stack_any λst=>X5 ?_
  split
  ·rename_i c _ _ _ _ _;cases(c==Value.type "enumerate") <;>
   ·wp_walk using AutoSeq1.wpAny_loadPart' hl,wpAny_pyIter_tuple hL
    exact#[_,rfl,h]
  ·wp_walk using AutoSeq1.wpAny_loadPart' hl,wpAny_pyIter_tuple hL
   exact#[_,rfl,h]
theorem vv9{t items Q}(hL:s.heap.IsTuple t items)
  (h:∀h',IsEnum h' (s.heap.objs.size+1) s.heap.objs.size 0 .none->h'.IsTupleIter s.heap.objs.size t 0->h'.objs.size=s.heap.objs.size+2 ->
   (∀b o,s.heap.get? b=some o->h'.get? b=some o)->Q (.ref (s.heap.objs.size+1)) {s with heap:=h' }):
  wpAny (model prog w) A (call (.type "enumerate") [.ref t]) Q E s:=by
 obtain⟨⟨c,dct,dt,sl⟩,hl,hc,n,hd⟩:=hL;subst hc hd;refine callType_new F.called_enumerate ⋯ (F.typeCall_enumerate_1 _) (F.newCall_enumerate_1 _) (λobj=>F.args_object_init_2 obj _) F.entry_enumerate_new (wjv t items n dct sl) #[hl,?_];have hz:(s.heap.push {cls:=.type "tuple_iterator",data:=.fields (List.toArray [.ref t,.int 0 0])}).objs.size=s.heap.objs.size+1:=Yy ..;rw[hz];have he:IsEnum ((s.heap.push {cls:=.type "tuple_iterator",data:=.fields (List.toArray [.ref t,.int 0 0])}).push {cls:=.type "enumerate",data:=.fields (List.toArray [.none,.bool false,.ref s.heap.objs.size,rawInt 0,.none,.none])}) (s.heap.objs.size+1) s.heap.objs.size 0 .none:=by
  have:=Xa (s.heap.push {cls:=.type "tuple_iterator",data:=.fields (List.toArray [.ref t,.int 0 0])}) (o:={cls:=.type "enumerate",data:=.fields (List.toArray [.none,.bool false,.ref s.heap.objs.size,rawInt 0,.none,.none])}) rfl;rw[hz]at this;exact this
 exact#[#[_,he,rfl],h _ he #[_,X2 _ (Xa _ rfl),rfl,rfl] (by rw[Yy,hz]) λb o x=>X2 _ (X2 _ x)]
end
end PySem
namespace Q
open PySem PySem.Spec PyProof.Rows L2 L3
abbrev ItT(K:Frag)(l:Addr):It:=ItE (SqT K · l)
theorem vki{P w K c9 k1 pos e it l}(n1:e≠it)(n2:l≠e)(n3:l≠it):Turn P w K (.Tuple c9 k1 pos) (ItT K l) [e,it] e (λi h=>(∃i8,IsEnum h e it i i8)/\h.IsTupleIter it l i):=
 qwe (K:=K) (IS:=λh aj=>h.IsTuple l aj) n1 n2 (λA hh aj=>jxu hh it l n3 aj) λX aa s σ H hK I xs q=>by
  subst hK;obtain⟨aj,rv,p,_⟩:=I.tuple q;exact#[#[aj,rv,p],λzs hz=>I.tuple_inj hz q]
abbrev iEnT(K:Frag)(ta:TA):TI:=fun σ H R=>ta σ H λvs H1=>∃l,vs=[.ref l]/\(∃xs,SqT K H1 l xs/\(xs.length<=sizeLine->R (ItT K l) H1))
section
variable {X:Cx}{Z:Fx0}{K:Frag}{pn:List Nat}{q:Bool}{c:Ex}{e:Expr}{σ:L2.St}{H:Hp}{L:Ls}{E:En}{pos p gc:Pos}{c9:List Expr}{k1:Nat}
theorem wvr K {ta}(hg:Gl X "enumerate")(hm:X.mg "enumerate"=none)(ha:PA X [e] ta)(hK:autoParam (X.K=K) Ŕ)
  (hs:autoParam (starEach [e] X.env=[(false,eval e X.env)]) Ŕ):PI X (.Tuple c9 k1 gc) (.Call (.Name "enumerate" p) [e] [] pos) (iEnT K ta):=by
 subst hK;intro aa s σ H R I h;refine Call_ (Q6 I hg hm jzs (Ya (thn (ha pos aa s σ H _ I h) λus s1 hz=>?_) (by rw[hs];rfl) rfl));obtain⟨vs,H1,I1,r1,q1⟩:=hz;obtain⟨l,rfl,xs,q1,q⟩:=q1;obtain⟨u1,rfl,e1⟩:=J7 r1;cases e1;obtain⟨dk,jy,p1,oj⟩:=I1.tuple q1;have lt:l<s1.heap.objs.size:=by obtain⟨_,ee,_⟩:=p1;exact Xd ee
 refine vv9 p1 λh' g1 g2 gs gk=>?_
 refine wpAny_pyIter_enum g1 #[_,[_,s1.heap.objs.size],_,_,H1,rfl,I1.kept (t':=s1.toks) gk,
  vki (Nat.succ_ne_self _) (Xl (Nat.lt_succ_of_lt lt)) (Xl lt),#[#[_,g1],g2],λb hb=>?_,q oj]
 have gy:s1.heap.objs.size<=b:=by
  simp at hb;rcases hb with rfl|rfl<;>lia
 exact I1.fpOk gy (I1.hok.fresh gy)
theorem qx7(h:QE X Z q c e)(hg:Gl X "enumerate")(hm:X.mg "enumerate"=none)(hK:autoParam (X.K=Z.K) Ŕ)(hs:autoParam (starEach [e] X.env=[(false,eval e X.env)]) Ŕ):QI X Z q (.Tuple c9 k1 gc) (qzp c) (.Call (.Name "enumerate" p) [e] [] pos):=λaa s σ H R I ax=>ex8 ax λE L r m w hc xc k=>by
 refine(wvr Z.K hg hm (vJ h wK hs) hK hs) aa s σ H R I (Kw m w (show bnd (c E) _=some r from hc) xc λE1 s h1 x L1 H1 e1 e2 m1 w1 st sm=>?_);obtain⟨ds,hd,rfl⟩:=zj h1;obtain⟨wT,sT⟩:=kv8 w1 st;cases hx:x.d with
 |tup es=>
  rw[<-e2,hx]at hd;cases oq9 hd;obtain⟨a,_,_,ev,_⟩:=items w1.head (.inr hx);have ag:=jxd (K:=Z.K) hx ev;obtain⟨xs,bs,q3,r3,_⟩:=ag H1 (J3 w1.head);exact#[a,by rw[ev],xs,q3,λav=>k _ _ rfl (ItT Z.K a) [x.let] L1 H1 m1 wT sT (by rw[jw8,r3.len];exact av) (λhq=>(sm hq).1) (qwa ag)]
 |_=>rw[<-e2,hx]at hd;cases hd
end
theorem kxk:∀{ds} {i:Nat} {d},D.pures ds=true->ds[i]?=some d->d.pure=true
 |[],_,_,_,h=>by simp at h
 |a::ds,0,d,h,e=>by
  have e:a=d:=by simpa using e
  subst e;unfold D.pures at h;rw[Bool.and_eq_true]at h;exact h.1
 |a::ds,i+1,d,h,e=>by
  unfold D.pures at h;rw[Bool.and_eq_true]at h;exact kxk h.2 (by simpa using e)
theorem xjo{X Z tg e i}(h:PE X e (x9 i))(hK:autoParam (X.K=Z.K) Ŕ):QIS X Z true tg (itV i) e:=λaa s σ H R I ax=>ex8 ax λE L r m w hc xc k=>by
 refine(hK▸vwl h) aa s σ H R I ?_;unfold itV at hc;cases hE:E[i]? with
 | none=>rw[hE]at hc;cases hc
 | some s0=>
  cases s0 with
  | none=>rw[hE]at hc;cases hc
  | some s0=>
   obtain⟨oo,dd⟩:=s0;rw [hE]at hc;cases dd with
   | lst ds=>
    dsimp only at hc
    by_cases hp:D.pures ds=true
    ·rw[Xb hp]at hc;cases oq9 hc;obtain⟨x,a1,a2,a3,a4⟩:=m.get hE;have lh:=w.ok x (vQ a1);obtain⟨a,xs,bs,ev,q3,r3,h3,_⟩:=items lh (.inl a3);have q3:LsR Z.K H a xs:=by rcases q3 with⟨_,z⟩|⟨z,_⟩;exact z;rw[a3]at z;cases z
     have i9:∀H2,k7 H H2->∃g ys cs,SqL Z.K H2 a ys/\RepA Z.K H2 g ds ys cs:=λH2 hs=>by
      obtain⟨a',ys,cs,uk,q4,r4,h4,_⟩:=items (RepO.kp lh (Kp.of_same hs):x.ok Z.K H2) (.inl a3);have:a'=a:=by have:=uk.symm.trans ev;exact V.ref.inj this
      subst this;rcases q4 with⟨_,z⟩|⟨z,_⟩
      ·exact#[_,ys,cs,z.sq,r4]
      ·grind
     refine#[x.v,a4,.inl #[a,xs,ev,q3.sq,λav=>k _ _ rfl _ [] L H m (by rw[List.map_nil,Xn];exact w) (by rw[List.map_nil,Xn];exact Step.refl) (r3.len▸av) (λ_=>z9) #[λt ht=>(nomatch ht),λj H2 _ hs hj=>?_,λH2 _ hs=>?_,λj H2 v H3 d _ hs hy fh=>?_]]]
     ·obtain⟨g,ys,cs,s1,s2⟩:=i9 H2 (hs rfl);have hl:=s2.len;exact#[ys,ys[j]'_,s1,X1 ⋯]
     ·obtain⟨g,ys,cs,s1,s2⟩:=i9 H2 (hs rfl);exact#[ys,s1,by rw[s2.len];exact X8 _]
     ·obtain⟨g,ys,cs,s1,s2⟩:=i9 H2 (hs rfl);obtain⟨e3,hy⟩:=hy;subst e3;obtain⟨v',dr,f1,f2,f3⟩:=s2.get fh;have:v'=v:=by have:=hy ys s1;rw[f1]at this;exact oq9 this
      subst this;exact#[#[.no,d,v',[]],rfl,rfl,rfl,z9,(RepL.pu (g':=true) f2 (kxk hp fh)).2,λb hb=>(nomatch hb)]
    ·rw[Xe hp]at hc;cases hc
   |_=>cases hc
theorem vzz{K H}{x:Sl}(ok:x.ok K H)(ht:JZ x.sd=true)(nd:x.own.Nodup):∃cs,RepL K H false x.d x.v cs/\(∀a∈cs,a∈x.own)/\cs.Nodup:=by
 obtain⟨o,d,v,as⟩:=x;unfold JZ at ht;rw [Bool.or_eq_true]at ht;rcases ht with ht|ht
 ·unfold ww at ht;rw[Bool.or_eq_true]at ht;rcases ht with ht|ht
  ·have ho:o=.dp:=by
    cases o with|dp=>rfl|no=>cases ht|rt=>cases ht
   subst ho;exact#[as,ok,λa h=>h,nd]
  ·obtain⟨_,r⟩:=RepL.pu (g':=false) (RepO.wk ok) ht;exact#[[],r,λ_ h=>(nomatch h),Y2]
 ·rw[Bool.and_eq_true]at ht;have ho:o=.rt:=by
   have ht:(o==Own.rt)=true:=ht.1;cases o with|rt=>rfl|no=>cases ht|dp=>cases ht
  subst ho;cases d with
  | lst ds=>
   obtain⟨a,xs,bs,e,r,h,e2⟩:=(show RepR K H (.lst ds) v as from ok);obtain⟨_,r2⟩:=RepA.pu (g':=false) r ht.2;refine#[[a],?_,λb hb=>?_,by simp]
   ·exact#[a,xs,[],e,r2,.inl #[h,rfl]]
   ·rw[aC hb,e2];exact X4
  |_=>simp_all
end Q
namespace PySem
section
variable {prog:Program}{w:World}{K:Type}[DecidableEq K]{knd:HeapKind prog w K}{A:Around}{E:VP9}{s:Shared}
theorem jv2{d a:Addr}{xs:List (K×Addr×Value)}{k:K}{v:Value}{Q:VP9}(hu:knd.room A)(gl:knd.is s.heap k a)(hm:s.heap.DictOfH knd d xs)
  (h1:∀p,atKey xs k=some p->Q p.2 {s with toks:=s.toks+knd.draws k})
  (h2:atKey xs k=none->∀h',h'.DictOfH knd d (storedH xs k a v)->Heap.SameBut d s.heap h'->Q v {s with heap:=h',toks:=s.toks+knd.draws k})
  (hsz:xs.length<=sizeLine:=by size_fits):
  wpAny (model prog w) A (dictSetDefault d (.ref a) v) Q E s:=by
 obtain⟨o,es,ep,ho,hc,hd,he,his,hn⟩:=hm;unfold dictSetDefault
 try with_reducible refine Y9 ?_
 refine X0 (knd.pyHash hu gl ?_);refine X0 (wpAny_dictFind_heap (s:={s with toks:=s.toks+knd.draws k}) hu gl ho hd he his hn ?_ ?_)
 ·intro iu;have hnot:k∉xs.map (·.1):=not_mem_keys_of_get iu;refine X0 (wpAny_rule (X0 (wpAny_updateDictKeys (hz:=by have e:=size_of_entries he;lia) (s:={s with toks:=s.toks+knd.draws k}) ho hd (X5 (h2 (atKey_none_of_get iu) _ #[_,_,ep+1,Ys _ ho (Obj.isFreed_of_dict (Obj.data_mapDictKeys hd _)),
   hc.mapDictKeys _,Obj.data_mapDictKeys hd _,?_,?_,?_] (Yq ..))))))
  ·rw[storedH_new (atKey_none_of_get iu)];simp[he,entryOfKey]
  ·rw[storedH_new (atKey_none_of_get iu)];intro x hx;rcases aA hx with hx|hx
   ·exact knd.keeps (his x hx) ho hd (Yq ..)
   ·simp only[List.mem_singleton]at hx;subst hx;exact knd.keeps gl ho hd (Yq ..)
  ·rw[storedH_new (atKey_none_of_get iu)];rw[Xk,X7];refine#[hn,by simp,?_];intro x hx y hy;simp only[List.map_cons,List.map_nil,List.mem_singleton]at hy;subst hy;exact λe=>hnot (e▸hx)
 ·intro j p hj;refine X0 (wpAny_dictEntries (s:={s with toks:=s.toks+knd.draws k}) ho hd ?_);rw[entry_at he j,hj];exact X0 (wpAny_rule (X5 (h1 _ (atKey_of_get hn hj))))
theorem jvu(knd:HeapKind prog w K)(d a:Addr)(hd:(d==sysModules)=false)(ll:Value):
  MeetsIn prog w (Builtin.«dict.setdefault» #[[.ref d,.ref a,ll],[]]) (λA R s=>knd.room A.in1/\∃k xs,knd.is s.heap k a/\s.heap.DictOfH knd d xs/\xs.length<=sizeLine /\
   (∀p,atKey xs k=some p->R (.ok (.ret p.2)) {s with toks:=s.toks+knd.draws k}) /\
   (atKey xs k=none->∀h',h'.DictOfH knd d (storedH xs k a ll)->Heap.SameBut d s.heap h'->R (.ok (.ret ll)) {s with heap:=h',toks:=s.toks+knd.draws k})):=
 .of_wp λA R s hz=>by
  obtain⟨hu,k,xs,gl,hm,hz,h1,h2⟩:=hz;unfold Builtin.«dict.setdefault»;refine X0 ?_;unfold Builtin.Dict.keyAndDefault;refine X0 (wpAny_notOrdered_dict hm.typeIs ?_);show wpAny _ _ (pure (d,Value.ref a,some ll)) _ _ s;refine X5 ?_;show wpAny _ _ (if(d==sysModules)=true then _ else(dictSetDefault d (.ref a) ll >>= _)) _ _ s;rw[Xe (by rw[hd];exact Bool.false_ne_true)];exact X0 (jv2 (hsz:=hz) hu gl hm (λp hp=>X5 #[p.2,rfl,h1 p hp]) λhn h' hm' nt=>X5 #[ll,rfl,h2 hn h' hm' nt])
end
end PySem
namespace Q
open PySem PySem.Spec PyProof.Rows L2 L3
noncomputable def PV(K:Frag)(H:Hp):List Nat->D->V->V->Prop
 |[],_,v,u=>u=v|n::p,.tup ds,v,u=>∃a xs x d,v=.ref a/\SqT K H a xs/\xs[n]?=some x/\(ds[n]?=some d/\xs.length=ds.length)/\PV K H p d x u|n::p,.lst ds,v,u=>∃a xs x d,v=.ref a/\H a=some (.lst xs)/\xs[n]?=some x/\(ds[n]?=some d/\xs.length=ds.length)/\PV K H p d x u|_::_,_,_,_=>False
section
variable {K:Frag}{H:Hp}
theorem PV.snoc:∀{p:List Nat} {n:Nat} {d:D} {v u:V},PV K H (p++[n]) d v u->∃d' w,PV K H p d v w/\PV K H [n] d' w u:=by
 intro p
 induction p with
 | nil=>exact fun {n d v u} h=>#[d,v,rfl,h]
 | cons m p ih=>
  intro n d v u h;cases d<;>first|exact False.elim h|skip
  all_goals
   obtain⟨a,xs,x,d,e,q,ex,ed,h⟩:=h;obtain⟨d',w,h1,h2⟩:=ih h;exact#[d',w,#[a,xs,x,d,e,q,ex,ed,h1],h2]
theorem PV.one{n:Nat}{d:D}{v u:V}(h:PV K H [n] d v u):∃a xs,v=.ref a/\(H a=some (.lst xs)\/SqT K H a xs)/\xs[n]?=some u:=by
 cases d with
 |tup ds=>
  obtain⟨a,xs,x,d,e,q,ex,ed,h⟩:=h;have h:u=x:=h;subst h;exact#[a,xs,e,.inr q,ex]
 |lst ds=>
  obtain⟨a,xs,x,d,e,q,ex,ed,h⟩:=h;have h:u=x:=h;subst h;exact#[a,xs,e,.inl q,ex]
 |_=>exact h.elim
structure Kx (H H':Hp)(as bs:List Addr):Prop where
 tup:∀a xs,H a=some (.tup xs)->H' a=some (.tup xs)
 frz:∀a o u,H a=some (.frz o u)->H' a=some (.frz o u)
 out:∀b∈as,b∉bs->∀ob,H b=some ob->H' b=some ob
theorem Kx.kp{H':Hp}{as bs cs:List Addr}(k:Kx H H' as bs)(h:∀b∈cs,b∈as/\b∉bs):Kp H H' cs:=#[k.tup,k.frz,λa ha=>k.out a (h a ha).1 (h a ha).2]
theorem RepA.hole:∀{n:Nat} {ds:List D} {xs:List V} {as:List Addr} {dn:D},RepA K H false ds xs as->as.Nodup->ds[n]?=some dn->∃x bs,xs[n]?=some x/\RepL K H false dn x bs/\bs.Nodup/\(∀b∈bs,b∈as) /\
  ∀ (H':Hp) (uy:D) (dr:List Addr),Kx H H' as bs->RepL K H' false uy x dr->dr.Nodup->(∀b∈as,b∉bs->b∉dr)->∃iz,RepA K H' false (ds.set n uy) xs iz/\iz.Nodup/\∀b∈iz,(b∈as/\b∉bs)\/b∈dr:=by
 intro n ds
 induction ds generalizing n with
 | nil=>intro xs as dn _ _ e;simp at e
 | cons d ds ih=>
  intro xs as dn h nd e;cases n with
  | zero=>
   have e:d=dn:=by simpa using e
   subst e;unfold RepA at h;obtain⟨x,r,bs,es,rfl,rfl,h1,h2⟩:=h;rw[X7]at nd;refine#[x,bs,rfl,h1,nd.1,λb hb=>ll9 _ hb,λH' uy dr kx r' ot hd=>?_];have he:∀b∈es,b∈bs++es/\b∉bs:=λb hb=>#[lr9 _ hb,λz=>nd.2.2 b z b hb rfl]
   refine#[dr++es,?_,?_,λb hb=>?_]
   ·rw[List.set_cons_zero];unfold RepA;exact#[x,r,dr,es,rfl,rfl,r',h2.kp (kx.kp he)]
   ·rw[X7];refine#[ot,nd.2.1,λa ha b hb rf=>?_];subst rf;exact hd a (he a hb).1 (he a hb).2 ha
   ·rcases aA hb with z|z
    ·exact .inr z
    ·exact .inl (he b z)
  | succ n=>
   unfold RepA at h;obtain⟨x,r,bs,es,rfl,rfl,h1,h2⟩:=h;rw[X7]at nd;obtain⟨y,fs,q1,q2,q3,q4,q5⟩:=ih (n:=n) h2 nd.2.1 (by simpa using e);have hb:∀b∈bs,b∈bs++es/\b∉fs:=λb hb=>#[ll9 _ hb,λz=>nd.2.2 b hb b (q4 b z) rfl]
   refine#[y,fs,by simpa using q1,q2,q3,λb hb=>lr9 _ (q4 b hb),λH' uy dr kx r' ot hd=>?_];obtain⟨iz,a1,a2,a3⟩:=q5 H' uy dr #[kx.tup,kx.frz,λb hb=>kx.out b (lr9 _ hb)] r' ot (λb hb=>hd b (lr9 _ hb));refine#[bs++iz,?_,?_,λb qt=>?_]
   ·rw[List.set_cons_succ];unfold RepA;exact#[x,r,bs,iz,rfl,rfl,h1.kp (kx.kp hb),a1]
   ·rw[X7];refine#[nd.1,a2,λa ha b qt rf=>?_];subst rf;rcases a3 a qt with z|z
    ·exact nd.2.2 a ha a z.1 rfl
    ·exact hd a (hb a ha).1 (hb a ha).2 z
   ·rcases aA qt with z|z
    ·exact .inl (hb b z)
    ·exact(a3 b z).imp (λz=>#[lr9 _ z.1,z.2]) id
set_option tactic.hygienic true in
theorem RepL.hole:∀{p:List Nat} {d d1:D} {v:V} {as:List Addr},RepL K H false d v as->as.Nodup->D.at p d=some d1->∃v1 iy,PV K H p d v v1/\RepL K H false d1 v1 iy/\iy.Nodup/\(∀b∈iy,b∈as) /\
  ∀ (H':Hp) (d':D) (dr:List Addr),Kx H H' as iy->RepL K H' false d' v1 dr->dr.Nodup->(∀b∈as,b∉iy->b∉dr)->∃iz,RepL K H' false (D.put d' p d) v iz/\iz.Nodup/\∀b∈iz,(b∈as/\b∉iy)\/b∈dr:=by
 intro p
 induction p with
 | nil=>
  intro d d1 v as h nd e;cases oq9 (show some d=some d1 from e);exact#[v,as,rfl,h,nd,λ_ h=>h,λH' d' dr kx r' ot hd=>#[dr,r',ot,λb hb=>.inr hb]]
 | cons n p ih=>
  intro d d1 v as h nd e;cases d<;>first|(cases e;done)|skip
  ·rename_i ds;unfold D.at at e;cases hn:ds[n]? with
   | none=>rw[hn]at e;cases e
   | some dn=>
    rw[hn]at e;unfold RepL at h;obtain⟨a,xs,e1,sq,ra⟩:=h;obtain⟨x,bs,q1,q2,q3,q4,q5⟩:=RepA.hole ra nd hn;obtain⟨v1,iy,p1,p2,p3,p4,p5⟩:=ih q2 q3 e;refine#[v1,iy,#[a,xs,x,dn,e1,sq,q1,#[hn,ra.len.symm],p1],p2,p3,λb hb=>q4 b (p4 b hb),λH' d' dr kx r' ot hd=>?_];obtain⟨cs,c1,c2,c3⟩:=p5 H' d' dr #[kx.tup,kx.frz,λb hb=>kx.out b (q4 b hb)] r' ot (λb hb=>hd b (q4 b hb));obtain⟨iz,a1,a2,a3⟩:=q5 H' _ cs #[kx.tup,kx.frz,λb hb hn=>kx.out b hb λz=>hn (p4 b z)] c1 c2 (λb hb hn z=>by
     rcases c3 b z with z|z
     ·exact hn z.1
     ·exact hd b hb (λz=>hn (p4 b z)) z)
    refine#[iz,?_,a2,λb hb=>?_]
    ·unfold D.put;rw[hn];dsimp only;unfold RepL;exact#[a,xs,e1,Kp.tupT (as:=[]) #[kx.tup,kx.frz,λ_ h=>nomatch h] sq,a1]
    ·rcases a3 b hb with z|z
     ·exact .inl #[z.1,λy=>z.2 (p4 b y)]
     ·exact(c3 b z).imp (λz=>#[q4 b z.1,z.2]) id
  ·rename_i ds;unfold D.at at e;cases hn:ds[n]? with
   | none=>rw[hn]at e;cases e
   | some dn=>
    rw[hn]at e;unfold RepL at h;obtain⟨a,xs,fs,e1,ra,sq⟩:=h;rcases sq with⟨sq,rfl⟩|⟨z,_⟩
    rotate_left
    ·cases z
    rw[List.nodup_cons]at nd;obtain⟨x,bs,q1,q2,q3,q4,q5⟩:=RepA.hole ra nd.2 hn;obtain⟨v1,iy,p1,p2,p3,p4,p5⟩:=ih q2 q3 e;have ha1:a∉iy:=λz=>nd.1 (q4 a (p4 a z))
    refine#[v1,iy,#[a,xs,x,dn,e1,sq,q1,#[hn,ra.len.symm],p1],p2,p3,λb hb=>lc9 _ (q4 b (p4 b hb)),λH' d' dr kx r' ot hd=>?_];obtain⟨cs,c1,c2,c3⟩:=p5 H' d' dr #[kx.tup,kx.frz,λb hb=>kx.out b (lc9 _ (q4 b hb))] r' ot (λb hb=>hd b (lc9 _ (q4 b hb)));obtain⟨iz,a1,a2,a3⟩:=q5 H' _ cs #[kx.tup,kx.frz,λb hb hn=>kx.out b (lc9 _ hb) λz=>hn (p4 b z)] c1 c2 (λb hb hn z=>by
     rcases c3 b z with z|z
     ·exact hn z.1
     ·exact hd b (lc9 _ hb) (λz=>hn (p4 b z)) z)
    have h3:∀b∈iz,(b∈fs/\b∉iy)\/b∈dr:=λb hb=>by
     rcases a3 b hb with z|z
     ·exact .inl #[z.1,λy=>z.2 (p4 b y)]
     ·exact(c3 b z).imp (λz=>#[q4 b z.1,z.2]) id
    refine#[a::iz,?_,List.nodup_cons.mpr #[λz=>?_,a2],λb hb=>?_]
    ·unfold D.put;rw[hn];dsimp only;unfold RepL;exact#[a,xs,iz,e1,a1,.inl #[kx.out a X4 ha1 _ sq,rfl]]
    ·rcases h3 a z with z|z
     ·exact nd.1 z.1
     ·exact hd a X4 ha1 z
    ·rcases aD hb with rfl|hb
     ·exact .inl #[X4,ha1]
     ·exact(h3 b hb).imp (λz=>#[lc9 _ z.1,z.2]) id
theorem J1{y:Sl}(h:y.o=.dp):y.own=y.as:=by unfold Sl.own;rw[h]
theorem World.hole{L:Ls}{y:Sl}{p:List Nat}{d1:D}(w:World K H (some y::L))(ho:y.o=.dp)(h:D.at p y.d=some d1):∃y1:Sl,y1.o=.dp/\y1.d=d1/\PV K H p y.d y.v y1.v/\World K H (some y1::L) /\
  ∀ (He:Hp) (Le:Ls) (z:Sl),World K He (some z::Le)->Step H (some y1::L) He (some z::Le)->z.o=.dp->z.v=y1.v->∃y':Sl,y'.o=.dp/\y'.d=D.put z.d p y.d/\y'.v=y.v/\World K He (some y'::Le)/\Step H (some y::L) He (some y'::Le):=by
 have ok:RepL K H false y.d y.v y.as:=by
  have:=w.ok y X4;unfold Sl.ok at this;rw[ho]at this;exact this
 have nd:=w.nd;rw [jK,J1 ho,X7]at nd;have ds:=w.ds;obtain⟨v1,iy,p1,p2,p3,p4,p5⟩:=RepL.hole ok nd.1 h;have al:∀b∈y.as,H b≠none:=λb hb z=>by
  rcases w.own_al (a:=b) (by rw[jK,J1 ho];exact ll9 _ hb)with⟨_,q⟩|⟨_,q⟩|⟨_,q⟩<;>· rw[z]at q;cases q
 refine#[#[.dp,d1,v1,iy],rfl,rfl,p1,#[λx hx=>?_,?_,λa ha=>?_],λHe Le z wz st zo zv=>?_]
 ·rcases aD hx with e|hx
  ·cases e;exact p2
  ·exact w.ok x (lc9 _ hx)
 ·rw[jK,X7];exact#[p3,nd.2.1,λa ha b hb=>nd.2.2 a (p4 a ha) b hb]
 ·have ha2:a∈j8 (some y::L):=by
   rw[jK]at ha ⊢;rcases aA ha with ha|ha
   ·exact ll9 _ (by rw[J1 ho];exact p4 a ha)
   ·exact lr9 _ ha
  have:=ds a ha2;rw[vk]at this ⊢;intro q;rcases aA q with q|q
  ·cases q
  ·exact this (lr9 _ q)
 ·have p7:RepL K He false z.d v1 z.as:=by
   have:=wz.ok z X4;unfold Sl.ok at this;rw[zo,zv]at this;exact this
  have ndz:=wz.nd;rw[jK,J1 zo,X7]at ndz;have no1:∀b∈y.as,b∉iy->b∉j8 (some (#[.dp,d1,v1,iy]:Sl)::L):=λb hb hn q=>by
   rw[jK]at q;rcases aA q with q|q
   ·exact hn q
   ·exact nd.2.2 b hb b q rfl
  have noz:∀b∈y.as,b∉iy->b∉j8 (some z::Le):=λb hb hn q=>by
   rcases st.own b q with q|q
   ·exact no1 b hb hn q
   ·exact al b hb q
  have nof:∀b∈y.as,b∉iy->b∉jV Le:=λb hb hn q=>by
   rcases st.frz b (by rw[vk];exact lr9 _ q)with q|q|q
   ·rw[vk]at q;rcases aA q with q|q
    ·cases q
    ·exact ds b (by rw[jK,J1 ho];exact ll9 _ hb) (by rw[vk];exact lr9 _ q)
   ·exact no1 b hb hn q
   ·exact al b hb q
  have tupk:∀a xs,H a=some (.tup xs)->He a=some (.tup xs):=λa xs e=>st.keep a _ e λq=>by
   have q2:a∈j8 (some y::L):=by
    rw[jK]at q ⊢;exact List.mem_append.mpr ((aA q).imp (λq=>by rw[J1 ho];exact p4 a q) id)
   rcases w.own_al q2 with⟨_,q⟩|⟨_,q⟩|⟨_,q⟩<;>· rw[e]at q;cases q
  have frzk:∀a o u,H a=some (.frz o u)->He a=some (.frz o u):=λa o u e=>st.keep a _ e λq=>by
   have q2:a∈j8 (some y::L):=by
    rw[jK]at q ⊢;exact List.mem_append.mpr ((aA q).imp (λq=>by rw[J1 ho];exact p4 a q) id)
   rcases w.own_al q2 with⟨_,q⟩|⟨_,q⟩|⟨_,q⟩<;>· rw[e]at q;cases q
  obtain⟨iz,a1,a2,a3⟩:=p5 He z.d z.as #[tupk,frzk,λb hb hn ob e=>st.keep b ob e (no1 b hb hn)] p7 ndz.1 (λb hb hn q=>noz b hb hn (by rw[jK,J1 zo];exact ll9 _ q));have sub:∀b∈j8 (some z::Le),b∈j8 (some y::L)\/H b=none:=λb hb=>(st.own b hb).imp (λq=>by
   rw[jK]at q ⊢;exact List.mem_append.mpr ((aA q).imp (λq=>by rw[J1 ho];exact p4 b q) id)) id
  refine#[#[.dp,D.put z.d p y.d,y.v,iz],rfl,rfl,rfl,#[λx hx=>?_,?_,λa ha q=>?_],#[λa ob e hn=>st.keep a ob e λq=>hn ?_,λa ha=>?_,λa ha=>?_]]
  ·rcases aD hx with e|hx
   ·cases e;exact a1
   ·exact wz.ok x (lc9 _ hx)
  ·rw[jK,X7];refine#[a2,ndz.2.1,λa ha b hb rf=>?_];subst rf;rcases a3 a ha with q|q
   ·exact noz a q.1 q.2 (by rw[jK];exact lr9 _ hb)
   ·exact ndz.2.2 a q a hb rfl
  ·have q:a∈jV Le:=by
    rw[vk]at q;rcases aA q with q|q
    ·cases q
    ·exact q
   rw[jK]at ha;have fz:a∈jV (some z::Le):=by rw[vk];exact lr9 _ q
   rcases aA ha with ha|ha
   ·rcases a3 a ha with r|r
    ·exact nof a r.1 r.2 q
    ·exact wz.ds a (by rw[jK,J1 zo];exact ll9 _ r) fz
   ·exact wz.ds a (by rw[jK];exact lr9 _ ha) fz
  ·rw[jK]at q ⊢;exact List.mem_append.mpr ((aA q).imp (λq=>by rw[J1 ho];exact p4 a q) id)
  ·rw[jK]at ha;rcases aA ha with ha|ha
   ·rcases a3 a ha with q|q
    ·exact .inl (by rw[jK,J1 ho];exact ll9 _ q.1)
    ·exact sub a (by rw[jK,J1 zo];exact ll9 _ q)
   ·exact sub a (by rw[jK];exact lr9 _ ha)
  ·have q:a∈jV Le:=by
    rw[vk]at ha;rcases aA ha with q|q
    ·cases q
    ·exact q
   rcases st.frz a (by rw[vk];exact lr9 _ q)with r|r|r
   ·refine .inl ?_;rw[vk]at r ⊢;rcases aA r with r|r
    ·cases r
    ·exact lr9 _ r
   ·refine .inr (.inl ?_);rw[jK]at r ⊢;exact List.mem_append.mpr ((aA r).imp (λq=>by rw[J1 ho];exact p4 a q) id)
   ·exact .inr (.inr r)
end
abbrev tP(K:Frag)(i:Nat)(p:List Nat):TE:=fun σ H Q=>∃d v u,σ[i]?=some (some v)/\PV K H p d v u/\Q u H
theorem vk1{xs}{n:Nat}{x:V}(h:xs[n]?=some x):atI xs n=some x:=by
 have e:L2.ixN xs.length n=some n:=by
  unfold L2.ixN;simp[((List.getElem?_eq_some_iff.mp h).1)]
 unfold atI
 rwa [e]
section
variable {X:Cx}{Z:Fx0}{pn:List Nat}{q:Bool}{c:Ex}{e ep:Expr}{i:Nat}{p:List Nat}{pos:Pos}
theorem qja K (h:PE X e (x9 i)):PE X e (tP K i []):=kz h fun σ H Q hz=>by
 obtain⟨d,v,u,hv,hu,q⟩:=hz;subst hu;exact#[u,hv,q]
theorem jxj{K z j bh}(n:Nat)(h:PE X e (tP K i p))(c8:jzm (.Constant (.int z) j bh))(hK:autoParam (X.K=K) Ŕ)(hz:autoParam (z=n) Ŕ):PE X (.Subscript e (.Constant (.int z) j bh) pos) (tP K i (p++[n])):=
 kz (vqe (hK▸qqp) h qxn c8) fun σ H Q hz=>by
  obtain⟨d,v,u,hv,hu,q⟩:=hz;subst hz;obtain⟨d',w,h1,h2⟩:=hu.snoc;obtain⟨a,xs,e1,sq,ex⟩:=h2.one;refine#[d,v,w,hv,h1,?_];rcases sq with sq|sq
  ·exact .inl #[a,xs,n,u,e1,rfl,.inl (.inl sq),vk1 ex,q]
  ·exact .inr (.inl #[a,xs,n,u,e1,rfl,sq,vk1 ex,q])
theorem jxe{K H L y}(w:World K H L)(h:L[i]?=some (some y)):World K H (some y::L.set i none)/\Step H L H (some y::L.set i none):=by
 have wn:World K H (none::L):=#[λy hy=>w.ok y (by simpa using hy),by simpa using w.nd,by simpa using w.ds];have sn:Step H L H (none::L):=#[λ_ _ z _=>z,λa z=>.inl (by simpa using z),λa z=>.inl (by simpa using z)];exact#[wn.perm (jve h),sn.trans (Step.refl.perm (List.Perm.refl _) (jve h))]
theorem qww{K H}{x:Sl}(ok:x.ok K H)(h:x.d.pure=true):RepL K H false x.d x.v []:=(RepL.pu (g':=false) (RepO.wk ok) h).2
theorem qzh{H l xs ob}(h:H l=some (.lst xs)){as}(hn:l∉as):Kp H (upd H l ob) as:=by
 have ke:∀a o,H a=some o->a≠l->upd H l ob a=some o:=λa o e ne=>by rw[k6 ne];exact e
 refine#[λa xs e=>ke a _ e λz=>?_,λa o u e=>ke a _ e λz=>?_,λa ha o e=>ke a o e λz=>hn (z▸ha)]
 ·grind
 ·grind
theorem World.app{K H}{M:Ls}{y x ds}(w:World K H (some y::some x::M))(ho:y.o=.dp)(hd:y.d=.lst ds)(hp:x.d.pure=true):∃l xs,y.v=.ref l/\H l=some (.lst xs)/\xs.length=ds.length /\
  ∃z,z.o=.dp/\z.d=.lst (ds++[x.d])/\z.v=y.v/\World K (upd H l (.lst (xs++[x.v]))) (some z::M)/\Step H (some y::some x::M) (upd H l (.lst (xs++[x.v]))) (some z::M):=by
 obtain⟨l,xs,bs,c1,c2,c3,c4,c5⟩:=kqw (w.ok y X4) hd ho;have nd:=w.nd;rw[jK,X7,c4,List.nodup_cons]at nd;refine#[l,xs,c1,c2,c5.len.symm,#[.dp,.lst _,y.v,l::bs],rfl,rfl,rfl,World.write (T:=[some x]) w (c4▸X4) ?_ (List.nodup_cons.mpr nd.1) (λa ha=>.inl (c4▸ha)) (λa ha=>nomatch ha) (λa ha z=>nomatch z)];have hr:=RepA.snoc ((qww (w.ok x (lc9 _ X4)) hp).kp (qzh c2 (λz=>nomatch z))) (c5.kp (qzh (ob:=.lst (xs++[x.v])) c2 nd.1.1));rw[Xn]at hr;exact#[l,_,bs,c1,hr,.inl #[vx,rfl]]
theorem World.clr{K H}{M:Ls}{y ds}(w:World K H (some y::M))(ho:y.o=.dp)(hd:y.d=.lst ds):∃l xs,y.v=.ref l/\H l=some (.lst xs) /\
  ∃z,z.o=.dp/\z.d=.lst []/\z.v=y.v/\World K (upd H l (.lst [])) (some z::M)/\Step H (some y::M) (upd H l (.lst [])) (some z::M):=by
 obtain⟨l,xs,bs,c1,c2,c3,c4,c5⟩:=kqw (w.ok y X4) hd ho;refine#[l,xs,c1,c2,#[.dp,.lst [],y.v,[l]],rfl,rfl,rfl,World.write (T:=[]) w (c4▸X4) ?_ (by simp[Sl.own]) (λa ha=>.inl ?_) (λa ha=>nomatch ha) (λa ha z=>nomatch z)]
 ·exact#[l,[],[],c1,#[rfl,rfl],.inl #[vx,rfl]]
 ·rw[c4,aC ha];exact X4
theorem qkm{K H l xs}(h:H l=some (.lst xs)):tyV K "list" (.ref l) H:=.inl #[rfl,xs,.inl (.inl h)]
set_option tactic.hygienic true in
theorem xqt(hP:PE X ep (tP Z.K i p))(hK:autoParam (X.K=Z.K) Ŕ)(hm:MtR X "list.clear" qx5){apos ak f7}
  (bc:autoParam (attributeBase ep "clear" X.env (eval ep X.env)=eval ep X.env) Ŕ) (be:autoParam (Abe apos ak) Ŕ)
  (lq:autoParam (swapsWith (.Call (.Attribute ep "clear" apos) [] [] ak) none f7.line X.env=pure false) Ŕ):
  QS X Z pn (sPC i p) (.Expr (.Call (.Attribute ep "clear" apos) [] [] ak) f7):=
 xW (kju (qje Z.K Yn PySem.F.slot_list_clear PySem.F.type_list_clear hm hP bc be hK) lq) λDe σ H ax=>ex7 ax λE L r m w bp k=>by
 unfold sPC at bp
 split at bp
 rotate_left
 ·cases bp
 rename_i d hE
 split at bp
 rotate_left
 ·cases bp
 rename_i ds dy;cases oq9 bp;obtain⟨y,a1,a2,a3,a4⟩:=m.get hE;obtain⟨w0,s0⟩:=jxe w a1;obtain⟨y1,b1,b2,b3,b4,b5⟩:=w0.hole a2 (a3▸dy);obtain⟨l,xs,c1,c2,z,z1,z2,z3,z4,z5⟩:=World.clr b4 b1 b2;refine#[y.d,y.v,y1.v,a4,b3,by rw[c1];exact qkm c2,?_];obtain⟨y',g1,g2,g3,g4,g5⟩:=b5 _ _ z z4 z5 z1 z3;refine#[l,xs,c1,rfl,c2,?_];have mm:=Jw (i:=i) (s:=(.dp,Q.D.put _ p d)) (Q2 i m) g1 (by rw[g2,z2,a3]);rw[g3,zX a4,List.set_set]at mm;exact k σ _ _ Pn.refl mm g4.set (s0.trans (g5.trans Step.set))
theorem xkb{u}:∀{E σ} {L} j,Mt E σ L->Mt (E.set j none) (σ.set j u) (L.set j none):=by
 intro E σ L j m
 induction m generalizing j with
 |nil=>exact .nil
 |un m ih=>cases j with|zero=>exact .un m|succ j=>exact .un (ih j)
 |cons m ih=>cases j with|zero=>exact .un m|succ j=>exact .cons (ih j)
theorem World.out1{K H}{L} r (w:World K H L):World K H (L.set r none)/\Step H L H (L.set r none):=by
 cases h:L[r]? with
 | none=>
  rw[show L.set r none=L from List.set_eq_of_length_le (by simpa using h)];exact#[w,Step.refl]
 | some q=>
  cases q with
  |none=>
   rw[zX h];exact#[w,Step.refl]
  |some y=>
   obtain⟨w1,s1⟩:=jxe w h;exact#[w1.tail,s1.trans Step.drop]
set_option tactic.hygienic true in
theorem QZ(hc:QE X Z q c e):QE X Z q (zW c) e:=kz hc fun σ H Q ax=>ex8 ax λE L r m w hr xc k=>by
 rcases x6 hr with⟨E1,s,h1,h2⟩|⟨E1,cc,h1,h2⟩
 ·refine#[E,L,_,m,w,h1,(λ_ _ z=>by cases z),λE' s' z x L' H' e1 e2 m' w' st sm=>?_];injection z with z1 z2;subst z1 z2
  split at h2
  rotate_left
  ·grind
  rename_i mv;cases oq9 h2;have xn:x.own.Nodup:=by
   have:=w'.nd;exact(List.nodup_append.mp this).1
  obtain⟨cs,rx,im,hcn⟩:=vzz w'.head (by unfold Sl.sd;rw[e1,e2];exact mv) xn;have nd:=w'.nd;rw[jK,X7]at nd;refine k _ _ rfl #[.dp,x.d,x.v,cs] L' H' rfl e2 m' #[λy hy=>?_,?_,λa ha=>?_] #[st.keep,λa ha=>?_,λa ha=>?_] λhq=>#[(sm hq).1,λb hb=>(sm hq).2 b (im b hb)]
  ·rcases aD hy with z|z
   ·cases z;exact rx
   ·exact w'.ok y (lc9 _ z)
  ·rw[jK,X7];exact#[hcn,nd.2.1,λa ha b hb=>nd.2.2 a (im a ha) b hb]
  ·have ha2:a∈j8 (some x::L'):=by
    rw[jK]at ha ⊢;exact List.mem_append.mpr ((aA ha).imp (im a) id)
   intro q2;rw[vk]at q2;exact w'.ds a ha2 (lr9 _ ((aA q2).elim (λz=>nomatch z) id))
  ·refine st.own a ?_;rw[jK]at ha ⊢;exact List.mem_append.mpr ((aA ha).imp (im a) id)
  ·refine st.frz a ?_;rw[vk]at ha ⊢;exact lr9 _ ((aA ha).elim (λz=>nomatch z) id)
 ·exact#[E,L,_,m,w,h1,xc.map h2,λE' s' z=>by cases z]
end
end Q
namespace PySem
section
variable {prog:Program}{w:World}{A:Around}{E:VP9}{s:Shared}
noncomputable def vk8(h:Heap)(d:Addr)(n:Nat):Prop:=∃o es ep,h.get? d=some o/\o.cls=.type "dict"/\o.data=.dict es ep/\es.size=n
theorem kk5(d)(hd:(d==sysModules)=false):
  MeetsIn prog w (Builtin.«dict.__len__» #[[.ref d],[]]) (λ_ R s=>∃n,vk8 s.heap d n/\R (.ok (.ret (.int n s.toks))) {s with toks:=s.toks+1}):=
 .of_wp λA R s hz=>by
  obtain⟨n,⟨o,es,ep,ho,hc,ir,hz⟩,h⟩:=hz;show wpAny _ _ (dictSize d >>= _) _ _ s;refine X0 (X0 (wpAny_dictEntries ho ir (X5 (X0 (wpAny_pendingCount_other hd (wpAny_ret_mkInt ?_))))));rw[hz];exact h
theorem kq7{d n}{Q:VP9}(hd:(d==sysModules)=false)(hm:vk8 s.heap d n)(oh:(n:Int)<2 ^ 63)
  (h:Q (.int n (s.toks+1)) {s with toks:=s.toks+1+1}):wpAny (model prog w) A (Builtin.«len» #[[.ref d],[]]) (λfin s'=>∃r,fin=.done (.ret r)/\Q r s') E s:=by
 have ht:s.TypeIs (.ref d) "dict":=by obtain⟨o,es,ep,ho,hc,_⟩:=hm;exact#[o,ho,hc]
 refine X0 (m:=callSpecial? _ _) (Yb ht F.slot_dict_len
  (call_meetsIn F.slot_dict_len ht F.entry_dict_len (F.args_dict_len_1 _) (kk5 d hd) #[n,hm,?_]))
 show wpAny _ _ (if _>=2 ^ 63 then _ else _) _ _ _;rw[Xe ⋯];exact X0 (wpAny_mkInt (X5 #[_,rfl,h]))
theorem kq9{d n Q}(hd:(d==sysModules)=false)(hm:vk8 s.heap d n)(oh:(n:Int)<2 ^ 63)
  (h:Q (.int n (s.toks+1)) {s with toks:=s.toks+1+1}):wpAny (model prog w) A (call (.builtin "len") [.ref d]) Q E s:=
 Calls.call_function_entry kind_len plain_len entry_len (args_len1 _) (kq7 hd hm oh h)
end
end PySem
namespace Q
open PySem PySem.Spec PyProof.Rows L2 L3
noncomputable def wqu(K:Frag):List V->Hp->VK->Prop:=λxs H Q=>∃a ks vs,xs=[.ref a]/\DcN K H a ks vs/\Q (.int ks.length) H
theorem kkn{X} K:CallR X (.builtin "len") (wqu K):=by
 intro aa s σ H xs us Q I r ⟨a,ks,vs,e,⟨es,ep,hH,hs,hl,_,hk,_⟩,q⟩;subst e;cases r with
 | cons r1 r2=>
  cases r2;cases r1;obtain⟨ob,i7,g1,g2,g3,g4⟩:=wjz I hH;have av:ks.length=i7.size:=by
   have:=congrArg List.length g4;rw[X3]at this;rw[hk,X3];exact this.symm
  have hz:es.length=ks.length:=by rw[hk,X3]
  exact kq9 hs #[ob,i7,ep,g1,g2.1,g3,av.symm] (by rw[sizeLine_eq]at hl;lia) #[.int ks.length,H,I.tok _,#[_,rfl],q]
theorem qkc{K}:Ad1 K (λv H Q=>wqu K [v] H Q) (pu1 W3):=by
 intro H x s Q ok hf k;have hf:(W3 x.d).map _=some s:=hf;cases hd:x.d with
 | dct kvs=>
  rw[hd]at hf;unfold W3 at hf;dsimp only at hf
  by_cases hu:unm kvs=true
  ·rw[Xb hu]at hf;cases oq9 hf;obtain⟨a,xs,e,dn⟩:=vx5 ok hd hu;refine#[a,kvs.map _,xs,by rw[e],dn,?_];rw[X3];exact k _ H rfl rfl (kj9 (λ_ _ h=>h) vK)
  ·rw[Xe hu]at hf;cases hf
 |_=>rw[hd]at hf;cases hf
section
variable {X:Cx}{aa:LA9}{σ:L2.St}{H:Hp}{s:Shared}{a b:Addr}{es:List Ent}{A:Around}{E:VP9}{k:Kd}{r:Value}
theorem vvd{ep Q}(hu:A.units+64<cLine)(I:Inv X aa σ H s)(e:H a=some (qK a es ep))(hs:(a==sysModules)=false)(h2:es.length<=sizeLine)(h3:(es.map (·.1)).Nodup)(h5:∀x∈es,PuR X.K H x.1.1 (.ref x.2.1))(hk:PuR X.K H k.1 (.ref b))
  (h1:∀p,atKey es k=some p->∀s',Inv X aa σ H s'->Q p.2 s') (h4:atKey es k=none->∀ep' s',Inv X aa σ (upd H a (qK a (storedH es k b r) ep')) s'->Q r s'):
  wpAny (model X.prog X.w) A (call (.builtin "dict.setdefault") [.ref a,.ref b,r]) Q E s:=by
 have dd:=vx4 I e h3 h5;refine call_meetsIn PySem.F.slot_dict_setdefault dd.typeIs PySem.F.entry_dict_setdefault (PySem.F.args_dict_setdefault_3 _ _ _) (jvu _ a b hs r) #[?_,k,es,kj7 I hk rfl,dd,h2,λp hp=>h1 p hp _ (I.tok _),λhn h' t7 hss=>?_]
 ·exact vz0 hu
 ·obtain⟨q,ds,ep',hq,g2,g3,g4,_,_⟩:=t7;exact h4 hn ep' _ (kwo I (e▸Z3) hss #[q,hq] #[#[q,ds,hq,g2,g3,g4],#[q,hq],λh1 h2 hz k=>by obtain⟨o,ds,a1,a2⟩:=hz;exact#[o,ds,k o a1,a2]])
end
abbrev vkm(K:Frag)(td ty tx:TE):TE:=fun σ H Q=>td σ H λx H1=>∃a,x=.ref a/\(∃es ep,H1 a=some (qK a es ep))/\ty σ H1 λy H2=>tx σ H2 λz H3=>∃b k es ep,y=.ref b/\H3 a=some (qK a es ep)/\(a==sysModules)=false/\es.length<=sizeLine/\(es.map (·.1)).Nodup/\(∀x∈es,PuR K H3 x.1.1 (.ref x.2.1))/\PuR K H3 k.1 (.ref b) /\
 (∀p,atKey es k=some p->∃v,RelV v p.2/\Q v H3)/\(atKey es k=none->∀r ep',RelV z r->Q z (upd H3 a (qK a (storedH es k b r) ep')))
section
variable {X:Cx}{o e f:Expr}{apos ak:Pos}{td ty tx:TE}
theorem qve(hu:X.A.units+64<cLine)(ho:PE X o td)(he:PE X e ty)(hf:PE X f tx)(m:M2 X o "setdefault" apos e f ak):PE X (.Call (.Attribute o "setdefault" apos) [e,f] [] ak) (vkm X.K td ty tx):=by
 intro aa s σ H Q I h;refine wpAny_Call_method m.base m.few m.line PySem.F.plainAttrs_dict PySem.F.slot_dict_setdefault PySem.F.type_dict_setdefault (thn (ho aa s σ H _ I h) λu s1 hz=>?_);obtain⟨x,H1,I1,rx,a,ex,⟨es0,ep0,d⟩,q1⟩:=hz;subst ex;obtain rfl:u=Value.ref a:=rx;obtain⟨ob,i7,g1,g2,g3,g4⟩:=wjz I1 d;refine#[#[ob,g1,g2.1],λb z=>by cases z;exact#[ob,g1,g2.2.1],?_];rw[m.trees];refine Yo rfl (Yt (Calls.spliced_cons (thn (he aa s1 σ H1 _ I1 q1) λiv s2 hz=>?_)));obtain⟨y,H2,I2,ry,q2⟩:=hz;refine Calls.spliced_cons (thn (hf aa s2 σ H2 _ I2 q2) λfv s3 hz=>Calls.spliced_nil ?_);obtain⟨z,H3,I3,rz,b,k,es,ep,ey,ea,hs,hl,hn,h5,hk,q4,q5⟩:=hz;subst ey;obtain rfl:iv=Value.ref b:=ry;exact vvd hu I3 ea hs hl hn h5 hk (λp hp s4 I4=>by obtain⟨v,rv,q3⟩:=q4 p hp;exact#[v,H3,I4,rv,q3]) λcp ep' s4 I4=>#[z,_,I4,rz,q5 cp fv ep' rz]
end
theorem qzy {K H k}: ∀{kvs xs bs} {es : List Ent},RepP K H true kvs xs bs -> kvs.map (·.1) = es.map (·.1.1) -> Vals xs (es.map (·.2.2)) -> D.pures (kvs.map (·.2)) = true ->
    (∀ p,atKey es k = some p -> ∃d v,xv kvs k.1 = some d /\ RelV v p.2 /\ RepL K H false d v [] /\ d.pure = true) /\ (atKey es k = none -> xv kvs k.1 = none)
  | [],_,_,[],_,_,_,_=>#[λp h=>(by cases h),λ_=>rfl]| [],_,_,_::_,_,h,_,_=>by cases h| _ :: _,_,_,[],_,h,_,_=>by cases h
  | (q,d)::kvs,xs,bs,e::es,hr,hk,hv,hp=>by
    obtain⟨x,r,b1,c1,rfl,_,h1,h2⟩:= hr;injection hk with k1 k2;rw [List.map_cons]at hv hp;cases hv with
    | cons v1 v2=>
      unfold D.pures at hp;rw [Bool.and_eq_true]at hp;have k1 : q = e.1.1:= k1
      by_cases he : e.1 = k
      · have hq : q = k.1:= by rw[k1,he]
        have hg : xv ((q,d)::kvs) k.1 = some d:= by unfold xv; rw[List.find?_cons_of_pos (by simp[hq])]; rfl
        have ha : atKey (e::es) k = some e.2:= by
          obtain⟨ek,ev⟩:= e;have he : ek = k:= he;simp[atKey,he]
        refine#[λp qi=> ?_,λhn=> ?_]
        · rw[ha]at qi
          cases oq9 qi;exact#[d,x,hg,v1,(RepL.pu (g':= false) h1 hp.1).2,hp.1]
        · grind
      · have hq : q≠k.1:= λz=>he (Subtype.ext (k1▸z))
        have hg : xv ((q,d)::kvs) k.1 = xv kvs k.1:= by unfold xv; rw[List.find?_cons_of_neg (by simp[hq])]
        have ha : atKey (e::es) k = atKey es k:= by
          simp[atKey,he]
        rw[hg,ha];exact(qzy h2 k2 v2 hp.2)
section
variable {X:Cx}{Z:Fx0}{pn:List Nat}{q qa:Bool}{kc vc a b:Ex}{o ke ve ea eb:Expr}{pos bh apos ak:Pos}
set_option tactic.hygienic true in
theorem wv4{i}(hu:X.A.units+64<cLine)(ho:PE X o (x9 i))(hk:QV X Z true kc ke)(hv:QV X Z true vc ve)(hK:autoParam (X.K=Z.K) Ŕ)(hm:M2 X o "setdefault" apos ke ve ak:=by exact#[rfl,rfl,rfl,rfl]):QE X Z false (vjv i kc vc) (.Call (.Attribute o "setdefault" apos) [ke,ve] [] ak):=
 kz (hK▸qve hu ho hk hv hm) fun σ H Q ax=>ex8 ax λE L r m w hc xc k=>by
  unfold vjv at hc
  by_cases hD:wzj E[i]?=true
  rotate_left
  ·rw[Xe hD]at hc;cases hc
  rw[Xb hD]at hc;obtain⟨kvs0,h0,hu0⟩:∃kvs,E[i]?=some (some (.rt,.dct kvs))/\unm kvs=true:=by
   unfold wzj at hD
   split at hD
   ·rename_i kvs h;exact#[kvs,h,hD]
   ·cases hD
  obtain⟨x0,a1,a2,a3,a4⟩:=m.get h0;obtain⟨l0,xs0,el0,⟨es0,ep0,hH0,_⟩⟩:=vx5 (w.ok x0 (vQ a1)) a3 hu0;refine#[x0.v,a4,l0,el0,#[es0,ep0,hH0],(v9 m w hc xc λE2 s2 h2 y L2 H2 e3 e4 m2 w2 i3 u7 tf cf f9=>(v9 m2 w2 h2 (xc.step cf) λE3 s3 h3 t L3 H3 e5 e6 m3 w3 ok3 sv sr3 dl sw=>?_))]
  split at h3
  rotate_left
  ·cases h3
  rename_i kvs hE
  split at h3
  rotate_left
  ·grind
  rename_i hcond;obtain⟨gl,av,hunm,hpv,hps⟩:=hcond;obtain⟨z,b1,b2,b3,b4⟩:=m3.get hE;have hzv:z.v=x0.v:=by rw[a4]at b4;exact(oq9 (oq9 b4)).symm
  have p7:RepR Z.K H3 (.dct kvs) z.v z.as:=by
   have:=w3.ok z (vQ b1);unfold Sl.ok at this;rw[b2,b3]at this;exact this
  obtain⟨l,xs,bs,c1,c2,c3,c4⟩:=p7;have u6:l=l0:=by
   have:V.ref l=V.ref l0:=by rw[<-c1,hzv,el0]
   injection this
  subst u6;obtain⟨es,ep,d1,d2,d3,d4,d5,d6,d7⟩:=DcA.un c3 hunm;obtain⟨b,eb,pb⟩:=kql (RepO.kp i3 (Kp.of_same (sw rfl))) (e4▸gl);have ny:v6 6 y.d=true:=by
   have:J6 y.d=true:=by rw[e4];exact gl
   unfold J6 at this;rw[Bool.and_eq_true]at this;exact this.1
  obtain⟨g1,g2⟩:=qzy (k:=#[y.d,ny]) c2 d5 d7 hps;have hyk:(#[y.d,ny]:Kd).1=s2.2:=e4;have gy:es.length<sizeLine:=by
   have:=congrArg List.length d5;rw[X3,X3]at this;rw[<-this];exact av
  refine#[b,#[y.d,ny],es,ep,eb,d1,d2,d3,d4,d6,pb,λp hp=>?_,λhn rr ep' hrr=>?_]
  ·obtain⟨d,v',q1,q2,q3,q4⟩:=g1 p hp;rw[hyk]at q1;rw[q1]at h3;cases oq9 h3;exact#[v',q2,k _ _ rfl #[.dp,d,v',[]] L3 H3 rfl rfl m3 (w3.consPu q3 rfl) (Jz (x:=#[.dp,d,v',[]]) (cf.trans dl) (λb hb=>nomatch hb) rfl) λz=>nomatch z]
  ·have q1:=g2 hn;rw[hyk]at q1;rw[q1]at h3;cases oq9 h3;have vm:=vx8 es (#[y.d,ny]:Kd);rw[hn]at vm;have hnm:y.d∉es.map (·.1.1):=of_decide_eq_false vm.symm;rw[storedH_new hn];have rt:RepL Z.K H3 true s3.2 t.v []:=by rw[<-e6];exact(RepL.pu (g':=true) (RepO.wk ok3) (e6▸hpv)).2
   have rp:=kxb (q:=s2.2) rt c2;rw[Xn]at rp;obtain⟨w4,i'⟩:=qxb (ep':=ep') (T:=[]) (i:=i) (y:=z) (es':=es++[(#[y.d,ny],b,rr)]) (xs':=xs++[t.v]) (cs:=bs) (kvs':=kvs++[(s2.2,s3.2)]) (by simpa using w3) b1 d1 b2 c4 c1 rp (λa h=>.inl h) d2 (by rw[Xi,Y4];lia) (by
    rw[Xk,X7];refine#[d4,List.nodup_cons.mpr #[Xm,Y2],λp qi q hq e=>?_];have:q=#[y.d,ny]:=aC hq;subst this e;obtain⟨n,uo,hn2⟩:=aE qi;exact hnm (List.mem_map.mpr #[n,uo,by rw[hn2]])) (by rw[Xk,Xk,d5,<-e4];rfl) (λn mh=>by
    rcases aA mh with z|z
    ·exact d6 n z
    ·rw[aC z];exact pb) (Xk▸kwx d7 hrr)
   have ht2:RepL Z.K (upd H3 l (qK l (es++[(#[y.d,ny],b,rr)]) ep')) false s3.2 t.v []:=by
    rw[<-e6];refine(qww ok3 (e6▸hpv)).kp #[λa zs e=>?_,λa o u e=>?_,λa ha=>nomatch ha]
    ·rw[k6 (λz=>by subst z;rw[d1]at e;cases e)];exact e
    ·rw[k6 (λz=>by subst z;rw[d1]at e;cases e)];exact e
   have mm:=m3.set (x:=#[.rt,.dct (kvs++[(s2.2,s3.2)]),z.v,l::bs]) i;rw[zX b4]at mm;exact k _ _ rfl #[.dp,s3.2,t.v,[]] _ _ rfl rfl mm (w4.consPu ht2 rfl) (Jz (x:=#[.dp,s3.2,t.v,[]]) ((cf.trans dl).trans (by simpa using i')) (λb hb=>nomatch hb) rfl) λz=>nomatch z
end
noncomputable def spM(K:Frag)(mg:Str->Option Value)(n:Nat)(f:Fn):Sp:=λvs H Q E=>∃(xs:List Sl) (y:Sl) (r:Res Sd),vs=xs.map Sl.v++[y.v]/\xs.length=n/\World K H ((xs++[y]).map some)/\f ((xs++[y]).map Sl.sd)=some r /\
 (∀E' c,r=.exc E' c->∀C H',mg c=some (.ref C)->Step H ((xs++[y]).map some) H' []->E (.ref C) none H') /\
 ∀E' a,r=.ok E' a->∃sd,E'[n]?=some (some sd)/\∀(x y':Sl) H',x.o=a.1->x.d=a.2->y'.o=sd.1->y'.d=sd.2->y'.v=y.v->World K H' [some x,some y']->Step H ((xs++[y]).map some) H' [some x,some y']->Q x.v H'
theorem kzy{K:Frag}{mg:Str->Option Value}{n:Nat}{f:Fn}{ps:List Str}(hn:ps.length=n+1):∀vs H Q E,spM K mg n f vs H Q E->vs.length=ps.length:=λvs H Q E hz=>by obtain⟨xs,y,r,e,hl,_⟩:=hz;rw[e,Xi,X3,hl,hn];rfl
theorem kvc{L:Ls}{x y:Sl}{i:Nat}(h:L[i]?=some (some y)):(sls [some x,some y]).Sublist (sls (some x::L)):=by
 have:y∈sls L:=mem_sls.mpr (vQ h);show(x::[y]).Sublist (x::sls L);exact(List.singleton_sublist.mpr this).cons₂ x
theorem qk1{X:Cx}{K:Frag}{mg:Str->Option Value}{N:List Str}{n nn:Nat}{B:Sm}{body:List Stmt}{H:Hp}{vs:List V}{Q:VK}{E:XK}(hN:N.length=nn)(t:QSs X #[K,mg,E] [n] B body)(h:spM K mg n (fn nn B) vs H Q E):
  ∃t,PSs X body t/\t {nx:=λ_ H'=>Q .non H',rt:=Q} (L2.start N vs) H:=by
 refine#[_,t,?_];obtain⟨xs,y,r,rfl,hl,w,hf,hx,hk⟩:=h;unfold fn at hf;rw[X3,Xj]at hf;have m:=kjc (xs++[y]) (nn - (xs++[y]).length);have e1:L2.start N (xs.map Sl.v++[y.v])=(xs++[y]).map (λx=>some x.v)++List.replicate (nn - (xs++[y]).length) none:=by
  unfold L2.start;rw[show xs.map Sl.v++[y.v]=(xs++[y]).map Sl.v by simp,Xj,X3,hN];rfl
 have hy0:(L2.start N (xs.map Sl.v++[y.v]))[n]?=some (some y.v):=by
  rw[e1,Yh (by simp[hl])];simp[hl]
 have wL:World K H ((xs++[y]).map some++List.replicate (nn - (xs++[y]).length) none):=w.same (by simp);have sL:Step H ((xs++[y]).map some) H ((xs++[y]).map some++List.replicate (nn - (xs++[y]).length) none):=Step.refl.same (List.Perm.refl _) (by simp);have fin:∀{E1:En} {σ':L2.St} {L':Ls} {sd:Sd},E1[n]?=some (some sd)->Pn [n] (L2.start N (xs.map Sl.v++[y.v])) σ'->Mt E1 σ' L'->∃y':Sl,L'[n]?=some (some y')/\y'.o=sd.1/\y'.d=sd.2/\y'.v=y.v:=λhE p m'=>by
  obtain⟨y',a1,a2,a3,a4⟩:=m'.get hE;refine#[y',a1,a2,a3,?_];have:=p n (aB rfl);rw[a4,hy0]at this;exact oq9 (oq9 this)
 cases hB:B ((xs++[y]).map (λx=>some x.sd)++List.replicate (nn - (xs++[y]).length) none)with
 | none=>rw[show(some∘Sl.sd)=(λx:Sl=>some x.sd)from rfl,hB]at hf;cases hf
 | some g=>
  rw[show(some∘Sl.sd)=(λx:Sl=>some x.sd)from rfl,hB]at hf;refine#[_,_,g,e1▸m,wL,hB,?_];cases g with
  |nx E1=>
   cases oq9 hf;intro σ' L' H' p m' w' s';obtain⟨sd,hE,hk⟩:=hk _ _ rfl;obtain⟨y',b1,b2,b3,b4⟩:=fin hE p m';have wx:World K H' (some (#[.dp,.non,.non,[]]:Sl)::L'):=w'.consPu (show RepL K H' false .non .non []from qj3) rfl;have sx:Step H ((xs++[y]).map some) H' (some (#[.dp,.non,.non,[]]:Sl)::L'):=Jz (x:=#[.dp,.non,.non,[]]) (sL.trans s') (λb hb=>(nomatch hb)) rfl;exact hk #[.dp,.non,.non,[]] y' H' rfl rfl b2 b3 b4 (wx.sub (kvc b1)) (sx.sub (kvc b1))
  |rt E1 a=>
   cases oq9 hf;intro x σ' L' H' e2 e3 p m' w' s';obtain⟨sd,hE,hk⟩:=hk _ _ rfl;obtain⟨y',b1,b2,b3,b4⟩:=fin hE p m';exact hk x y' H' e2 e3 b2 b3 b4 (w'.sub (kvc b1)) ((sL.trans s').sub (kvc b1))
  |xc E1 c=>
   cases oq9 hf;intro C σ' L' H' hm _ m' w' s';exact hx _ _ rfl C H' hm ((sL.trans s').sub (by simp))
  |ct E1=>cases hf|bk E1=>cases hf
noncomputable def tAM(Z:Fx0)(q:Bool)(cs:List Ex)(i:Nat):TA:=fun σ H Q=>∃E L r,Mt E σ L/\World Z.K H L/\v8 cs E=some r/\Xc Z σ H L r /\
 ∀E' ys,r=.ok E' ys->∀(xs:List Sl) L' H',xs.map Sl.sd=ys->Mt E' σ L'->World Z.K H' (xs.map some++L')->Step H L H' (xs.map some++L')->(q=true->k7 H H'/\∀b∈j8 (xs.map some),H b=none)->∃v,σ[i]?=some (some v)/\Q (xs.map Sl.v++[v]) H'
section
variable {X:Cx}{Z:Fx0}{q:Bool}{c:Ex}{cs:List Ex}{e:Expr}{es:List Expr}{pos p:Pos}{x:Str}{ps:List Str}{k n i:Nat}{f:Fn}
theorem xjl(h:PE X e (x9 i))(dj:autoParam (Abs e [] X) Ŕ):PA X [e] (tAM Z q [] i):=WY (vJ h wK dj) fun σ H Q ax=>ex8 ax λE L r m w hc xc k=>by
 cases oq9 hc;obtain⟨v,hv,q⟩:=k _ _ rfl [] L H rfl m w Step.refl λ_=>#[λ_ _ z=>z,λ_ z=>(nomatch z)]
 exact#[v,hv,q]
theorem Q9(h:QE X Z q c e)(hs:PA X es (tAM Z q cs i))(dj:autoParam (Abs e es X) Ŕ):PA X (e::es) (tAM Z q (c::cs) i):=
 WY (vJ h hs dj) fun σ H Q ax=>ex8 ax λE L r m w hc xc k=>by
  refine Kw m w (show bnd (c E) _=some r from hc) xc λE1 s h1 x L1 H1 e1 e2 m1 w1 st sm=>?_
  have s1:Step H L H1 L1:=st.trans Step.drop;rcases x6 h1 with⟨E2,ys,h2,h3⟩|⟨E2,cc,h2,h3⟩
  ·cases oq9 h3;refine#[E1,L1,_,m1,w1.tail,h2,(λ_ _ z=>by cases z),λE' xg z xs L2 H2 e3 m2 w2 cf f9=>?_];injection z with z1 z2;subst z1 z2;obtain⟨w3,dl⟩:=V5 (T:=[some x]) w1 cf w2;refine k _ _ rfl (x::xs) L2 H2 (by rw[List.map_cons,e3];simp[Sl.sd,e1,e2]) m2 w3 (st.trans dl) λhq=>?_
   obtain⟨a1,a2⟩:=sm hq;obtain⟨b1,b2⟩:=f9 hq;refine#[kX a1 b1,λb hb=>?_];rw[List.map_cons,jK]at hb;rcases aA hb with z|z
   ·exact a2 b z
   ·exact J8 a1 (b2 b z)
  ·exact#[E1,L1,_,m1,w1.tail,h2,(xc.step s1).map h3,λE' s' z=>by cases z]
theorem vko{L:Ls}{y:Sl}(h:L[i]?=some (some y)):(sls L).Perm (y::sls (L.set i none)):=by
 have:=(jve h).filterMap id;exact this
set_option tactic.hygienic true in
theorem qj8(D:jW X.prog X.w X.K X.mg X.base k x ps (spM Z.K Z.mg n f))(hr:Room k X.A)(g:xq X Z.EX)(ha:PA X (e::es) (tAM Z q cs i))(hn:autoParam (cs.length=n) Ŕ)(hg:autoParam (Gl X x) Ŕ)(ff:autoParam (Abd x) ŕ)
  (he:autoParam (Abs e es X) Ŕ) (c8:autoParam (Abb pos es X) Ŕ):
  QE X Z false (kv3 f i cs) (.Call (.Name x p) (e::es) [] pos):=kz (qxp D hr g ha hg ff he c8) fun σ H Q ax=>ex8 ax λE L r m w hc xc kk=>by
 rcases x6 (show bnd (v8 cs E) _=some r from hc)with⟨E1,ys,h1,h2⟩|⟨E1,cc,h1,h2⟩
 rotate_left
 ·exact#[E,L,_,m,w,h1,xc.map h2,λE' s' z=>by cases z]
 refine#[E,L,_,m,w,h1,(λ_ _ z=>by cases z),λE' xg z xs L1 H1 e1 m1 w1 st sm=>?_];injection z with z1 z2;subst z1 z2;have av:xs.length=n:=by rw[<-hn,<-ZX h1,<-e1,X3]
 have wt:ys.length=n:=by rw[<-hn];exact ZX h1
 split at h2
 rotate_left
 ·cases h2
 rename_i x0 hE;obtain⟨o0,d0⟩:=x0;obtain⟨y,a1,a2,a3,a4⟩:=m1.get hE;refine#[y.v,a4,?_];dsimp only;rw [Xn];obtain⟨wl,sl⟩:=jz7 w1;have pm:(sls ((xs.map Sl.let).map some++L1)).Perm (sls ((xs.map Sl.let++[y]).map some++L1.set i none)):=by
  have e2:∀A B:Ls,sls (A++B)=sls A++sls B:=λA B=>List.filterMap_append ..
  rw[Xk,Xv,e2,e2];exact List.Perm.append_left _ (vko a1)
 have wl2:=wl.same pm;have ou:Step H L H1 ((xs.map Sl.let++[y]).map some++L1.set i none):=(st.trans sl).trans (Step.refl.same (List.Perm.refl _) pm);cases hf:f (letAll ys++[(o0,d0)])with
 | none=>rw[hf]at h2;cases h2
 | some fr=>
  rw[hf]at h2;refine#[xs.map Sl.let,y,fr,by rw[Xj];rfl,by rw[X3];exact av,wl2.left,?_,λE' c ee C H' hm s'=>?_,λE' a ee=>?_]
  ·rw[Xk,kwd,e1];show f (letAll ys++[(y.o,y.d)])=some fr;rw[a2,a3];exact hf
  ·subst ee;cases oq9 h2;obtain⟨w2,s2⟩:=stay wl2 s' #[λ_ z=>(nomatch z),Y2,λ_ z=>(nomatch z)];exact xc _ _ rfl C _ H' hm (Q2 i m1) w2 (ou.trans s2)
  ·subst ee;dsimp only at h2
   split at h2
   rotate_left
   ·cases h2
   rename_i x' hE';cases oq9 h2;rw[wt]at hE';refine#[x',hE',λx y' H' e2 e3 e4 e5 e6 w' s'=>?_];obtain⟨w2,s2⟩:=stay wl2 s' w';have ph:([some x,some y']++L1.set i none).Perm (some y'::(some x::L1.set i none)):=List.Perm.swap ..;have w3:=(w2.perm ph).set (i:=i+1);rw[List.set_cons_succ,List.set_set]at w3;have s3:Step H L H' (some x::L1.set i (some y')):=by
    have:=(ou.trans (s2.perm (List.Perm.refl _) ph)).trans (Step.set (i:=i+1));rw[List.set_cons_succ,List.set_set]at this;exact this
   have mm:=Jw (i:=i) (x:=y') (s:=x') m1 e4 e5;rw[e6,zX a4]at mm;exact kk _ _ rfl x _ H' e2 e3 mm w3 s3 λz=>nomatch z
end
set_option tactic.hygienic true in
theorem qze{P w K mg mb CX k fa a fd x sp s₁ vs}{ns}
  (KX:K.In s₁.heap) (hns:s₁.heap.Ns mainGlobals mg) (hb:s₁.heap.Ns builtinsNs mb) (hbb:∀x:Str,x≠"__name__"->mb x=bootBuiltins x) (hlim:s₁.heap.NoLimit) (hg:s₁.gens=(List.toArray []))
  (ha:s₁.heap.get? a=some {cls:=.type "list",data:=.seq vs.toArray}) (hi:IntsAre vs ns) (hl:ns.length<=sizeLine) (hr:Room k callerA)
  (F:∀base,K.In base->base.Ns mainGlobals mg->FnOk P w K mg base CX k fa fd [x] sp) (wm:∀s u,BindsTo s fd #[[u],[]] [(x,u)])
  (lz:∀H,xq8 H->LsR K H a (ns.map V.int)->sp [.ref a] H (λv _=>v=.bl true) λ_ _ _=>False)
  (hCX:∀H e s',CX [] H s₁ (λ_ _ _=>False) e s'->False):
  codeAny (model P w) callerA (.call (.ref fa) #[[.ref a],[]]) (λr s'=>r=.ok (.ret (.bool true))/\OldK s₁.heap s'.heap/\s'.os=s₁.os/\AllBare s'.gens) s₁:=by
 have rv:=qwc hi;have ut:∀H,xq8 H->LsR K H a (ns.map V.int)->HOk P w H s₁.heap->(∀b,H b≠none->b=a)->(H a≠none->K.lookup a=none) ->
   codeAny (model P w) callerA (.call (.ref fa) #[[.ref a],[]]) (λr s'=>r=.ok (.ret (.bool true))/\OldK s₁.heap s'.heap/\s'.os=s₁.os/\AllBare s'.gens) s₁:=by
  intro H hO hS hok hA hK;have lf:∀{b o},s₁.heap.get? b=some o->H b=none->(Wz s₁.heap H).get? b=some o:=λe n=>vv2 e n
  have vp:∀{b o es ep},s₁.heap.get? b=some o->o.data=.dict es ep->H b=none:=fun {b o es ep} e d=>by
   cases q:H b with| none=>rfl| some u=>grind
  have nsK:∀{b m},s₁.heap.Ns b m->(Wz s₁.heap H).Ns b m:=fun {b m} ⟨o,es,ep,e,d,r⟩=>#[o,es,ep,lf e (vp e d),d,r]
  have hKb:=λb o e=>lf (KX b o e) (by
   cases q:H b with
   | none=>rfl
   | some u=>
    have e':=hA b (by rw[q];simp);subst e';rw[hK ⋯]at e;cases e)
  have hM:Mod K mg (Wz s₁.heap H):=#[hKb,nsK hns,#[mb,nsK hb,hbb],let ⟨mc,h1,h2⟩:=hlim;#[mc,nsK h1,h2]];have e0:Env0 P w K mg _ callerA [] s₁ H:=#[rfl,hM,λb o e=>wj7 e,Nat.le_of_eq (qzv _ _),trivial,λb hb=>absurd (show b∈([]:List Addr)from hb) (by simp),hok,.of_eq hg];refine codeAny_mono ((F _ hKb (nsK hns)).run callerA [] s₁ H _ [.ref a] [.ref a] _ _ hr e0 (wm s₁ _) (.cons rfl .nil) (lz H hO hS)) λr s' h=>?_
  cases r with
  | error e=>exact(hCX H e s' h).elim
  | ok fl=>
   cases fl with
   | next=>exact False.elim h| brk=>exact False.elim h| cont=>exact False.elim h
   | ret u=>
    obtain⟨v,H',os,bare,un,hok',r',q⟩:=h;subst q;obtain rfl:u=Value.bool true:=r';refine#[rfl,OldK.of_keep λb o e=>?_,os,bare];cases q:H b with
    | none=>exact un.keep b o e q (by intro z;exact absurd (show b∈([]:List Addr)from z) (by simp)) (by simp)
    | some u=>
     rcases hO b with z|⟨ob,xs,z⟩
     ·grind
     ·have z2:=un.frzs b ob _ z;obtain⟨e1,_⟩:=hok b _ z;obtain⟨e2,_⟩:=hok' b _ z2
      grind
 cases hk:K.lookup a with
 | some o=>
  have e:=KX a o hk;rw[ha]at e;cases e;refine ut (λ_=>none) (λ_=>.inl rfl) (.inr #[vs.toArray,_,hk,by rw[X6,hi.length];exact hl,by simpa using rv]) (λb u z=>by have z':(none)=some u:=z;cases z') (λb z=>absurd rfl z) λz=>absurd rfl z
 | none=>
  refine ut (λb=>if b=a then some (.frz {cls:=.type "list",data:=.seq vs.toArray} (.lst (ns.map V.int)))else none) (λb=>?_) (.inl (.inr #[{cls:=.type "list",data:=.seq vs.toArray},Xb rfl])) (λb u z=>?_) (λb z=>?_) λ_=>hk
  ·by_cases hb:b=a
   ·exact .inr #[_,_,Xb hb]
   ·exact .inl (Xe hb)
  ·by_cases hb:b=a
   ·have z':=(Xb hb).symm.trans z;cases z';subst hb;exact#[ha,by rw[X3];exact hl,vs,_,rv,ha]
   ·have z':=(Xe hb).symm.trans z;cases z'
  ·by_cases hb:b=a
   ·exact hb
   ·exact absurd (Xe hb) z
@[elab_as_elim] theorem len1 {P:List Value->Prop} us (e:us.length=1)(h:∀a,P [a]):P us:=by
 cases us with|nil=>cases e|cons a us=>cases List.eq_nil_of_length_eq_zero (Nat.succ.inj e);exact h a
@[elab_as_elim] theorem len2 {P:List Value->Prop} us (e:us.length=2)(h:∀a b,P [a,b]):P us:=by
 cases us with|nil=>cases e|cons a us=>exact len1 us (Nat.succ.inj e) λb=>h a b
@[elab_as_elim] theorem len3 {P:List Value->Prop} us (e:us.length=3)(h:∀a b c,P [a,b,c]):P us:=by
 cases us with|nil=>cases e|cons a us=>exact len2 us (Nat.succ.inj e) λb c=>h a b c
@[elab_as_elim] theorem len4 {P:List Value->Prop} us (e:us.length=4)(h:∀a b c d,P [a,b,c,d]):P us:=by
 cases us with|nil=>cases e|cons a us=>exact len3 us (Nat.succ.inj e) λb c d=>h a b c d
@[elab_as_elim] theorem len5 {P:List Value->Prop} us (e:us.length=5)(h:∀a b c d f,P [a,b,c,d,f]):P us:=by
 cases us with|nil=>cases e|cons a us=>exact len4 us (Nat.succ.inj e) λb c d f=>h a b c d f
@[elab_as_elim] theorem len6 {P:List Value->Prop}(us:List Value)(e:us.length=6)(h:∀a b c d f g,P [a,b,c,d,f,g]):P us:=by
 cases us with|nil=>cases e|cons a us=>exact len5 (P:=λl=>P (a::l)) us (Nat.succ.inj e) λb c d f g=>h a b c d f g
theorem jza{K H g}:∀(ns:List Int),RepA K H g (ns.map D.int) (ns.map V.int) []
 |[]=>#[rfl,rfl]
 |n::ns=>by
  unfold RepA;exact#[_,_,[],[],rfl,rfl,vK,jza ns]
theorem wwp{K mg f H a}{ns:List Int}(h:∃E o,f [(.no,.lst (ns.map D.int))]=some (.ok E (o,.bl true)))(hs:LsR K H a (ns.map V.int))(hO:xq8 H):
  spF K mg 1 f [.ref a] H (λv _=>v=.bl true) λ_ _ _=>False:=by
 obtain⟨E,o,h⟩:=h;have key:∃as,RepL K H true (.lst (ns.map D.int)) (.ref a) as/\(∀b∈as,False):=by
  rcases hs with(hs|⟨ob,hs⟩)|hs
  ·rcases hO a with z|⟨_,_,z⟩<;>(rw[hs]at z;cases z)
  ·exact#[[],(#[a,ns.map V.int,[],rfl,jza ns,.inr #[rfl,.inl #[ob,hs],rfl]]),λb hb=>nomatch hb]
  ·exact#[[],(#[a,ns.map V.int,[],rfl,jza ns,.inr #[rfl,.inr hs,rfl]]),λb hb=>nomatch hb]
 obtain⟨as,r,hn⟩:=key;refine#[[#[.no,.lst _,.ref a,as]],_,rfl,rfl,?_,h,(λE' c z=>by cases z),λE' s z x H' e1 e2 w' st=>?_]
 ·exact#[λx hx=>by rw[oq9 (aC hx)];exact r,by simp[Sl.own],λb hb=>by simp[Sl.own]at hb]
 ·injection z with z1 z2;subst z2;exact W0 w'.head e2
section
open PySem.W PySem.Calls
theorem walkQ{l:OpenLaw}{n k q qQ XP YP d}{K:Params->Frag}{f}{x}
  (hn:l.most=some n) (hn2:n<=sizeLine) (hdf:d.params.defaults=[]) (hr:Room k callerA)
  (hY:∀w (h),YP w h->(K w.params).In h)
  (F:∀w (mg) (fa) (h),(K w.params).In h->h.Ns mainGlobals mg->mg d.name=some (.ref fa) ->
   ∃fd,(∀s (u),BindsTo s fd #[[u],[]] [(x,u)])/\∀base,(K w.params).In base->base.Ns mainGlobals mg->FnOk l.prog w (K w.params) mg base (CXE l.prog w) k fa fd [x] (spF (K w.params) mg 1 f))
  (lz:∀(ns:List Int),ns.length<=n->(∀i∈ns,Builtin.Int.intBits i<=1048576)->∃E o,f [(.no,.lst (ns.map D.int))]=some (.ok E (o,.bl true))):
  WalkO q qQ XP YP l.row.toRowW d [] (λf vs=>PySem.call f vs):=by
 intro w s0 s1 mg mb G Y fa o pm cd iw dV kV ho hd ju hD hmg hg args sk as on hlay hrd hwl hlo;obtain⟨a,vs,ns,rfl,rfl,hobj,xo,av⟩:=Att.script_of hn on hwl;have KX:=hY w _ Y;obtain⟨fd,hb,hF⟩:=F w mg fa _ KX G.T.g hmg;refine enter_call (codeAny_mono (qze KX G.T.g G.T.b G.T.builtins G.T.nolimit hg hobj xo (Xx av hn2) hr hF hb (λH hO hS=>wwp (lz ns av (qka hlay)) hS hO) (λ_ _ _ h=>by obtain⟨_,_,_,_,_,_,_,_,_,_,_,_,_,_,_,z⟩:=h;exact z)) λr s' hq=>?_);obtain⟨rfl,h2,h3,h4⟩:=hq;exact#[.inl #[.bool true,.bool true,[],rfl,λ_=>rfl,.bool true,Att.post_true l _,λ_=>#[List.Pairwise.nil,λ_ hm=>(nomatch hm)]],h2,h3,h4]
end
noncomputable def xv1:Nat->(List Value->Prop)->Prop
 |0,p=>p []|n+1,p=>∀a,xv1 n λus=>p (a::us)
@[elab_as_elim] theorem allN {p:List Value->Prop} us {n}(e:us.length=n)(h:xv1 n p):p us:=by
 induction us generalizing n p with|nil=>subst e;exact h|cons a us ih=>subst e;exact ih (p:=λus=>p (a::us)) rfl (h a)
section
variable {P:Program}{w:PySem.World}{K:Frag}{mg:Str->Option Value}{base h:Heap}{x:Str}{st:Stmt}{ps:List Str}{k:Nat}{sp:Sp}
noncomputable def Gf(K:Frag)(x:Str)(st:Stmt):Prop:=∃(f:Addr) (oc:Value) (od:Option Addr) (kV dc pm:Value) (an:Option Addr) (cd ct:Value) (sl:Array (Option Value)),nsIn K mainGlobals x=some (some (.ref f))/\K.lookup f=some #[oc,od,.func (PySem.W.fnOf x x (V7 st) (KJ st) (jY st) .none kV dc pm an cd ct),sl]/\PySem.W.codeIn K cd x=true/\PySem.W.keepIn K (.ref f)=true
theorem Gf.mk{f oc od kV dc pm an cd ct sl}(a:nsIn K mainGlobals x=some (some (.ref f)))(l:K.lookup f=some #[oc,od,.func (PySem.W.fnOf x x (V7 st) (KJ st) (jY st) .none kV dc pm an cd ct),sl])(c:PySem.W.codeIn K cd x=true)(k:PySem.W.keepIn K (.ref f)=true):Gf K x st:=#[f,oc,od,kV,dc,pm,an,cd,ct,sl,a,l,c,k]
theorem Gf.d(g:Gf K x st)(X:K.In h)(G:h.Ns mainGlobals mg)(ok:∀{f fd},Fun K x x st f fd->FnOk P w K mg base (CXE P w) k f fd ps sp)
  (hb:∀kV iw pm an (dq ct) us,us.length=ps.length->bindArgs (PySem.W.fnOf x x (V7 st) (KJ st) (jY st) .none kV iw pm an dq ct) #[us,[]]=pure (ps.zip us):=by
   intro _ _ _ _ _ _ us hl;refine allN us hl ?_
   repeat intro _
   exact rfl):jW P w K mg base k x ps sp:=by
 obtain⟨f,oc,od,kV,dc,pm,an,cd,ct,sl,a,l,c,kp⟩:=g;exact#[f,_,ok (vj1 l c kp),(vj1 l c kp).binds hb,kp,Yk X G a]
theorem Gf.law{fa y}(g:Gf K "law" st)(X:K.In h)(G:h.Ns mainGlobals mg)(hfa:mg "law"=some (.ref fa))(ok:∀{base f fd},Fun K "law" "law" st f fd->FnOk P w K mg base (CXE P w) k f fd [y] sp)
  (hb:∀kV iw pm an (dq ct) s v,BindsTo s (PySem.W.fnOf "law" "law" (V7 st) (KJ st) (jY st) .none kV iw pm an dq ct) #[[v],[]] [(y,v)]:=by
   intros
   exact .of_eq rfl):
  ∃fd,(∀s v,BindsTo s fd #[[v],[]] [(y,v)])/\∀base,K.In base->base.Ns mainGlobals mg->FnOk P w K mg base (CXE P w) k fa fd [y] sp:=by
 obtain⟨f,oc,od,kV,dc,pm,an,cd,ct,sl,a,l,c,kp⟩:=g;have e:=hfa.symm.trans (Yk X G a);cases e;exact#[_,hb kV dc pm an cd ct,λbase _ _=>ok (vj1 l c kp)]
end
end Q
namespace Q
open PySem L2
theorem mkS{N P sc}(h1:autoParam (sc.kind=.function) Ŕ)(h2:autoParam (sc.isCoroutine=false) Ŕ)(h3:autoParam (sc.isGenerator=false) Ŕ)(h4:autoParam (N.Nodup) ŗ)(h5:autoParam (N.take P.length=P) Ŕ)(h6:autoParam (∀x∈P,sc.names.lookup x=some .local\/sc.names.lookup x=some .cell) ŗ)(h7:autoParam (∀y∈sc.names,y.2≠.free) ŗ):FnScope N P sc:=#[h1,h2,h3,h4,h5,h6,h7]
end Q
namespace Q
open PySem PySem.Spec PyProof.Rows L2 L3
section
variable {X:Cx}{Z:Fx0}{pn:List Nat}{q qa:Bool}{a b c:Ex}{e ea eb:Expr}{pos p:Pos}
theorem kI{z j}:QE X Z true (cC (.int z)) (.Constant (.int z) j p):=q_C qxn λ_=>vK
theorem ki{z j}:QV X Z true (vE (cC (.int z))) (.Constant (.int z) j p):=j5 kI
theorem kN{j}:QE X Z true (cC .non) (.Constant .none j p):=q_C wvx λ_=>qj3
theorem kn{j}:QV X Z true (vE (cC .non)) (.Constant .none j p):=j5 kN
theorem kS{z j}(h:autoParam (z.length<=sizeLine) ŕ):QE X Z true (cC (.str z)) (.Constant (.str z) j p):=q_C kxn λ_=>Q5 h
theorem ks{z j}(h:autoParam (z.length<=sizeLine) ŕ):QV X Z true (vE (cC (.str z))) (.Constant (.str z) j p):=j5 (kS h)
theorem vv i {x}(hN:autoParam (X.N[i]?=some x) Ŕ)(hv:autoParam (Vis X.env.scope x) ř)(hd:autoParam (Abd x) ŕ)
  (ju:autoParam ((x==("__classdict__":Str))=false) ŕ):QV X Z true (vV i) (.Name x pos):=q_vV (pv i hN hv hd ju)
theorem cv i {x}(hN:autoParam (X.N[i]?=some x) Ŕ)(hv:autoParam (Vis X.env.scope x) ř)(hd:autoParam (Abd x) ŕ)
  (ju:autoParam ((x==("__classdict__":Str))=false) ŕ):QE X Z true (cV i) (.Name x pos):=q_V (pv i hN hv hd ju)
theorem kx(ha:QV X Z qa a ea)(hb:QV X Z true b eb)(hs:jzm eb:=by exact λ_ _=>rfl)(hK:autoParam (X.K=Z.K) Ŕ):QV X Z qa (jk a b) (.Subscript ea eb pos):=q_ix ha hb hs hK
theorem qA{i y bh}(hN:X.N.Nodup)(h:QE X Z q a ea)(hi:autoParam (X.N[i]?=some y) Ŕ)(hx:autoParam (Loc X.env.scope y) Ś)(hp:autoParam (i∉pn) ŕ)(hs:autoParam (swapsWith ea (some (.Name y bh)) pos.line X.env=pure false) Ŕ)(hf:autoParam (X.fn y=true\/X.env.scope.names.lookup y=some .local) Ř):
  QS X Z pn (jq i a) (.Assign [.Name y bh] ea pos):=xjr hN hi hx h hp hs hf
theorem gn{i x}(hN:X.N.Nodup)(hi:autoParam (X.N[i]?=some x) Ŕ)(hx:autoParam (Loc X.env.scope x) Ś)(hf:autoParam (X.fn x=true\/X.env.scope.names.lookup x=some .local) Ř):PG X (.Name x pos) (vj0 i):=qjd hN hi hx hf
theorem gN{i x}(hN:X.N.Nodup)(hi:autoParam (X.N[i]?=some x) Ŕ)(hx:autoParam (Loc X.env.scope x) Ś)(hf:autoParam (X.fn x=true\/X.env.scope.names.lookup x=some .local) Ř)(hp:autoParam (i∉pn) ŕ):QG X Z pn (.n i) (.Name x pos):=Ww (qjd hN hi hx hf) hp
theorem qC{k m n x ps f cs es}(D:jW X.prog X.w X.K X.mg X.base k x ps (spF Z.K Z.mg n f))(hr:Room m X.A)(ha:QA X Z q cs (e::es))(g:xq X Z.EX:=by exact wJ)(gy:autoParam (k<=m) ŕ)(hn:autoParam (cs.length=n) Ŕ)(hg:autoParam (Gl X x) Ŕ)(ff:autoParam (Abd x) ŕ)
  (he:autoParam (Abs e es X) Ŕ) (c8:autoParam (Abb pos es X) Ŕ):
  QE X Z q (jx f cs) (.Call (.Name x p) (e::es) [] pos):=qx9 D (hr.mono gy) g ha hn hg ff he c8
theorem qF{tg iter ss it t B}(hi:QI X Z q tg it iter)(hg:QG X Z pn t tg)(hb:QSs X Z pn B ss)(hp:PassesOwn (model X.prog X.w) X.A X.env X.xe:=by exact vqm #[_,_,rfl,rfl])(hc:autoParam (X.calm=true) Ŕ)(hs:autoParam (∀x,foldedSetIterable iter X.env x=pure x) Ŗ):QS X Z pn (vw it t B) (.For tg iter ss [] pos):=xjq hp hc hi hg hb hs
theorem oA(ha:QV X Z qa a ea)(hb:QV X Z true b eb)(hK:autoParam (X.K=Z.K) Ŕ):QE X Z qa (cF2 k4 a b) (.BinOp ea .Add eb pos):=YX (wwa hK) wz6 ha hb
theorem oX(ha:QV X Z qa a ea)(hb:QV X Z true b eb)(hK:autoParam (X.K=Z.K) Ŕ):QE X Z qa (cF2 K8 a b) (.BinOp ea .Mult eb pos):=YX (ww7 hK) wkb ha hb
theorem oM(ha:QV X Z qa a ea)(hb:QV X Z true b eb):QE X Z qa (cF2 (pu2 qv) a b) (.BinOp ea .Mod eb pos):=YX ww6 wxx ha hb
theorem qP{i x apos ak xp}(h:QE X Z q c e)(hN:autoParam (X.N[i]?=some x) Ŕ)(hv:autoParam (Vis X.env.scope x) ř)(hd:autoParam (Abd x) ŕ)
  (ju:autoParam ((x==("__classdict__":Str))=false) ŕ) (bc:autoParam (attributeBase (.Name x xp) "append" X.env (eval (.Name x xp) X.env)=eval (.Name x xp) X.env) Ŕ)
  (gf:autoParam (((backTo ak (starEach [e] X.env)).all (λx=>!x.1)&&(backToKw ak (keywordEach [] X.env)).all (λx=>x.1.isSome)
   && decide ([e].length+([]:List Keyword).length+(if([]:List Keyword).isEmpty then 0 else 1)<30))=true) Ŕ)
  (be:autoParam (Abe apos ak) Ŕ) (hs:autoParam (Abs e [] X) Ŕ) (bo:autoParam (Abb ak [] X) Ŕ) (hK:autoParam (X.K=Z.K) Ŕ)
  (lq:autoParam (swapsWith (.Call (.Attribute (.Name x xp) "append" apos) [e] [] ak) none pos.line X.env=pure false) Ŕ):
  QS X Z pn (qW qX i c) (.Expr (.Call (.Attribute (.Name x xp) "append" apos) [e] [] ak) pos):=xjs (qxr Z.K Yn PySem.F.slot_list_append PySem.F.type_list_append kk4 (pv i hN hv hd ju) (vJ h wK hs) bc gf be hs bo hK) lq
theorem qL(ha:QV X Z q a ea)(hm:X.mg "len"=none)(hK:autoParam (X.K=Z.K) Ŕ)(hg:autoParam (Gl X "len") Ŕ)(he:autoParam (Abs ea [] X) Ŕ)(c8:autoParam (Abb pos [] X) Ŕ):QE X Z q (cF1 (pu1 qw) a) (.Call (.Name "len" p) [ea] [] pos):=wvf (hK▸wk2 X.K) wxy ha hm qv0 hg ⋯ ⋯ he c8
theorem qT(ha:QV X Z q a ea)(hm:X.mg "tuple"=none)(hK:autoParam (X.K=Z.K) Ŕ)(hg:autoParam (Gl X "tuple") Ŕ)(he:autoParam (Abs ea [] X) Ŕ)(c8:autoParam (Abb pos [] X) Ŕ):QE X Z q (cF1 xV a) (.Call (.Name "tuple" p) [ea] [] pos):=xZ (vjs hK) vvu ha hm kjg hg ⋯ ⋯ he c8
variable {iter gm tg:Expr}{gh:List Expr}{scope:Scope}{it:Ev (List D)}{tt:Tg}{u:Ts}
theorem qm(o)(k)(R)(m)(N)(hi:QI X Z q tg it iter)
  (hg:N.Nodup->∀cl C s0 H0 fp,QG (lcE X scope N cl C s0 H0 fp Z.EX) Z ((List.range R.length).map (k + ·)) tt tg) (ht:∀cl C s0 H0 fp,PTs (lcE X scope N cl C s0 H0 fp Z.EX) gh (tT Z q u)) (he:∀cl C s0 H0 fp,QE (lcE X scope N cl C s0 H0 fp Z.EX) Z q c gm)
  (hN:autoParam (N.Nodup) ŗ) (gx:xq X Z.EX:=by exact wJ) (top:Jj X:=by exact#[_,_,rfl,rfl]) (hR:autoParam (R.Nodup) ŕ) (hm:autoParam (X.N.length=m) Ŕ) (hr:autoParam (∀j∈R,j<m) ŕ) (hc:autoParam (X.calm=true) Ŕ) (hk:autoParam (scope.kind=.function) Ŕ) (li:autoParam (QJ X.N X.env.scope scope N k R=true) Ŕ) (hs:autoParam (∀x,foldedSetIterable iter X.env x=pure x) Ŗ):
  QE X Z q (cLC o k R it tt u c) (.ListComp gm [#[tg,iter,gh,0]] scope pos):=xqu N hi (hg hN) ht he gx top hR (hm▸hr) hc hk li hs
theorem qM{x p'}(o)(k)(R)(m)(N)(hi:QI X Z q (.Name x p') it iter)(he:∀cl C s0 H0 fp,QE (lcE X scope N cl C s0 H0 fp Z.EX) Z q c gm)
  (hN:autoParam (N.Nodup) ŗ) (gx:xq X Z.EX:=by exact wJ) (top:Jj X:=by exact#[_,_,rfl,rfl]) (hR:autoParam (R.Nodup) ŕ) (hm:autoParam (X.N.length=m) Ŕ) (hr:autoParam (∀j∈R,j<m) ŕ) (hc:autoParam (X.calm=true) Ŕ) (hk:autoParam (scope.kind=.function) Ŕ) (li:autoParam (QJ X.N X.env.scope scope N k R=true) Ŕ) (hs:autoParam (∀x,foldedSetIterable iter X.env x=pure x) Ŗ)
  (h1:autoParam (N[0]?=some x) Ŕ) (h2:autoParam (scope.names.lookup x=some .local) Ŕ) (h3:autoParam (0∉(List.range R.length).map (k + ·)) ŕ):
  QE X Z q (cLC o k R it (.n 0) tYes c) (.ListComp gm [#[.Name x p',iter,[],0]] scope pos):=xqu N hi (λ_ _ _ _ _=>Ww (qjd (i:=0) hN h1 (.inl (lookup_relabel_local h2)) (.inr (lookup_relabel_local h2))) h3) (λ_ _ _ _ _=>vz6) he gx top hR (hm▸hr) hc hk li hs
end
section
variable {X:Cx}{Z:Fx0}{pn:List Nat}{q1 q2:Bool}{kc vc:Ex}{e1 e2 o:Expr}{j:Nat}
theorem qwx{K H}{x:Sl}{k}(ok:x.ok K H)(hd:x.d=.int k):x.v=.int k:=by
 have h:=qww ok (by rw[hd];rfl);rw[hd]at h;exact h.1
end
end Q
namespace PySem
structure ZA (z TI TO i1 i2:Addr)(f1 f2:List Addr):Prop where
 a1:TI≠z
 a2:TO≠z
 a3:TI≠TO
 a4:i1≠z
 a5:i2≠z
 a6:TI≠i1
 a7:TI≠i2
 a8:TO≠i1
 a9:TO≠i2
 b1:i1≠i2
 c1:z∉f1
 c2:TO∉f1
 c3:i2∉f1
 d1:z∉f2
 d2:TO∉f2
 d3:i1∉f2
section
variable {prog:Program}{w:World}{A:Around}{E:VP9}{s:Shared}{z TI TO i1 i2:Addr}{f1 f2:List Addr}{n1 n2 k:Nat}{P1 P2:Nat->Value->Prop}{S1 S2:Nat->Heap->Prop}
theorem Q3{h h':Heap}{a:Addr}{f:List Addr}{S:Nat->Heap->Prop}{it n i P}(D:Draws prog w A it f n P S)(hs:Heap.SameBut a h h')(ha:a∉f)(st:S i h):S i h':=D.frame i h h' st λb hb o e=>hs.extBut _ _ (λx=>ha (x▸hb)) e
abbrev ZSt(z TI TO i1 i2:Addr)(S1 S2:Nat->Heap->Prop)(k:Nat)(h:Heap):Prop:=IsZip h z TI TO .none/\IsPair h TI (.ref i1) (.ref i2)/\(∃a b,IsPair h TO a b)/\S1 k h/\S2 k h
theorem vxf{Q:Option Value->Shared->Prop}(ap:ZA z TI TO i1 i2 f1 f2)(D1:Draws prog w A.in1 i1 f1 n1 P1 S1)(D2:Draws prog w A.in1 i2 f2 n2 P2 S2)(st:ZSt z TI TO i1 i2 S1 S2 k s.heap)(h1:k<n1)(h2:k<n2)
  (hQ:∀h' tk x y,P1 k x->P2 k y->IsZip h' z TI TO (rawInt s.heap.objs.size)->IsPair h' TI (.ref i1) (.ref i2)->IsPair h' TO x y->S1 (k+1) h'->S2 (k+1) h'->IsPair h' s.heap.objs.size x y ->
   (∀c o,c≠z->c≠TO->c≠i1->c≠i2->s.heap.get? c=some o->h'.get? c=some o)->Q (some (.ref s.heap.objs.size)) {s with heap:=h',toks:=tk}):wpAny (model prog w) A (pyNext (.ref z)) Q E s:=by
 obtain⟨hz,hTI,⟨a,b,hTO⟩,s1,s2⟩:=st;have hT:s.TypeIs (.ref z) "zip":=#[_,hz,rfl];unfold pyNext;refine X0 (wpAny_attempt (Yb (name:=Str.ofString "__next__") hT F.slot_zip_next (Y6 F.slot_zip_next hT F.entry_zip_next ?_ (F.args_zip_next_1 _))));show wpAny _ _ (field (.ref z) 2 >>= _) _ _ _;refine X0 (Y5 hz rfl (x:=.bool false) rfl ?_);show wpAny _ _ (field (.ref z) 3 >>= _) _ _ _;refine X0 (Y5 hz rfl (x:=.ref TI) rfl ?_);refine X0 (Yz hTI rfl ?_);show wpAny _ _ (Builtin.SmallTypes.ownedTupleIsFree (.ref z) >>= _) _ _ _;refine X0 ?_;unfold Builtin.SmallTypes.ownedTupleIsFree;refine X0 (Y5 hz rfl (x:=.none) rfl (X5 ?_));simp only[if_true];refine X0 (wpAny_rule ?_);refine X0 (Y5 hz rfl (x:=.ref TO) rfl ?_);refine X0 (wpAny_setField_rec hz (by simp) λg1 z1 e1=>?_);have z1:IsZip g1 z TI TO .ellipsis:=z1;refine X0 ?_;simp only[List.zipIdx_cons,List.zipIdx_nil,List.forIn_cons,List.forIn_nil];refine X0 (X0 (wpAny_onRaise ?_));show wpAny _ _ (Builtin.SmallTypes.nextOf (.ref i1) >>= _) _ _ _;refine X0 (D1.item k {s with heap:=g1} _ _ h1 (Q3 D1 e1 ap.c1 s1) λx g2 t2 px u4 e2=>X5 ?_);have e2:Heap.SameBut i1 g1 g2:=e2;have o2:IsPair g2 TO a b:=e2.extBut _ _ ap.a8 (e1.extBut _ _ ap.a2 hTO);refine X0 (Yz o2 rfl ?_);refine X0 (wpAny_updateSeq_pair o2 λg3 o3 e3=>?_);have o3:IsPair g3 TO x b:=o3;have e3:Heap.SameBut TO g2 g3:=e3;refine X0 (wpAny_letGo (X5 ?_));refine X0 (X0 (wpAny_onRaise ?_));show wpAny _ _ (Builtin.SmallTypes.nextOf (.ref i2) >>= _) _ _ _;refine X0 (D2.item k {s with heap:=g3,toks:=t2} _ _ h2 (Q3 D2 e3 ap.d2 (Q3 D2 e2 ap.d3 (Q3 D2 e1 ap.d1 s2))) λy g4 t4 py s2' e4=>X5 ?_);have e4:Heap.SameBut i2 g3 g4:=e4;have o4:IsPair g4 TO x b:=e4.extBut _ _ ap.a9 o3;refine X0 (Yz o4 rfl ?_);refine X0 (wpAny_updateSeq_pair o4 λg5 o5 e5=>?_);have o5:IsPair g5 TO x y:=o5;have e5:Heap.SameBut TO g4 g5:=e5;refine X0 (wpAny_letGo (X5 (X5 ?_)));refine X0 (Yz o5 rfl ?_);refine X0 (wpAny_newTuple ?_);have hsz:g5.objs.size=s.heap.objs.size:=by rw[e5.1,e4.1,e3.1,e2.1,e1.1]
 have z5:IsZip g5 z TI TO .ellipsis:=e5.extBut _ _ ap.a2.symm (e4.extBut _ _ ap.a5.symm (e3.extBut _ _ ap.a2.symm (e2.extBut _ _ ap.a4.symm z1)));have keep:∀c o,c≠z->c≠TO->c≠i1->c≠i2->s.heap.get? c=some o->g5.get? c=some o:=λc o c1 c2 c3 c4 e=>e5.extBut _ _ c2 (e4.extBut _ _ c4 (e3.extBut _ _ c2 (e2.extBut _ _ c3 (e1.extBut _ _ c1 e))))
 have r1:S1 (k+1) g5:=Q3 D1 e5 ap.c2 (Q3 D1 e4 ap.c3 (Q3 D1 e3 ap.c2 u4));have r2:S2 (k+1) g5:=Q3 D2 e5 ap.d2 s2';have zl:z<g5.objs.size:=Xd z5;show wpAny _ _ (Builtin.SmallTypes.ownedTupleHandOut (.ref z) (.ref g5.objs.size) >>= _) _ _ _;refine X0 ?_;unfold Builtin.SmallTypes.ownedTupleHandOut;have z6:IsZip (g5.push {cls:=.type "tuple",data:=.seq (List.toArray [x,y])}) z TI TO .ellipsis:=X2 _ z5;refine X0 (wpAny_setField_rec z6 (by simp) λg7 z7 e7=>?_);have z7:IsZip g7 z TI TO (rawInt g5.objs.size):=z7;refine wpAny_setField_rec z7 (by simp) λg8 z8 e8=>?_
 have z8:IsZip g8 z TI TO (rawInt g5.objs.size):=z8;have up:∀c o,c≠z->g5.get? c=some o->g8.get? c=some o:=λc o c1 e=>e8.extBut _ _ c1 (e7.extBut _ _ c1 (X2 _ e))
 have t8:IsPair g8 g5.objs.size x y:=e8.extBut _ _ (Nat.ne_of_gt zl) (e7.extBut _ _ (Nat.ne_of_gt zl) (Xa _ rfl));rw[hsz]at z8 t8;refine X5 #[_,rfl,?_];refine X5 ?_;show Q (some (.ref g5.objs.size)) _;rw[hsz];exact hQ g8 t4 x y px py z8 (up _ _ ap.a1 (keep _ _ ap.a1 ap.a3 ap.a6 ap.a7 hTI)) (up _ _ ap.a2 o5) (D1.frame _ _ _ r1 λb hb o e=>up b o (λq=>ap.c1 (q▸hb)) e) (D2.frame _ _ _ r2 λb hb o e=>up b o (λq=>ap.d1 (q▸hb)) e) t8 λc o c1 c2 c3 c4 e=>up c o c1 (keep c o c1 c2 c3 c4 e)
theorem wks{Q:Option Value->Shared->Prop}(ap:ZA z TI TO i1 i2 f1 f2)(D1:Draws prog w A.in1 i1 f1 n1 P1 S1)(st:ZSt z TI TO i1 i2 S1 S2 n1 s.heap)
  (hQ:∀h',(∀c o,c≠z->c≠i1->s.heap.get? c=some o->h'.get? c=some o)->Q none {s with heap:=h' }):wpAny (model prog w) A (pyNext (.ref z)) Q E s:=by
 obtain⟨hz,hTI,⟨a,b,hTO⟩,s1,s2⟩:=st;have hT:s.TypeIs (.ref z) "zip":=#[_,hz,rfl];unfold pyNext;refine X0 (wpAny_attempt (Yb (name:=Str.ofString "__next__") hT F.slot_zip_next (Y6 F.slot_zip_next hT F.entry_zip_next ?_ (F.args_zip_next_1 _))));show wpAny _ _ (field (.ref z) 2 >>= _) _ _ _;refine X0 (Y5 hz rfl (x:=.bool false) rfl ?_);show wpAny _ _ (field (.ref z) 3 >>= _) _ _ _;refine X0 (Y5 hz rfl (x:=.ref TI) rfl ?_);refine X0 (Yz hTI rfl ?_);show wpAny _ _ (Builtin.SmallTypes.ownedTupleIsFree (.ref z) >>= _) _ _ _;refine X0 ?_;unfold Builtin.SmallTypes.ownedTupleIsFree;refine X0 (Y5 hz rfl (x:=.none) rfl (X5 ?_));simp only[if_true];refine X0 (wpAny_rule ?_);refine X0 (Y5 hz rfl (x:=.ref TO) rfl ?_);refine X0 (wpAny_setField_rec hz (by simp) λg1 z1 e1=>?_);have z1:IsZip g1 z TI TO .ellipsis:=z1;refine X0 ?_;simp only[List.zipIdx_cons,List.zipIdx_nil,List.forIn_cons,List.forIn_nil];refine X0 (X0 (wpAny_onRaise ?_));show wpAny _ _ (Builtin.SmallTypes.nextOf (.ref i1) >>= _) _ _ _;refine X0 (D1.done {s with heap:=g1} _ _ (Q3 D1 e1 ap.c1 s1) λg2 ex e2 he=>?_);have e2:Heap.ExtBut i1 g1 g2:=e2;obtain⟨oe,hoe,hce⟩:=he;have z2:IsZip g2 z TI TO .ellipsis:=e2 _ _ ap.a4.symm z1;have hez:ex≠z:=λq=>by subst q;rw[z2]at hoe;cases hoe;simp at hce
 refine wpAny_setField_rec z2 (by simp) λg3 _ e3=>?_
 refine X0 (wpAny_isInstance (T:="StopIteration") (b:=true) #[oe,e3.extBut _ _ hez hoe,hce] isSubtype_stop ?_);exact X5 (hQ _ λc o c1 c2 q=>e3.extBut _ _ c1 (e2 _ _ c2 (e1.extBut _ _ c1 q)))
end
abbrev zt1(h:Heap)(t:Addr):Heap:=h.push {cls:=.type "tuple_iterator",data:=.fields (List.toArray [.ref t,.int 0 0])}
abbrev zt2(h:Heap)(t u:Addr):Heap:=(zt1 h t).push {cls:=.type "tuple_iterator",data:=.fields (List.toArray [.ref u,.int 0 0])}
abbrev zt3(h:Heap)(t u:Addr):Heap:=(zt2 h t u).push {cls:=.type "tuple",data:=.seq (List.toArray [.ref h.objs.size,.ref (zt1 h t).objs.size])}
abbrev zt4(h:Heap)(t u:Addr):Heap:=(zt3 h t u).push {cls:=.type "tuple",data:=.seq (List.toArray [.none,.none])}
abbrev zt5(h:Heap)(t u:Addr):Heap:=(zt4 h t u).push {cls:=.type "zip",data:=.fields (List.toArray [.none,.bool false,.bool false,.ref (zt2 h t u).objs.size,.ref (zt3 h t u).objs.size])}
theorem wkr(t u:Addr)(xs ys:Array Value):Meets (Builtin.«zip.__new__» #[[.type "zip",.ref t,.ref u],[]]) (λ_ R s=>s.heap.IsTuple t xs/\s.heap.IsTuple u ys/\R (.ok (.ret (.ref (zt4 s.heap t u).objs.size))) {s with heap:=zt5 s.heap t u}):=
 .of_wp λprog w A R s h=>by
  obtain⟨hp,g,d,tk,os⟩:=s;obtain⟨fj,mo,h⟩:=h;have jh:=sub_zip;have hL1:Heap.IsTuple (Shared.heap #[hp,g,d,tk,os]) t xs:=fj;have hL2:Heap.IsTuple (Shared.heap #[hp.push {cls:=.type "tuple_iterator",data:=.fields (List.toArray [.ref t,.int 0 0])},g,d,tk,os]) u ys:=by obtain⟨o,ho,r⟩:=mo;exact#[o,X2 _ ho,r]
  wp_walk using wpAny_pyIter_tuple hL1,wpAny_pyIter_tuple hL2
  exact#[_,rfl,h]
section
variable {prog:Program}{w:World}{A:Around}{E:VP9}{s:Shared}
theorem vxe{t u:Addr}{xs ys:Array Value}{Q:VP9}(h1:s.heap.IsTuple t xs)(h2:s.heap.IsTuple u ys)
  (h:∀h',IsZip h' (s.heap.objs.size+4) (s.heap.objs.size+2) (s.heap.objs.size+3) .none->IsPair h' (s.heap.objs.size+2) (.ref s.heap.objs.size) (.ref (s.heap.objs.size+1))->IsPair h' (s.heap.objs.size+3) .none .none ->
   h'.IsTupleIter s.heap.objs.size t 0->h'.IsTupleIter (s.heap.objs.size+1) u 0->(∀c o,s.heap.get? c=some o->h'.get? c=some o)->Q (.ref (s.heap.objs.size+4)) {s with heap:=h' }):wpAny (model prog w) A (call (.type "zip") [.ref t,.ref u]) Q E s:=by
 refine callType_new F.called_zip ⋯ (F.typeCall_zip_2 _ _) (F.newCall_zip_2 _ _) (λobj=>F.args_object_init_3 obj _ _) F.entry_zip_new (wkr t u xs ys) #[h1,h2,?_];have q1:(zt1 s.heap t).objs.size=s.heap.objs.size+1:=Yy ..;have q2:(zt2 s.heap t u).objs.size=s.heap.objs.size+2:=by rw[Yy,q1]
 have q3:(zt3 s.heap t u).objs.size=s.heap.objs.size+3:=by rw[Yy,q2]
 have q4:(zt4 s.heap t u).objs.size=s.heap.objs.size+4:=by rw[Yy,q3]
 have p5:(zt5 s.heap t u).get? (zt4 s.heap t u).objs.size=some _:=Xa _ rfl;have p4:(zt5 s.heap t u).get? (zt3 s.heap t u).objs.size=some _:=X2 _ (Xa _ rfl);have p3:(zt5 s.heap t u).get? (zt2 s.heap t u).objs.size=some _:=X2 _ (X2 _ (Xa _ rfl));have p2:(zt5 s.heap t u).get? (zt1 s.heap t).objs.size=some _:=X2 _ (X2 _ (X2 _ (Xa _ rfl)));have p1:(zt5 s.heap t u).get? s.heap.objs.size=some _:=X2 _ (X2 _ (X2 _ (X2 _ (Xa _ rfl))));show _/\_;rw[q2,q3,q4]at p5;rw[q1,q2]at p3;rw[q3]at p4;rw[q1]at p2;rw[q4];exact#[#[_,p5,rfl],h _ p5 p3 p4 #[_,p1,rfl,rfl] #[_,p2,rfl,rfl] λc o x=>X2 _ (X2 _ (X2 _ (X2 _ (X2 _ x))))]
end
end PySem
namespace Q
open PySem PySem.Spec PyProof.Rows L2 L3
noncomputable def ItZ(K:Frag)(l1 l2:Addr):It:=#[λi H=>∃xs ys x y,SqT K H l1 xs/\SqT K H l2 ys/\xs[i]?=some x/\ys[i]?=some y,
 λi H v H'=>∃T x y,H T=none/\v=.ref T/\H'=upd H T (.tup [x,y])/\(∀xs,SqT K H l1 xs->xs[i]?=some x)/\∀ys,SqT K H l2 ys->ys[i]?=some y,
 λi H=>∃xs ys,SqT K H l1 xs/\SqT K H l2 ys/\xs.length=i]
abbrev ztS(z TI TO i1 i2 l1 l2:Addr)(i:Nat)(h:Heap):Prop:=IsZip h z TI TO .none/\IsPair h TI (.ref i1) (.ref i2)/\(∃a b,IsPair h TO a b)/\h.IsTupleIter i1 l1 i/\h.IsTupleIter i2 l2 i
theorem wzt{n l1 l2:Addr}(h1:l1<n)(h2:l2<n):ZA (n+4) (n+2) (n+3) n (n+1) [n,l1] [n+1,l2]:=by
 constructor<;>simp only[Xz,Xm,or_false,not_or,ne_eq]<;>first|lia|(unfold Addr at *;lia)
theorem vxj{P:Program}{w:PySem.World}{K:Frag}{c9:List Expr}{k1:Nat}{pos:Pos}{z TI TO i1 i2 l1 l2:Addr}(ap:ZA z TI TO i1 i2 [i1,l1] [i2,l2])(n1:l1≠i1)(n2:l2≠i2):
  Turn P w K (.Tuple c9 k1 pos) (ItZ K l1 l2) [z,TI,TO,i1,i2] z (ztS z TI TO i1 i2 l1 l2) where
 mem:=by simp
 obj:=λi h st b hb=>by
  obtain⟨h1,h2,⟨a,c,h3⟩,⟨o4,e4,c4,d4⟩,o5,e5,c5,d5⟩:=st;simp only[Xz,Xm,or_false]at hb;rcases hb with rfl|rfl|rfl|rfl|rfl
  ·exact#[_,h1,λv z=>by cases z]
  ·exact#[_,h2,λv z=>by cases z]
  ·exact#[_,h3,λv z=>by cases z]
  ·exact#[_,e4,λv z=>by rw[d4]at z;cases z]
  ·exact#[_,e5,λv z=>by rw[d5]at z;cases z]
 keep:=λi h h' st k=>by
  obtain⟨h1,h2,⟨a,c,h3⟩,⟨o4,e4,c4,d4⟩,o5,e5,c5,d5⟩:=st;exact#[k _ (by simp) _ h1,k _ (by simp) _ h2,#[a,c,k _ (by simp) _ h3],#[o4,k _ (by simp) _ e4,c4,d4],o5,k _ (by simp) _ e5,c5,d5]
 item:=by
  intro X hP hw hK hc i aa s σ H E I hf st hg;subst hP hw hK;obtain⟨xs,ys,x,y,q1,q2,hx,hy⟩:=hg;obtain⟨dk,jy,p1,oj⟩:=I.tuple q1;obtain⟨u1,qu,xb⟩:=jy.get hx;obtain⟨dm,qf,p2,qe⟩:=I.tuple q2;obtain⟨u2,hu2,ru2⟩:=qf.get hy;obtain⟨t1,t2,⟨a,b,t3⟩,t4,t5⟩:=st;have hh:X.A.in1.handled=none:=by have:=I.ok.hd hc;simpa using this
  refine vxf ap (jxu hh i1 l1 n1 dk.toArray) (jxu hh i2 l2 n2 dm.toArray) #[t1,t2,#[a,b,t3],#[t4,p1],t5,p2] (by rw[X6];exact(List.getElem?_eq_some_iff.mp qu).1) (by rw[X6];exact(List.getElem?_eq_some_iff.mp hu2).1) λh1 tk v1 v2 w1 w2 g1 gI g3 g4 g5 gT gk=>?_
  have e1:v1=u1:=by
   have w1:dk[i]?=some v1:=by simpa using w1
   rw[qu]at w1;exact(oq9 w1).symm
  have e2:v2=u2:=by
   have w2:dm[i]?=some v2:=by simpa using w2
   rw[hu2]at w2;exact(oq9 w2).symm
  subst e1 e2;refine#[_,rfl,wpAny_letOwnedTupleGo_zip (s:={s with heap:=h1,toks:=tk}) g1 λh2 f1 sb=>?_];have fT:x5 X aa H s.heap.objs.size:=I.fpOk (X8 _) (I.hok.fresh (X8 _));have nT:∀b∈[z,TI,TO,i1,i2],b≠s.heap.objs.size:=λb hb e=>by
   obtain⟨o,eo⟩:∃o,s.heap.get? b=some o:=by
    simp only[Xz,Xm,or_false]at hb;obtain⟨o4,e4,_⟩:=t4;obtain⟨o5,e5,_⟩:=t5;rcases hb with rfl|rfl|rfl|rfl|rfl
    ·exact#[_,t1]
    ·exact#[_,t2]
    ·exact#[_,t3]
    ·exact#[_,e4]
    ·exact#[_,e5]
   exact absurd (Xd eo) (by rw[e];exact Ym _)
  have kk:∀b o,b∉[z,TO,i1,i2]->s.heap.get? b=some o->h2.get? b=some o:=λb o hb e=>by
   simp only[Xz,Xm,or_false,not_or]at hb;exact(sb.2 b hb.1).trans (gk b o hb.1 hb.2.1 hb.2.2.1 hb.2.2.2 e)
  have I1:L2.Inv X aa σ H {s with heap:=h2,toks:=tk}:=ZW [z,TO,i1,i2] I kk λb hb=>hf b (by
   simp only[Xz,Xm,or_false]at hb ⊢;rcases hb with h|h|h|h<;>simp[h])
  have nz:s.heap.objs.size≠z:=λe=>nT z (by simp) e.symm
  have I2:=jxq (a:=s.heap.objs.size) (o:=.tup [x,y]) I1 fT.1 fT.2.1 fT.2.2.2.1 fT.2.2.2.2.1 fT.2.2.2.2.2
   (show ObjOk X.prog X.w _ h2 _ (.tup [x,y])from#[by show(2:Nat)<=sizeLine;decide,[v1,v2],.cons xb (.cons ru2 .nil),#[_,(sb.2 _ nz).trans gT,rfl,rfl,0,rfl]])
  refine#[.ref s.heap.objs.size,_,I2,rfl,#[_,x,y,fT.1,rfl,rfl,λzs js=>by rw[I.tuple_inj js q1];exact hx,λzs js=>by rw[I.tuple_inj js q2];exact hy],?_,λb hb=>by rw[k6 (nT b hb)];exact(hf b hb).1];obtain⟨⟨o4,e4,c4,d4⟩,_⟩:=g4;obtain⟨⟨o5,e5,c5,d5⟩,_⟩:=g5;exact#[f1,(sb.2 _ ap.a1).trans gI,#[v1,v2,(sb.2 _ ap.a2).trans g3],#[o4,(sb.2 _ ap.a4).trans e4,c4,d4],o5,(sb.2 _ ap.a5).trans e5,c5,d5]
 done:=by
  intro X hP hw hK hc i aa s σ H E I hf st hg;subst hP hw hK;obtain⟨xs,ys,q1,q2,hx⟩:=hg;obtain⟨dk,jy,p1,oj⟩:=I.tuple q1;obtain⟨dm,qf,p2,qe⟩:=I.tuple q2;obtain⟨t1,t2,⟨a,b,t3⟩,t4,t5⟩:=st;have fj:=jy.length;have hh:X.A.in1.handled=none:=by have:=I.ok.hd hc;simpa using this
  have hsz:dk.toArray.size=i:=by rw[X6,<-fj];exact hx
  refine wks (S2:=λk h=>h.IsTupleIter i2 l2 k/\h.IsTuple l2 dm.toArray) ap (jxu hh i1 l1 n1 dk.toArray) (by rw[hsz];exact#[t1,t2,#[a,b,t3],#[t4,p1],t5,p2]) λh' kk=>#[rfl,?_]
  refine ZW (t':=s.toks) [z,TO,i1,i2] I (λb o hb e=>?_) λb hb=>hf b (by
   simp only[Xz,Xm,or_false]at hb ⊢;rcases hb with h|h|h|h<;>simp[h])
  simp only[Xz,Xm,or_false,not_or]at hb;exact kk b o hb.1 hb.2.2.1 e
 self:=λ_ _ _ _ _ st h=>wpAny_pyIter_zip st.1 h
abbrev xkh(K:Frag)(ta:TA):TI:=fun σ H R=>ta σ H λvs H1=>∃l1 l2,vs=[.ref l1,.ref l2]/\(((∃xs,SqL K H1 l1 xs)/\(∃ys,SqL K H1 l2 ys)/\R (Itz K l1 l2) H1)\/((∃xs,SqT K H1 l1 xs)/\(∃ys,SqT K H1 l2 ys)/\R (ItZ K l1 l2) H1))
section
variable {X:Cx}{p pos gc:Pos}{c9:List Expr}{k1:Nat}
theorem vzp(K:Frag){a b:Expr}{ta:TA}(hg:Gl X "zip")(hm:X.mg "zip"=none)(ha:PA X [a,b] ta)(hK:autoParam (X.K=K) Ŕ)
  (hs:autoParam (starEach [a,b] X.env=[(false,eval a X.env),(false,eval b X.env)]) Ŕ) (ls:autoParam (starEach [b] X.env=[(false,eval b X.env)]) Ŕ):
  PI X (.Tuple c9 k1 gc) (.Call (.Name "zip" p) [a,b] [] pos) (xkh K ta):=by
 subst hK;intro aa s σ H R I h;refine Call_ (Q6 I hg hm wxq (Ya (thn (ha pos aa s σ H _ I h) λus s1 hz=>?_) (by rw[hs,ls]) (by rw[ls];rfl)));obtain⟨vs,H1,I1,r1,q1⟩:=hz;obtain⟨l1,l2,rfl,q⟩:=q1;obtain⟨u1,u2,rfl,e1,e2⟩:=qv5 r1;cases e1;cases e2;have fin:∀b∈[s1.heap.objs.size+4,s1.heap.objs.size+2,s1.heap.objs.size+3,s1.heap.objs.size,s1.heap.objs.size+1],x5 X aa H1 b:=λb hb=>by
  have gy:s1.heap.objs.size<=b:=by
   simp only[Xz,Xm,or_false]at hb;rcases hb with rfl|rfl|rfl|rfl|rfl<;>lia
  exact I1.fpOk gy (I1.hok.fresh gy)
 rcases q with⟨⟨xs,q1⟩,⟨ys,q2⟩,q⟩|⟨⟨xs,q1⟩,⟨ys,q2⟩,q⟩
 ·obtain⟨dk,jy,p1,oj⟩:=I1.list q1;obtain⟨dm,qf,p2,qe⟩:=I1.list q2;have lt:∀{l:Addr} {ar:Array Value},s1.heap.IsList l ar->l<s1.heap.objs.size:=λh=>by obtain⟨_,e,_⟩:=h;exact Xd e
  exact call_zip_2 p1.isList p2.isList λh' g1 g2 g3 g4 g5 gs gk=>wpAny_pyIter_zip g1 #[_,_,_,_,H1,rfl,I1.kept (t':=s1.toks) gk,vkh (zipApart_new (lt p1.isList) (lt p2.isList)),#[g1,g2,#[_,_,g3],g4,g5],fin,q]
 ·obtain⟨dk,jy,p1,oj⟩:=I1.tuple q1;obtain⟨dm,qf,p2,qe⟩:=I1.tuple q2;have lt:∀{l:Addr} {ar:Array Value},s1.heap.IsTuple l ar->l<s1.heap.objs.size:=λh=>by obtain⟨_,e,_⟩:=h;exact Xd e
  have t1:=lt p1;have t2:=lt p2;exact vxe p1 p2 λh' g1 g2 g3 g4 g5 gk=>wpAny_pyIter_zip g1 #[_,_,_,_,H1,rfl,I1.kept (t':=s1.toks) gk,vxj (wzt t1 t2) (Xl t1) (Xl (Nat.lt_succ_of_lt t2)),#[g1,g2,#[_,_,g3],g4,g5],fin,q]
end
section
variable {X:Cx}{Z:Fx0}{K:Frag}{pn:List Nat}{q qa qb:Bool}{a b c:Ex}{u:Ts}{tg e ea eb:Expr}{st:Stmt}{σ:L2.St}{H:Hp}{L:Ls}{E:En}{pos p p2 gc:Pos}{x:Str}{c9:List Expr}{k1:Nat}
set_option tactic.hygienic true in
theorem vq1{b:Ex}(ha:QE X Z q a ea)(hb:QE X Z q b eb)(hg:Gl X "zip")(hm:X.mg "zip"=none)(hK:autoParam (X.K=Z.K) Ŕ)
  (hs:autoParam (starEach [ea,eb] X.env=[(false,eval ea X.env),(false,eval eb X.env)]) Ŕ) (ls:autoParam (starEach [eb] X.env=[(false,eval eb X.env)]) Ŕ)
  (ng:autoParam (starEach [ea,eb] X.env=(false,eval ea X.env)::starEach [eb] X.env) Ŕ):QI X Z q (.Tuple c9 k1 gc) (kz0 a b) (.Call (.Name "zip" p) [ea,eb] [] pos):=λaa s σ H R I ax=>ex8 ax λE L r m w hc xc k=>by
 refine(vzp Z.K hg hm (vJ ha (vJ hb wK ls) ng) hK hs ls) aa s σ H R I ?_;refine Kw m w (show bnd (a E) _=some r from hc) xc λE1 s h1 x L1 H1 e1 e2 m1 w1 st sm=>?_
 have s1:Step H L H1 L1:=st.trans Step.drop;refine Kw (q:=q) m1 w1.tail h1 (xc.step s1) λE2 s2 h2 y L2 H2 e3 e4 m2 w2 cf f9=>?_
 have hh:=V5 (T:=[some x]) w1 cf w2;have w3:World Z.K H2 (some x::some y::L2):=hh.1;have dl:Step H1 (some x::L1) H2 (some x::some y::L2):=hh.2;obtain⟨ds,hd,rfl⟩:=zj h2;have lh:=w3.head;have oky:=w3.tail.head;have wT:World Z.K H2 (L2++[x.let,y.let].map some):=by
  have wy:World Z.K H2 (some y.let::L2):=w3.tail.tail.consNo (J3 oky) rfl λb hb=>w3.tail.apart b hb
  have wx:World Z.K H2 (some x.let::some y.let::L2):=wy.consNo (J3 lh) rfl λb hb ho=>w3.apart b hb (by
   rw [jK]at ho ⊢;exact lr9 _ ((aA ho).elim (λz=>by rw[(kqk y).1]at z;exact nomatch z) id))
  exact World.comm (L:=[some x.let,some y.let]) wx
 have ia:Step H L H2 (some x::some y::L2):=st.trans dl;have sT:Step H L H2 (L2++[x.let,y.let].map some):=by
  refine#[ia.keep,λb hb=>?_,λb hb=>?_]
  ·have:b∈j8 L2:=by simpa [kqk]using hb
   exact ia.own b (by rw[jK,jK];exact lr9 _ (lr9 _ this))
  ·have:b∈jV L2\/b∈x.as\/b∈y.as:=by simpa [kqk]using hb
   rcases this with z|z|z
   ·exact ia.frz b (by rw[vk,vk];exact lr9 _ (lr9 _ z))
   ·exact kj4 ia b z
   ·rcases Sl.as_of z with z|z
    ·exact .inr (ia.own b (by rw[jK,jK];exact lr9 _ (ll9 _ z)))
    ·exact ia.frz b (by rw[vk,vk];exact lr9 _ (ll9 _ z))
 cases hx:x.d with
 | lst es=>
  cases hy:y.d with
  | lst fs=>
   rw [<-e2,<-e4,hx,hy]at hd;have hd:(if es.length<=big then some (x4 es fs)else none)=some ds:=hd
   split at hd
   rotate_left
   ·cases hd
   rename_i av;have av:es.length<=sizeLine:=av;cases oq9 hd;obtain⟨l1,xs,bs,ev,q3,r3,h3,_⟩:=items lh (.inl hx);have q3:LsR Z.K H2 l1 xs:=by rcases q3 with⟨_,z⟩|⟨z,_⟩;exact z;rw[hx]at z;cases z
   obtain⟨l2,ys,cs,p9,q4,r4,h4,_⟩:=items oky (.inl hy);have q4:LsR Z.K H2 l2 ys:=by rcases q4 with⟨_,z⟩|⟨z,_⟩;exact z;rw[hy]at z;cases z
   have si:=jxo (K:=Z.K) hx ev;have qy:=jxo (K:=Z.K) hy p9;refine#[l1,l2,by rw[ev,p9],.inl #[#[xs,q3.sq],#[ys,q4.sq],k _ _ rfl (Itz Z.K l1 l2) [x.let,y.let] L2 H2 m2 wT sT (by rw[W7];lia) (λhq=>kX (sm hq).1 (f9 hq).1) #[λt ht=>?_,λi H3 hok hi=>?_,λH3 hok=>?_,λi H3 v H4 d hok wt fh=>?_]]]
   ·simp only[Xz,Xm,or_false]at ht;rcases ht with rfl|rfl<;>rfl
   ·obtain⟨us,ur,a1,a2,_⟩:=si H3 (hok _ (by simp));obtain⟨vs,uv,b1,b2,_⟩:=qy H3 (hok _ (by simp));have hl:=a2.len;have mo:=b2.len;rw[W7]at hi;exact#[us,vs,us[i]'⋯,vs[i]'⋯,a1,b1,X1 ⋯,X1 ⋯]
   ·obtain⟨us,ur,a1,a2,_⟩:=si H3 (hok _ (by simp));obtain⟨vs,uv,b1,b2,_⟩:=qy H3 (hok _ (by simp));have hl:=a2.len;have mo:=b2.len;exact#[us,vs,a1,b1,by rw[W7];lia]
   ·obtain⟨us,ur,a1,a2,a3⟩:=si H3 (hok _ (by simp));obtain⟨vs,uv,b1,b2,b3⟩:=qy H3 (hok _ (by simp));obtain⟨T,x',y',hT,rfl,rfl,g1,g2⟩:=wt;rw[kv7]at fh;cases he1:es[i]? with
    | none=>rw[he1]at fh;cases fh
    | some d1=>
     cases nh:fs[i]? with
     |none=>rw[he1,nh]at fh;cases fh
     |some d2=>
      rw[he1,nh]at fh;cases oq9 fh;obtain⟨v1,bs1,f1,f2,f3⟩:=a2.get he1;obtain⟨v2,bs2,j1,j2,j3⟩:=b2.get nh;have e5:v1=x':=by have:=g1 us a1;rw[f1]at this;exact oq9 this
      have e6:v2=y':=by have:=g2 vs b1;rw[j1]at this;exact oq9 this
      subst e5 e6;refine#[#[.no,_,.ref T,bs1++bs2],rfl,rfl,rfl,vz hT,kvm hT f2 j2,λb hb=>?_];rcases aA hb with z|z
      ·exact#[x.let,by simp,a3 b (f3 b z)]
      ·exact#[y.let,by simp,b3 b (j3 b z)]
  | _=>rw[<-e2,<-e4,hx,hy]at hd;cases hd
 | tup es=>
  cases hy:y.d with
  | tup fs=>
   rw [<-e2,<-e4,hx,hy]at hd;have hd:(if es.length<=big/\es.length=fs.length then some (x4 es fs)else none)=some ds:=hd
   split at hd
   rotate_left
   ·cases hd
   rename_i av;obtain⟨av,gy⟩:=av;have av:es.length<=sizeLine:=av;cases oq9 hd;obtain⟨l1,xs,bs,ev,q3,r3,h3,_⟩:=items lh (.inr hx);have q3:SqT Z.K H2 l1 xs:=by rcases q3 with⟨z,_⟩|⟨_,z⟩;rw[hx]at z;cases z;exact z
   obtain⟨l2,ys,cs,p9,q4,r4,h4,_⟩:=items oky (.inr hy);have q4:SqT Z.K H2 l2 ys:=by rcases q4 with⟨z,_⟩|⟨_,z⟩;rw[hy]at z;cases z;exact z
   have si:=jxd (K:=Z.K) hx ev;have qy:=jxd (K:=Z.K) hy p9;refine#[l1,l2,by rw[ev,p9],.inr #[#[xs,q3],#[ys,q4],k _ _ rfl (ItZ Z.K l1 l2) [x.let,y.let] L2 H2 m2 wT sT (by rw[W7];lia) (λhq=>kX (sm hq).1 (f9 hq).1) #[λt ht=>?_,λi H3 hok hi=>?_,λH3 hok=>?_,λi H3 v H4 d hok wt fh=>?_]]]
   ·simp only[Xz,Xm,or_false]at ht;rcases ht with rfl|rfl<;>rfl
   ·obtain⟨us,ur,a1,a2,_⟩:=si H3 (hok _ (by simp));obtain⟨vs,uv,b1,b2,_⟩:=qy H3 (hok _ (by simp));have hl:=a2.len;have mo:=b2.len;rw[W7]at hi;exact#[us,vs,us[i]'⋯,vs[i]'⋯,a1,b1,X1 ⋯,X1 ⋯]
   ·obtain⟨us,ur,a1,a2,_⟩:=si H3 (hok _ (by simp));obtain⟨vs,uv,b1,b2,_⟩:=qy H3 (hok _ (by simp));have hl:=a2.len;have mo:=b2.len;exact#[us,vs,a1,b1,by rw[W7];lia]
   ·obtain⟨us,ur,a1,a2,a3⟩:=si H3 (hok _ (by simp));obtain⟨vs,uv,b1,b2,b3⟩:=qy H3 (hok _ (by simp));obtain⟨T,x',y',hT,rfl,rfl,g1,g2⟩:=wt;rw[kv7]at fh;cases he1:es[i]? with
    | none=>rw[he1]at fh;cases fh
    | some d1=>
     cases nh:fs[i]? with
     |none=>rw[he1,nh]at fh;cases fh
     |some d2=>
      rw[he1,nh]at fh;cases oq9 fh;obtain⟨v1,bs1,f1,f2,f3⟩:=a2.get he1;obtain⟨v2,bs2,j1,j2,j3⟩:=b2.get nh;have e5:v1=x':=by have:=g1 us a1;rw[f1]at this;exact oq9 this
      have e6:v2=y':=by have:=g2 vs b1;rw[j1]at this;exact oq9 this
      subst e5 e6;refine#[#[.no,_,.ref T,bs1++bs2],rfl,rfl,rfl,vz hT,kvm hT f2 j2,λb hb=>?_];rcases aA hb with z|z
      ·exact#[x.let,by simp,a3 b (f3 b z)]
      ·exact#[y.let,by simp,b3 b (j3 b z)]
  |_=>rw[<-e2,<-e4,hx,hy]at hd;cases hd
 |_=>rw[<-e2,hx]at hd;cases hd
end
noncomputable def PVZ(K:Frag)(H:Hp):List Int->V->V->Prop
 |[],v,u=>u=v|z::r,v,u=>∃a xs x,v=.ref a/\(H a=some (.lst xs)\/SqT K H a xs)/\atI xs z=some x/\PVZ K H r x u
section
variable {K:Frag}{H:Hp}
theorem PVZ.snoc:∀{p:List Int} {z:Int} {v u:V},PVZ K H (p++[z]) v u->∃w,PVZ K H p v w/\PVZ K H [z] w u
 |[],z,v,u,h=>#[v,rfl,h]
 |m::p,z,v,u,⟨a,xs,x,e,q,ex,h⟩=>by
  obtain⟨w,h1,h2⟩:=PVZ.snoc (p:=p) h;exact#[w,#[a,xs,x,e,q,ex,h1],h2]
theorem vwy{xs:List V}{n:Nat}{z:Int}{x:V}(h:Q.ixN xs.length z=some n)(hx:xs[n]?=some x):atI xs z=some x:=by
 unfold atI;have e:L2.ixN xs.length z=some n:=by
  unfold Q.ixN at h;unfold L2.ixN;exact h
 rw[e];exact hx
set_option tactic.hygienic true in
theorem qq0:∀{zs:List Int} {p:List Nat} {d:D} {v u:V},zZ zs d=some p->PV K H p d v u->PVZ K H zs v u
 |[],p,d,v,u,h,hp=>by
  cases oq9 (show some []=some p from by rw[<-h];cases d<;>rfl);exact hp
 |z::r,p,.tup ds,v,u,h,hp=>by
  unfold zZ at h
  split at h
  rotate_left
  ·cases h
  rename_i n hn
  split at h
  rotate_left
  ·cases h
  rename_i d hd;obtain⟨p',qi,rfl⟩:=Option.map_eq_some_iff.mp h;obtain⟨a,xs,x,d2,e,q,ex,⟨ed,el⟩,hr⟩:=hp;rw[hd]at ed;cases oq9 ed;exact#[a,xs,x,e,.inr q,vwy (by rw[el];exact hn) ex,qq0 qi hr]
 |z::r,p,.lst ds,v,u,h,hp=>by
  unfold zZ at h
  split at h
  rotate_left
  ·cases h
  rename_i n hn
  split at h
  rotate_left
  ·cases h
  rename_i d hd;obtain⟨p',qi,rfl⟩:=Option.map_eq_some_iff.mp h;obtain⟨a,xs,x,d2,e,q,ex,⟨ed,el⟩,hr⟩:=hp;rw[hd]at ed;cases oq9 ed;exact#[a,xs,x,e,.inl q,vwy (by rw[el];exact hn) ex,qq0 qi hr]
 |z::r,p,.non,v,u,h,hp=>by cases h|z::r,p,.bl _,v,u,h,hp=>by cases h|z::r,p,.int _,v,u,h,hp=>by cases h|z::r,p,.str _,v,u,h,hp=>by cases h|z::r,p,.dct _,v,u,h,hp=>by cases h|z::r,p,.obj _ _,v,u,h,hp=>by cases h
end
noncomputable def Zs(σ:L2.St):List (Int ⊕ Nat)->List Int->Prop
 |[],zs=>zs=[]|.inl z::r,zs=>∃r',zs=z::r'/\Zs σ r r'|.inr m::r,zs=>∃z r',zs=z::r'/\σ[m]?=some (some (.int z))/\Zs σ r r'
theorem Zs.snocL{σ:L2.St}{z:Int}:∀{ps:List (Int ⊕ Nat)} {zs:List Int},Zs σ (ps++[.inl z]) zs->∃r,zs=r++[z]/\Zs σ ps r
 |[],zs,⟨r',e,h⟩=>#[[],by rw[e,show r'=[]from h];rfl,rfl]
 |.inl y::ps,zs,⟨r',e,h⟩=>by
  obtain⟨r,e2,h2⟩:=Zs.snocL (ps:=ps) h;exact#[y::r,by rw[e,e2];rfl,r,rfl,h2]
 |.inr m::ps,zs,⟨y,r',e,hm,h⟩=>by
  obtain⟨r,e2,h2⟩:=Zs.snocL (ps:=ps) h;exact#[y::r,by rw[e,e2];rfl,y,r,rfl,hm,h2]
theorem Zs.snocR{σ:L2.St}{m:Nat}:∀{ps:List (Int ⊕ Nat)} {zs:List Int},Zs σ (ps++[.inr m]) zs->∃z r,zs=r++[z]/\σ[m]?=some (some (.int z))/\Zs σ ps r
 |[],zs,⟨z,r',e,hm,h⟩=>#[z,[],by rw[e,show r'=[]from h];rfl,hm,rfl]
 |.inl y::ps,zs,⟨r',e,h⟩=>by
  obtain⟨z,r,e2,hm,h2⟩:=Zs.snocR (ps:=ps) h;exact#[z,y::r,by rw[e,e2];rfl,hm,r,rfl,h2]
 |.inr n::ps,zs,⟨y,r',e,hn,h⟩=>by
  obtain⟨z,r,e2,hm,h2⟩:=Zs.snocR (ps:=ps) h;exact#[z,y::r,by rw[e,e2];rfl,hm,y,r,rfl,hn,h2]
abbrev tPZ(K:Frag)(i:Nat)(ps:List (Int ⊕ Nat)):TE:=fun σ H Q=>∃zs v u,Zs σ ps zs/\σ[i]?=some (some v)/\PVZ K H zs v u/\Q u H
section
variable {X:Cx}{Z:Fx0}{pn:List Nat}{q:Bool}{c:Ex}{e ep e2:Expr}{i m:Nat}{ps:List (Int ⊕ Nat)}{pos:Pos}
theorem qxa(K:Frag)(h:PE X e (x9 i)):PE X e (tPZ K i []):=kz h fun σ H Q hz=>by
 obtain⟨zs,v,u,hz,hv,hu,q⟩:=hz;have hz:zs=[]:=hz;subst hz;have hu:u=v:=hu;subst hu;exact#[u,hv,q]
theorem Q1{K:Frag}{z:Int}{j:Nat}{bh:Pos}(h:PE X e (tPZ K i ps))(c8:jzm (.Constant (.int z) j bh))(hK:autoParam (X.K=K) Ŕ):PE X (.Subscript e (.Constant (.int z) j bh) pos) (tPZ K i (ps++[.inl z])):=
 kz (vqe (hK▸qqp) h qxn c8) fun σ H Q hz=>by
  obtain⟨zs,v,u,hz,hv,hu,q⟩:=hz;obtain⟨r,rfl,hr⟩:=hz.snocL;obtain⟨w,h1,a,xs,x,e1,sq,ex,hx⟩:=hu.snoc;have hx:u=x:=hx;subst hx;refine#[r,v,w,hr,hv,h1,?_];rcases sq with sq|sq
  ·exact .inl #[a,xs,z,u,e1,rfl,.inl (.inl sq),ex,q]
  ·exact .inr (.inl #[a,xs,z,u,e1,rfl,sq,ex,q])
theorem YY{K:Frag}(h:PE X e (tPZ K i ps))(h2:PE X e2 (x9 m))(c8:jzm e2)(hK:autoParam (X.K=K) Ŕ):PE X (.Subscript e e2 pos) (tPZ K i (ps++[.inr m])):=
 kz (vqe (hK▸qqp) h h2 c8) fun σ H Q hz=>by
  obtain⟨zs,v,u,hz,hv,hu,q⟩:=hz;obtain⟨z,r,rfl,hm,hr⟩:=hz.snocR;obtain⟨w,h1,a,xs,x,e1,sq,ex,hx⟩:=hu.snoc;have hx:u=x:=hx;subst hx;refine#[r,v,w,hr,hv,h1,.int z,hm,?_];rcases sq with sq|sq
  ·exact .inl #[a,xs,z,u,e1,rfl,.inl (.inl sq),ex,q]
  ·exact .inr (.inl #[a,xs,z,u,e1,rfl,sq,ex,q])
set_option tactic.hygienic true in
theorem vkb{E:En}{σ:L2.St}{L:Ls}{H:Hp}{K:Frag}(mt:Mt E σ L)(w:World K H L):∀{ps:List (Int ⊕ Nat)} {zs:List Int},Qk E ps=some zs->Zs σ ps zs
 |[],zs,h=>by cases oq9 h;rfl
 |.inl z::ps,zs,h=>by
  unfold Qk at h;obtain⟨r,hr,rfl⟩:=Option.map_eq_some_iff.mp h;exact#[r,rfl,vkb mt w hr]
 |.inr m::ps,zs,h=>by
  unfold Qk at h
  split at h
  rotate_left
  ·cases h
  rename_i o z hE;obtain⟨r,hr,rfl⟩:=Option.map_eq_some_iff.mp h;obtain⟨x,a1,a2,a3,a4⟩:=mt.get hE;have:=qwx (w.ok x (vQ a1)) a3;rw[this]at a4;exact#[z,r,rfl,a4,vkb mt w hr]
set_option tactic.hygienic true in
theorem wv5(hP:PE X ep (tPZ Z.K i ps))(hc:QE X Z q c e)(hK:autoParam (X.K=Z.K) Ŕ)(hm:MtR X "list.append" qj5){apos ak f7:Pos}
  (bc:autoParam (attributeBase ep "append" X.env (eval ep X.env)=eval ep X.env) Ŕ)
  (gf:autoParam (((backTo ak (starEach [e] X.env)).all (λx=>!x.1)&&(backToKw ak (keywordEach [] X.env)).all (λx=>x.1.isSome)
   && decide ([e].length+([]:List Keyword).length+(if([]:List Keyword).isEmpty then 0 else 1)<30))=true) Ŕ)
  (be:autoParam (Abe apos ak) Ŕ) (hs:autoParam (Abs e [] X) Ŕ) (bo:autoParam (Abb ak [] X) Ŕ)
  (lq:autoParam (swapsWith (.Call (.Attribute ep "append" apos) [e] [] ak) none f7.line X.env=pure false) Ŕ):
  QS X Z pn (wkf i ps c) (.Expr (.Call (.Attribute ep "append" apos) [e] [] ak) f7):=
 xW (kju (qxr Z.K Yn PySem.F.slot_list_append PySem.F.type_list_append hm hP (vJ hc wK hs) bc gf be hs bo hK) lq) λDe σ H ax=>ex7 ax λE L r m w bp k=>by
 unfold wkf at bp
 split at bp
 rotate_left
 ·cases bp
 rename_i o0 d0 zs hE0 js
 split at bp
 rotate_left
 ·cases bp
 rename_i p hzp;unfold sPA at bp
 split at bp
 rotate_left
 ·cases bp
 rename_i d hE;have hd:d0=d:=by rw[hE0]at hE;cases hE;rfl
 subst hd
 split at bp
 rotate_left
 ·cases bp
 rename_i ds dy
 split at bp
 rotate_left
 ·cases bp
 rename_i av;obtain⟨y,a1,a2,a3,a4⟩:=m.get hE;obtain⟨w0,s0⟩:=jxe w a1;obtain⟨y1,b1,b2,b3,b4,b5⟩:=w0.hole a2 (by rw[a3];exact dy);obtain⟨l,xs,bs,c1,c2,_,_,_⟩:=kqw (b4.ok y1 X4) b2 b1;refine#[zs,y.v,y1.v,vkb m w js,a4,qq0 (by rw[a3];exact hzp) b3,by rw[c1];exact qkm c2,?_];refine VJ (q:=q) (Q2 i m) w0.tail bp (k.step (s0.trans Step.drop) Pn.refl) λE1 s h1 x L1 H1 e1 e2 m1 w1 st _=>?_
 split at h1
 rotate_left
 ·cases h1
 rename_i hpu;cases oq9 h1;obtain⟨w2,s2⟩:=V5 (T:=[some y1]) b4 st w1;obtain⟨l',xs',f1,f2,f3,z,z1,z2,z3,z4,z5⟩:=World.app w2 b1 b2 (by rw[e2];exact hpu);obtain⟨y',g1,g2,g3,g4,g5⟩:=b5 _ _ z z4 (s2.trans z5) z1 z3;refine#[l',xs',x.v,f1,rfl,f2,by rw[f3];exact av,?_];have mm:=Jw (i:=i) (x:=y') (s:=(.dp,Q.D.put (.lst (ds++[s.2])) p d0)) m1 g1 (by rw[g2,z2,a3,e2]);rw[g3,zX a4]at mm;exact k σ _ _ Pn.refl mm g4.set (s0.trans (g5.trans Step.set))
end
section
variable {X:Cx}{Z:Fx0}{pn:List Nat}{ep:Expr}{i:Nat}{p:List Nat}{pos:Pos}
theorem kwa{E:En}{σ:L2.St}{L:Ls}{r:Nat}(hE:E[r]?=some none)(hL:L[r]?=some none)(u:Option V)(h:Mt E σ L):Mt E (σ.set r u) L:=by
 have:=xkb (u:=u) r h;rw[zX hE,zX hL]at this;exact this
set_option tactic.hygienic true in
theorem vza{r1 r2 r3:Nat}{tg es:Expr}(hp:PassesOwn (model X.prog X.w) X.A X.env X.xe)(hcm:X.calm=true)(hP:PE X ep (tP Z.K i p))(hg:PG X tg (wx8 Z.K 3 (gNs [r1,r2,r3])))(hS:PE X es (x9 r3))(hK:autoParam (X.K=Z.K) Ŕ)(hm:MtR X "list.clear" qx5){apos ak f7 fpos:Pos}
  (h1:autoParam (r1≠i) ŕ) (h2:autoParam (r2≠i) ŕ) (h3:autoParam (r3≠i) ŕ) (hpn1:autoParam (r1∉pn) ŕ) (hpn2:autoParam (r2∉pn) ŕ) (hpn3:autoParam (r3∉pn) ŕ)
  (bc:autoParam (attributeBase es "clear" X.env (eval es X.env)=eval es X.env) Ŕ) (be:autoParam (Abe apos ak) Ŕ)
  (lq:autoParam (swapsWith (.Call (.Attribute es "clear" apos) [] [] ak) none f7.line X.env=pure false) Ŕ) (vb:autoParam (∀x,foldedSetIterable ep X.env x=pure x) Ŗ):
  QS X Z pn (kxa i r1 r2 r3 p) (.For tg ep [.Expr (.Call (.Attribute es "clear" apos) [] [] ak) f7] [] fpos):=
 xW (vwi hp hcm (vzq hP) hg (qxe (kju (qje Z.K Yn PySem.F.slot_list_clear PySem.F.type_list_clear hm hS bc be hK) lq)) vb) λDe σ H ax=>ex7 ax λE L rr m w bp k=>by
 unfold kxa at bp
 split at bp
 rotate_left
 ·cases bp
 rename_i d hE
 split at bp
 rotate_left
 ·cases bp
 rename_i ds dy
 split at bp
 rotate_left
 ·cases bp
 rename_i hrE;obtain⟨q1,q2,q3⟩:=hrE
 split at bp
 rotate_left
 ·cases bp
 rename_i de hea;cases oq9 bp;obtain⟨y,a1,a2,a3,a4⟩:=m.get hE;obtain⟨w0,s0⟩:=jxe w a1;have m0:=Q2 r3 (Q2 r2 (Q2 r1 (Q2 i m)));obtain⟨wa,sa⟩:=World.out1 r1 w0.tail;obtain⟨wb,sb⟩:=World.out1 r2 wa;obtain⟨wc,sc⟩:=World.out1 r3 wb;obtain⟨w0,s0'⟩:=V5 (T:=[some y]) w0 ((sa.trans sb).trans sc) wc;have s0:=s0.trans s0';have ml:=m.len;have none_at:∀{α:Type} {l:List (Option α)} {a b c n:Nat},n<l.length->(n=a\/n=b\/n=c)->(((l.set a none).set b none).set c none)[n]?=some none:=fun {α l a b c n} hn h=>by
  by_cases e3:c=n
  ·rw[e3,Xy (by simpa using hn)]
  ·rw[Xr e3]
   by_cases e2:b=n
   ·rw[e2,Xy (by simpa using hn)]
   ·rw[Xr e2];have:n=a:=by rcases h with h|h|h;exact h;exact absurd h.symm e2;exact absurd h.symm e3
    rw[this,Xy (by rw[<-this];exact hn)]
 have e1:((((E.set i none).set r1 none).set r2 none).set r3 none)[r1]?=some none:=none_at (by simpa using q1) (.inl rfl);have e2:((((E.set i none).set r1 none).set r2 none).set r3 none)[r2]?=some none:=none_at (by simpa using q2) (.inr (.inl rfl));have e3:((((E.set i none).set r1 none).set r2 none).set r3 none)[r3]?=some none:=none_at (by simpa using q3) (.inr (.inr rfl));have f1:((((L.set i none).set r1 none).set r2 none).set r3 none)[r1]?=some none:=none_at (by simp;lia) (.inl rfl);have f2:((((L.set i none).set r1 none).set r2 none).set r3 none)[r2]?=some none:=none_at (by simp;lia) (.inr (.inl rfl));have f3:((((L.set i none).set r1 none).set r2 none).set r3 none)[r3]?=some none:=none_at (by simp;lia) (.inr (.inr rfl));generalize hL0:(((L.set i none).set r1 none).set r2 none).set r3 none=L0 at *;generalize hE0:(((E.set i none).set r1 none).set r2 none).set r3 none=E0 at *;obtain⟨y1,b1,b2,b3,b4,b5⟩:=World.hole w0 a2 (by rw[a3];exact dy);obtain⟨l,xs0,bs,c1,c2,_,_,c5⟩:=kqw (b4.ok y1 X4) b2 b1;refine#[y.d,y.v,y1.v,a4,b3,l,c1,#[xs0,.inl (.inl c2)],?_];refine#[λk0 n σ1 H1=>∃(z:Sl) (fw:List Q.D),k0<=ds.length/\n=ds.length - k0/\Mt E0 σ1 L0/\World Z.K H1 (some z::L0)/\z.o=.dp/\z.d=.lst fw/\z.v=y1.v/\Step H (some y1::L0) H1 (some z::L0)/\XV (ds.length - k0) k0 (.lst fw)=some de/\fw.length=ds.length/\σ1[i]?=some (some y.v)/\Pn pn σ σ1/\σ1.length=σ.length,
  #[_,y1,ds,Yg _,rfl,m0,b4,b1,b2,rfl,Step.refl,hea,rfl,a4,Pn.refl,rfl],?_]
 rintro k0 n σ1 H1 ⟨z,fw,hk,rfl,m1,w1,z1,z2,z3,i4,hea1,fj,mr,hpn,hσl⟩;obtain⟨l',xs,dr,d1,d2,_,_,d5⟩:=kqw (w1.ok z X4) z2 z1;have u6:l'=l:=by rw[z3,c1]at d1;exact(V.ref.inj d1).symm
 subst u6;have hxl:xs.length=ds.length:=by rw[<-d5.len,fj]
 by_cases cj:k0<ds.length
 ·refine .inr #[#[xs,xs[k0]'⋯,.inl (.inl d2),X1 _],fun σ2 H2=>∃m',m'<ds.length - k0/\_,fun σ' H' h=>h,λx H' hy=>?_];obtain⟨rfl,hyx⟩:=hy;have hx:xs[k0]?=some x:=hyx xs (.inl (.inl d2));obtain⟨n,hn⟩:∃n,ds.length - k0=n+1:=#[ds.length - k0 - 1,⋯];rw[hn]at hea1;unfold XV at hea1
  split at hea1
  rotate_left
  ·cases hea1
  rename_i da db es1 hat2;have hdk:fw[k0]?=some (.tup [da,db,.lst es1]):=by
   have:(match fw[k0]? with|some d=>Q.D.at [] d|none=>none)=some (.tup [da,db,.lst es1]):=hat2
   split at this
   ·rename_i d' pi;rw[pi];exact this
   ·cases this
  have hat3:Q.D.at [k0,2] (.lst fw)=some (.lst es1):=by
   show(match fw[k0]? with|some d=>Q.D.at [2] d|none=>none)=_;rw[hdk];rfl
  have br:Q.D.put (.lst []) [k0,2] (.lst fw)=.lst (fw.set k0 (.tup [da,db,.lst []])):=by
   show(match fw[k0]? with|some d=>Q.D.lst (fw.set k0 (Q.D.put (.lst []) [2] d))|none=>_)=_;rw[hdk];rfl
  obtain⟨y2,g1,g2,g3,g4,g5⟩:=w1.hole z1 (by rw[z2];exact hat3);rw[z2]at g3;obtain⟨la,xs2,x2,dx,t1,t2,t3,⟨t4,_⟩,t5⟩:=g3;have u1:la=l':=by rw[d1]at t1;exact(V.ref.inj t1).symm
  subst u1;have u2:xs2=xs:=by rw[d2]at t2;cases t2;rfl
  subst u2;have u3:x2=x:=by rw[hx]at t3;exact(oq9 t3).symm
  subst u3;rw[hdk]at t4;cases oq9 t4;obtain⟨b9,us,u,du,v1,v2,v3,⟨_,v4⟩,v5⟩:=t5;have v4:us.length=3:=v4;have v5:y2.v=u:=v5;obtain⟨ua,ub,uc,rfl⟩:∃a b c,us=[a,b,c]:=by
   match us,v4 with
   |[a,b,c],_=>exact#[a,b,c,rfl]
  have v3:uc=u:=oq9 v3;subst v3;obtain⟨l3,xs3,j1,j2,zn,n1,n2,n3,n4,n5⟩:=World.clr g4 g1 g2;obtain⟨z',o1,o2,o3,o4,o5⟩:=g5 _ _ zn n4 n5 n1 n3;have sg:((((σ1.set r1 (some ua)).set r2 (some ub)).set r3 (some uc)))[r3]?=some (some uc):=Xy (by simp;lia);refine#[b9,[ua,ub,uc],v1,.inl v2,rfl,?_];refine#[ua,_,rfl,ub,_,rfl,uc,_,rfl,rfl,?_];refine#[uc,sg,by rw[<-v5,j1];exact qkm j2,l3,xs3,by rw[<-v5];exact j1,rfl,j2,?_];refine#[ds.length - (k0+1),⋯,z',fw.set k0 (.tup [da,db,.lst []]),⋯,rfl,kwa e3 f3 _ (kwa e2 f2 _ (kwa e1 f1 _ m1)),o4,o1,by rw[o2,n2,z2];exact br,o3.trans z3,i4.trans o5,?_,by rw[Yj];exact fj,?_,((hpn.set hpn1).set hpn2).set hpn3,by simp;exact hσl]
  ·rw[show ds.length - (k0+1)=n by lia,<-br];exact hea1
  ·rw[Xr h3,Xr h2,Xr h1];exact mr
 ·have mq:k0=ds.length:=⋯
  refine .inl #[#[xs,.inl (.inl d2),⋯],?_];rw[mq,Nat.sub_self]at hea1;unfold XV at hea1;cases oq9 hea1;obtain⟨y',g1,g2,g3,g4,g5⟩:=b5 _ _ z w1 i4 z1 z3;have mm:=Jw (i:=i) (x:=y') (s:=(.dp,Q.D.put (.lst fw) p d)) m1 g1 (by rw[g2,z2,a3]);rw[g3,zX mr]at mm;exact k σ1 _ _ hpn mm g4.set (s0.trans (g5.trans Step.set))
end
theorem wjp{P:Program}{w:PySem.World}{K:Frag}{mg:Str->Option Value}{base:Heap}{CX:CXT}{k n:Nat}{f:Addr}{fd:FuncData}{ps:List Str}{F:Fn->Fn}:FnOk P w K mg base CX k f fd ps (spF K mg n (xz F 0)):=
 #[λvs H Q E hz=>by obtain⟨_,_,_,_,_,h,_⟩:=hz;exact(nomatch h),λA outer s H args us vs Q E _ _ _ _ hz=>by obtain⟨_,_,_,_,_,h,_⟩:=hz;exact(nomatch h)]
section
variable {X:Cx}{Z:Fx0}{K:Frag}{H:Hp}{q g:Bool}{a:Ex}{e:Expr}{p2 pos:Pos}{x:Str}{d:D}{ds:List D}{v:V}{vs:List V}
noncomputable def wzr(o:Obj)(xs:List V):Prop:=o.cls=.type "tuple"/\o.dict=none/\∃aj n,o.data=.seq aj n/\aj.size<=sizeLine/\Vals xs aj.toList
theorem qjl{b:Addr}{o:Obj}(h:K.lookup b=some o)(m:wzr o vs):SqT K H b vs:=by
 obtain⟨m1,m2,aj,n,m3,m4,m5⟩:=m;exact .inr #[o,aj,n,h,m1,m2,m3,m4,m5]
theorem vz2:RepA K H g [] [] []:=by unfold RepA;exact#[rfl,rfl]
theorem YK(h:RepL K H g d v [])(r:RepA K H g ds vs []):RepA K H g (d::ds) (v::vs) []:=by
 unfold RepA;exact#[v,vs,[],[],rfl,rfl,h,r]
theorem xjb{b:Addr}(h:SqT K H b vs)(r:RepA K H g ds vs []):RepL K H g (.tup ds) (.ref b) []:=by
 unfold RepL;exact#[b,vs,rfl,h,r]
noncomputable def xqb(K:Frag)(mg:Str->Option Value)(x:Str)(d:D):Prop:=∃v,Cst mg x v/\∀H,RepL K H false d v []
theorem xqv(c:xqb Z.K X.mg x d)(hg:autoParam (Gl X x) Ŕ)(hd:autoParam (Abd x) ŕ):QE X Z true (cC d) (.Name x pos):=by
 obtain⟨v,c,r⟩:=c;exact q_C (KZ c hg hd) r
end
end Q
namespace L3
open PySem PySem.Spec PyProof.Rows L2
theorem vzh{X:Cx}{pos:Pos}{ex:Expr}{t:XK->TE}(h:PEX X ex t):PSX X (.Return (some ex) pos) (λE=>xqd (t E)):=by
 intro E aa s σ H D I hw;exact wpAny_Return_some (thn (h E aa s σ H _ I hw) λv s1 #[x,H1,I1,r1,q1]=>#[x,σ,H1,I1,r1,q1])
end L3
namespace Q
open PySem PySem.Spec PyProof.Rows L2 L3
section
variable {K:Frag}{H:Hp}{L M:Ls}
theorem parts:∀{ds xs as},RepA K H false ds xs as->∃zs:List Sl,zs.map Sl.d=ds/\zs.map Sl.v=xs/\(∀z∈zs,z.o=.dp/\z.ok K H)/\j8 (zs.map some)=as/\jV (zs.map some)=[]
 |[],xs,as,h=>#[[],rfl,by rw[h.1];rfl,(λ_ h=>nomatch h),by rw[h.2];rfl,rfl]
 |d::ds,xs,as,h=>by
  obtain⟨x,r,bs,cs,rfl,rfl,h1,h2⟩:=h;obtain⟨zs,e1,e2,e3,e4,e5⟩:=parts h2;refine#[#[.dp,d,x,bs]::zs,by rw[List.map_cons,e1],by rw[List.map_cons,e2],λz hz=>?_,by rw[List.map_cons,jK,e4];rfl,by rw[List.map_cons,vk,e5];rfl];rcases aD hz with rfl|hz
  ·exact#[rfl,h1]
  ·exact e3 z hz
theorem World.fewer{zs zs0:List Sl}(w:World K H (zs.map some++L))(hok:∀z∈zs0,z.ok K H)(so:(j8 (zs0.map some)).Sublist (j8 (zs.map some)))(fz:jV (zs0.map some)=[]):World K H (zs0.map some++L)/\Step H (zs.map some++L) H (zs0.map some++L):=by
 have nd:=w.nd;rw[jZ]at nd;have so2:(j8 (zs0.map some)++j8 L).Sublist (j8 (zs.map some)++j8 L):=so.append (Y8 _);refine#[#[λx hx=>?_,by rw[jZ];exact so2.nodup nd,λa ha hf=>?_],#[λ_ _ h _=>h,λa ha=>.inl ?_,λa ha=>.inl ?_]]
 ·rcases aA hx with z|z
  ·obtain⟨t,ht,e⟩:=aE z;cases e;exact hok _ ht
  ·exact w.ok x (lr9 _ z)
 ·rw[jZ]at ha;rw[qx,fz]at hf;exact w.ds a (by rw[jZ];exact so2.subset ha) (by rw[qx];exact lr9 _ hf)
 ·rw[jZ]at ha ⊢;exact so2.subset ha
 ·rw[qx,fz]at ha;rw[qx];exact lr9 _ ha
end
end Q
namespace Q
noncomputable def sPO(i:Nat)(p:List Nat):Sm:=λE=>match E[i]? with
 |some (some (.dp,d))=>(match D.at p d with
  |some (.lst ds)=>if ds≠[]then some (.nx (E.set i (some (.dp,D.put (.lst ds.dropLast) p d))))else none
  |_=>none)
 |_=>none
noncomputable def wqm(i:Nat)(ps:List (Int ⊕ Nat)):Sm:=λE=>match E[i]?,Qk E ps with
 |some (some (_,d)),some zs=>(match zZ zs d with
  |some p=>sPO i p E
  |none=>none)
 |_,_=>none
noncomputable def vks(i j:Nat)(c:Ex):Sm:=λE=>ofE (c E) λE x=>match x.2 with
 |.tup [a,b]=>if x.1=.dp/\i<E.length/\j<E.length then some (.nx ((E.set i (some (.dp,a))).set j (some (.dp,b))))else none|_=>none
end Q
namespace Q
open PySem PySem.Spec PyProof.Rows L2 L3
theorem RepA.front{K H g}:∀{ds xs as},RepA K H g ds xs as->∃bs,RepA K H g ds.dropLast xs.dropLast bs/\bs.Sublist as:=by
 intro ds
 induction ds with
 | nil=>intro xs as h;obtain⟨rfl,rfl⟩:=h;exact#[[],#[rfl,rfl],Y8 _]
 | cons d ds ih=>
  intro xs as h;obtain⟨x,r,bs,cs,rfl,rfl,h1,h2⟩:=h;cases ds with
  |nil=>
   obtain⟨rfl,rfl⟩:=h2;exact#[[],#[rfl,rfl],List.nil_sublist _]
  |cons e ds=>
   obtain⟨es,g1,g2⟩:=ih h2;obtain⟨y,r',_,_,rfl,_⟩:=h2;exact#[bs++es,#[x,_,bs,es,rfl,rfl,h1,g1],List.Sublist.append (Y8 _) g2]
theorem World.popL{K H}{M:Ls}{y ds}(w:World K H (some y::M))(ho:y.o=.dp)(hd:y.d=.lst ds)(hn:ds≠[]):∃l xs v,y.v=.ref l/\H l=some (.lst xs)/\xs[xs.length - 1]?=some v /\
  ∃z,z.o=.dp/\z.d=.lst ds.dropLast/\z.v=y.v/\World K (upd H l (.lst xs.dropLast)) (some z::M)/\Step H (some y::M) (upd H l (.lst xs.dropLast)) (some z::M):=by
 obtain⟨l,xs,bs,c1,c2,c3,c4,c5⟩:=kqw (w.ok y X4) hd ho;have nd:=w.nd;rw[jK,X7,c4,List.nodup_cons]at nd;obtain⟨es,r1,r2⟩:=c5.front;have hl:xs.length - 1<xs.length:=by
  have:=c5.len;have:0<ds.length:=List.length_pos_iff.mpr hn;lia
 refine#[l,xs,xs[xs.length - 1],c1,c2,X1 hl,#[.dp,.lst _,y.v,l::es],rfl,rfl,rfl,World.write (T:=[]) w (c4▸X4) ?_ (List.nodup_cons.mpr #[λh=>nd.1.1 (r2.subset h),nd.1.2.sublist r2]) (λa ha=>.inl ?_) (λa ha=>nomatch ha) (λa ha z=>nomatch z)]
 ·exact#[l,_,es,c1,r1.kp (qzh c2 λh=>nd.1.1 (r2.subset h)),.inl #[vx,rfl]]
 ·rw[c4];rcases aD ha with rfl|ha
  ·exact X4
  ·exact lc9 _ (r2.subset ha)
section
variable {X:Cx}{Z:Fx0}{pn:List Nat}{ep:Expr}{i:Nat}{ps:List (Int ⊕ Nat)}
set_option tactic.hygienic true in
theorem xji(hP:PE X ep (tPZ Z.K i ps))(hK:autoParam (X.K=Z.K) Ŕ)(hm:MtR X "list.pop" xqk){apos ak f7}
  (bc:autoParam (attributeBase ep "pop" X.env (eval ep X.env)=eval ep X.env) Ŕ) (be:autoParam (Abe apos ak) Ŕ)
  (lq:autoParam (swapsWith (.Call (.Attribute ep "pop" apos) [] [] ak) none f7.line X.env=pure false) Ŕ):
  QS X Z pn (wqm i ps) (.Expr (.Call (.Attribute ep "pop" apos) [] [] ak) f7):=
 xW (kju (qje Z.K Yn PySem.F.slot_list_pop PySem.F.type_list_pop hm hP bc be hK) lq) λDe σ H ax=>ex7 ax λE L r m w bp k=>by
 unfold wqm at bp
 split at bp
 rotate_left
 ·cases bp
 rename_i o0 d0 zs hE0 js
 split at bp
 rotate_left
 ·cases bp
 rename_i p hzp;unfold sPO at bp
 split at bp
 rotate_left
 ·cases bp
 rename_i d hE;have hd:d0=d:=by rw[hE0]at hE;cases hE;rfl
 subst hd
 split at bp
 rotate_left
 ·cases bp
 rename_i ds dy
 split at bp
 rotate_left
 ·cases bp
 rename_i cp;cases oq9 bp;obtain⟨y,a1,a2,a3,a4⟩:=m.get hE;obtain⟨w0,s0⟩:=jxe w a1;obtain⟨y1,b1,b2,b3,b4,b5⟩:=w0.hole a2 (a3▸dy);obtain⟨l,xs,v,c1,c2,c3,z,z1,z2,z3,z4,z5⟩:=World.popL b4 b1 b2 cp;refine#[zs,y.v,y1.v,vkb m w js,a4,qq0 (a3▸hzp) b3,by rw[c1];exact qkm c2,?_];obtain⟨y',g1,g2,g3,g4,g5⟩:=b5 _ _ z z4 z5 z1 z3;refine#[l,xs,v,c1,rfl,c2,c3,?_];have mm:=Jw (i:=i) (s:=(.dp,Q.D.put _ p d0)) (Q2 i m) g1 (by rw[g2,z2,a3]);rw[g3,zX a4,List.set_set]at mm;exact k σ _ _ Pn.refl mm g4.set (s0.trans (g5.trans Step.set))
theorem wv2{q b e pos ux n np mz gc UC b0 suite cs h}(hN:X.N.Nodup)(hi:X.N[i]?=some n)(hk:X.env.scope.names.lookup n=some .local)(top:Jj X)(hU:X.mg ux=some (.ref UC))(hK:X.K=Z.K)(ca:kzw X.K Z.mg UC cs)(hb:QEX X Z q b e)
  (hs:∀x,QSs (tX X x) #[Z.K,Z.mg,λ_ _ _=>False] pn h (b0::suite)) (hp:autoParam (i∉pn) ŕ) (hg:autoParam (Gl X ux) Ŕ) (ff:autoParam (Abd ux) ŕ):
  QS X Z pn (V8 cs i (jw b) h) (.Try [.Return (some e) pos] [.ExceptHandler (some (.Name ux np)) (some n) (b0::suite) mz] [] [] gc):=
 xW (vzj hN hi hk top hU (vzh hb) hs hg ff) λD σ H hr=>vkk hK ca hp (λEX E L r m w hB hx hk=>by
  rcases jw6 hB with⟨E1,s,h1,h2⟩|⟨E1,c,h1,rfl⟩
  ·cases oq9 h2;refine#[E,L,_,m,w,h1,(λ_ _ z=>by cases z),λE' s' z x L' H' e1 e2 m' w' st sm=>?_];injection z with z1 z2;subst z1 z2;exact hk (λ_ _ z=>nomatch z) x σ L' H' e1 e2 Pn.refl m' w' st
  ·exact#[E,L,_,m,w,h1,(λE' c' e C L' H' hm m' w' st=>by injection e with z1 z2;subst z1 z2;exact hx _ _ rfl C L' H' hm m' w' st),λE' s' z=>by cases z]) hr
theorem wq2{zs:List Sl}{a b:D}(h:zs.map Sl.d=[a,b]):∃z1 z2,zs=[z1,z2]:=by
 rcases zs with _|⟨z1,_|⟨z2,_|⟨z3,r⟩⟩⟩<;>first|(simp at h;done)|exact#[_,_,rfl]
set_option tactic.hygienic true in
theorem wv1{j q c ea tg pos}(h:QE X Z q c ea)(hg:PG X tg (wx8 Z.K 2 (gNs [i,j])))(hi:autoParam (i∉pn) ŕ)(hj:autoParam (j∉pn) ŕ)(hs:autoParam (swapsWithSole [tg] ea pos.line X.env=pure false) Ŕ)(hw:autoParam (swappedStores [tg] ea X.env=pure none) Ŕ)(h1:autoParam ((assignEach [tg] X.env).map (·.2)=[assign tg X.env]) Ŕ):
  QS X Z pn (vks i j c) (.Assign [tg] ea pos):=xW (qxh h hg hs hw h1) λD σ H ax=>ex7 ax λE L r m w hc k=>
 VJ m w (show ofE (c E) _=some r from hc) k λE1 s h1 x L1 H1 e1 e2 m1 w1 st _=>by
  split at h1
  rotate_left
  ·cases h1
  rename_i a b ls
  split at h1
  rotate_left
  ·cases h1
  rename_i hdp;cases oq9 h1;have ok:=w1.ok x X4;unfold Sl.ok at ok;rw[e1,e2,hdp.1,ls]at ok;obtain⟨t,xs,ev,sq,ra⟩:RepL Z.K H1 false (.tup [a,b]) x.v x.as:=ok;obtain⟨zs,p1,p2,p3,p4,p5⟩:=Q.parts ra;obtain⟨z1,z2,rfl⟩:=wq2 p1;have d1:z1.d=a:=by have:=congrArg (·[0]?) p1;simpa using this
  have d2:z2.d=b:=by have:=congrArg (·[1]?) p1;simpa using this
  have hx:j8 [some x]=x.as:=by
   rw[jK,show j8 ([]:Ls)=[]from rfl,Xn];unfold Sl.own;rw[e1,hdp.1]
  obtain⟨w2,s2⟩:=World.fewer (zs:=[x]) (zs0:=[z1,z2]) (L:=L1) w1 (λz hz=>(p3 z hz).2) (by rw[p4];show x.as.Sublist (j8 [some x]);rw[hx];exact Y8 _) p5;have s3:Step H1 (some z1::some z2::L1) H1 (some z2::L1.set i (some z1)):=Step.set (i:=i+1);refine#[t,xs,ev,.inl sq,by rw[<-p2];rfl,?_];rw[<-p2];exact#[z1.v,_,rfl,z2.v,_,rfl,rfl,(k _ _ H1 ((Pn.refl.set hi).set hj) (Jw (i:=j) (x:=z2) (s:=(.dp,b)) (Jw (i:=i) (x:=z1) (s:=(.dp,a)) m1 (p3 z1 (by simp)).1 d1) (p3 z2 (by simp)).1 d2) (World.set (i:=i+1) w2).set ((st.trans s2).trans (s3.trans Step.set)))]
end
noncomputable def OkF(P:Program)(w:PySem.World)(K:Frag)(mg:Str->Option Value)(base:Heap)(k:Nat)(x:Str)(st:Stmt)(ps:List Str)(n:Nat)(m:Fn):Prop:=∀(f:Addr) (fd:FuncData),Fun K x x st f fd->FnOk P w K mg base (CXE P w) k f fd ps (spF K mg n m)
section
variable {P:Program}{w:PySem.World}{K:Frag}{mg:Str->Option Value}{base h:Heap}{k n nn:Nat}{x:Str}{st:Stmt}{ps N:List Str}{B:Sm}
theorem okF(S:FnScope N ps (jY st))(t:∀{f dq A outer s H E},Room k (A.deeper (envOfC x (jY st) s.heap.objs.size f dq))->QSs (Cx.ex' (K4 (CXE P w) P w K mg base N x (jY st) f dq A outer s H E) E) #[K,mg,E] [] B (KJ st))(hp:autoParam (ps.length=n) Ŕ)(hN:autoParam (N.length=nn) Ŕ):OkF P w K mg base (k+1) x st ps n (fn nn B):=
 λ_ _ F=>jzn F S (kzz hp) λ_ _ _ _ _ _ _ _ hr h=>vj3 hN (t hr) h
end
section
variable {X:Cx}{Z:Fx0}{pn:List Nat}{q qa:Bool}{a b:Ex}{ea eb:Expr}{pos p:Pos}{m:Nat}
theorem zx{v:Bool}{j}:QE X Z true (cC (.bl v)) (.Constant (.bool v) j p):=q_C xjz λ_=>vw9
theorem K3:QE X Z true (kq .rt []) (.List [] p):=v7 j9
theorem jz(h:QE X Z q a ea):QSs X Z pn (jw a) [.Return (some ea) pos]:=kW (xjh h)
theorem wwi{z j p'}:QE X Z true (cF1 (pu1 KQ) (vE (cC (.int z)))) (.UnaryOp .USub (.Constant (.int z) j p') p):=q_un wq1 wxw ki
theorem zJ(ha:QV X Z qa a ea)(hb:QV X Z true b eb):QE X Z qa (cF2 (pu2 xk) a b) (.BinOp ea .FloorDiv eb pos):=YX vqo wz4 ha hb
theorem xj(hr:Room m X.A)(ha:QV X Z qa a ea)(hb:QV X Z true b eb)(hK:autoParam (X.K=Z.K) Ŕ):QT X Z qa (tE (cF2 (pu2 fEq) a b)) (.Compare ea [.Eq] [eb] pos):=wV (ww9 hr.units hK) wz3 ha hb (xJ _) xq3
theorem Z8(hr:Room m X.A)(ha:QV X Z qa a ea)(hb:QV X Z true b eb)(hK:autoParam (X.K=Z.K) Ŕ):QT X Z qa (tE (cF2 (pu2 fNe) a b)) (.Compare ea [.NotEq] [eb] pos):=wV (qxx hr.units hK) vk5 ha hb (xJ _) xq2
theorem Jv(hr:Room m X.A)(ha:QV X Z qa a ea)(hb:QV X Z true b eb)(hK:autoParam (X.K=Z.K) Ŕ):QE X Z qa (cF2 (pu2 fEq) a b) (.Compare ea [.Eq] [eb] pos):=V9 (ww9 hr.units hK) wz3 ha hb (xJ _)
theorem K5(ha:QV X Z qa a ea)(hb:QV X Z true b eb):QT X Z qa (tE (cF2 (f2First fIsNon) a b)) (.Compare ea [.Is] [eb] pos):=wV vws vxd ha hb (xJ _) wxt
theorem tNoN(ha:QV X Z qa a ea)(hb:QV X Z true b eb):QT X Z qa (tE (cF2 (f2First fNotNon) a b)) (.Compare ea [.IsNot] [eb] pos):=wV wj3 wka ha hb (xJ _) wk9
theorem wzy(ha:QV X Z qa a ea)(hb:QV X Z true b eb):QT X Z qa (tE (cF2 (pu2 fGt) a b)) (.Compare ea [.Gt] [eb] pos):=wV xk4 qvw ha hb (xJ _) vk0
theorem wzx(ha:QV X Z qa a ea)(hb:QV X Z true b eb):QT X Z qa (tE (cF2 (pu2 fLt) a b)) (.Compare ea [.Lt] [eb] pos):=wV xk3 qvw ha hb (xJ _) vk0
theorem xv4(ha:QV X Z qa a ea)(hb:QV X Z true b eb):QE X Z qa (cF2 (pu2 fLe) a b) (.Compare ea [.LtE] [eb] pos):=V9 wj4 qvw ha hb (xJ _)
theorem kK{u A ss}(h:QT X Z q u ea)(t:QSs X Z pn A ss):QS X Z pn (sIf u A k9) (.If ea ss [] pos):=xjp h t xjk
end
end Q
namespace Q
open PySem
theorem wwk n (h:300<=n):10 ^ 70<2 ^ n:=Xf (show 10 ^ 70<2 ^ 240 by decide) (Nat.pow_le_pow_right ⋯ ⋯)
theorem mul_l{o1 o2 a b}(h1:-18446744073709551616<a)(h2:a<18446744073709551616):wxe (o1,.int a) (o2,.int b)=some (.dp,.int (a*b)):=by
 have:ZZ a b=true:=by
  have:qwp a=true:=by unfold qwp;rw[Xh (show -_<a by lia),Xh (show a<2 ^ 64 by lia)];rfl
  unfold ZZ;rw[this];rfl
 show(if ZZ a b=true then _ else _)=_;rw[Xb this]
theorem add_i{o1 o2:Own}{a b:Int}:k4 (o1,.int a) (o2,.int b)=some (.dp,.int (a+b)):=rfl
theorem sub_i{a b:Int}:wzk (.int a) (.int b)=some (.int (a - b)):=rfl
theorem div_i{a b}(h:0<b)(h2:b<10 ^ 70):xk (.int a) (.int b)=some (.int (a / b)):=by
 have hb:b.natAbs.log2<9000:=by
  exact(Nat.log2_lt ⋯).mpr (Nat.lt_trans (show b.natAbs<10 ^ 70 by lia) (wwk 9000 (by simp)))
 show(if 0<b/\b.natAbs.log2<9000 then some _ else none).map _=_;rw[Xb #[h,hb]];rfl
theorem mod_i{a b}(h:0<b):qv (.int a) (.int b)=some (.int (a % b)):=by
 show(if 0<b then some _ else none).map _=_;rw[Xb h];rfl
theorem XJ{a b}:fEq (.int a) (.int b)=some (.bl (a==b)):=rfl
theorem lt_ii{a b}:fLt (.int a) (.int b)=some (.bl (decide (a<b))):=rfl
theorem gt_ii{a b:Int}:fGt (.int a) (.int b)=some (.bl (decide (b<a))):=rfl
theorem le_ii{a b}:fLe (.int a) (.int b)=some (.bl (decide (a<=b))):=rfl
theorem ge_ii{a b:Int}:fGe (.int a) (.int b)=some (.bl (decide (b<=a))):=rfl
theorem wZ{xs i d}(h0:0<=i)(h:xs[i.toNat]?=some d):jJ (.lst xs) (.int i)=some d:=by
 show((ixN xs.length i).bind λj=>xs[j]?)=some d;have hl:=(List.getElem?_eq_some_iff.mp h).1;unfold ixN
 rwa [Xb h0,Xb ⋯]
theorem ix_t{xs i d}(h0:0<=i)(h:xs[i.toNat]?=some d):jJ (.tup xs) (.int i)=some d:=by
 show((ixN xs.length i).bind λj=>xs[j]?)=some d;have hl:=(List.getElem?_eq_some_iff.mp h).1;unfold ixN
 rwa [Xb h0,Xb ⋯]
theorem len_l{xs:List D}:qw (.lst xs)=some (.int xs.length):=rfl
theorem len_t{xs:List D}:qw (.tup xs)=some (.int xs.length):=rfl
theorem vk3{o1 o2 a b}(h1:o1≠.dp)(h2:o2≠.dp)(hl:a.length+b.length<10000):k4 (o1,.lst a) (o2,.lst b)=some (.rt,.lst (a++b)):=by
 show(if a.length+b.length<=big/\qQ _/\qQ _ then _ else _)=_;rw[Xb #[by unfold big;lia,by cases o1<;>simp_all [qQ],by cases o2<;>simp_all [qQ]]]
theorem tup_l{o xs}(h:o≠.dp):xV (o,.lst xs)=some (.no,.tup xs):=by
 show(if qQ _ then _ else _)=_;rw[Xb (by cases o<;>simp_all [qQ])]
abbrev XP:=Str->Prop
theorem nd{α}{a b:α}(h:a=b):a=b:=h
@[irreducible] noncomputable def Eo {α:Type} (m:Option (Res α)) (P:En->α->Prop) (X:XP):Prop:=match m with
 |some (.ok E a)=>P E a|some (.exc _ c)=>X c|none=>False
@[irreducible] noncomputable def Vo {α:Type} (m:Option α) (P:α->Prop):Prop:=match m with
 |some a=>P a|none=>False
@[irreducible] noncomputable def Oo (f:Fn) (xs:List Sd) (P:Sd->Prop) (X:XP):Prop:=match f xs with
 |some (.ok _ y)=>P y|some (.exc _ c)=>X c|none=>False
@[irreducible] noncomputable def Po (r:Option Fl) (N C:En->Prop) (R:Sd->Prop) (X:XP):Prop:=match r with
 |some (.nx E)=>N E|some (.ct E)=>C E|some (.rt _ x)=>R x|some (.xc _ c)=>X c|_=>False
abbrev noX:XP:=λ_=>False
section
variable {α β:Type}{P:En->α->Prop}{X:XP}{N C:En->Prop}{R:Sd->Prop}{E:En}
theorem JJ{a}:Eo (some (.ok E a)) P X=P E a:=nd (by ac_rfl)
theorem vjb{c:Str}:Eo (some (.exc E c):Option _) P X=X c:=nd (by ac_rfl)
theorem qk4:Eo none P X=False:=nd (by ac_rfl)
theorem jX{m}{f:En->β->Option _}:Eo (bnd m f) P X=Eo m (λE a=>Eo (f E a) P X) X:=by
 cases m with|none=>ac_rfl|some r=>cases r<;>ac_rfl
theorem vo_some{a}{P:α->Prop}:Vo (some a) P=P a:=nd (by ac_rfl)
theorem vo_map{x}{f:β->α}{P}:Vo (x.map f) P=Vo x (λa=>P (f a)):=by cases x<;>ac_rfl
theorem zq{x}:Eo (val E x) P X=Vo x (P E):=by cases x<;>ac_rfl
theorem WW{E}:Po (some (.nx E)) N C R X=N E:=nd (by ac_rfl)
theorem xjv{E:En}{x:Sd}:Po (some (.rt E x)) N C R X=R x:=nd (by ac_rfl)
theorem KW{m}{f:En->α->Option Fl}:Po (ofE m f) N C R X=Eo m (λE a=>Po (f E a) N C R X) X:=by
 cases m with|none=>ac_rfl|some r=>cases r<;>ac_rfl
theorem vwk{a b}:Po (j6 a b E) N C R X=Po (a E) (λE=>Po (b E) N C R X) C R X:=by
 unfold j6 Po;cases a E with|none=>ac_rfl|some r=>cases r<;>ac_rfl
theorem wvp{x:Option β}{f:β->Fl}:Po (x.map f) N C R X=Vo x (λa=>Po (some (f a)) N C R X):=by cases x<;>ac_rfl
theorem Eo.mono{m P'}(h:Eo m P X)(k:∀E a,P E a->P' E a):Eo m P' X:=by
 cases m with
 |none=>exists h
 |some r=>cases r with|ok E a=>exists k E a h|exc E c=>exists h
theorem Oo.mono{f xs P P'}(h:Oo f xs P X)(k:∀y,P y->P' y):Oo f xs P' X:=by
 unfold Oo at h ⊢;cases hf:f xs with
 |none=>simp_all
 |some r=>rw[hf]at h;cases r with|ok E a=>exists k a h|exc E c=>simp_all
theorem Oo.out{f xs P}(h:Oo f xs P noX):∃E y,f xs=some (.ok E y)/\P y:=by
 unfold Oo at h;cases hf:f xs with
 |none=>simp_all
 |some r=>rw[hf]at h;cases r with|ok E a=>with_unfolding_all exact#[E,a,rfl,h]|exc E c=>exists (h).elim
theorem kJ{n b xs P}(h:Po (b (xs.map some++List.replicate (n - xs.length) none)) (λ_=>P (.dp,.non)) (λ_=>False) P X):Oo (fn n b) xs P X:=by
 unfold Oo fn;unfold Po at h;cases hb:b _ with|none=>simp_all|some r=>rw[hb]at h;cases r<;>exists h
theorem wju{f cs P}:Eo (jx f cs E) P X=Eo (v8 cs E) (λE xs=>Oo f (letAll xs) (P E) X) X:=by
 unfold jx;rw[jX]
 congr 1
 funext E xs;unfold Oo;cases f _ with|none=>ac_rfl|some r=>cases r<;>ac_rfl
theorem vv8{f:Fn}{cs:List Ex}{P:En->Sd->Prop}:Eo (Vv f cs E) P X=Eo (v8 cs E) (λE xs=>Oo f (letAll xs) (λy=>y.2.pure=true/\P E (.dp,y.2)) X) X:=by
 unfold Vv;rw[jX]
 congr 1
 funext E xs;unfold Oo;cases f _ with
 | none=>ac_rfl
 | some r=>
  cases r with
  |exc=>ac_rfl
  |ok E1 y=>
   dsimp only
   by_cases hp:y.2.pure=true
   ·rw[Xb hp];with_unfolding_all exact propext #[λh=>#[hp,h],λh=>h.2]
   ·rw[Xe hp];with_unfolding_all exact propext #[λh=>(h).elim,λh=>hp h.1]
noncomputable def wzp(d:D){α:Type}(a b:Option α):Option α:=match d with
 |.bl k=>if k=true then a else b|_=>none
theorem wk5(a b:Ex):Jk a b E=bnd (a E) λE x=>wzp x.2 (b E) (some (.ok E (.dp,.bl false))):=by
 unfold Jk wzp
 congr 1
 funext E x;cases x.2 with|bl k=>cases k<;>ac_rfl|_=>ac_rfl
theorem wxp(a b:Ex):cOr a b E=bnd (a E) λE x=>wzp x.2 (some (.ok E (.dp,.bl true))) (b E):=by
 unfold cOr wzp
 congr 1
 funext E x;cases x.2 with|bl k=>cases k<;>ac_rfl|_=>ac_rfl
theorem qjc{tg b}(I:En->List D->Prop)(hs:∀E d ds,I E (d::ds)->Vo (tg.put d E) λE1=>Po (b E1) (λE2=>I E2 ds) (λE2=>I E2 ds) R X)(h1:∀E,I E []->N E):∀ds E,I E ds->Po (Q7 tg b ds E) N C R X
 | [],E,h=>by exists h1 E h
 | d::ds,E,h=>by
  have h2:=hs E d ds h;unfold Q7;cases hp:tg.put d E with
  | none=>rw[hp]at h2;exists (h2).elim
  | some E1=>
   rw[hp]at h2;have h2:Po (b E1) (λE2=>I E2 ds) (λE2=>I E2 ds) R X:=by exists h2
   dsimp only;cases hb:b E1 with
   |none=>rw[hb]at h2;exists (h2).elim
   |some r=>
    rw[hb]at h2;cases r with|nx E2=>exists qjc I hs h1 ds E2 h2|ct E2=>exists qjc I hs h1 ds E2 h2|rt E2 x=>exists h2|xc E2 c=>exists h2|bk E2=>exists (h2).elim
theorem wX{it tg}{b} I (h0:Eo (it E) I X)(hs:∀E d ds,I E (d::ds)->Vo (tg.put d E) λE1=>Po (b E1) (λE2=>I E2 ds) (λE2=>I E2 ds) R X)(h1:∀E,I E []->N E):Po (vw it tg b E) N C R X:=by
 show Po (ofE _ λE ds=>Q7 tg b ds E) N C R X;rw[KW]
 exists h0.mono λE ds h=>qjc I hs h1 ds E h
theorem vkd{t b E}:sWhile t b E=(match t E with
 |some (.ok E true)=>(match b E with
  |some (.nx E)=>sWhile t b E|some (.ct E)=>sWhile t b E|some (.bk E)=>some (.nx E)
  |r=>r)
 |some (.ok E false)=>some (.nx E)|some (.exc E c)=>some (.xc E c)
 |none=>none):=by exists congrFun (Lean.Order.fix_eq _) E
theorem qq4{t:Ts}{b:Sm}(I:Nat->En->Prop)(hs:∀n E,I n E->Eo (t E) (λE1 k=>if k=true then Po (b E1) (λE2=>∃m,m<n/\I m E2) (λE2=>∃m,m<n/\I m E2) R X else N E1) X):∀n E,I n E->Po (sWhile t b E) N C R X:=by
 intro n
 induction n using Nat.strongRecOn with
 | _ n ih=>
  intro E h;have h2:=hs n E h;rw [vkd];cases ht:t E with
  | none=>rw[ht]at h2;exists (h2).elim
  | some r=>
   rw [ht]at h2;cases r with
   | exc E1 c=>exists h2
   | ok E1 k=>
    cases k with
    | false=>exists h2
    | true=>
     have h2:Po (b E1) (λE2=>∃m,m<n/\I m E2) (λE2=>∃m,m<n/\I m E2) R X:=by exists h2
     dsimp only;cases hb:b E1 with
     |none=>rw[hb]at h2;exists (h2).elim
     |some r=>
      rw[hb]at h2;cases r with|nx E2=>exact(show ∃m,m<n/\I m E2 by exists h2).elim λm hh=>ih m hh.1 E2 hh.2|ct E2=>exact(show ∃m,m<n/\I m E2 by exists h2).elim λm hh=>ih m hh.1 E2 hh.2|rt E2 x=>exists h2|xc E2 c=>exists h2|bk E2=>exists (h2).elim
theorem vja{tg t c P}(J:En->List D->List Sd->Prop)(hs:∀B d ds aq,J B (d::ds) aq->Vo (tg.put d B) λB1=>Eo (t B1) (λB2 k=>if k=true then Eo (c B2) (λB3 y=>J B3 ds (aq++[y])) X else J B2 ds aq) X)(h1:∀B aq,J B [] aq->P B aq):∀ds B aq,J B ds aq->Eo (lcL tg t c ds B aq) P X
 | [],B,aq,h=>by exists h1 B aq h
 | d::ds,B,aq,h=>by
  have h2:=hs B d ds aq h;unfold lcL;cases hp:tg.put d B with
  | none=>rw[hp]at h2;exists (h2).elim
  | some B1=>
   rw[hp]at h2;have h2:Eo (t B1) (λB2 k=>if k=true then Eo (c B2) (λB3 y=>J B3 ds (aq++[y])) X else J B2 ds aq) X:=by exists h2
   rw[jX];refine h2.mono λB2 k h3=>?_
   cases k with
   |false=>exists vja J hs h1 ds B2 aq h3
   |true=>
    show Eo (bnd _ _) P X;rw[jX]
    exists Eo.mono h3 λB3 y h4=>vja J hs h1 ds B3 _ h4
theorem QX{o k r it tg t c P}(J:En->En->List D->List Sd->Prop)(h0:Eo (it E) (λE1 ds=>J E1 (wkk k r E1) ds []) X)
  (hs:∀E1 B d ds aq,J E1 B (d::ds) aq->Vo (tg.put d B) λB1=>Eo (t B1) (λB2 k=>if k=true then Eo (c B2) (λB3 y=>J E1 B3 ds (aq++[y])) X else J E1 B2 ds aq) X) (h1:∀E1 B aq,J E1 B [] aq->Eo (mkL o (JV k r B E1) aq) P X):Eo (cLC o k r it tg t c E) P X:=by
 unfold cLC;rw[jX];refine h0.mono λE1 ds hJ=>?_
 have:=vja _ (hs E1) (h1 E1) ds _ _ hJ;cases hl:lcL tg t c ds _ []with|none=>rw[hl]at this;exists (this).elim|some q=>rw[hl]at this;cases q<;>exists this
end
theorem mulT_i{o1 a y}:K8 (o1,.int a) y=wxe (o1,.int a) y:=by
 unfold K8;ac_rfl
noncomputable def sl(q:Option (Option Sd)):Option Sd:=match q with
 |some (some x)=>some x|_=>none
theorem sl_some{x}:sl (some (some x))=some x:=nd (by ac_rfl)
noncomputable def xq5(d:D)(a b:Prop):Prop:=match d with
 |.bl k=>if k=true then a else b|_=>False
theorem andP_bl{k a b}:xq5 (.bl k) a b=if k=true then a else b:=nd (by ac_rfl)
noncomputable def Wo{α:Type}(m:Option α)(E:En)(P:En->α->Prop):Prop:=Vo m (P E)
theorem wo_some{α a E}{P:En->α->Prop}:Wo (some a) E P=P E a:=vo_some
theorem wo_map{α β x}{f:β->α}{E P}:Wo (x.map f) E P=Wo x E (λE a=>P E (f a)):=vo_map
noncomputable def Oe(f:Fn)(xs:List Sd)(E:En)(P:En->Sd->Prop)(X:XP):Prop:=Oo f xs (P E) X
noncomputable def intP(d:D)(P:Int->Prop):Prop:=match d with
 |.int i=>P i|_=>False
def Ie(d:D)(E:En)(P:En->Int->Prop):Prop:=intP d (P E)
theorem ie_i{i E P}:Ie (.int i) E P=P E i:=nd (by ac_rfl)
section
variable {P:En->Sd->Prop}{T:En->Bool->Prop}{X:XP}{N C:En->Prop}{R:Sd->Prop}{E:En}{e:Option Sd}{a b c:Ex}{t u:Ts}{i:Nat}
theorem w_seq{a b}:Po (j6 a b (e::E)) N C R X=Po (a (e::E)) (λE=>Po (b E) N C R X) C R X:=vwk
theorem w_asg:Po (jq i c (e::E)) N C R X=Eo (c (e::E)) (λE x=>N (E.set i (some x))) X:=by unfold jq;rw[KW];ac_rfl
theorem w_ret:Po (jw c (e::E)) N C R X=Eo (c (e::E)) (λ_ x=>R x) X:=by unfold jw;rw[KW];ac_rfl
theorem w_pass:Po (k9 (e::E)) N C R X=N (e::E):=nd (by ac_rfl)
theorem w_if{a b}:Po (sIf t a b (e::E)) N C R X=Eo (t (e::E)) (λE k=>if k=true then Po (a E) N C R X else Po (b E) N C R X) X:=by
 unfold sIf;rw[KW];congr 1;funext E k;cases k<;>ac_rfl
theorem w_tup{is:List Nat}:Po (Wj is c (e::E)) N C R X=Eo (c (e::E)) (λE x=>Vo (Tg.put (.t is) x.2 E) N) X:=by
 unfold Wj;rw[KW];congr 1;funext E x;rw[wvp];ac_rfl
theorem w_vV:Eo (vV i (e::E)) P X=Wo (sl (e::E)[i]?) (e::E) P:=by
 unfold vV Wo;cases(e::E)[i]? with|none=>ac_rfl|some q=>cases q<;>ac_rfl
theorem w_cV:Eo (cV i (e::E)) P X=Wo (sl (e::E)[i]?) (e::E) (λE x=>P (E.set i (some (.no,x.2))) (.no,x.2)):=by
 unfold cV Wo;cases(e::E)[i]? with|none=>ac_rfl|some q=>cases q<;>ac_rfl
theorem w_cMv:Eo (cMv i (e::E)) P X=Wo (sl (e::E)[i]?) (e::E) (λE x=>P (E.set i none) x):=by
 unfold cMv Wo;cases(e::E)[i]? with|none=>ac_rfl|some q=>cases q<;>ac_rfl
theorem w_cC{d}:Eo (cC d (e::E)) P X=P (e::E) (.dp,d):=nd (by ac_rfl)
theorem w_vE:Eo (vE c (e::E)) P X=Eo (c (e::E)) (λE x=>P E (.no,x.2)) X:=by unfold vE;rw[jX];ac_rfl
theorem w_cH:Eo (cH c (e::E)) P X=Eo (c (e::E)) (λE x=>if x.1=.no then P E (.no,x.2)else if x.2.pure=true then P E (.dp,x.2)else False) X:=by
 unfold cH;rw[jX]
 congr 1
 funext E x
 by_cases h:x.1=.no
 ·rw[Xb h,Xb h];ac_rfl
 ·rw[Xe h,Xe h]
  by_cases h2:x.2.pure=true
  ·rw[Xb h2,Xb h2];ac_rfl
  ·rw[Xe h2,Xe h2];ac_rfl
theorem w_f1{f}:Eo (cF1 f a (e::E)) P X=Eo (a (e::E)) (λE x=>Wo (f x) E P) X:=by
 unfold cF1;rw[jX];congr 1;funext E x;exact zq
theorem w_f2{f}:Eo (cF2 f a b (e::E)) P X=Eo (a (e::E)) (λE x=>Eo (b E) (λE y=>Wo (f x y) E P) X) X:=by
 unfold cF2;rw[jX];congr 1;funext E x;rw[jX];congr 1;funext E y;exact zq
theorem w_ix:Eo (jk a b (e::E)) P X=Eo (a (e::E)) (λE x=>Eo (b E) (λE y=>Wo (jJ x.2 y.2) E (λE d=>P E (sub x.1,d))) X) X:=by
 unfold jk;rw[jX];congr 1;funext E x;rw[jX];congr 1;funext E y;rw[zq];exact vo_map
theorem w_tE:Eo (tE c (e::E)) T X=Eo (c (e::E)) (λE x=>Wo (truth x.2) E T) X:=by
 unfold tE;rw[jX];congr 1;funext E x;exact zq
theorem w_tEQ:Eo (tEQ c (e::E)) T X=Eo (c (e::E)) (λE x=>Wo (truthQ x.2) E T) X:=by
 unfold tEQ;rw[jX];congr 1;funext E x;exact zq
theorem w_tNot:Eo (tNot t (e::E)) T X=Eo (t (e::E)) (λE k=>T E (!k)) X:=by unfold tNot;rw[jX];ac_rfl
theorem w_tAnd:Eo (tAnd t u (e::E)) T X=Eo (t (e::E)) (λE k=>if k=true then Eo (u E) T X else T E false) X:=by
 unfold tAnd;rw[jX];congr 1;funext E k;cases k<;>ac_rfl
theorem w_tOr:Eo (tOr t u (e::E)) T X=Eo (t (e::E)) (λE k=>if k=true then T E true else Eo (u E) T X) X:=by
 unfold tOr;rw[jX];congr 1;funext E k;cases k<;>ac_rfl
theorem w_tYes:Eo (tYes (e::E)) T X=T (e::E) true:=nd (by ac_rfl)
theorem w_cIf:Eo (cIf t a b (e::E)) P X=Eo (t (e::E)) (λE k=>if k=true then Eo (a E) P X else Eo (b E) P X) X:=by
 unfold cIf;rw[jX];congr 1;funext E k;cases k<;>ac_rfl
theorem w_cAnd:Eo (Jk a b (e::E)) P X=Eo (a (e::E)) (λE x=>xq5 x.2 (Eo (b E) P X) (P E (.dp,.bl false))) X:=by
 rw[wk5,jX];congr 1;funext E x;cases x.2 with|bl k=>cases k<;>ac_rfl|_=>ac_rfl
theorem w_cOr:Eo (cOr a b (e::E)) P X=Eo (a (e::E)) (λE x=>xq5 x.2 (P E (.dp,.bl true)) (Eo (b E) P X)) X:=by
 rw[wxp,jX];congr 1;funext E x;cases x.2 with|bl k=>cases k<;>ac_rfl|_=>ac_rfl
theorem w_cNotQ:Eo (vjw c (e::E)) P X=Eo (c (e::E)) (λE x=>Wo (truthQ x.2) E (λE k=>P E (.dp,.bl (!k)))) X:=by
 unfold vjw;rw[jX];congr 1;funext E x;rw[zq];exact vo_map
theorem w_call{f cs}:Eo (jx f cs (e::E)) P X=Eo (v8 cs (e::E)) (λE xs=>Oe f (letAll xs) E P X) X:=by exists wju
theorem w_callB{f:Fn}{cs:List Ex}:Eo (Vv f cs (e::E)) P X=Eo (v8 cs (e::E)) (λE xs=>Oe f (letAll xs) E (λE y=>y.2.pure=true/\P E (.dp,y.2)) X) X:=by exists vv8
theorem w_partN{P}:Eo (XY none (e::E)) P X=P (e::E) none:=nd (by ac_rfl)
theorem w_partS{P}:Eo (XY (some c) (e::E)) P X=Eo (c (e::E)) (λE x=>Ie x.2 E (λE i=>P E (some i))) X:=by
 show Eo (bnd _ _) P X=_;rw[jX];congr 1;funext E x;cases x.2<;>ac_rfl
theorem w_sl{lo hi}:Eo (cSl a lo hi (e::E)) P X=Eo (a (e::E)) (λE x=>Eo (XY lo E) (λE l=>Eo (XY hi E) (λE h=>Wo (fSl x l h) E P) X) X) X:=by
 unfold cSl;rw[jX];congr 1;funext E x;rw[jX];congr 1;funext E l;rw[jX];congr 1;funext E h;exact zq
theorem w_idx:Eo (JQ a b (e::E)) P X=Eo (a (e::E)) (λE x=>if isSq x.2=true then Eo (b E) (λE y=>Wo (kqs x.2 y.2) E (λE d=>P E (.dp,d))) X else False) X:=by
 unfold JQ;rw[jX];congr 1;funext E x;cases isSq x.2 with
 |false=>ac_rfl
 |true=>
  show Eo (bnd _ _) P X=_;rw[jX]
  congr 1;funext E y;rw[zq];exact vo_map
theorem w_itS{P}:Eo (itS c (e::E)) P X=Eo (c (e::E)) (λE x=>Wo (seqOf x.2) E P) X:=by
 unfold itS;rw[jX]
 congr 1
 funext E x;exact zq
theorem w_itEn{P}:Eo (wwy c (e::E)) P X=Eo (c (e::E)) (λE x=>Wo (lstOf x.2) E (λE ds=>P E (zw 0 ds))) X:=by
 unfold wwy;rw[jX]
 congr 1
 funext E x;rw[zq];exact vo_map
end
theorem args_nil{e}{E:En}{P X}:Eo (v8 [] (e::E)) P X=P (e::E) []:=nd (by ac_rfl)
theorem args_cons{e}{E:En}{c cs P X}:Eo (v8 (c::cs) (e::E)) P X=Eo (c (e::E)) (λE x=>Eo (v8 cs E) (λE xs=>P E (x::xs)) X) X:=by
 show Eo (bnd _ λE x=>bnd _ λE xs=>some _) P X=_;rw[jX]
 congr 1
 funext E x;rw[jX]
 ac_rfl
theorem eo_tup{e}{E:En}{cs P X}:Eo (kw .no cs (e::E)) P X=Eo (v8 cs (e::E)) (λE xs=>P E (.no,.tup (xs.map (·.2)))) X:=by
 unfold kw;rw[jX]
 ac_rfl
theorem eo_lst{e}{E:En}{cs P X}:Eo (kq .rt cs (e::E)) P X=Eo (v8 cs (e::E)) (λE xs=>P E (.rt,.lst (xs.map (·.2)))) X:=by
 unfold kq;rw[jX]
 ac_rfl
theorem qzo{c E P X}(h:Eo (c E) (λE x=>∃n,x.2=.int n/\n<=1000/\-1000<=n/\P E (k8 0 n)) X):Eo (vW c E) P X:=by
 unfold vW;rw[jX];refine h.mono ?_;rintro E ⟨o,d⟩ ⟨n,rfl,h1,h2,h3⟩;have:xQ n=true:=by unfold xQ;rw[Xh ⋯,Xh ⋯];ac_rfl
 show Eo (if xQ n=true/\n.toNat<=big then _ else _) P X;rw[Xb #[this,by unfold big;lia]]
 exists h3
theorem vx9{i:Nat}{c}{E:En}{o xs N C R X}(h0:E[i]?=some (some (o,.lst xs)))
  (h:Eo (c E) (λE1 x=>∃o ys,E1[i]?=some (some (o,.lst ys))/\o≠.no/\ys.length<10000/\N (E1.set i (some (if o=.dp/\ww x then .dp else .rt,.lst (ys++[x.2]))))) X):Po (qW qX i c E) N C R X:=by
 unfold qW;rw[h0,Xb (show WV _=true from rfl),KW];refine h.mono ?_;rintro E1 x ⟨o,ys,h1,h2,h3,h4⟩;rw[h1];dsimp only;have hg:qX ys x.2=some (ys++[x.2]):=by unfold qX;rw[Xb (by unfold big;lia)]
 rw[Xe h2,hg]
 exists h4
theorem xY{i:Nat}{c}{E:En}{xs N C R X}(h0:E[i]?=some (some (.rt,.lst xs)))
  (h:Eo (c E) (λE1 x=>∃ys,E1[i]?=some (some (.rt,.lst ys))/\ys.length<10000/\N (E1.set i (some (.rt,.lst (ys++[x.2]))))) X):Po (qW qX i c E) N C R X:=
 vx9 h0 (h.mono λE1 x hz=>by obtain⟨ys,h1,h2,h3⟩:=hz;exact#[.rt,ys,h1,⋯,h2,by rw[];exists h3])
theorem rng_ok{n}(h1:-1000<=n)(h2:n<=1000):(xQ n=true/\n.toNat<=big)=True:=by
 have:xQ n=true:=by unfold xQ;rw[Xh ⋯,Xh ⋯];ac_rfl
 with_unfolding_all exact eq_true #[this,by unfold big;lia]
theorem kkj{α p}[Decidable p]{a}{P:En->α->Prop}{X}:Eo (if p then a else none) P X=(p/\Eo a P X):=by
 by_cases h:p
 ·simp_all
 ·rw[Xe h];with_unfolding_all exact propext #[λz=>z.elim,λz=>h z.1]
theorem w_R1{c e}{E:En}{P X}:Eo (vW c (e::E)) P X=Eo (c (e::E)) (λE x=>Ie x.2 E λE n=>(xQ n=true/\n.toNat<=big)/\P E (k8 0 n)) X:=by
 unfold vW;rw[jX];congr 1;funext E x;cases x.2 with|int n=>exists kkj|_=>ac_rfl
theorem w_LR1{c e}{E:En}{P X}:Eo (YQ c (e::E)) P X=Eo (c (e::E)) (λE x=>Ie x.2 E λE n=>(xQ n=true/\n.toNat<=big)/\P E (.rt,.lst (k8 0 n))) X:=by
 unfold YQ;rw[jX];congr 1;funext E x;cases x.2 with|int n=>exists kkj|_=>ac_rfl
theorem lst_dp0{e:Option Sd}{E:En}{P:En->Sd->Prop}{X:XP}:Eo (kq .dp [] (e::E)) P X=P (e::E) (.dp,.lst []):=nd (by ac_rfl)
theorem vxt{o:Own}{xs:List D}{lo hi:Option Int}(h:o≠.dp):fSl (o,.lst xs) lo hi=some (.rt,.lst (V2 xs lo hi)):=by
 show(if qQ _ then _ else _)=_;rw[Xb (by cases o<;>simp_all [qQ])]
theorem sub_no:sub .no=.no:=nd (by ac_rfl)
theorem sub_rt:sub .rt=.no:=nd (by ac_rfl)
theorem sub_dp:sub .dp=.dp:=nd (by ac_rfl)
theorem Oo.use{ι f xs}{g:ι->Sd}{S:ι->Prop}{E P X}(h:Oo f xs (λy=>∃i,y=g i/\S i) X)(k:∀i,S i->P E (g i)):Oe f xs E P X:=h.mono λy hz=>by obtain⟨i,e,s⟩:=hz;exact e▸k i s
theorem Oo.via{f xs S E P X}(h:Oo f xs S X)(k:∀y,S y->P E y):Oe f xs E P X:=h.mono k
theorem xX{E ys P X}:Eo (mkL .rt E ys) P X=P E (.rt,.lst (ys.map (·.2))):=nd (by ac_rfl)
theorem wvo{i:Nat}{c:Ex}{E:En}{o:Own}{xs:List D}{P:En->Sd->Prop}{X:XP}(h0:E[i]?=some (some (o,.lst xs)))
  (h:Eo (c E) (λE1 x=>∃(o:Own) (ys:List D) (k:Int) (d:D),E1[i]?=some (some (o,.lst ys))/\o≠.no/\x.2=.int k/\0<=k/\k<=1000/\ys[k.toNat]?=some d/\d.pure=true/\P (E1.set i (some (o,.lst (ys.eraseIdx k.toNat)))) (.dp,d)) X):Eo (wxo i c E) P X:=by
 unfold wxo;rw[h0,Xb (show WV _=true from rfl),jX];refine h.mono ?_;rintro E1 ⟨o',d'⟩ ⟨o,ys,k,d,h1,h2,e,k0,k1,h3,h4,h5⟩;subst e;have hl:=(List.getElem?_eq_some_iff.mp h3).1;have hx:ixN ys.length k=some k.toNat:=by unfold ixN;rw[Xb k0,Xb ⋯]
 have hs:xQ k=true:=by unfold xQ;rw[Xh ⋯,Xh ⋯];ac_rfl
 rw[h1];dsimp only;rw[Xe h2,hx];dsimp only;rw[h3];dsimp only;rw[h4,hs,Xb ⋯,JJ];exact h5
theorem w_rz{c:Str}{e:Option Sd}{E:En}{N C:En->Prop}{R:Sd->Prop}{X:XP}:Po (sRz c (e::E)) N C R X=X c:=nd (by ac_rfl)
noncomputable def Ox(f:Fn)(xs:List Sd)(E:En)(P:En->Sd->Prop)(Y:En->Str->Prop):Prop:=Oo f xs (P E) (Y E)
theorem Oo.ox{f:Fn}{xs:List Sd}{S:Sd->Prop}{W:XP}{E:En}{P:En->Sd->Prop}{Y:En->Str->Prop}(h:Oo f xs S W)(k:∀y,S y->P E y)(l:∀c,W c->Y E c):Ox f xs E P Y:=by
 unfold Ox Oo at *;cases hf:f xs with
 |none=>simp_all
 |some r=>rw[hf]at h;cases r with|ok E a=>exists k a h|exc E c=>exists l c h
theorem wvq{i:Nat}{m:Option Fl}{N C:En->Prop}{R:Sd->Prop}{X:XP}:Po (vw1 i m) N C R X=Po m (λE=>N (E.set i none)) (λE=>C (E.set i none)) R noX:=by
 cases m with|none=>ac_rfl|some r=>cases r<;>ac_rfl
theorem Oo.any{f xs P X}(h:Oo f xs P noX):Oo f xs P X:=by
 unfold Oo at *;cases hf:f xs with
 |none=>simp_all
 |some r=>rw[hf]at h;cases r with|ok E a=>simp_all|exc E c=>exists (h).elim
section
variable {c kc vc:Ex}{e:Option Sd}{E:En}{X:XP}{N C:En->Prop}{R:Sd->Prop}
theorem wky{P}:Eo (vvo kc vc (e::E)) P X=Eo (kc (e::E)) (λE k=>Eo (vc E) (λE v=>J6 k.2=true/\P E (.rt,.dct [(k.2,v.2)])) X) X:=by
 unfold vvo;rw[jX];congr 1;funext E k;rw[jX];congr 1;funext E v;rw[kkj,JJ]
theorem vw4{g0 g}{i:Nat}(h:Eo (vc E) (λE1 v=>g0 E1[i]?=true/\Eo (kc E1) (λE2 k=>∃s d,E2[i]?=some (some s)/\g s k.2 v.2=some d/\N (E2.set i (some (.rt,d)))) X) X):Po (wqk g0 g i kc vc E) N C R X:=by
 unfold wqk;rw[KW];refine h.mono λE1 v hz=>?_
 rw[Xb hz.1,KW];refine hz.2.mono λE2 k hz=>?_
 obtain⟨s,d,e2,h3,h4⟩:=hz;rw[e2];dsimp only
 rwa [h3,Option.map_some,WW]
end
theorem wwl{o:Own}{kvs:List (D×D)}(h:kvs.length<=10000)(hu:unm kvs=true):WK (o,.dct kvs)=some (.rt,.lst (kvs.map (·.1))):=by
 unfold WK;dsimp only;rw[Xb #[by unfold big;lia,hu]]
section
variable {a b c kc vc:Ex}{e:Option Sd}{E:En}{X:XP}{N C:En->Prop}{R:Sd->Prop}{P:En->Sd->Prop}
theorem wkw:Eo (wza a b (e::E)) P X=Eo (a (e::E)) (λE x=>Eo (b E) (λE y=>Wo (wxf x.2 y.2) E (λE d=>P E (.dp,d))) X) X:=by
 unfold wza;rw[jX];congr 1;funext E x;rw[jX];congr 1;funext E y;rw[zq];exact vo_map
theorem vvz:Eo (vkg a b c (e::E)) P X=Eo (a (e::E)) (λE x=>wx3 x.2=true/\Eo (b E) (λE y=>Eo (c E) (λE z=>Wo (vj9 x.2 y.2 z.2) E (λE d=>P E (.dp,d))) X) X) X:=by
 unfold vkg;rw[jX];congr 1;funext E x;rw[kkj];congr 1;rw[jX];congr 1;funext E y;rw[jX];congr 1;funext E z;rw[zq];exact vo_map
theorem wkv{z}:Eo (vvn z c (e::E)) P X=Eo (c (e::E)) (λE x=>Wo (vj8 z x.2) E (λE d=>P E (.dp,d))) X:=by
 unfold vvn;rw[jX];congr 1;funext E x;rw[zq];exact vo_map
theorem qwb{P}:Eo (qzp c (e::E)) P X=Eo (c (e::E)) (λE x=>Wo (vkj x.2) E (λE ds=>P E (zw 0 ds))) X:=by
 unfold qzp;rw[jX];congr 1;funext E x;rw[zq];exact vo_map
theorem v_is{i:Nat}{o ds P}(h:E[i]?=some (some (o,.lst ds)))(hp:D.pures ds=true)(k:P E ds):Eo (itV i E) P X:=by
 unfold itV;rw[h];dsimp only
 rwa [Xb hp,JJ]
theorem wkx:Eo (wk4 (e::E)) P X=P (e::E) (.rt,wv []):=nd (by ac_rfl)
theorem qq1{i:Nat}(h:Eo (vc E) (λE1 v=>WV E1[i]?=true/\Eo (kc E1) (λE2 k=>∃(o:Own) (xs:List D) (j:Int) (n:Nat),E2[i]?=some (some (o,.lst xs))/\o≠.no/\k.2=.int j/\ixN xs.length j=some n/\N (E2.set i (some (.rt,.lst (xs.set n v.2))))) X) X):Po (wql i kc vc E) N C R X:=by
 refine vw4 (h.mono λE1 v hz=>#[hz.1,hz.2.mono λE2 k hz=>?_]);obtain⟨o,xs,j,n,e2,ho,hk,hn,h4⟩:=hz;exact#[_,_,e2,by unfold xkn;rw[hk];dsimp only;rw[Xe ho,hn];rfl,h4]
theorem wjh{i:Nat}(h:Eo (vc E) (λE1 v=>wx1 E1[i]?=true/\Eo (kc E1) (λE2 k=>∃(kv:List _) (x y:Int),E2[i]?=some (some (.rt,wv kv))/\k.2=.int x/\v.2=.int y/\kv.length<10000/\N (E2.set i (some (.rt,wv (wq kv x y))))) X) X):Po (vxz i kc vc E) N C R X:=by
 refine vw4 (h.mono λE1 v hz=>#[hz.1,hz.2.mono λE2 k hz=>?_]);obtain⟨kv,x,y,e2,hk,hv,hl,h4⟩:=hz;refine#[_,_,e2,?_,h4];unfold wjo;rw[hk,hv];dsimp only;rw[YZ,Option.bind_some,Xb (by unfold big;lia)]
end
theorem wx4{k kv}:XZ (.int k) (wv kv)=some (.bl (qz kv k).isSome):=by
 unfold XZ;rw[YZ]
theorem xke{k v kv}(h:qz kv k=some v):wxf (wv kv) (.int k)=some (.int v):=by
 unfold wxf;rw[YZ];dsimp only;rw[h];rfl
theorem vx1{k z kv}:vj9 (wv kv) (.int k) (.int z)=some (.int ((qz kv k).getD z)):=by
 unfold vj9;rw[YZ]
theorem wx0{kv}:wx3 (wv kv)=true:=by
 unfold wx3;rw[YZ];rfl
theorem wxl{o}{ps:List (Int×Int)}(h:ps.length<10000):Z9 (o,.lst (ps.map λp=>D.tup [.int p.1,.int p.2]))=some (.rt,wv (ps.foldl (λkv p=>wq kv p.1 p.2) [])):=by
 unfold Z9;dsimp only;rw[qxi];dsimp only;rw[Xb (by unfold big;lia)]
section
variable {a b c:Ex}{cs:List Ex}{e:Option Sd}{E:En}{X:XP}{N C:En->Prop}{R:Sd->Prop}{P:En->Sd->Prop}{i r:Nat}{p:List Nat}{d:D}{ds:List D}
theorem Qj:Eo (zW c (e::E)) P X=Eo (c (e::E)) (λE x=>JZ x=true/\P E (.dp,x.2)) X:=by
 unfold zW;rw[jX];congr 1;funext E x;rw[kkj,JJ]
theorem xk1(h0:E[i]?=some (some (.dp,d)))(dy:D.at p d=some (.lst ds))(hl:ds.length<10000)(h:Eo (c (E.set i none)) (λE1 x=>x.2.pure=true/\N (E1.set i (some (.dp,D.put (.lst (ds++[x.2])) p d)))) X):Po (sPA i p c E) N C R X:=by
 unfold sPA;rw[h0];dsimp only;rw[dy];dsimp only;rw[Xb (by unfold big;lia),KW];refine h.mono ?_;rintro E1 x ⟨hp,hn⟩;rw[Xb hp,WW];exact hn
theorem ww2(h0:E[i]?=some (some (.dp,d)))(dy:D.at p d=some (.lst ds))(h:N (E.set i (some (.dp,D.put (.lst []) p d)))):Po (sPC i p E) N C R X:=by
 unfold sPC;rw[h0];dsimp only;rw[dy];dsimp only;rw[WW];exact h
end
section
variable {a b c kc vc:Ex}{cs:List Ex}{e:Option Sd}{E:En}{X:XP}{N C:En->Prop}{R:Sd->Prop}{P:En->Sd->Prop}{i r n:Nat}{t:Ts}
theorem qqi{kvs}(h:unm kvs=true):W3 (.dct kvs)=some (.int kvs.length):=Xb h
theorem vxu(h0:wzj E[i]?=true)(h:Eo (kc E) (λE1 k=>Eo (vc E1) (λE2 v=>∃kvs,E2[i]?=some (some (.rt,.dct kvs))/\(J6 k.2=true/\kvs.length<10000/\unm kvs=true/\v.2.pure=true/\D.pures (kvs.map (·.2))=true) /\
  (∀d,xv kvs k.2=some d->P E2 (.dp,d))/\(xv kvs k.2=none->P (E2.set i (some (.rt,.dct (kvs++[(k.2,v.2)])))) (.dp,v.2))) X) X):Eo (vjv i kc vc E) P X:=by
 unfold vjv;rw[Xb h0,jX];refine h.mono ?_;intro E1 k h1;rw[jX];refine h1.mono ?_;rintro E2 v ⟨kvs,e2,hc,h3,h4⟩;rw[e2];dsimp only;rw[Xb #[hc.1,by unfold big;omega,hc.2.2]];cases hg:xv kvs k.2 with|none=>dsimp only;rw[JJ];exact h4 hg|some d=>dsimp only;rw[JJ];exact h3 d hg
noncomputable def vkq(s:Option (Option Sd))(Q:Sd->Prop):Prop:=match s with
 |some (some x)=>Q x|_=>False
noncomputable def Om(m:Option Fl)(n:Nat)(N:En->Prop)(P:Sd->Sd->Prop)(X:XP):Prop:=match m with
 |some (.nx E)=>N E|some (.rt E x)=>vkq E[n]? (P x)|some (.xc _ c)=>X c|_=>False
noncomputable def Oom(f:Fn)(xs:List Sd)(n:Nat)(P:Sd->Sd->Prop)(X:XP):Prop:=match f xs with
 |some (.ok E y)=>vkq E[n]? (P y)|some (.exc _ c)=>X c|none=>False
theorem qxy{nn b xs P}(h:Om (b (xs.map some++List.replicate (nn - xs.length) none)) n (λE=>vkq E[n]? (P (.dp,.non))) P X):Oom (fn nn b) xs n P X:=by
 unfold Oom fn;cases hb:b _ with
 |none=>rw[hb]at h;exact h.elim
 |some f=>
  rw[hb]at h;cases f with|nx E=>exact h|rt E x=>exact h|xc E c=>exact h|ct E=>exact h.elim|bk E=>exact h.elim
theorem K9{a b P}(h:Om (a E) n (λE=>Om (b E) n N P X) P X):Om (j6 a b E) n N P X:=by
 unfold j6;cases ha:a E with
 |none=>rw[ha]at h;exact h.elim
 |some f=>
  rw[ha]at h;cases f with|nx E=>exact h|rt E x=>exact h|xc E c=>exact h|ct E=>exact h.elim|bk E=>exact h.elim
theorem qq7{P}(h:Eo (c E) (λE x=>vkq E[n]? (P x)) X):Om (jw c E) n N P X:=by
 unfold jw;cases hc:c E with
 |none=>rw[hc,qk4]at h;exact h.elim
 |some f=>
  rw[hc]at h;cases f with|ok E x=>rw[JJ]at h;exact h|exc E c=>rw[vjb]at h;exact h
theorem wwb{a b P}(h:Eo (t E) (λE k=>if k=true then Om (a E) n N P X else Om (b E) n N P X) X):Om (sIf t a b E) n N P X:=by
 unfold sIf;cases hc:t E with
 | none=>rw[hc,qk4]at h;exact h.elim
 | some f=>
  rw[hc]at h;cases f with
  |ok E k=>
   rw[JJ]at h;cases k with|true=>rw[Xb rfl]at h;exact h|false=>rw[Xe (by simp)]at h;exact h
  |exc E c=>rw[vjb]at h;exact h
theorem Q0{m P}(h:Po m N (λ_=>False) (λ_=>False) X):Om m n N P X:=by
 cases m with
 |none=>exists h
 |some f=>
  cases f with|nx E=>rw[WW]at h;exact h|rt E x=>rw[xjv]at h;exact h.elim|xc E c=>exists h|ct E=>exists h|bk E=>exists h
theorem kwr{f}(h:Eo (v8 cs E) (λE1 xs=>∃x,E1[i]?=some (some x)/\Oom f (letAll xs++[x]) xs.length (λy x'=>P (E1.set i (some x')) y) X) X):Eo (kv3 f i cs E) P X:=by
 unfold kv3;rw [jX];refine h.mono ?_;rintro E1 xs ⟨x,e1,h1⟩;rw [e1];dsimp only;unfold Oom at h1;cases hf:f _ with
 | none=>rw[hf]at h1;exact h1.elim
 | some rr=>
  rw[hf]at h1;cases rr with
  | exc E' c=>dsimp only;rw[vjb];exact h1
  | ok E' y=>
   dsimp only at h1 ⊢;cases hs:E'[xs.length]? with
   |none=>rw[hs]at h1;exact h1.elim
   |some s=>
    rw[hs]at h1;cases s with|none=>exact h1.elim|some x'=>dsimp only at h1 ⊢;rw[JJ];exact h1
theorem Oom.mono{f xs P Q X Y}(h:Oom f xs n P X)(hp:∀y x,P y x->Q y x)(hx:∀c,X c->Y c):Oom f xs n Q Y:=by
 unfold Oom at h ⊢;cases hf:f xs with
 | none=>rw[hf]at h;exact h.elim
 | some rr=>
  rw[hf]at h;cases rr with
  | exc E' c=>exact hx c h
  | ok E' y=>
   dsimp only at h ⊢;cases hs:E'[n]? with
   |none=>rw[hs]at h;exact h.elim
   |some s=>
    rw[hs]at h;cases s with|none=>exact h.elim|some x'=>exact hp _ _ h
end
end Q
namespace C
open PySem Q
noncomputable def m_read_by:Fn:=fn 8
  (j6 (sIf (tOr (tE (cF2 (f2First fIsNon) (vV 1) (vE (cC .non)))) (tE (cF2 (pu2 J0) (vV 2) (jk (vV 0) (C9 0))))) (jw (cC .non)) k9)
  (j6 (jq 4 (cH (jk (vV 1) (C9 1))))
  (j6 (jq 5 (cH (jk (jk (jk (jk (vV 0) (C9 1)) (jk (vV 1) (C9 0))) (C9 2)) (vE (JQ (jk (vV 0) (C9 0)) (vV 2))))))
  (j6 (jq 6 (cH (jk (vV 5) (vE (cIf (tE (cF2 (pu2 Kz) (vV 3) (vV 4))) (JQ (vV 4) (vV 3)) (cF1 (pu1 qw) (vV 4)))))))
  (j6 (sIf (tE (cF2 (f2First fIsNon) (vV 6) (vE (cC .non)))) (jw (cC .non)) k9)
  (j6 (jq 7 (cF2 k4 (vV 4) (vE (kw .no [(cV 3)]))))
  (jw (kw .no [(cH (jk (vV 6) (C9 0))),(cF1 xV (vE (cLC .rt 1 [7] (itS (cH (jk (vV 6) (C9 1)))) (.n 0) tYes (cH (jk (vV 1) (vV 0))))))]))))))))
end C
set_option hygiene false
local macro_rules
 | `(tactic| simp![$ts,*])=>`(tactic| simp(config:={maxSteps:=1000000,failIfUnchanged:=false,implicitDefEqProofs:=true}) (disch:=lia) only[↓_root_.Q.w_seq,↓_root_.Q.w_asg,↓_root_.Q.w_ret,↓_root_.Q.w_pass,↓_root_.Q.w_if,↓_root_.Q.w_tup,↓_root_.Q.w_vV,↓_root_.Q.w_cV,↓_root_.Q.w_cMv,↓_root_.Q.w_cC,↓_root_.Q.w_vE,↓_root_.Q.w_cH,↓_root_.Q.w_f1,↓_root_.Q.w_f2,↓_root_.Q.w_ix,↓_root_.Q.w_tE,↓_root_.Q.w_tEQ,↓_root_.Q.w_tNot,↓_root_.Q.w_tAnd,↓_root_.Q.w_tOr,↓_root_.Q.w_tYes,↓_root_.Q.w_cIf,↓_root_.Q.w_cAnd,↓_root_.Q.w_cOr,↓_root_.Q.w_cNotQ,↓_root_.Q.w_call,↓_root_.Q.w_callB,↓_root_.Q.w_partN,↓_root_.Q.w_partS,↓_root_.Q.w_sl,↓_root_.Q.w_idx,↓_root_.Q.w_itS,↓_root_.Q.w_itEn,↓_root_.Q.w_rz,↓_root_.Q.w_R1,↓_root_.Q.w_LR1,_root_.Q.rng_ok,true_and,_root_.Q.lst_dp0,↓_root_.Q.ie_i,_root_.Q.isSq,_root_.Q.sl_some,↓_root_.Q.andP_bl,↓_root_.Q.vo_some,↓_root_.Q.vo_map,↓_root_.Q.wo_some,↓_root_.Q.wo_map,↓_root_.Q.args_nil,↓_root_.Q.args_cons,↓_root_.Q.eo_tup,↓_root_.Q.eo_lst,_root_.Q.letAll,_root_.Q.pu2,_root_.Q.pu1,_root_.Q.f2First,_root_.Q.fIsNon,_root_.Q.fNotNon,_root_.Q.isNon,List.map_cons,List.map_nil,List.cons_append,List.nil_append,_root_.Xg,List.length_nil,_root_.X3,Nat.reduceAdd,Nat.reduceSub,List.replicate,List.set_cons_zero,List.set_cons_succ,List.getElem?_cons_zero,List.getElem?_cons_succ,_root_.Q.len_l,_root_.Q.len_t,_root_.Q.lt_ii,_root_.Q.gt_ii,_root_.Q.le_ii,_root_.Q.ge_ii,_root_.Q.add_i,_root_.Q.sub_i,_root_.Q.div_i,_root_.Q.mod_i,_root_.Q.mulT_i,_root_.Q.mul_l,Option.map_some,_root_.Q.truth,_root_.Q.truthQ,_root_.Q.D.pure,↓reduceIte,if_true,if_false,ite_true,ite_false,_root_.Q.sub_no,_root_.Q.sub_rt,_root_.Q.sub_dp,Bool.false_eq_true,reduceCtorEq,Bool.not_true,Bool.not_false,_root_.Q.Tg.put,_root_.Q.setAll,_root_.Q.seqOf,_root_.Q.lstOf,$ts,*])
set_option hygiene true
namespace C
open Q PySem
abbrev most:Int:=1000*10 ^ 64
abbrev iL(ns:List Int):D:=.lst (ns.map D.int)
noncomputable def Each(G:D->Sd->Prop):List D->List Sd->Prop
 |[],[]=>True|d::ds,y::ys=>G d y/\Each G ds ys|_,_=>False
theorem Each.snoc{G d y}(h:G d y):∀{ds ys},Each G ds ys->Each G (ds++[d]) (ys++[y])
 |[],[],_=>#[h,trivial]|_::_,_::_,r=>#[r.1,Each.snoc h r.2]
theorem Vj{X E o}{r:List Nat}{it c P}(ao:En) G (h0:Eo (it E) (λE1 ds=>r.map (at' E1)=ao/\(∀d∈ds,Eo (c (some (.no,d)::ao)) (λB y=>(∃q,B=q::ao)/\G d y) X)/\∀ys,Each G ds ys->Eo (mkL o (back r ao (clr r E1)) ys) P X) X):Eo (cLC o 1 r it (.n 0) tYes c E) P X:=by
 refine QX (λE1 B ds2 aq=>∃ds fw q,ds=fw++ds2/\B=q::ao/\Each G fw aq/\(∀d∈ds,Eo (c (some (.no,d)::ao)) (λB y=>(∃q,B=q::ao)/\G d y) X)/\∀ys,Each G ds ys->Eo (mkL o (back r ao (clr r E1)) ys) P X) ?_ ?_ ?_
 ·refine h0.mono λE1 ds hz=>by obtain⟨h1,h2,h3⟩:=hz;exact#[ds,[],none,rfl,by rw[<-h1];rfl,trivial,h2,h3]
 ·rintro E1 B d ds2 aq ⟨ds,fw,q,e,rfl,hE,h2,h3⟩;have hp:(Tg.n 0).put d (q::ao)=some _:=rfl;rw[hp,vo_some,show tYes _=some _ from rfl,JJ];refine(h2 d (by rw[e];simp)).mono ?_;rintro B y ⟨⟨q',rfl⟩,hG⟩;exact#[ds,fw++[d],q',by rw[e];simp,rfl,hE.snoc hG,h2,h3]
 ·rintro E1 B aq ⟨ds,fw,q,e,rfl,hE,h2,h3⟩;rw[Xn]at e;subst e;exact h3 aq hE
theorem kkk{G}{S:Int->Prop}(hG:∀d y,G d y->∃i,y.2=.int i/\S i):∀{ds ys},Each G ds ys->∃ps:List Int,ys.map (·.2)=ps.map D.int/\ps.length=ds.length/\∀p∈ps,S p
 |[],[],_=>#[[],rfl,rfl,λ_ h=>nomatch h]
 |d::ds,y::ys,r=>by
  obtain⟨i,e,s⟩:=hG d y r.1;obtain⟨ps,h1,h2,h3⟩:=kkk hG r.2;exact#[i::ps,by simp[e,h1],by simp[h2],λp hp=>(aD hp).elim (λz=>z▸s) (h3 p)]
theorem qwy{n}:k8 n n=[]:=by unfold k8;rw[Int.sub_self];rfl
theorem kqg{k n}(h:k<n):k8 k n=.int k::k8 (k+1) n:=by
 unfold k8;have:(n - k).toNat=(n - (k+1)).toNat+1:=by
  obtain⟨m,hm⟩:=Int.eq_ofNat_of_zero_le (show 0<=n - (k+1)by lia);rw[hm,show n - k=(m+1:Nat)by lia];rfl
 rw[this,List.range_succ_eq_map,List.map_cons,Xj]
 congr 1
 ·simp
 ·apply Yw;intro i _
  grind
theorem zY{k n d ds}(hk:k<=n)(h:d::ds=k8 k n):k<n/\d=.int k/\ds=k8 (k+1) n:=by
 by_cases hl:k<n
 ·rw[kqg hl]at h;injection h with h1 h2;exact#[hl,h1,h2]
 ·have:k=n:=⋯
  subst this;rw[qwy]at h
  grind
theorem zV{k n}(hk:k<=n)(h:[]=k8 k n):k=n:=by
 by_cases hl:k<n
 ·rw[kqg hl]at h;cases h
 ·lia
theorem qjo{k n d}(h:d∈k8 k n):∃i,k<=i/\i<n/\d=.int i:=by
 obtain⟨j,hj,rfl⟩:=aE h;have:=List.mem_range.mp hj;exact#[k+j,⋯,⋯,rfl]
theorem qz9{k n}(h:k<=n):((k8 k n).length:Int)=n - k:=by
 unfold k8;rw[X3,Yd];lia
theorem qqo z i (h0:0<=i)(h1:i<z.cps.size):∃c,jJ (.str z) (.int i)=some (.str #[(List.toArray [c])]):=by
 have:i.toNat<z.cps.toList.length:=by rw[Array.length_toList];lia
 refine#[z.cps.toList[i.toNat],?_];show((ixN z.cps.size i).bind λj=>(z.cps.toList[j]?).map λc=>D.str #[(List.toArray [c])])=_;unfold ixN;rw[Xb h0,Xb h1];show((z.cps.toList[i.toNat]?).map λc=>D.str #[(List.toArray [c])])=_;rw[X1 this];rfl
theorem vk2{o1 o2 a b}(h:a.cps.size+b.cps.size<=10000):k4 (o1,.str a) (o2,.str b)=some (.dp,.str (a++b)):=by
 show(if a.cps.size+b.cps.size<=big then _ else _)=_;rw[Xb (by unfold big;lia)]
theorem kvg(a b:Str):(a++b).cps.size=a.cps.size+b.cps.size:=by
 exact Array.size_append
theorem qwi:∀ss,Q4 (ss.map D.str)=some ss
 |[]=>rfl|s::ss=>by rw[List.map_cons,Q4,qwi ss];rfl
abbrev sL(ss:List Str):D:=.lst (ss.map D.str)
theorem ixI ks (S:Int->Prop)(hS:∀k∈ks,S k) i (h0:0<=i)(h1:i<ks.length):∃v,jJ (iL ks) (.int i)=some (.int v)/\S v/\ks[i.toNat]?=some v:=by
 have hl:i.toNat<ks.length:=⋯
 refine#[ks[i.toNat],wZ h0 (by rw[Xq,X1 hl];rfl),hS _ (Y0 hl),X1 hl]
theorem xx{n}:∀{ks},(∀k∈ks,k.flat n=true)->D.flats n ks=true
 |[],_=>by cases n<;>simp[D.flats]|k::ks,h=>by rw[D.flats,h k X4,xx λe he=>h e (lc9 _ he)];rfl
mutual
theorem jwf:∀{n} (d),d.flat n=true->peq d d=true
 |n,.non,_=>by simp[peq]|n,.bl b,_=>by simp[peq]|n,.int b,_=>by simp[peq]|n,.str b,_=>by simp[peq]|n+1,.tup xs,h=>peqs_refl xs (by simpa [D.flat]using h)|n+1,.lst xs,h=>peqs_refl xs (by simpa [D.flat]using h)|n,.dct _,h=>by cases n<;>simp[D.flat]at h|n,.obj _ _,h=>by cases n<;>simp[D.flat]at h
theorem peqs_refl:∀{n} ds,D.flats n ds=true->peqs ds ds=true
 |_,[],_=>by simp[peqs]
 |n,d::ds,h=>by
  rw[D.flats,Bool.and_eq_true]at h;rw[peqs,jwf d h.1,peqs_refl ds h.2];rfl
end
theorem eq_self{d}(h:d.flat 40=true):fEq d d=some (.bl true):=by unfold fEq;rw[h,jwf d h];rfl
theorem qjk{d}(h:d.flat 40=true):fNe d d=some (.bl false):=by unfold fNe;rw[h,jwf d h];rfl
theorem p0(a b:D):jJ (.tup [a,b]) (.int 0)=some a:=rfl
theorem p1(a b:D):jJ (.tup [a,b]) (.int 1)=some b:=rfl
theorem t0(a b c:D):jJ (.tup [a,b,c]) (.int 0)=some a:=rfl
theorem t1(a b c):jJ (.tup [a,b,c]) (.int 1)=some b:=rfl
theorem t2(a b c):jJ (.tup [a,b,c]) (.int 2)=some c:=rfl
theorem ZV{G h}(hG:∀d y,G d y->y.2=h d):∀{ds ys},Each G ds ys->ys.map (·.2)=ds.map h
 |[],[],_=>rfl|d::ds,y::ys,r=>by rw[List.map_cons,List.map_cons,hG d y r.1,ZV hG r.2]
abbrev jv(ss:List Str)(rs:List D):D:=.tup [sL ss,.lst rs]
theorem qqh{o xs}(h:o≠.dp):K6 (o,.lst xs)=some (.rt,.lst xs):=by
 show(if qQ _ then _ else _)=_;rw[Xb (by cases o<;>simp_all [qQ])]
theorem wj8{z ss}:J0 (.str z) (sL ss)=some (.bl (!ss.any λw=>w==z)):=by
 show W9 _ _=_;unfold W9;have:fIn (.str z) (sL ss)=some (.bl (ss.any λw=>w==z)):=by
  show(if(D.str z).flat 30&&D.flats 30 _ then some _ else none)=_;rw[xx (λk hk=>by obtain⟨w,_,rfl⟩:=aE hk;rfl),List.any_map];rfl
 rw[this];rfl
theorem W6{p}{ks:List Int}:Kz (.int p) (.tup (ks.map D.int))=some (.bl (ks.any λw=>w==p)):=by
 show(if(D.int p).flat 30&&D.flats 30 _ then some _ else none)=_;rw[xx (λk hk=>by obtain⟨w,_,rfl⟩:=aE hk;rfl),List.any_map];rfl
def vq(own k:Int):Int:=own+(if k=own then 1 else 0)
noncomputable def Cs(ai:List Int)(b:Int)(c:D):Prop:=c=.non\/∃(to:Int) (fs:List Int),c=.tup [.int to,.tup (fs.map D.int)]/\0<=to/\to<ai.length/\(∀f∈fs,0<=f/\f<b)/\fs.Nodup/\(fs.length:Int)=ai.getD to.toNat 0
theorem kqu{α:Type}:∀{l:List α} {i} (h),(l[i]::l.eraseIdx i).Perm l
 |a::l,0,h=>List.Perm.refl _
 |a::l,i+1,h=>by
  have:=kqu (by simpa using h);exact(List.Perm.swap ..).trans (this.cons a)
theorem kz8{α β:Type}(f:α->β):∀(l:List α) (i),(l.map f).eraseIdx i=(l.eraseIdx i).map f
 |[],_=>rfl|a::l,0=>rfl|a::l,i+1=>by rw[List.map_cons,List.eraseIdx_cons_succ,List.eraseIdx_cons_succ,List.map_cons,kz8 f l i]
theorem vj5(a b:Int):JK (.bl (a==b))=some (.int (if a=b then 1 else 0)):=by
 by_cases h:a=b
 ·rw[Xb h,show(a==b)=true by simpa using h];rfl
 ·rw[Xe h,show(a==b)=false by simpa using h];rfl
noncomputable def Pr(ai:List Int)(n:Nat)(own:Int)(d:D):Prop:=∃(gd:Bool) (st:List D),d=.tup [.int own,.bl gd,.lst st]/\st.length=n/\∀c∈st,∃cs:List D,c=.lst cs/\(cs.length:Int)=own+1/\∀k:Nat,k<cs.length->∃z,cs[k]?=some z/\Cs ai (vq own k) z
noncomputable def Prs(ai:List Int)(n:Nat)(rs:List D):Prop:=rs.length=ai.length/\∀i:Nat,i<ai.length->∃r,rs[i]?=some r/\Pr ai n (ai.getD i 0) r
theorem kwl{α:Type}{p}:∀{l:List α},l.any p=true->l.findIdx? p=some (l.findIdx p)
 | [],h=>by cases h
 | a::l,h=>by
  rw[List.findIdx?_cons,List.findIdx_cons];cases hp:p a with
  |true=>simp
  |false=>
   rw[List.any_cons,hp]at h;rw[kwl h];simp
theorem xkp{α:Type}{p}{l:List α}(h:l.any p=true):l.findIdx p<l.length:=by
 obtain⟨x,hx,hp⟩:=List.any_eq_true.mp h;exact List.findIdx_lt_length_of_exists #[x,hx,hp]
theorem wxd{α:Type}{p}{l:List α}(h:l.any p=false):l.findIdx p=l.length:=by
 rw[List.findIdx_eq_length];intro x hx;cases hp:p x with|false=>rfl|true=>rw[List.any_eq_true.mpr #[x,hx,hp]]at h;cases h
theorem wx5{z ss}(h:(ss.any λw=>w==z)=true):kqs (sL ss) (.str z)=some (.int (ss.findIdx λw=>w==z:Nat)):=by
 show(if(D.str z).flat 30&&D.flats 30 _ then((ss.map D.str).findIdx? λw=>peq w _).map λ(j:Nat)=>D.int j else none)=_;rw[xx (λk hk=>by obtain⟨w,_,rfl⟩:=aE hk;rfl),List.findIdx?_map];have:ss.findIdx? ((λw=>peq w (.str z))∘D.str)=ss.findIdx? λw=>w==z:=rfl
 rw[this,kwl h];rfl
theorem vv0{p}{ks:List Int}(h:(ks.any λw=>w==p)=true):kqs (.tup (ks.map D.int)) (.int p)=some (.int (ks.findIdx λw=>w==p:Nat)):=by
 show(if(D.int p).flat 30&&D.flats 30 _ then((ks.map D.int).findIdx? λw=>peq w _).map λ(j:Nat)=>D.int j else none)=_;rw[xx (λk hk=>by obtain⟨w,_,rfl⟩:=aE hk;rfl),List.findIdx?_map];have:ks.findIdx? ((λw=>peq w (.int p))∘D.int)=ks.findIdx? λw=>w==p:=rfl
 rw[this,kwl h];rfl
theorem vxa{a b}(hl:a.length+b.length<=10000):k4 (.no,.tup a) (.no,.tup b)=some (.no,.tup (a++b)):=by
 show(if a.length+b.length<=big/\qQ _/\qQ _ then _ else _)=_;rw[Xb #[by unfold big;lia,rfl,rfl]]
abbrev iT(ks:List Int):D:=.tup (ks.map D.int)
noncomputable def nameAt(ks:List Int)(p:Int)(f:Int):Int:=(ks++[p]).getD f.toNat 0
noncomputable def vjn(ks:List Int)(p:Int)(c:D):D:=match c with
 |.tup [to,.tup fs]=>.tup [to,.tup (fs.map λf=>match f with|.int i=>.int (nameAt ks p i)|_=>.non)]
 |_=>.non
theorem caseD_is{ks fs p to}:vjn ks p (.tup [.int to,iT fs])=.tup [.int to,iT (fs.map (nameAt ks p))]:=by
 unfold vjn iT;simp[Function.comp]
noncomputable def Q8(ss:List Str)(st:List D)(ks:List Int)(z:Str)(p:Int):D:=match st[ss.findIdx λw=>w==z]? with
 |some (.lst cs)=>cs.getD (ks.findIdx λw=>w==p) .non|_=>.non
noncomputable def Qw(ss:List Str)(st:List D)(ks:List Int)(z:Str)(p:Int):D:=if(ss.any λw=>w==z)=true then vjn ks p (Q8 ss st ks z p)else .non
noncomputable def Cas(ai:List Int)(n:Nat)(own:Int)(st:List D):Prop:=st.length=n/\∀c∈st,∃cs:List D,c=.lst cs/\(cs.length:Int)=own+1/\∀k:Nat,k<cs.length->∃z,cs[k]?=some z/\Cs ai (vq own k) z
theorem xkq{ks:List Int}{p}:(ks.findIdx λw=>w==p)<=ks.length:=List.findIdx_le_length
theorem vjo{ai ss st ks}{z} p (h:Cas ai ss.length ks.length st)(hz:(ss.any λw=>w==z)=true):∃cs,st[ss.findIdx λw=>w==z]?=some (.lst cs)/\(cs.length:Int)=ks.length+1/\cs[ks.findIdx λw=>w==p]?=some (Q8 ss st ks z p)/\Cs ai (vq ks.length (ks.findIdx λw=>w==p:Nat)) (Q8 ss st ks z p):=by
 have hj:(ss.findIdx λw=>w==z)<st.length:=by rw[h.1];exact xkp hz
 obtain⟨cs,e,hl,hc⟩:=h.2 st[ss.findIdx λw=>w==z] (Y0 hj);have hg:st[ss.findIdx λw=>w==z]?=some (.lst cs):=by rw[X1 hj,e]
 have gy:=xkq (ks:=ks) (p:=p);obtain⟨c,e2,hC⟩:=hc (ks.findIdx λw=>w==p) ⋯;have hca:Q8 ss st ks z p=c:=by unfold Q8;rw[hg];dsimp only;rw[X9,e2];rfl
 exact#[cs,hg,hl,by rw[hca];exact e2,by rw[hca];exact hC]
theorem qz1{ks p f}(h0:0<=f)(h1:f<=ks.length):jJ (.tup (ks.map D.int++[.int p])) (.int f)=some (.int (nameAt ks p f)):=by
 refine ix_t h0 ?_;rw[show ks.map D.int++[D.int p]=(ks++[p]).map D.int by simp,Xq];unfold nameAt;rw[X9,X1 (by simp;lia)];rfl
theorem vjx{own k}:vq own k<=own+1:=by unfold vq;split<;>lia
theorem xkd{a0 a1 a2 a5 a6 a7 o3 o4 ks p P X}:Eo (cIf (tE (cF2 (pu2 Kz) (vV 3) (vV 4))) (JQ (vV 4) (vV 3)) (cF1 (pu1 qw) (vV 4)) [a0,a1,a2,some (o3,.int p),some (o4,iT ks),a5,a6,a7]) P X=P [a0,a1,a2,some (o3,.int p),some (o4,iT ks),a5,a6,a7] (.dp,.int (ks.findIdx λw=>w==p:Nat)):=by
 cases hp:(ks.any λw=>w==p)with|true=>simp![W6,hp,vv0 hp]|false=>simp![W6,hp,wxd hp]
theorem vz3{ai ss rs st kp gd room ks z p}(h0:0<=room)(hr:rs[room.toNat]?=some (.tup [kp,gd,.lst st]))(hc:Cas ai ss.length ks.length st)(hl:ks.length<=1000):
  Oo m_read_by [(.no,jv ss rs),(.no,.tup [.int room,iT ks]),(.no,.str z),(.no,.int p)] (λy=>y.2=Qw ss st ks z p) noX:=by
 have hi:jJ (.lst rs) (.int room)=some (.tup [kp,gd,.lst st]):=wZ h0 hr;have hif:=λa5 a6 a7 P=>@xkd (some (.no,jv ss rs)) (some (.no,.tup [.int room,iT ks])) (some (.no,.str z)) a5 a6 a7 .no .no ks p P noX
 unfold Qw m_read_by;generalize cIf _ _ _=I at hif ⊢;refine kJ ?_;cases hz:(ss.any λw=>w==z)with
 | false=>simp![p0,wj8,hz]
 | true=>
  obtain⟨cs,g1,g2,g3,g4⟩:=vjo p hc hz;have hx:jJ (.lst st) (.int (ss.findIdx λw=>w==z:Nat))=some (.lst cs):=wZ ⋯ (by rw[Ye];exact g1);have hy:jJ (.lst cs) (.int (ks.findIdx λw=>w==p:Nat))=some (Q8 ss st ks z p):=wZ ⋯ (by rw[Ye];exact g3);have ig:=vxa (a:=ks.map D.int) (b:=[.int p]) (by simp;lia);have mi:=wx5 hz;have hb:=vjx (own:=ks.length) (k:=(ks.findIdx λw=>w==p:Nat));generalize Q8 ss st ks z p=c at g4 hy;rw[Xb rfl];rcases g4 with rfl|⟨to,fs,rfl,t0',t1',vb,_⟩
  ·simp![p0,p1,wj8,hz,hi,t2,mi,hx,hif,hy];rfl
  ·simp![p0,p1,wj8,hz,hi,t2,mi,hx,hif,hy,ig];refine Vj [some (.no,.tup (ks.map D.int++[.int p]))] (λf y=>y.2=match f with|.int i=>.int (nameAt ks p i)|_=>.non) ?_;simp![p1];refine#[rfl,λf hf=>?_,λys hy=>?_]
   ·obtain⟨i,ly,rfl⟩:=aE hf;have:=vb i ly;simp![qz1 (ks:=ks) (p:=p) (f:=i) this.1 ⋯];exact#[#[_,rfl],trivial]
   ·rw[xX,ZV (h:=λf=>match f with|.int i=>.int (nameAt ks p i)|_=>.non) (λd y h=>h) hy,Xj,show(_∘D.int)=D.int∘nameAt ks p from rfl,<-Xj];simp only[back,clr,at',List.set_cons_zero,List.set_cons_succ];simp![tup_l (o:=.no) (xs:=(fs.map (nameAt ks p)).map D.int) ⋯];exact caseD_is.symm
theorem neg1:KQ (.int 1)=some (.int (-1)):=rfl
theorem vx6{xs c}(h0:0<=c)(h1:c<=xs.length):V2 xs none (some c)=xs.take c.toNat:=by
 unfold V2 WQ;dsimp only;rw[Xe ⋯,List.drop_zero,Nat.sub_zero,Nat.min_eq_left (Int.toNat_le.mpr h1)]
noncomputable def Ok2(ai:List Int)(s:D):Prop:=s=.non\/∃(room:Int) (ks:List Int),s=.tup [.int room,iT ks]/\0<=room/\room<ai.length/\(ks.length:Int)=ai.getD room.toNat 0
noncomputable def Rd(ai:List Int)(ss:List Str)(rs:List D)(s:D)(w:Str×Int)(s':D):Prop:=(s=.non/\s'=.non)\/∃(room:Int) (ks:List Int) (st:List D) (kp gd:D),s=.tup [.int room,iT ks]/\0<=room/\rs[room.toNat]?=some (.tup [kp,gd,.lst st])/\Cas ai ss.length ks.length st/\ks.length<=6/\s'=Qw ss st ks w.1 w.2
abbrev _root_.Abk(l:List Int):Prop:=∀p∈l,0<=p/\p<=3
theorem vkv{ai ss rs}{s} w (hP:Prs ai ss.length rs)(hk:Abk ai)(h:Ok2 ai s):∃s',Rd ai ss rs s w s'/\Ok2 ai s'/\((ss.any λz=>z==w.1)=false->s'=.non):=by
 rcases h with rfl|⟨room,ks,rfl,r0,r1,hl⟩
 ·exact#[.non,.inl #[rfl,rfl],.inl rfl,λ_=>rfl]
 ·obtain⟨r,er,gd,st,rfl,jb,dj⟩:=hP.2 room.toNat ⋯;have mf:=hk (ai.getD room.toNat 0) (by rw[X9,X1 ⋯];exact Y0 _);have vo:Cas ai ss.length ks.length st:=#[jb,by rw[hl];exact dj];refine#[Qw ss st ks w.1 w.2,.inr #[room,ks,st,_,_,rfl,r0,er,vo,⋯,rfl],?_,λhz=>?_]
  ·unfold Qw;cases hz:(ss.any λz=>z==w.1)with
   |false=>exact .inl rfl
   |true=>
    obtain⟨cs,g1,g2,g3,g4⟩:=vjo w.2 vo hz;rcases g4 with e|⟨to,fs,e,t0,t1,_,_,nw⟩
    ·rw[e];exact .inl rfl
    ·rw[e,caseD_is];exact .inr #[to,_,rfl,t0,t1,by rw[X3];exact nw]
  ·unfold Qw;rw[hz];rfl
theorem qkw{ai ss rs s s' w}(h:Rd ai ss rs s w s'):Oo m_read_by [(.no,jv ss rs),(.no,s),(.no,.str w.1),(.no,.int w.2)] (λy=>y.2=s') noX:=by
 rcases h with⟨rfl,rfl⟩|⟨room,ks,st,kp,gd,rfl,r0,er,hc,hl,rfl⟩
 ·refine kJ ?_;simp![]
 ·exact vz3 r0 er hc ⋯
noncomputable section
def wj(K:List D)(d:D):List D:=if d∈K then K else K++[d]
end
noncomputable section
end
end C
namespace B
open PySem Q
noncomputable def m_keepers_in:Fn:=fn 2
  (jw (cIf (tE (cF2 (pu2 fEq) (vV 1) (vE (cC (.int (-1)))))) (cC (.int 0)) (cH (jk (jk (jk (vV 0) (C9 1)) (vV 1)) (C9 0)))))
noncomputable def m_standing_in:Fn:=fn 2
  (jw (cIf (tE (cF2 (pu2 fEq) (vV 0) (vE (cC (.int (-1)))))) (cC .non) (kw .no [(cV 0),(cF1 xV (vV 1))])))
noncomputable def m_first_standings:Fn:=fn 7
  (j6 (jq 3 (jx m_keepers_in [(cV 0),(cH (jk (vV 2) (C9 0)))]))
  (j6 (jq 4 (cF1 Z9 (vE (cLC .rt 2 [] (itS (cH (jk (vV 2) (C9 2)))) (.t [0,1]) tYes (kw .no [(cV 1),(cV 0)])))))
  (j6 (jq 5 (kq .rt []))
  (j6 (vw (vW (vE (jx m_keepers_in [(cV 1),(cH (jk (vV 2) (C9 1)))]))) (.n 6) (qW qX 5 (cIf (tE (cF2 (pu2 XZ) (vV 6) (vV 4))) (cH (wza (vV 4) (vV 6))) (cF2 k4 (vV 3) (vE (cF1 (pu1 qw) (vE (cLC .rt 1 [3] (itV 5) (.n 0) (tE (cF2 (pu2 fGe) (vV 0) (vV 1))) (cV 0)))))))))
  (jw (kw .no [(jx m_standing_in [(cH (jk (vV 2) (C9 0))),(YQ (vV 3))]),(Vv m_standing_in [(jk (vV 2) (C9 1)),(vV 5)])]))))))
noncomputable def m_names_of:Fn:=fn 1
  (jw (cIf (tE (cF2 (f2First fIsNon) (vV 0) (vE (cC .non)))) (kw .no []) (cH (jk (vV 0) (C9 1)))))
noncomputable def m_room_of:Fn:=fn 1
  (jw (cIf (tE (cF2 (f2First fIsNon) (vV 0) (vE (cC .non)))) (cC (.int (-1))) (cH (jk (vV 0) (C9 0)))))
noncomputable def m_pair_of:Fn:=fn 4
  (j6 (jq 1 (jx m_names_of [(cH (jk (vV 0) (C9 0)))]))
  (j6 (jq 2 (jx m_names_of [(cH (jk (vV 0) (C9 1)))]))
  (j6 (jq 3 (cLC .rt 2 [2] (qzp (cV 1)) (.t [0,1]) (tE (cF2 (pu2 Kz) (vV 1) (vV 2))) (kw .no [(cV 0),(JQ (vV 2) (vV 1))])))
  (jw (kw .no [(jx m_room_of [(cH (jk (vV 0) (C9 0)))]),(jx m_room_of [(cH (jk (vV 0) (C9 1)))]),(cF1 xV (vV 3))])))))
noncomputable def m_read_by_both:Fn:=fn 5
  (jw (kw .no [(jx C.m_read_by [(cV 0),(cH (jk (vV 2) (C9 0))),(cV 3),(cV 4)]),(jx C.m_read_by [(cV 1),(cH (jk (vV 2) (C9 1))),(cV 3),(cV 4)])]))
noncomputable def m_held_by_both:Fn:=fn 2
  (j6 (jq 1 (jx m_names_of [(cH (jk (vV 0) (C9 0)))]))
  (jw (cF2 k4 (vV 1) (vE (cF1 xV (vE (cLC .rt 1 [1] (itS (jx m_names_of [(cH (jk (vV 0) (C9 1)))])) (.n 0) (tE (cF2 (pu2 J0) (vV 0) (vV 1))) (cV 0))))))))
noncomputable def m_is_good_in:Fn:=fn 2
  (jw (Jk (vE (cF2 (pu2 fNe) (vV 1) (vE (cC (.int (-1)))))) (cH (jk (jk (jk (vV 0) (C9 1)) (vV 1)) (C9 1)))))
end B
namespace B
open Q PySem C
abbrev Sn:=Option (Int×List Int)
def stn:Sn->D
 |none=>.non|some p=>.tup [.int p.1,iT p.2]
def nms:Sn->List Int
 |none=>[]|some p=>p.2
def rmO:Sn->Int
 |none=>-1|some p=>p.1
theorem kjb s:Oo m_names_of [(.no,stn s)] (λy=>y=(.no,iT (nms s))) noX:=by
 cases s with
 |none=>
  refine kJ ?_;simp![stn];rfl
 |some p=>
  refine kJ ?_;simp![stn,p1];rfl
theorem qws s:Oo m_room_of [(.no,stn s)] (λy=>∃o',y=(o',.int (rmO s))/\True) noX:=by
 cases s with
 |none=>
  refine kJ ?_;simp![stn];exact#[_,rfl,trivial]
 |some p=>
  refine kJ ?_;simp![stn,p0];exact#[_,rfl,trivial]
theorem wk8{ai am ss rs rs' s s' t t' w}(h:Rd ai ss rs s w s')(h':Rd am ss rs' t w t'):Oo m_read_by_both [(.no,jv ss rs),(.no,jv ss rs'),(.no,.tup [s,t]),(.no,.str w.1),(.no,.int w.2)] (λy=>y=(.no,.tup [s',t'])) noX:=by
 refine kJ ?_;simp![p0];refine(qkw h).via ?_;rintro ⟨o,d⟩ e;cases(show d=s' from e);simp![p1];refine(qkw h').via ?_;rintro ⟨o',d⟩ e;cases(e);simp![]
noncomputable def x3(o t:List Int):List Int:=o++t.filter λn=>!(o.any λw=>w==n)
theorem qz0{p}{ks:List Int}:J0 (.int p) (.tup (ks.map D.int))=some (.bl (!(ks.any λw=>w==p))):=by
 show W9 _ _=_;unfold W9;have:fIn _ (.tup _)=some (.bl (ks.any λw=>w==p)):=W6;rw[this];rfl
theorem qjz(a b)(ha:(nms a).length<=100)(hb:(nms b).length<=100):Oo m_held_by_both [(.no,.tup [stn a,stn b])] (λy=>y=(.no,iT (x3 (nms a) (nms b)))) noX:=by
 refine kJ ?_;simp![p0];refine(kjb a).via ?_;rintro _ rfl;simp![p1];refine QX (λE1 B ds aq=>E1=[some (Own.no,D.tup [stn a,stn b]),some (.no,iT (nms a))]/\∃q f1 f2,B=[q,some (.no,iT (nms a))]/\nms b=f1++f2/\ds=f2.map D.int/\aq.map (·.2)=(f1.filter λn=>!(nms a).any λw=>w==n).map D.int) ?_ ?_ ?_
 ·simp![p1];refine(kjb b).via ?_;rintro _ rfl;simp![];exact#[none,[],nms b,rfl,rfl,rfl,rfl]
 ·rintro E1 B d ds aq ⟨rfl,q,f1,f2,rfl,hf,bq,ba⟩;cases f2 with
  | nil=>cases bq
  | cons z f2=>
   injection bq with e1 e2;subst e1 e2;simp![qz0];cases hz:((nms a).any λw=>w==z)with
   |true=>
    refine#[_,f1++[z],f2,rfl,by rw[hf];simp,rfl,?_];rw[ba,Z0];simp[hz]
   |false=>
    refine#[_,f1++[z],f2,rfl,by rw[hf];simp,rfl,?_];rw[Xk,ba,Z0];simp[hz]
 ·rintro E1 B aq ⟨rfl,q,f1,f2,rfl,hf,bq,ba⟩;cases f2 with
  |cons=>grind
  |nil=>
   rw[Xn]at hf;subst hf;have gy:((nms b).filter λn=>!(nms a).any λw=>w==n).length<=100:=Xx (List.length_filter_le _ _) hb;rw[xX,ba];simp![Q.tup_l (o:=.no) (xs:=((nms b).filter λn=>!(nms a).any λw=>w==n).map D.int) ⋯,vxa (a:=(nms a).map D.int) (b:=((nms b).filter λn=>!(nms a).any λw=>w==n).map D.int) (by rw[X3,X3];lia)];unfold x3 iT;rw[Xk]
noncomputable def vZ(t:List Int):Nat->List Int->List (Int×Int)
 |_,[]=>[]|k,n::o=>if(t.any λw=>w==n)=true then((k:Int),((t.findIdx λw=>w==n:Nat):Int))::vZ t (k+1) o else vZ t (k+1) o
abbrev prs(l:List (Int×Int)):List D:=l.map λp=>.tup [.int p.1,.int p.2]
noncomputable def qV(a b:Sn):D:=.tup [.int (rmO a),.int (rmO b),.tup (prs (vZ (nms b) 0 (nms a)))]
theorem qvf(a b)(ha:(nms a).length<=100)(hb:(nms b).length<=100):Oo m_pair_of [(.no,.tup [stn a,stn b])] (λy=>y=(.no,qV a b)) noX:=by
 refine kJ ?_;simp![p0,p1];refine(kjb a).via ?_;rintro _ rfl;simp![p0,p1];refine(kjb b).via ?_;rintro _ rfl;simp![];refine QX (λE1 B ds aq=>E1=[some (Own.no,D.tup [stn a,stn b]),some (Own.no,iT (nms a)),some (Own.no,iT (nms b)),none]/\∃(q0 q1:Option Sd) (f1 f2:List Int),B=[q0,q1,some (.no,iT (nms b))]/\nms a=f1++f2/\ds=zw f1.length (f2.map D.int)/\aq.map (·.2)++prs (vZ (nms b) f1.length f2)=prs (vZ (nms b) 0 (nms a))) ?_ ?_ ?_
 ·simp![↓qwb,show vkj (iT (nms a))=some ((nms a).map D.int)from rfl];exact#[none,none,[],nms a,rfl,rfl,rfl,rfl]
 ·rintro E1 B d ds aq ⟨rfl,q0,q1,f1,f2,rfl,hf,bq,ba⟩;cases f2 with
  | nil=>cases bq
  | cons z f2=>
   injection bq with e1 e2;subst e1 e2;simp![W6];have fj:(f1++[z]).length=f1.length+1:=by simp
   cases hz:((nms b).any λw=>w==z)with
   |false=>
    refine#[_,_,f1++[z],f2,rfl,by rw[hf];simp,by rw[fj],?_];rw[<-ba,fj]
    conv=>rhs;unfold vZ
    rw[hz,Xe ⋯]
   |true=>
    simp![vv0 hz];refine#[_,_,f1++[z],f2,rfl,by rw[hf];simp,by rw[fj],?_];rw[<-ba,fj,Xk,Xv]
    conv=>rhs;unfold vZ
    rw[hz,Xb rfl];rfl
 ·rintro E1 B aq ⟨rfl,q0,q1,f1,f2,rfl,hf,bq,ba⟩;cases f2 with
  |cons=>cases bq
  |nil=>
   have ba:aq.map (·.2)=prs (vZ (nms b) 0 (nms a)):=by rw[<-ba];simp[vZ]
   rw[xX,ba,show JV 2 [2] [q0,q1,some (Own.no,iT (nms b))] [some (Own.no,D.tup [stn a,stn b]),some (Own.no,iT (nms a)),some (Own.no,iT (nms b)),none]=[some (Own.no,D.tup [stn a,stn b]),some (Own.no,iT (nms a)),some (Own.no,iT (nms b)),none]from rfl];simp![p0,p1];refine(qws a).use ?_;intro o1 _;simp![p0,p1];refine(qws b).use ?_;intro o2 _;simp![Q.tup_l (o:=.rt) (xs:=prs (vZ (nms b) 0 (nms a))) ⋯];rfl
noncomputable def Kpr(rs:List D)(room k:Int):Prop:=(room=-1/\k=0)\/(0<=room/\∃g st,rs[room.toNat]?=some (.tup [.int k,g,st]))
theorem eqi{a b k}(h:(a==b)=k):fEq (.int a) (.int b)=some (.bl k):=by rw[<-h];rfl
theorem kqn{ss rs room k}(h:Kpr rs room k):Oo m_keepers_in [(.no,jv ss rs),(.no,.int room)] (λy=>∃o',y=(o',.int k)/\True) noX:=by
 refine kJ ?_;rcases h with⟨rfl,rfl⟩|⟨h0,g,st,hr⟩
 ·simp![eqi rfl];exact#[_,rfl,trivial]
 ·have cp:(room == -1)=false:=Xu ⋯;simp![p1,eqi cp,(wZ h0 hr),show jJ (.tup [.int k,g,st]) (.int 0)=some _ from rfl];exact#[_,rfl,trivial]
noncomputable def KK(room:Int)(ks:List Int):Sn:=if room=-1 then none else some (room,ks)
theorem kjj room ks o (ho:o≠.dp):Oo m_standing_in [(.no,.int room),(o,iL ks)] (λy=>∃o',y=(o',stn (KK room ks))/\True) noX:=by
 unfold m_standing_in KK;refine kJ ?_
 by_cases h:room=-1
 ·subst h;simp![eqi rfl];exact#[_,rfl,trivial]
 ·have cp:_=false:=Xu h;rw[Xe h];simp![eqi cp,Q.tup_l ho];exact#[_,rfl,trivial]
noncomputable def nmF(own:Int)(kv:List (Int×Int)):Nat->List Int
 |0=>[]
 |n+1=>nmF own kv n++[match qz kv n with
  |some i=>i
  |none=>own+((nmF own kv n).filter λx=>decide (own<=x)).length]
theorem jze:∀(ks:List Int),D.pures (ks.map D.int)=true
 |[]=>rfl
 |k::ks=>by
  rw[List.map_cons];unfold D.pures;rw[jze ks];rfl
theorem kja own kv n:nmF own kv (n+1)=nmF own kv n++[match qz kv n with|some i=>i|none=>own+((nmF own kv n).filter λx=>decide (own<=x)).length]:=rfl
theorem vw8 k:k8 0 k=(((List.range k.toNat).map λ(i:Nat)=>(i:Int)).map D.int):=by
 unfold k8;rw[Xj,Int.sub_zero];refine Yw λi _=>?_
 show D.int _=D.int i;rw[Int.zero_add]
theorem vq4 s:(stn s).pure=true:=by
 cases s with
 |none=>rfl
 |some p=>
  show D.pures [.tup _]=true;simp only[D.pures,D.pure,jze,Bool.and_self]
theorem kk3(own)(kv):∀n,(nmF own kv n).length=n
 |0=>rfl|n+1=>by unfold nmF;rw[Xi,kk3 own kv n];rfl
noncomputable def kvS(sh:List (Int×Int)):List (Int×Int):=(sh.map λp=>(p.2,p.1)).foldl (λkv p=>wq kv p.1 p.2) []
theorem vv6 {ss rs rs' p q k k' sh} (hp:Kpr rs p k) (hq:Kpr rs' q k') (hk:0<=k) (mq:k<=100) (bi:0<=k') (hk2':k'<=100) (hsh:sh.length<=100):
  Oo m_first_standings [(.no,jv ss rs),(.no,jv ss rs'),(.no,.tup [.int p,.int q,.tup (prs sh)])] (λy=>y=(.no,.tup [stn (KK p ((List.range k.toNat).map λ(i:Nat)=>(i))),stn (KK q (nmF k (kvS sh) k'.toNat))])) noX:=by
 refine kJ ?_;simp![t0,t1,t2];refine (kqn hp).use ?_;intro o1 _;simp![t0,t1,t2];refine QX (λE1 B ds aq=>E1=[some (Own.no,jv ss rs),some (Own.no,jv ss rs'),some (Own.no,D.tup [D.int p,D.int q,D.tup (prs sh)]),some (o1,D.int k),none,none,none]/\∃(q0 q1:Option Sd) (f1 f2:List (Int×Int)),B=[q0,q1]/\sh=f1++f2/\ds=prs f2/\aq.map (·.2)=prs (f1.map λp=>(p.2,p.1))) ?_ ?_ ?_
 ·simp![t2];exact #[none,none,[],sh,rfl,rfl,rfl,rfl]
 ·rintro E1 B d ds aq ⟨rfl,q0,q1,f1,f2,rfl,hf,bq,ba⟩;cases f2 with
  | nil=>cases bq
  | cons z f2=>
   have bq:d::ds=.tup [.int z.1,.int z.2]::prs f2:=bq;injection bq with e1 e2;subst e1 e2;simp![];refine#[_,_,f1++[z],f2,rfl,by rw[hf];simp,rfl,?_];rw [Xk,ba,Xk];simp [prs]
 ·rintro E1 B aq ⟨rfl,q0,q1,f1,f2,rfl,hf,bq,ba⟩;cases f2 with
  | cons=>cases bq
  | nil =>
   rw [Xn]at hf;subst hf;rw [xX,ba,show JV 2 [] [q0,q1] [some (Own.no,jv ss rs),some (Own.no,jv ss rs'),some (Own.no,D.tup [D.int p,D.int q,D.tup (prs sh)]),some (o1,D.int k),none,none,none]=[some (Own.no,jv ss rs),some (Own.no,jv ss rs'),some (Own.no,D.tup [D.int p,D.int q,D.tup (prs sh)]),some (o1,D.int k),none,none,none]from rfl];have fh:Z9 (Own.no,D.lst (prs (sh.map λp=>(p.2,p.1))))=some (.rt,wv (kvS sh)):=wxl (by rw[X3];lia);simp![fh];refine wX (λE ao=>∃(j:Int) (l6:Option Sd),E=[some (Own.no,jv ss rs),some (Own.no,jv ss rs'),some (Own.no,D.tup [D.int p,D.int q,D.tup (prs sh)]),some (o1,D.int k),some (.rt,wv (kvS sh)),some (.rt,iL (nmF k (kvS sh) j.toNat)),l6]/\0<=j/\j<=k'/\ao=k8 j k') ?_ ?_ ?_
   ·simp![t0,t1,t2];refine(kqn hq).use ?_;intro o2 _;simp![];exact#[0,_,rfl,⋯,bi,rfl]
   ·rintro E d ds ⟨j,l6,rfl,j0,j1,hr⟩;obtain⟨hj,rfl,rfl⟩:=zY j1 hr;have xm:(j+1).toNat=j.toNat+1:=⋯
    have uf:((j.toNat:Nat):Int)=j:=⋯
    simp![];refine xY rfl ?_;cases hv:qz (kvS sh) j with
    | some v=>
     simp![↓wkw,wx4,xke hv,hv,Option.isSome_some];refine#[_,rfl,by rw[X3,kk3];lia,j+1,some (.no,.int j),?_,⋯,⋯,rfl];rw [xm,kja,uf,hv];simp
    | none=>
     simp![↓wkw,wx4,hv,Option.isSome_none];have hge:∀z,fGe (.int z) (.int k)=some (.bl (decide (k<=z))):=λz=>rfl
     refine QX (λE1 B ds aq=>E1=[some (Own.no,jv ss rs),some (Own.no,jv ss rs'),some (Own.no,D.tup [D.int p,D.int q,D.tup (prs sh)]),some (o1,D.int k),some (.rt,wv (kvS sh)),some (.rt,iL (nmF k (kvS sh) j.toNat)),some (.no,.int j)]/\∃(q0:Option Sd) (f1 f2:List Int),B=[q0,some (o1,.int k)]/\nmF k (kvS sh) j.toNat=f1++f2/\ds=f2.map D.int/\aq.map (·.2)=(f1.filter λx=>decide (k<=x)).map D.int) ?_ ?_ ?_
     ·exact v_is rfl (jze _) (#[rfl,none,[],_,rfl,rfl,rfl,rfl])
     ·rintro E1 B d ds aq ⟨rfl,q0,f1,f2,rfl,hf,bq,ba⟩;cases f2 with
      | nil=>cases bq
      | cons z f2=>
       rw[List.map_cons]at bq;injection bq with e1 e2;subst e1 e2;simp![hge]
       by_cases hz:k<=z
       ·have kt:decide (k<=z)=true:=Xh hz;simp![kt];refine#[_,f1++[z],f2,rfl,by rw[hf];simp,rfl,?_];rw[Xk,ba,Z0];simp[hz]
       ·have kt:decide (k<=z)=false:=Xp hz;simp![kt];refine#[_,f1++[z],f2,rfl,by rw[hf];simp,rfl,?_];rw[ba,Z0];simp[hz]
     ·rintro E1 B aq ⟨rfl,q0,f1,f2,rfl,hf,bq,ba⟩;cases f2 with
      |cons=>cases bq
      |nil=>
       rw[Xn]at hf;rw[xX,ba,<-hf];simp![];refine#[_,rfl,by rw[X3,kk3];lia,j+1,some (.no,.int j),?_,⋯,⋯,rfl];rw[xm,kja,uf,hv];have:∀l (v),l.map D.int++[D.int v]=(l++[v]).map D.int:=λl v=>by simp
       rw[this];rfl
   ·rintro E ⟨j,l6,rfl,j0,j1,hr⟩;have:=zV j1 hr;subst this;simp![t0,t1,t2];rw[vw8];refine(kjj p ((List.range k.toNat).map λ(i:Nat)=>(i)) .no ⋯).use ?_;intro o3 _;simp![t0,t1,t2];refine(kjj q (nmF k (kvS sh) j.toNat) .no ⋯).use ?_;intro o4 _;refine#[vq4 _,?_];simp![]
abbrev YW(k:Int):List Int:=(List.range k.toNat).map λ(i:Nat)=>(i:Int)
def xv0(p k:Int):Sn:=KK p (YW k)
noncomputable def wxb(q k k':Int)(sh:List (Int×Int)):Sn:=KK q (nmF k (kvS sh) k'.toNat)
section
variable {f:Int->Int}
noncomputable def kZ(ai:List Int)(s:Sn):Prop:=∀room ks,s=some (room,ks)->0<=room/\room<ai.length/\(ks.length:Int)=ai.getD room.toNat 0
end
end B
namespace B
open PySem Q
noncomputable def m__law_cell_at:Fn:=fn 2
  (j6 (sIf (tE (cF2 (pu2 fLt) (vV 1) (vE (cF1 (pu1 qw) (vV 0))))) (jw (cH (jk (vV 0) (vV 1)))) k9)
  (jw (cC (.int 0))))
noncomputable def m__law_whole:Fn:=fn 1
  (jw (Jk (vE (cF1 (pu1 (qj "int")) (vV 0))) (vjw (vE (cF1 (pu1 (qj "bool")) (vV 0))))))
noncomputable def m__law_stream:Fn:=fn 5
  (j6 (jq 2 (kq .rt []))
  (j6 (sIf (tE (cF2 (pu2 fEq) (vE (cF2 (pu2 qv) (vV 0) (C9 2))) (C9 1))) (j6 (jq 0 (cF2 (pu2 xk) (vV 0) (C9 2)))
  (j6 (vw (vW (vV 1)) (.n 3) (j6 (qW qX 2 (cF2 (pu2 qv) (vV 0) (C9 2147483647)))
  (jq 0 (cF2 (pu2 xk) (vV 0) (C9 2147483647)))))
  (jw (cMv 2)))) k9)
  (j6 (jq 4 (cF2 k4 (vE (cF2 (pu2 qv) (vE (cF2 (pu2 xk) (vV 0) (C9 2))) (C9 2147483647))) (C9 48271)))
  (j6 (vw (vW (vE (cF2 k4 (vV 1) (C9 1)))) (.n 3) (j6 (jq 4 (cF2 (pu2 qv) (vE (cF2 k4 (vE (cF2 k4 (vE (cF2 K8 (vV 4) (vV 4))) (vE (cF2 K8 (C9 48271) (vV 4))))) (vV 3))) (C9 2147483647)))
  (qW qX 2 (cF2 (pu2 qv) (vE (cF2 k4 (vE (cF2 K8 (vV 4) (C9 40692))) (vE (cF2 K8 (C9 7) (vV 3))))) (C9 2147483399)))))
  (jw (cSl (vV 2) (some (C9 1)) none))))))
noncomputable def m__law_signs:Fn:=fn 7
  (j6 (jq 1 (cC (.str "abcdefghijklmnopqrstuvwxyz")))
  (j6 (jq 2 (jx m__law_stream [(cV 0),(cC (.int 9))]))
  (j6 (jq 3 (vvn "" (vE (cLC .rt 1 [1] (itS (cSl (vV 2) none (some (vE (cF2 k4 (C9 1) (vE (cF2 (pu2 qv) (vV 0) (C9 8)))))))) (.n 0) tYes (cH (jk (vV 1) (vE (cF2 (pu2 qv) (vV 0) (C9 26)))))))))
  (j6 (jq 4 (cF2 (pu2 qv) (vE (cF2 (pu2 xk) (vV 0) (C9 8))) (vE (cF1 (pu1 qw) (vV 3)))))
  (j6 (jq 5 (kq .rt []))
  (j6 (vw (vW (jk (vE (kq .rt [(cC (.int 1)),(cC (.int 2)),(cC (.int 1)),(cC (.int 2)),(cC (.int 2)),(cC (.int 1)),(cC (.int 2)),(cC (.int 3))])) (vE (cF2 (pu2 qv) (vE (cF2 (pu2 xk) (vV 0) (C9 64))) (C9 8))))) (.n 6) (qW qX 5 (cF2 k4 (vE (cF2 k4 (vE (cSl (vV 3) none (some (vV 4)))) (jk (vV 1) (vE (cF2 k4 (vE (cF2 (pu2 qv) (jk (vV 2) (C9 8)) (C9 24))) (vV 6)))))) (vE (cSl (vV 3) (some (vE (cF2 k4 (vV 4) (C9 1)))) none)))))
  (jw (cMv 5))))))))
noncomputable def m__law_fills:Fn:=fn 6
  (j6 (jq 3 (YQ (vV 2)))
  (j6 (jq 4 (kq .rt []))
  (j6 (vw (vW (vV 1)) (.n 5) (j6 (qW qX 4 (wxo 3 (vE (cF2 (pu2 qv) (vV 0) (vE (cF1 (pu1 qw) (vV 3)))))))
  (jq 0 (cF2 k4 (vE (cF2 (pu2 xk) (vV 0) (C9 7))) (vE (cF2 K8 (C9 5) (vV 5)))))))
  (jw (cF1 xV (vV 4))))))
noncomputable def m__law_case:Fn:=fn 5
  (j6 (sIf (tE (cF2 (pu2 fEq) (vE (cF2 (pu2 qv) (vV 0) (C9 5))) (C9 4))) (jw (cC .non)) k9)
  (j6 (jq 3 (cLC .rt 1 [1,2] (vW (vE (cF1 (pu1 qw) (vV 1)))) (.n 0) (tE (cF2 (pu2 fLe) (jk (vV 1) (vV 0)) (vV 2))) (cV 0)))
  (j6 (jq 4 (cH (jk (vV 3) (vE (cF2 (pu2 qv) (vE (cF2 (pu2 xk) (vV 0) (C9 5))) (vE (cF1 (pu1 qw) (vV 3))))))))
  (jw (kw .no [(cV 4),(jx m__law_fills [(cF2 (pu2 xk) (vV 0) (C9 35)),(cH (jk (vV 1) (vV 4))),(cV 2)])])))))
noncomputable def m__law_plain:Fn:=fn 13
  (j6 (jq 2 (jx m__law_stream [(cV 0),(cC (.int 90))]))
  (j6 (jq 3 (cH (jk (vE (kq .rt [(cC (.int 1)),(cC (.int 2)),(cC (.int 3)),(cC (.int 4)),(cC (.int 5)),(cC (.int 2)),(cC (.int 4)),(cC (.int 6))])) (vE (cF2 (pu2 qv) (jk (vV 2) (C9 0)) (C9 8))))))
  (j6 (jq 4 (cC (.int 2)))
  (j6 (sIf (tAnd (tE (cF2 (pu2 fEq) (vV 3) (C9 3))) (tE (cF2 (pu2 fEq) (vE (cF2 (pu2 qv) (jk (vV 2) (C9 1)) (C9 3))) (C9 0)))) (jq 4 (cC (.int 3))) k9)
  (j6 (jq 5 (cF2 k4 (vE (kq .rt [(cC (.int 0))])) (vE (cLC .rt 1 [2,4] (vW (vE (cF2 (pu2 wzk) (vV 3) (C9 1)))) (.n 0) tYes (cF2 (pu2 qv) (vE (cF2 (pu2 xk) (jk (vV 1) (vE (cF2 k4 (C9 1) (vV 0)))) (C9 3))) (vE (cF2 k4 (vV 2) (C9 1))))))))
  (j6 (jq 6 (kq .rt []))
  (j6 (jq 7 (cC (.int 8)))
  (j6 (vw (vW (vV 3)) (.n 8) (j6 (jq 9 (kq .rt []))
  (j6 (vw (vW (vE (cF1 (pu1 qw) (vV 1)))) (.n 10) (j6 (jq 11 (kq .rt []))
  (j6 (vw (vW (vE (cF2 k4 (jk (vV 5) (vV 8)) (C9 1)))) (.n 12) (j6 (qW qX 11 (jx m__law_case [(cH (jk (vV 2) (vV 7))),(cV 5),(cF2 k4 (jk (vV 5) (vV 8)) (vE (cF1 (pu1 JK) (vE (cF2 (pu2 fEq) (vV 12) (jk (vV 5) (vV 8)))))))]))
  (jq 7 (cF2 k4 (vV 7) (C9 1)))))
  (qW qX 9 (cV 11)))))
  (j6 (qW qX 6 (kw .no [(cH (jk (vV 5) (vV 8))),(cF2 (pu2 fEq) (vE (cF2 (pu2 qv) (jk (vV 2) (vV 7)) (C9 2))) (C9 0)),(cV 9)]))
  (jq 7 (cF2 k4 (vV 7) (C9 1)))))))
  (jw (kw .no [(cF1 K6 (vV 1)),(cV 6)]))))))))))
noncomputable def m__law_read:Fn:=fn 11
  (j6 (sIf (tE (cF2 (f2First fIsNon) (vV 1) (vE (cC .non)))) (jw (cC .non)) k9)
  (j6 (Wj [4,5] (cV 1))
  (j6 (Wj [6,7,8] (cH (jk (jk (vV 0) (C9 1)) (vV 4))))
  (j6 (jq 9 (cV 6))
  (j6 (sIf (tE (cF2 (pu2 Kz) (vV 3) (vV 5))) (jq 9 (JQ (vV 5) (vV 3))) k9)
  (j6 (jq 10 (cH (jk (jk (vV 8) (vE (JQ (jk (vV 0) (C9 0)) (vV 2)))) (vV 9))))
  (j6 (sIf (tE (cF2 (f2First fIsNon) (vV 10) (vE (cC .non)))) (jw (cC .non)) k9)
  (jw (kw .no [(cH (jk (vV 10) (C9 0))),(cF1 xV (vE (cLC .rt 1 [5,3] (itS (cH (jk (vV 10) (C9 1)))) (.n 0) tYes (cH (jk (vE (cF2 k4 (vE (cF1 K6 (vV 1))) (vE (kq .rt [(cV 2)])))) (vV 0))))))])))))))))
noncomputable def m__law_keepers:Fn:=fn 2
  (j6 (sIf (tE (cF2 (pu2 fEq) (vV 1) (vE (cF1 (pu1 KQ) (C9 1))))) (jw (cC (.int 0))) k9)
  (jw (cH (jk (jk (jk (vV 0) (C9 1)) (vV 1)) (C9 0)))))
noncomputable def m__law_pair:Fn:=fn 7
  (j6 (jq 2 (kq .rt [(kw .no []),(kw .no [])]))
  (j6 (jq 3 (kq .rt [(cF1 (pu1 KQ) (C9 1)),(cF1 (pu1 KQ) (C9 1))]))
  (j6 (vw (wwy (kq .rt [(cV 0),(cV 1)])) (.t [4,5]) (sIf (tE (cF2 (f2First fNotNon) (vV 5) (vE (cC .non)))) (j6 (wql 3 (vV 4) (cH (jk (vV 5) (C9 0))))
  (wql 2 (vV 4) (cH (jk (vV 5) (C9 1))))) k9))
  (j6 (jq 6 (cLC .rt 2 [2] (qzp (cH (jk (vV 2) (C9 0)))) (.t [0,1]) (tE (cF2 (pu2 Kz) (vV 1) (jk (vV 2) (C9 1)))) (kw .no [(cV 0),(JQ (jk (vV 2) (C9 1)) (vV 1))])))
  (jw (kw .no [(cH (jk (vV 3) (C9 0))),(cH (jk (vV 3) (C9 1))),(cF1 xV (vV 6))]))))))
end B
namespace B
open Q PySem C
theorem vwt{f xs P}(h:Oo f xs P noX):∃y,P y/\Oo f xs (λy'=>y'=y) noX:=by
 unfold Oo at h ⊢;cases hf:f xs with
 |none=>rw[hf]at h;exact absurd (show False by exists h) id
 |some r=>
  rw[hf]at h;cases r with|ok E y=>exact#[y,by with_unfolding_all exact h,by exists rfl]|exc E c=>grind
def vX(ns:List Int)(k:Nat):Int:=ns.getD k 0
theorem wk1 ns (k:Nat)(hn:ns.length<=10000):Oo m__law_cell_at [(.no,iL ns),(.no,.int k)] (λy=>∃o',y=(o',.int (vX ns k))/\True) noX:=by
 refine kJ ?_;simp![]
 by_cases h:(k:Int)<ns.length
 ·have hx:jJ (iL ns) (.int k)=some (.int (vX ns k)):=by
   refine wZ ⋯ ?_;unfold vX;rw[Ye,Xq,X9,X1 ⋯];rfl
  have hd:=Xh h;rw[Xb hd];simp![hx];exact#[_,rfl,trivial]
 ·have hd:¬decide ((k:Int)<ns.length)=true:=by rw[Xp h];decide
  rw[Xe hd];refine#[.dp,?_,trivial];rw[show vX ns k=0 by unfold vX;rw[X9,List.getElem?_eq_none ⋯];rfl]
theorem whole_int i:Oo m__law_whole [(.no,.int i)] (λy=>∃o',y=(o',.bl true)/\True) noX:=by
 refine kJ ?_;simp![show qj "int" (.int i)=some (.bl true)from rfl,show qj "bool" (.int i)=some _ from rfl];exact#[_,rfl,trivial]
noncomputable def St(n:Int)(xs:List Int):Prop:=(xs.length:Int)=n/\∀x∈xs,0<=x/\x<2147483647
theorem kji(c n)(hn:0<=n)(hn2:n<=100):Oo m__law_stream [(.no,.int c),(.no,.int n)] (λy=>∃xs,y=(.rt,iL xs)/\St n xs) noX:=by
 refine kJ ?_
 by_cases h:c % 2=1
 ·have hd:(c % 2==1)=true:=by simp[h]
  simp![eqi hd];refine wX (λE ao=>∃(j v:Int) (xs:List Int) (l3:Option Sd),E=[some (.dp,.int v),some (.no,.int n),some (.rt,iL xs),l3,none]/\0<=j/\j<=n/\ao=k8 j n/\St j xs) ?_ ?_ ?_
  ·simp![];exact#[0,_,[],_,rfl,⋯,hn,rfl,rfl,λ_ z=>nomatch z]
  ·rintro E d ds ⟨j,v,xs,l3,rfl,j0,j1,hr,hx⟩;obtain⟨hj,rfl,rfl⟩:=zY j1 hr;simp![];refine xY rfl ?_;simp![];refine#[_,rfl,by rw[X3];have:=hx.1;lia,(#[j+1,v / 2147483647,xs++[v % 2147483647],some (.no,.int j),by simp,⋯,⋯,rfl,by have:=hx.1;simp;lia,λx hm=>?_])];rcases aA hm with z|z
   ·exact hx.2 x z
   ·rw[aC z];lia
  ·rintro E ⟨j,v,xs,l3,rfl,j0,j1,hr,hx⟩;have:=zV j1 hr;subst this;simp![];exact#[xs,rfl,hx]
 ·have hd:(c % 2==1)=false:=Xu h;simp![eqi hd];refine wX (λE ao=>∃(j v:Int) (xs:List Int) (l3:Option Sd),E=[some (.no,.int c),some (.no,.int n),some (.rt,iL xs),l3,some (.dp,.int v)]/\0<=j/\j<=n+1/\ao=k8 j (n+1)/\St j xs/\0<=v/\v<4294967296) ?_ ?_ ?_
  ·simp![];exact#[0,_,[],_,rfl,⋯,⋯,rfl,#[rfl,λ_ z=>nomatch z],⋯,⋯]
  ·rintro E d ds ⟨j,v,xs,l3,rfl,j0,j1,hr,hx,v0,v1⟩;obtain⟨hj,rfl,rfl⟩:=zY j1 hr;have hm:=mul_l (o1:=.dp) (o2:=.dp) (a:=v) (b:=v) ⋯ ⋯;simp![hm];generalize hw:(v*v+48271*v+j) % 2147483647=u;refine xY rfl ?_;simp![(mul_l (o1:=.dp) (o2:=.dp) (a:=u) (b:=40692) ⋯ ⋯)];refine#[_,rfl,by rw[X3];have:=hx.1;lia,(#[j+1,u,xs++[(u*40692+7*j) % 2147483399],some (.no,.int j),by simp,⋯,⋯,rfl,#[by have:=hx.1;simp;lia,λx hm=>?_],⋯,⋯])];rcases aA hm with z|z
   ·exact hx.2 x z
   ·grind
  ·rintro E ⟨j,v,xs,l3,rfl,j0,j1,hr,hx,v0,v1⟩;have:=zV j1 hr;simp![vxt (o:=.rt) (xs:=xs.map D.int) (lo:=some 1) (hi:=none) ⋯];have hl:=hx.1;have hcut:V2 (xs.map D.int) (some 1) none=(xs.drop 1).map D.int:=by
    unfold V2 WQ;dsimp only;rw[Xe ⋯,X3,show min (1:Int).toNat xs.length=1 by show min 1 xs.length=1;lia,<-List.map_drop,List.take_of_length_le (by rw[X3,List.length_drop];lia)]
   rw[hcut];exact#[xs.drop 1,rfl,by rw[List.length_drop];lia,λx hm=>hx.2 x (List.mem_of_mem_drop hm)]
theorem qwu n:((List.range n).map λ(j:Nat)=>(j:Int)).Nodup:=List.Pairwise.map _ (λa b h e=>h ⋯) List.nodup_range
theorem qqv(x need free)(h0:0<=need)(h1:need<=free)(h2:free<=100):Oo m__law_fills [(.no,.int x),(.no,.int need),(.no,.int free)] (λy=>∃fs:List Int,y=(.no,.tup (fs.map D.int))/\(fs.length:Int)=need/\(∀f∈fs,0<=f/\f<free)/\fs.Nodup) noX:=by
 refine kJ ?_;simp![];rw[vw8];refine wX (λE ao=>∃(j v:Int) (o:Own) (sm fl:List Int) (l5:Option Sd),E=[some (o,.int v),some (.no,.int need),some (.no,.int free),some (.rt,iL sm),some (.rt,iL fl),l5]/\0<=j/\j<=need/\ao=k8 j need/\(fl.length:Int)=j/\(sm.length:Int)+fl.length=free/\(fl++sm).Nodup/\∀f∈fl++sm,0<=f/\f<free) ?_ ?_ ?_
 ·simp![];refine#[0,x,.no,(List.range free.toNat).map λ(j:Nat)=>(j),[],none,rfl,⋯,h0,rfl,rfl,?_,?_,?_]
  ·simp;lia
  ·rw[List.nil_append];exact qwu _
  ·intro f hf;obtain⟨j,hj,rfl⟩:=aE hf;have:=List.mem_range.mp hj;lia
 ·rintro E d ds ⟨j,v,o,sm,fl,l5,rfl,j0,j1,hr,hl,hs,hn,hm⟩;obtain⟨hj,rfl,rfl⟩:=zY j1 hr;have u1:=Xw v (show(0:Int)<sm.length by lia);have hi:(v % sm.length).toNat<sm.length:=⋯
  simp![];refine xY rfl (wvo rfl ?_);simp![mod_i (b:=(sm.length:Int)) _];refine#[.rt,_,_,.int _,rfl,⋯,rfl,(Y7 v (show _≠0 by lia)),⋯,by rw[Xq,X1 hi];rfl,rfl,?_];refine#[_,rfl,by rw[X3];lia,?_];have pm:(fl++[sm[(v % sm.length).toNat]]++sm.eraseIdx (v % sm.length).toNat).Perm (fl++sm):=by
   rw[Xv];exact List.Perm.append_left fl (kqu hi)
  refine#[j+1,v / 7+5*j,.dp,sm.eraseIdx (v % sm.length).toNat,fl++[sm[(v % sm.length).toNat]],some (.no,.int j),?_,⋯,⋯,rfl,?_,?_,pm.nodup_iff.mpr hn,λf hf=>hm f (pm.mem_iff.mp hf)]
  ·simp only[iL,Xk,List.map_cons,List.map_nil,kz8]
  ·rw[Xi];simp;lia
  ·rw[List.length_eraseIdx_of_lt hi,Xi];simp;lia
 ·rintro E ⟨j,v,o,sm,fl,l5,rfl,j0,j1,hr,hl,hs,hn,hm⟩;have:=zV j1 hr;subst this;simp![Q.tup_l (o:=.rt) (xs:=fl.map D.int) ⋯];exact#[fl,rfl,hl,λf hf=>hm f (ll9 _ hf),(List.nodup_append.mp hn).1]
theorem vvj(x free)(ai)(hk:Abk ai)(nq:ai[0]?=some 0)(hl:ai.length<=100)(hf:0<=free)(u9:free<=100):Oo m__law_case [(.no,.int x),(.no,iL ai),(.no,.int free)] (λy=>Cs ai free y.2) noX:=by
 have av:0<ai.length:=by
  cases ai with| nil=>cases nq| cons=>simp
 refine kJ ?_
 by_cases h:x % 5=4
 ·have hd:(x % 5==4)=true:=by simp[h]
  simp![eqi hd];exact .inl rfl
 ·have hd:(x % 5==4)=false:=Xu h;simp![eqi hd];refine QX (λE1 B ds aq=>E1=[some (.no,.int x),some (.no,iL ai),some (.no,.int free),none,none]/\∃(j:Int) (q0:Option Sd) (fl:List Int),B=[q0,some (.no,iL ai),some (.no,.int free)]/\0<=j/\j<=ai.length/\ds=k8 j ai.length/\aq.map (·.2)=fl.map D.int/\(∀t∈fl,0<=t/\t<ai.length/\ai.getD t.toNat 0<=free)/\(0<j->fl≠[])/\(fl.length:Int)<=j) ?_ ?_ ?_
  ·simp![];exact#[0,none,[],rfl,⋯,⋯,rfl,rfl,λ_ z=>(nomatch z),λz=>absurd z ⋯,by simp]
  ·rintro E1 B d ds aq ⟨rfl,j,q0,fl,rfl,j0,j1,hr,ba,nw,cp,gy⟩;obtain⟨hj,rfl,rfl⟩:=zY j1 hr;have hjl:j.toNat<ai.length:=⋯
   have hx:jJ (iL ai) (.int j)=some (.int (ai.getD j.toNat 0)):=wZ j0 (by rw[Xq,X1 hjl,X9,X1 hjl];rfl)
   by_cases hz:ai.getD j.toNat 0<=free
   ·have kt:decide (ai.getD j.toNat 0<=free)=true:=Xh hz;simp![hx,kt];refine#[j+1,_,fl++[j],rfl,⋯,⋯,rfl,by rw[Xk,Xk,ba];rfl,λt ht=>?_,λ_=>by simp,by simp;lia];rcases aA ht with q|q
    ·exact nw t q
    ·rw[aC q];exact#[j0,⋯,hz]
   ·have kt:decide (ai.getD j.toNat 0<=free)=false:=Xp hz;have hj0:0<j:=by
     rcases Int.lt_or_eq_of_le j0 with q|q
     ·exact q
     ·subst q;exfalso;apply hz;rw[X9];show(ai[0]?).getD 0<=free
      rwa [nq]
    simp![hx,kt];exact#[j+1,_,fl,rfl,⋯,⋯,rfl,ba,nw,λ_=>cp hj0,⋯]
  ·rintro E1 B aq ⟨rfl,j,q0,fl,rfl,j0,j1,hr,ba,nw,cp,gy⟩;have:=zV j1 hr;subst this;have hfl0:0<fl.length:=List.length_pos_iff.mpr (cp ⋯);have u1:=Xw (x / 5) (show(0:Int)<fl.length by lia);have hi:(x / 5 % fl.length).toNat<fl.length:=⋯
   obtain⟨t,et⟩:∃t,fl[(x / 5 % fl.length).toNat]?=some t:=#[_,X1 hi];obtain⟨t0,t1,t2⟩:=nw t (List.mem_of_getElem? et);have hx:jJ (iL fl) (.int (x / 5 % fl.length))=some (.int t):=wZ (Y7 (x / 5) (show(fl.length:Int)≠0 by lia)) (by rw[Xq,et];rfl);have tw:t.toNat<ai.length:=⋯
   have hy:jJ (iL ai) (.int t)=some (.int (ai.getD t.toNat 0)):=wZ t0 (by rw[Xq,X1 tw,X9,X1 tw];rfl);rw[xX,ba,show JV 1 [1,2] [q0,some (Own.no,iL ai),some (Own.no,D.int free)] [some (Own.no,D.int x),some (Own.no,iL ai),some (Own.no,D.int free),none,none]=[some (Own.no,D.int x),some (Own.no,iL ai),some (Own.no,D.int free),none,none]from rfl];simp![mod_i (a:=x / 5) (b:=(fl.length:Int)) ⋯,hx,hy];refine(qqv (x / 35) (ai.getD t.toNat 0) free (hk (ai.getD t.toNat 0) (by rw[X9,X1 tw];exact Y0 _)).1 t2 u9).use ?_;rintro fs ⟨f1,f2,f3⟩;simp![];exact .inr #[t,fs,rfl,t0,t1,f2,f3,f1]
noncomputable def Gdr(rs:List D)(room:Int)(g:Bool):Prop:=(room=-1/\g=false)\/(0<=room/\∃k st,rs[room.toNat]?=some (.tup [k,.bl g,st]))
theorem nei{a b k}(h:(a==b)=k):fNe (.int a) (.int b)=some (.bl !k):=by rw[<-h];rfl
theorem qzw{ss rs room g}(h:Gdr rs room g):Oo m_is_good_in [(.no,jv ss rs),(.no,.int room)] (λy=>∃o',y=(o',.bl g)/\True) noX:=by
 refine kJ ?_;rcases h with⟨rfl,rfl⟩|⟨h0,k,st,hr⟩
 ·simp![nei rfl];exact#[_,rfl,trivial]
 ·have cp:(room == -1)=false:=Xu ⋯;simp![p1,nei cp,(wZ h0 hr),show jJ (.tup [k,.bl g,st]) (.int 1)=some _ from rfl];exact#[_,rfl,trivial]
theorem neg1:KQ (.int 1)=some (.int (-1)):=rfl
theorem kk9{ss rs room k}(h:Kpr rs room k):Oo m__law_keepers [(.no,jv ss rs),(.no,.int room)] (λy=>∃o',y=(o',.int k)/\True) noX:=by
 refine kJ ?_;rcases h with⟨rfl,rfl⟩|⟨h0,g,st,hr⟩
 ·simp![neg1,eqi rfl];exact#[_,rfl,trivial]
 ·have cp:(room == -1)=false:=Xu ⋯;simp![neg1,p1,eqi cp,(wZ h0 hr),show jJ (.tup [.int k,g,st]) (.int 0)=some _ from rfl];exact#[_,rfl,trivial]
theorem vqw{o xs}(h:o≠.dp):K6 (o,.tup xs)=some (.rt,.lst xs):=by
 cases o with|dp=>exact absurd rfl h|no=>rfl|rt=>rfl
theorem vku{ai}{ss:List Str}{rs st:List D}{gd:D}{room:Int}{ks:List Int}{z:Str}{p:Int}(h0:0<=room)(hr:rs[room.toNat]?=some (.tup [.int ks.length,gd,.lst st]))(hc:Cas ai ss.length ks.length st)(hl:ks.length<=1000)(hz:(ss.any λw=>w==z)=true):
  Oo m__law_read [(.no,jv ss rs),(.no,.tup [.int room,iT ks]),(.no,.str z),(.no,.int p)] (λy=>y.2=Qw ss st ks z p) noX:=by
 have hi:jJ (.lst rs) (.int room)=some (.tup [.int ks.length,gd,.lst st]):=wZ h0 hr;unfold Qw;obtain⟨cs,g1,g2,g3,g4⟩:=vjo p hc hz;have hx:jJ (.lst st) (.int (ss.findIdx λw=>w==z:Nat))=some (.lst cs):=wZ ⋯ (by rw[Ye];exact g1);have hy:jJ (.lst cs) (.int (ks.findIdx λw=>w==p:Nat))=some (Q8 ss st ks z p):=wZ ⋯ (by rw[Ye];exact g3);have mi:=wx5 hz;rw [Xb hz];generalize Q8 ss st ks z p=c at g4 hy;have ig:k4 (.no,.lst (ks.map D.int)) (.no,.lst [.int p])=some (.rt,.lst ((ks++[p]).map D.int)):=by
  rw[show(ks++[p]).map D.int=ks.map D.int++[.int p]by simp];exact vk3 ⋯ ⋯ (by simp;lia)
 have me:∀{i:Int},0<=i->i<=ks.length->jJ (.lst ((ks++[p]).map D.int)) (.int i)=some (.int (C.nameAt ks p i)):=fun {i} i0 i1=>by
  refine wZ i0 ?_;unfold C.nameAt;rw[Xq,X9,X1 (by simp;lia)];rfl
 have hb:=vjx (own:=ks.length) (k:=(ks.findIdx λw=>w==p:Nat));unfold m__law_read;generalize hR:j6 (jq 10 _) _=R;have key:∀o9,Po (R [some (.no,jv ss rs),some (.no,.tup [.int room,iT ks]),some (.no,.str z),some (.no,.int p),some (.no,.int room),some (.no,iT ks),some (.no,.int ks.length),some (.no,gd),some (.no,.lst st),some (o9,.int (ks.findIdx λw=>w==p:Nat)),none]) (λ_=>D.non=vjn ks p c) (λ_=>False) (λy=>y.2=vjn ks p c) noX:=by
  subst hR;intro o9;rcases g4 with rfl|⟨to,fs,rfl,t0',t1',vb,_⟩
  ·simp![p0,mi,hx,hy];rfl
  ·simp![p0,p1,mi,hx,hy];refine Vj [some (.no,iT ks),some (.no,.int p)] (λf y=>y.2=match f with|.int i=>.int (C.nameAt ks p i)|_=>.non) ?_;simp![p1];refine#[rfl,λf hf=>?_,λys vy=>?_]
   ·obtain⟨i,ly,rfl⟩:=aE hf;have:=vb i ly;simp![vqw (o:=.no) (xs:=ks.map D.int) ⋯,ig,me (i:=i) this.1 ⋯];exact#[#[_,rfl],trivial]
   ·rw[xX,ZV (h:=λf=>match f with|.int i=>.int (C.nameAt ks p i)|_=>.non) (λd y h=>h) vy,Xj,show(_∘D.int)=D.int∘C.nameAt ks p from rfl,<-Xj];simp only[back,clr,at',List.set_cons_zero,List.set_cons_succ];simp![Q.tup_l (o:=.no) (xs:=(fs.map (C.nameAt ks p)).map D.int) ⋯];exact caseD_is.symm
 refine kJ ?_;cases hp:(ks.any λw=>w==p)with
 |true=>
  simp![p1,hi,W6,hp,vv0 hp];exact key _
 |false=>
  rw[wxd hp]at key;simp![p1,hi,W6,hp];exact key _
inductive PSt (a b:Sn):List (List Int)->List Int->List D->Prop
 |a:PSt a b [[],[]] [-1,-1] [.tup [.int 0,stn a],.tup [.int 1,stn b]]
 |b:PSt a b [nms a,[]] [rmO a,-1] [.tup [.int 1,stn b]]
 |c:PSt a b [nms a,nms b] [rmO a,rmO b] []
theorem PSt.step{a b n r d ds}(h:PSt a b n r (d::ds)):∃(k:Nat) (s:Sn),d=.tup [.int k,stn s]/\Q.ixN (n.map iT).length k=some k/\Q.ixN (r.map D.int).length k=some k/\PSt a b (n.set k (nms s)) (r.set k (rmO s)) ds/\(s=none->n.set k []=n/\r.set k (-1)=r):=by
 cases h with|a=>exact#[0,a,rfl,rfl,rfl,.b,λ_=>#[rfl,rfl]]|b=>exact#[1,b,rfl,rfl,rfl,.c,λ_=>#[rfl,rfl]]
theorem vqk(a b)(ha:(nms a).length<=100)(hb:(nms b).length<=100):Oo m__law_pair [(.no,stn a),(.no,stn b)] (λy=>y=(.no,qV a b)) noX:=by
 have sn:stn none=.non:=rfl;have ss:∀s,stn (some s)=.tup [.int s.1,iT s.2]:=λs=>rfl
 unfold m__law_pair;refine kJ ?_;simp![neg1];refine wX (λE ao=>∃(n:List (List Int)) (r:List Int) (l4 l5:Option Sd),E=[some (.no,stn a),some (.no,stn b),some (.rt,.lst (n.map iT)),some (.rt,.lst (r.map D.int)),l4,l5,none]/\PSt a b n r ao) ?_ ?_ ?_
 ·simp![];exact#[_,_,_,_,rfl,.a]
 ·rintro E d ds ⟨n,r,l4,l5,rfl,h⟩;obtain⟨k,s,rfl,h1,h2,h3,h4⟩:=h.step;cases s with
  | none=>
   obtain⟨e1,e2⟩:=h4 rfl;have h3:PSt a b (n.set k []) (r.set k (-1)) ds:=h3;rw [e1,e2]at h3;simp![sn];exact#[_,_,_,_,rfl,h3]
  | some s=>
   simp![ss];refine qq1 ?_;simp![p0];refine#[rfl,.rt,_,k,k,rfl,⋯,rfl,h2,qq1 ?_];simp![p1];refine#[rfl,.rt,_,k,k,rfl,⋯,rfl,h1,?_];rw [show(n.map iT).set k (iT s.2)=(n.set k s.2).map iT from List.map_set.symm,show(r.map D.int).set k (.int s.1)=(r.set k s.1).map D.int from List.map_set.symm];exact#[_,_,_,_,rfl,h3]
 ·rintro E ⟨_,_,l4,l5,rfl,h⟩;cases h
  ·have i0:jJ (.lst [iT (nms a),iT (nms b)]) (.int 0)=some (iT (nms a)):=rfl;have i1:jJ (.lst [iT (nms a),iT (nms b)]) (.int 1)=some (iT (nms b)):=rfl;have j0:jJ (.lst [.int (rmO a),.int (rmO b)]) (.int 0)=some (.int (rmO a)):=rfl;have j1:jJ (.lst [.int (rmO a),.int (rmO b)]) (.int 1)=some (.int (rmO b)):=rfl;simp![];refine QX (λE1 B ds aq=>E1=[some (.no,stn a),some (.no,stn b),some (.rt,.lst [iT (nms a),iT (nms b)]),some (.rt,.lst [.int (rmO a),.int (rmO b)]),l4,l5,none]/\∃(q0 q1:Option Sd) (f1 f2:List Int),B=[q0,q1,some (.rt,.lst [iT (nms a),iT (nms b)])]/\nms a=f1++f2/\ds=zw f1.length (f2.map D.int)/\aq.map (·.2)++prs (vZ (nms b) f1.length f2)=prs (vZ (nms b) 0 (nms a))) ?_ ?_ ?_
   ·simp![i0,↓qwb,show vkj (iT (nms a))=some ((nms a).map D.int)from rfl];exact#[none,none,[],nms a,rfl,rfl,rfl,rfl]
   ·rintro E1 B d ds aq ⟨rfl,q0,q1,f1,f2,rfl,hf,bq,ba⟩;cases f2 with
    | nil=>cases bq
    | cons z f2=>
     have bq:d::ds=.tup [.int f1.length,.int z]::zw (f1.length+1) (f2.map D.int):=bq;injection bq with e1 e2;subst e1 e2;simp![i0,i1,W6];have fj:(f1++[z]).length=f1.length+1:=by simp
     cases hz:((nms b).any λw=>w==z)with
     |false=>
      simp![];refine#[_,_,f1++[z],f2,rfl,by rw[hf];simp,by rw[fj],?_];rw[<-ba,fj]
      congr 2
      conv=>rhs;unfold vZ
      rw[hz,Xe ⋯]
     |true=>
      simp![i0,i1,vv0 hz];refine#[_,_,f1++[z],f2,rfl,by rw[hf];simp,by rw[fj],?_];rw[<-ba,fj,Xk,Xv]
      congr 1
      conv=>rhs;unfold vZ
      rw[hz,Xb rfl];rfl
   ·rintro E1 B aq ⟨rfl,q0,q1,f1,f2,rfl,hf,bq,ba⟩;cases f2 with
    |cons=>cases bq
    |nil=>
     have ba:aq.map (·.2)=prs (vZ (nms b) 0 (nms a)):=by rw[<-ba];simp[vZ]
     rw[xX,ba,show JV 2 [2] [q0,q1,some (Own.rt,D.lst [iT (nms a),iT (nms b)])] [some (Own.no,stn a),some (Own.no,stn b),some (Own.rt,D.lst [iT (nms a),iT (nms b)]),some (Own.rt,D.lst [D.int (rmO a),D.int (rmO b)]),l4,l5,none]=[some (Own.no,stn a),some (Own.no,stn b),some (Own.rt,D.lst [iT (nms a),iT (nms b)]),some (Own.rt,D.lst [D.int (rmO a),D.int (rmO b)]),l4,l5,none]from rfl];simp![j0,j1,Q.tup_l (o:=.rt) (xs:=prs (vZ (nms b) 0 (nms a))) ⋯];rfl
theorem qqr:∀l,D.flats 38 (prs l)=true
 |[]=>by simp[D.flats]
 |p::l=>by
  have ih:=qqr l;unfold prs at ih ⊢;rw[List.map_cons];simp only[D.flats,D.flat,ih,Bool.and_self]
theorem wjq(r r') l:(D.tup [.int r,.int r',.tup (prs l)]).flat 40=true:=by
 have:=qqr l;simp only[D.flat,D.flats,this,Bool.and_self]
noncomputable def wkl:D->D:=λd=>match d with
 |.tup [.int r,x]=>if r=-1 then .non else .tup [.int r,x]|_=>.non
theorem qzx r ks:wkl (.tup [.int r,.tup (ks.map D.int)])=stn (KK r ks):=by
 unfold wkl KK;dsimp only
 split<;>rfl
theorem vzo{m N N' C R X}(h:Po m N C R X)(k:∀E,N E->N' E):Po m N' C R X:=by
 cases m with
 |none=>exists h
 |some r=>cases r with|nx E=>exists k E h|bk E=>exists h|ct E=>exists h|rt E x=>exists h|xc E c=>exists h
theorem kxm{a b E N C R}{X} I (h1:Po (a E) I C R X)(h2:∀E,I E->Po (b E) N C R X):Po (j6 a b E) N C R X:=by
 rw[vwk];exact vzo h1 h2
inductive PlC (c:Int)(ss:List Str)(xs:List Int)(size m:Int)(ai:List Int)(rs:List D)(r own:Int)(st:List D)(s:Int):En->List D->Prop
 |mk (k:Int) (b9:Int) (cs:List D) {o5:Own} {o7:Own} {kl:Option Sd} {ao:List D} (h0:sub o5=.no) (h1:0<=k) (h2:k<=own+1) (h3:ao=k8 k (own+1)) (h4:(cs.length:Int)=k) (h5:8<=b9) (h6:b9<=8+(3*(m+1)+1)*r+(m+1)*s+k) (h7:∀k:Nat,k<cs.length->∃z,cs[k]?=some z/\Cs ai (vq own k) z):PlC c ss xs size m ai rs r own st s [some (.no,.int c),some (.no,sL ss),some (.rt,iL xs),some (.no,.int size),some (.dp,.int m),some (o5,iL ai),some (.rt,.lst rs),some (o7,.int b9),some (.no,.int r),some (.rt,.lst st),some (.no,.int s),some (.rt,.lst cs),kl] ao
inductive PlB (c:Int)(ss:List Str)(xs:List Int)(size m:Int)(ai:List Int)(rs:List D)(r own:Int):En->List D->Prop
 |mk (s:Int) (b9:Int) (st:List D) {o5:Own} {o7:Own} {nj:Option Sd} {ln:Option Sd} {kl:Option Sd} {ao:List D} (h0:sub o5=.no) (h1:0<=s) (h2:s<=ss.length) (h3:ao=k8 s ss.length) (h4:(st.length:Int)=s) (h5:8<=b9) (h6:b9<=8+(3*(m+1)+1)*r+(m+1)*s) (h7:∀c∈st,∃cs:List D,c=.lst cs/\(cs.length:Int)=own+1/\∀k:Nat,k<cs.length->∃z,cs[k]?=some z/\Cs ai (vq own k) z):PlB c ss xs size m ai rs r own [some (.no,.int c),some (.no,sL ss),some (.rt,iL xs),some (.no,.int size),some (.dp,.int m),some (o5,iL ai),some (.rt,.lst rs),some (o7,.int b9),some (.no,.int r),some (.rt,.lst st),nj,ln,kl] ao
inductive PlA (c:Int)(ss:List Str)(xs:List Int)(size m:Int)(ai:List Int):En->List D->Prop
 |mk (r:Int) (b9:Int) (rs:List D) {l8:Option Sd} {l9:Option Sd} {nj:Option Sd} {ln:Option Sd} {kl:Option Sd} {o5:Own} {o7:Own} {ao:List D} (h0:sub o5=.no) (h1:0<=r) (h2:r<=size) (h3:ao=k8 r size) (h4:(rs.length:Int)=r) (h5:8<=b9) (h6:b9<=8+(3*(m+1)+1)*r) (h7:∀i:Nat,i<rs.length->∃d,rs[i]?=some d/\Pr ai ss.length (ai.getD i 0) d):PlA c ss xs size m ai [some (.no,.int c),some (.no,sL ss),some (.rt,iL xs),some (.no,.int size),some (.dp,.int m),some (o5,iL ai),some (.rt,.lst rs),some (o7,.int b9),l8,l9,nj,ln,kl] ao
theorem qxl(c)(ss)(hs:1<=ss.length)(ls:ss.length<=3):Oo m__law_plain [(.no,.int c),(.no,sL ss)] (λy=>∃rs,y=(.no,jv ss rs)/\∃ai,1<=ai.length/\ai.length<=6/\ai[0]?=some 0/\(∀p∈ai,0<=p/\p<=3)/\Prs ai ss.length rs) noX:=by
 unfold m__law_plain;refine kJ ?_;simp![];refine(kji c 90 ⋯ ⋯).use ?_;intro xs hx;have hxl:=hx.1;have ix:∀i,0<=i->i<90->∃v,jJ (iL xs) (.int i)=some (.int v)/\0<=v:=λi i0 i1=>by
  obtain⟨v,e,h,_⟩:=ixI xs _ hx.2 i i0 ⋯;exact#[v,e,h.1]
 obtain⟨v0,e0,a0⟩:=ix 0 ⋯ ⋯;obtain⟨v1,e1,a1⟩:=ix 1 ⋯ ⋯;have q0:=Y7 v0 (show(8:Int)≠0 by decide);have q1:=Xw v0 (show(0:Int)<8 by decide);obtain⟨size,esz,sz0,sz1⟩:∃sz,jJ (.lst [.int 1,.int 2,.int 3,.int 4,.int 5,.int 2,.int 4,.int 6]) (.int (v0 % 8))=some (.int sz)/\1<=sz/\sz<=6:=by
  generalize v0 % 8=t at q0 q1;have:t=0\/t=1\/t=2\/t=3\/t=4\/t=5\/t=6\/t=7:=⋯
  rcases this with rfl|rfl|rfl|rfl|rfl|rfl|rfl|rfl<;>exact#[_,rfl,⋯,⋯]
 refine kxm (λE=>E=[some (.no,.int c),some (.no,sL ss),some (.rt,iL xs),some (.no,.int size),none,none,none,none,none,none,none,none,none]) ?_ ?_
 ·simp![e0,esz]
 rintro E rfl;refine kxm (λE=>E=[some (.no,.int c),some (.no,sL ss),some (.rt,iL xs),some (.no,.int size),some (.dp,.int 2),none,none,none,none,none,none,none,none]) ?_ ?_
 ·simp![]
 rintro E rfl;refine kxm (λE=>∃m,E=[some (.no,.int c),some (.no,sL ss),some (.rt,iL xs),some (.no,.int size),some (.dp,.int m),none,none,none,none,none,none,none,none]/\((m=2)\/(m=3/\size=3))) ?_ ?_
 ·by_cases h3:size=3
  ·have hb:(size==3)=true:=by simp[h3]
   by_cases h4:v1 % 3=0
   ·have i5:(v1 % 3==0)=true:=by simp[h4]
    simp![e1,eqi hb,eqi i5];exact#[3,rfl,.inr #[rfl,h3]]
   ·have i5:(v1 % 3==0)=false:=Xu h4;simp![e1,eqi hb,eqi i5];exact#[2,rfl,.inl rfl]
  ·have hb:(size==3)=false:=Xu h3;simp![eqi hb];exact#[2,rfl,.inl rfl]
 rintro E ⟨m,rfl,hm⟩;have hm0:2<=m/\m<=3:=by rcases hm with rfl|⟨rfl,_⟩<;>lia
 simp![];refine Vj [some (.rt,iL xs),some (.dp,.int m)] (λ_ y=>∃i,y=(.dp,.int i)/\0<=i/\i<=m) ?_;simp![];refine#[rfl,λd pi=>?_,λys hy=>?_]
 ·obtain⟨i,i0,i1,rfl⟩:=qjo pi;obtain⟨w,ew,aw⟩:=ix (1+i) ⋯ ⋯;have:=Y7 (w / 3) (show m+1≠0 by lia);have:=Xw (w / 3) (show 0<m+1 by lia);simp![ew,mod_i (a:=w / 3) (b:=m+1) ⋯];exact#[#[_,rfl],_,rfl,⋯,⋯]
 obtain⟨ks,h1,h2,h3⟩:=kkk (S:=λi=>0<=i/\i<=m) (λd y hz=>by obtain⟨i,h,s⟩:=hz;exact#[i,by rw[h],s]) hy;rw [xX,h1];simp only[back,clr,at',List.map_cons,List.map_nil,List.set_cons_zero,List.set_cons_succ];have pe:((0::ks).length:Int)=size:=by rw[Xg];have:=qz9 (k:=0) (n:=size - 1) ⋯;lia
 have pr:∀p∈(0::ks:List Int),0<=p/\p<=m:=λp hp=>by
  rcases aD hp with rfl|hp
  ·exact#[⋯,⋯]
  ·exact h3 p hp
 have mf:∀p∈(0::ks:List Int),0<=p/\p<=3:=λp hp=>by have:=pr p hp;lia
 have ig:k4 (.no,.lst [.int 0]) (.no,.lst (ks.map D.int))=some (.rt,iL (0::ks)):=vk3 ⋯ ⋯ (by rw[X3];simp at pe ⊢;lia);have nq:(0::ks:List Int)[0]?=some 0:=rfl;simp![ig];generalize (0::ks:List Int)=ai at pe pr mf ig nq;refine wX (PlA c ss xs size m ai) ?_ ?_ ?_
 ·simp![];exact#[0,8,[],rfl,⋯,⋯,rfl,rfl,⋯,⋯,λi hi=>nomatch hi]
 ·rintro E d ds ⟨r,b9,rs,hs5,r0,r1,hr,tu,at0,at1,hrs⟩;obtain⟨hrk,rfl,rfl⟩:=zY r1 hr;obtain⟨own,eo,⟨ow0,ow1⟩,how⟩:=ixI ai _ pr r r0 ⋯;simp![];refine wX (PlB c ss xs size m ai rs r own) ?_ ?_ ?_
  ·simp![];exact#[0,b9,[],hs5,⋯,⋯,rfl,rfl,⋯,⋯,λc hc=>nomatch hc]
  ·rintro E d ds ⟨s,b9,st,hs5,s0,s1,hr,jb,at0,at1,dj⟩;obtain⟨hsk,rfl,rfl⟩:=zY s1 hr;simp![];refine wX (PlC c ss xs size m ai rs r own st s) ?_ ?_ ?_
   ·simp![eo,hs5];exact#[0,b9,[],hs5,⋯,⋯,rfl,rfl,⋯,⋯,λc hc=>nomatch hc]
   ·rintro E d ds ⟨k,b9,cs,hs5,k0,k1,hr,fy,at0,at1,im⟩;obtain⟨hkk,rfl,rfl⟩:=zY k1 hr;have dy:b9<90:=by rcases hm with rfl|⟨rfl,_⟩<;>lia
    obtain⟨w,ew,aw⟩:=ix b9 ⋯ dy;have hb1:own+(if k=own then(1:Int)else 0)=vq own k:=rfl;have hB0:0<=vq own k/\vq own k<=4:=by unfold vq;split<;>lia
    simp![];refine xY rfl ?_;simp![eo,ew,XJ,vj5,hb1,hs5];refine(vvj w (vq own k) ai mf nq ⋯ hB0.1 ⋯).via ?_;intro y hy;simp![];refine#[_,rfl,⋯,k+1,b9+1,cs++[y.2],rfl,⋯,⋯,rfl,by simp;lia,⋯,⋯,?_];intro j hj;rw[Xi,Y4]at hj
    by_cases ku:j<cs.length
    ·obtain⟨z,z1,z2⟩:=im j ku;exact#[z,by rw[Yh ku];exact z1,z2]
    ·have:j=cs.length:=⋯
     subst this;exact#[y.2,by simp,by rw[fy];exact hy]
   ·rintro E ⟨k,b9,cs,hs5,k0,k1,hr,fy,at0,at1,im⟩;have:=zV k1 hr;subst this;refine xY rfl ?_;simp![];refine#[_,rfl,⋯,s+1,b9,st++[.lst cs],hs5,⋯,⋯,rfl,by simp;lia,⋯,by rcases hm with rfl|⟨rfl,_⟩<;>lia,λc hc=>?_];rcases aA hc with z|z
    ·exact dj c z
    ·rw[aC z];exact#[cs,rfl,fy,im]
  ·rintro E ⟨s,b9,st,hs5,s0,s1,hr,jb,at0,at1,dj⟩;have:=zV s1 hr;subst this;have dy:b9<90:=by rcases hm with rfl|⟨rfl,_⟩<;>lia
   obtain⟨w,ew,_⟩:=ix b9 ⋯ dy;simp![];refine xY rfl ?_;simp![eo,ew,XJ,hs5];refine#[_,rfl,⋯,?_];simp![];refine PlA.mk (r+1) (b9+1) (rs++[.tup [.int own,.bl (w % 2==0),.lst st]]) hs5 ?_ ?_ rfl ?_ ?_ ?_ ?_
   ·lia
   ·lia
   ·simp;lia
   ·lia
   ·rcases hm with rfl|⟨rfl,_⟩<;>lia
   intro j hj;rw[Xi,Y4]at hj
   by_cases ku:j<rs.length
   ·obtain⟨z,z1,z2⟩:=hrs j ku;exact#[z,by rw[Yh ku];exact z1,z2]
   ·have:j=rs.length:=⋯
    subst this;refine#[_,by simp;rfl,?_];have hg:ai.getD rs.length 0=own:=by rw[X9,show rs.length=r.toNat by lia,how];rfl
    rw[hg];exact#[_,st,rfl,⋯,dj]
 ·rintro E ⟨r,b9,rs,hs5,r0,r1,hr,tu,at0,at1,hrs⟩;have:=zV r1 hr;subst this;simp![qqh (o:=.no) (xs:=ss.map D.str) ⋯];exact#[rs,rfl,ai,⋯,⋯,nq,mf,#[⋯,λi hi=>hrs i ⋯]]
theorem kzb{G}(hG:∀d y,G d y->∃c,y.2=.str #[(List.toArray [c])]):∀{ds ys},Each G ds ys->∃ps:List Str,ys.map (·.2)=ps.map D.str/\ps.length=ds.length/\∀p∈ps,p.length=1
 |[],[],_=>#[[],rfl,rfl,λ_ h=>nomatch h]
 |d::ds,y::ys,r=>by
  obtain⟨i,e⟩:=hG d y r.1;obtain⟨ps,h1,h2,h3⟩:=kzb hG r.2;exact#[#[(List.toArray [i])]::ps,by simp[e,h1],by simp[h2],λp hp=>(aD hp).elim (λz=>z▸rfl) (h3 p)]
theorem qkp:∀{ps:List Str},(∀p∈ps,p.length=1)->(ps.map (·.length)).sum=ps.length
 |[],_=>rfl|p::ps,h=>by rw[List.map_cons,List.sum_cons,h p X4,qkp λq hq=>h q (lc9 _ hq),Xg];lia
theorem vqy{y ys}(h:y.length=1):1<=(Str.join "" (y::ys)).length:=by
 cases ys with
 |nil=>show 1<=y.length;lia
 |cons z ys=>
  show 1<=(y++""++Str.join "" _).cps.size;rw[kvg,kvg];have:y.cps.size=1:=h;lia
theorem wjf{ps:List Str}(h:∀p∈ps,p.length=1)(h0:1<=ps.length)(h1:ps.length<=100):∃z,vj8 "" (.lst (ps.map D.str))=some (.str z)/\1<=z.cps.size/\z.cps.size<=100:=by
 have hz:("":Str).length=0:=rfl;have hs:=qkp h;refine#[Txt.join "" ps,?_,?_,?_]
 ·unfold vj8;dsimp only;rw[qwi];dsimp only;rw[Xb (by rw[hs,hz];lia)]
 ·unfold Txt.join;rw[StrLaws.glued_eq_join];cases ps with|nil=>cases h0|cons y ys=>exact vqy (h y X4)
 ·show(Txt.join "" ps).length<=100;unfold Txt.join;rw[StrLaws.glued_eq_join];have:=StrLaws.join_length_le "" ps;rw[hs,hz]at this;lia
theorem wzc{o z lo hi}(h:z.cps.size<=100):fSl (o,.str z) lo hi=some (.dp,.str (Txt.slice z lo hi)):=by
 have hl:=Txt.slice_le z lo hi;have h:z.length<=100:=h;show(if(Txt.slice z lo hi).length<=big then _ else none)=_;rw[Xb (by unfold big;lia)]
theorem qwn(c):Oo m__law_signs [(.no,.int c)] (λy=>∃ss,y=(.rt,sL ss)/\1<=ss.length/\ss.length<=3) noX:=by
 have m0:=Y7 c (show(8:Int)≠0 by decide);have m1:=Xw c (show(0:Int)<8 by decide);unfold m__law_signs;refine kJ ?_;simp![];refine(kji c 9 ⋯ ⋯).use ?_;intro xs hx;have hxl:=hx.1;simp![↓wkv];have jb:fSl (Own.no,iL xs) none (some (1+c % 8))=some (.rt,iL (xs.take (1+c % 8).toNat)):=by
  rw[show iL xs=.lst (xs.map D.int)from rfl,vxt (o:=.no) ⋯,vx6 ⋯ (by rw[X3];lia),<-List.map_take]
 have hsl':fSl (Own.rt,iL xs) none (some (1+c % 8))=some (.rt,iL (xs.take (1+c % 8).toNat)):=by
  rw[show iL xs=.lst (xs.map D.int)from rfl,vxt (o:=.rt) ⋯,vx6 ⋯ (by rw[X3];lia),<-List.map_take]
 refine Vj [some (.dp,.str "abcdefghijklmnopqrstuvwxyz")] (λ_ y=>∃c,y.2=.str #[(List.toArray [c])]) ?_;simp![jb,hsl'];refine#[rfl,λd hd=>?_,λys vy=>?_]
 ·obtain⟨t,ht,rfl⟩:=aE hd;obtain⟨ch,hc⟩:=qqo "abcdefghijklmnopqrstuvwxyz" (t % 26) (Y7 t (show(26:Int)≠0 by decide)) (Xw t (show(0:Int)<26 by decide));simp![hc];exact#[#[_,rfl],ch,rfl]
 obtain⟨ps,h1,h2,h3⟩:=kzb (λd y h=>h) vy;have c8:ps.length=(1+c % 8).toNat:=by rw[h2,X3,List.length_take];lia
 obtain⟨z,hz,z0,z1⟩:=wjf h3 ⋯ ⋯;rw[xX,h1];simp only[back,clr,at',List.map_cons,List.map_nil,List.set_cons_zero,List.set_cons_succ];have av:qw (.str z)=some (.int z.cps.size):=rfl;simp![hz,av,mod_i (a:=c / 8) (b:=(z.cps.size:Int)) ⋯];generalize dy:c / 8 % (z.cps.size:Int)=a;obtain⟨m,em,mm0,mm1⟩:∃m,jJ (.lst [.int 1,.int 2,.int 1,.int 2,.int 2,.int 1,.int 2,.int 3]) (.int (c / 64 % 8))=some (.int m)/\1<=m/\m<=3:=by
  have q0:=Y7 (c / 64) (show(8:Int)≠0 by decide);have q1:=Xw (c / 64) (show(0:Int)<8 by decide);generalize c / 64 % 8=t at q0 q1;have:t=0\/t=1\/t=2\/t=3\/t=4\/t=5\/t=6\/t=7:=⋯
  rcases this with rfl|rfl|rfl|rfl|rfl|rfl|rfl|rfl<;>exact#[_,rfl,⋯,⋯]
 obtain⟨v,ev,⟨v0,_⟩,_⟩:=ixI xs _ hx.2 8 ⋯ ⋯;refine wX (λE ao=>∃(j:Int) (ss:List Str) (l6:Option Sd) (o1 o3:Own),E=[some (.no,.int c),some (o1,.str "abcdefghijklmnopqrstuvwxyz"),some (.rt,iL xs),some (o3,.str z),some (.dp,.int a),some (.rt,sL ss),l6]/\0<=j/\j<=m/\ao=k8 j m/\(ss.length:Int)=j) ?_ ?_ ?_
 ·simp![em];exact#[0,[],_,_,_,rfl,⋯,⋯,rfl,rfl]
 ·rintro E d ds ⟨j,ss,l6,o1,o3,rfl,j0,j1,hr,hl⟩;obtain⟨hj,rfl,rfl⟩:=zY j1 hr;have u0:=Y7 v (show(24:Int)≠0 by decide);have u1:=Xw v (show(0:Int)<24 by decide);obtain⟨ch,hc⟩:=qqo "abcdefghijklmnopqrstuvwxyz" (v % 24+j) ⋯ (show v % 24+j<26 by lia);have s1:=wzc (o:=.no) (z:=z) (lo:=none) (hi:=some a) ⋯;have s2:=wzc (o:=.no) (z:=z) (lo:=some (a+1)) (hi:=none) ⋯;have u4:=wzc (o:=o3) (z:=z) (lo:=none) (hi:=some a) ⋯;have s2':=wzc (o:=o3) (z:=z) (lo:=some (a+1)) (hi:=none) ⋯;have g1:(Txt.slice z none (some a)).cps.size<=100:=Xx (Txt.slice_le z none (some a)) z1;have g2:(Txt.slice z (some (a+1)) none).cps.size<=100:=Xx (Txt.slice_le z (some (a+1)) none) z1;generalize Txt.slice z none (some a)=w1 at s1 u4 g1;generalize Txt.slice z (some (a+1)) none=w2 at s2 s2' g2;have mr:((#[(List.toArray [ch])]:Str).cps.size)=1:=rfl;simp![];refine xY rfl ?_;simp![s1,s2,u4,s2',ev,hc,(vk2 (o1:=.no) (o2:=.no) (a:=w1) (b:=#[(List.toArray [ch])]) (by rw[mr];lia)),(vk2 (o1:=.no) (o2:=.no) (a:=w1++#[(List.toArray [ch])]) (b:=w2) (by rw[kvg,mr];lia)),(vk2 (o1:=.no) (o2:=sub o1) (a:=w1) (b:=#[(List.toArray [ch])]) (by rw[mr];lia))];refine#[_,rfl,by rw[X3];lia,?_];rw[show ∀w,ss.map D.str++[D.str w]=(ss++[w]).map D.str from λw=>by simp];exact#[j+1,ss++[_],_,_,_,rfl,⋯,⋯,rfl,by simp;lia]
 ·rintro E ⟨j,ss,l6,o1,o3,rfl,j0,j1,hr,hl⟩;have:=zV j1 hr;subst this;simp![];exact#[ss,rfl,⋯,⋯]
theorem vqt{kv k v p}(h:p∈wq kv k v):p∈kv\/p=(k,v):=by
 unfold wq at h
 split at h
 ·obtain⟨q,hq,rfl⟩:=aE h
  by_cases e:q.1=k
  ·rw[Xb e];exact .inr (by rw[e])
  ·rw[Xe e];exact .inl hq
 ·rcases aA h with z|z
  ·exact .inl z
  ·exact .inr (aC z)
theorem vkf{kv k v}(h:qz kv k=some v):(k,v)∈kv:=by
 unfold qz at h;cases hf:kv.find? λp=>decide (p.1=k)with|none=>grind|some p=>grind
theorem qqe:∀(ps kv:List (Int×Int)) {p},p∈ps.foldl (λkv p=>wq kv p.1 p.2) kv->p∈kv\/p∈ps
 | [],kv,p,h=>.inl h
 | q::ps,kv,p,h=>by
  rcases qqe ps _ h with z|z
  ·rcases vqt z with z|z
   ·exact .inl z
   ·exact .inr (z▸X4)
  ·exact .inr (lc9 _ z)
theorem vxi{sh j i}(h:qz (kvS sh) j=some i):(i,j)∈sh:=by
 rcases qqe _ _ (vkf h)with z|z
 ·grind
 ·grind
noncomputable def K0(own:Int)(kv:List (Int×Int))(n:Nat):Nat:=((nmF own kv n).filter λx=>decide (own<=x)).length
section
variable {own:Int}{kv:List (Int×Int)}
theorem qqb{n:Nat}{i}(h:qz kv n=some i):nmF own kv (n+1)=nmF own kv n++[i]:=by rw[kja,h]
theorem qqc{n:Nat}(h:qz kv n=none):nmF own kv (n+1)=nmF own kv n++[own+K0 own kv n]:=by rw[kja,h];rfl
end
theorem wwr{ai n rs}{p:Int}(hP:Prs ai n rs)(h0:-1<=p)(h1:p<ai.length):∃k g,Kpr rs p k/\Gdr rs p g/\(p=-1->k=0)/\(0<=p->k=ai.getD p.toNat 0):=by
 by_cases h:p=-1
 ·exact#[0,false,.inl #[h,rfl],.inl #[h,rfl],λ_=>rfl,λz=>by lia]
 ·obtain⟨r,er,gd,st,rfl,_⟩:=hP.2 p.toNat ⋯;exact#[_,gd,.inr #[⋯,_,_,er],.inr #[⋯,_,_,er],λz=>absurd z h,λ_=>rfl]
theorem wqf{ai s}(h:kZ ai s):-1<=rmO s/\rmO s<ai.length:=by
 cases s with|none=>exact#[Int.le_refl _,by show(-1:Int)<_;lia]|some P=>obtain⟨a,b⟩:=P;obtain⟨h0,h1,_⟩:=h a b rfl;exact#[by show -1<=a;lia,h1]
theorem qwl{ai p ks}(h0:-1<=p)(h1:p<ai.length)(h2:0<=p->(ks.length:Int)=ai.getD p.toNat 0):kZ ai (KK p ks):=by
 intro room ks' e;unfold KK at e
 split at e
 ·grind
 ·injection e with e;injection e with e1 e2;subst e1 e2;exact#[⋯,h1,h2 ⋯]
theorem kqr{ai ss rs}(hP:Prs ai ss.length rs) n:(jv ss rs).flat (n+8)=true:=by
 refine xx λd hd=>?_
 simp at hd;rcases hd with rfl|rfl
 ·exact xx λk hk=>by obtain⟨w,_,rfl⟩:=aE hk;rfl
 ·refine xx λr hr=>?_
  obtain⟨i,hi,e⟩:=List.mem_iff_getElem.mp hr;obtain⟨r',er,gd,st,rfl,_,dj⟩:=hP.2 i (by have:=hP.1;lia);rw[X1 hi,e]at er;injection er with er;subst er;refine xx λd hd=>?_
  simp at hd;rcases hd with rfl|rfl|rfl
  ·rfl
  ·rfl
  ·refine xx λc hc=>?_
   obtain⟨cs,rfl,_,im⟩:=dj c hc;refine xx λz hz=>?_
   obtain⟨j,hj,ej⟩:=List.mem_iff_getElem.mp hz;obtain⟨z',ez,hcs'⟩:=im j hj;rw[X1 hj,ej]at ez;injection ez with ez;subst ez;rcases hcs' with rfl|⟨to,fs,rfl,_⟩
   ·rfl
   ·refine xx λd hd=>?_
    simp at hd;rcases hd with rfl|rfl
    ·rfl
    ·exact xx λk hk=>by obtain⟨w,_,rfl⟩:=aE hk;rfl
end B
namespace F
open Q PySem C
noncomputable def vY:Nat->List D->List (D×D)
 |_,[]=>[]|n,d::K=>(d,.int n)::vY (n+1) K
def wW(K:List D):List (D×D):=vY 0 K
theorem qw7:∀(a b:List D) (n:Nat),vY n (a++b)=vY n a++vY (n+a.length) b
 |[],b,n=>by simp[vY]
 |d::a,b,n=>by
  rw[List.cons_append,vY,vY,qw7 a b (n+1),List.cons_append,Xg]
  congr 3
  lia
theorem kzx:∀(K:List D) (n:Nat),(vY n K).length=K.length
 |[],_=>rfl|d::K,n=>by rw[vY,Xg,kzx K,Xg]
theorem qkh:∀(K:List D) (n:Nat),(vY n K).map (·.1)=K
 |[],_=>rfl|d::K,n=>by rw[vY,List.map_cons,qkh K]
theorem qkg:∀(K:List D) (n:Nat),D.pures ((vY n K).map (·.2))=true
 |[],_=>rfl
 |d::K,n=>by
  rw[vY,List.map_cons];show(D.pure (.int n)&&D.pures ((vY (n+1) K).map (·.2)))=true;rw[qkg K];rfl
theorem qw6:∀(K:List D) (n:Nat) (p:D),xv (vY n K) p=if p∈K then some (.int (n+K.idxOf p:Nat))else none
 | [],_,p=>by simp[vY,xv]
 | d::K,n,p=>by
  by_cases h:d=p
  ·subst h;unfold xv;rw[vY,List.find?_cons_of_pos (by simp),Xb X4];simp
  ·have ih:=qw6 K (n+1) p;have e:xv (vY n (d::K)) p=xv (vY (n+1) K) p:=by
    unfold xv;rw[vY,List.find?_cons_of_neg (by simpa using h)]
   rw[e,ih]
   by_cases hm:p∈K
   ·rw[Xb hm,Xb (lc9 _ hm),List.idxOf_cons,show(d==p)=false by simpa using h]
    congr 2
    simp;lia
   ·rw[Xe hm,Xe (λz=>by rcases aD z with z|z;exact h z.symm;exact hm z)]
theorem qw8(K:List D)(p:D):wW (K++[p])=wW K++[(p,.int K.length)]:=by
 unfold wW;rw[qw7,Nat.zero_add];rfl
theorem wjl(K:List D)(p:D):((wj K p).idxOf p:Int)=if p∈K then(K.idxOf p:Int)else K.length:=by
 unfold wj
 by_cases h:p∈K
 ·rw[Xb h,Xb h]
 ·rw[Xe h,Xe h,List.idxOf_append,Xe h];simp
end F
namespace J
open Q PySem C B F
noncomputable def m_is_small:Fn:=fn 1
  (jw (Jk (vE (cF2 (pu2 fLe) (vE (cF1 (pu1 qw) (jk (vV 0) (C9 1)))) (C9 12))) (cF1 (pu1 wzl) (vE (cLC .rt 1 [] (itS (cH (jk (vV 0) (C9 1)))) (.n 0) tYes (cF2 (pu2 fLe) (jk (vV 0) (C9 0)) (C9 3)))))))
noncomputable def m_is_good_by:Fn:=fn 3
  (j6 (sIf (tE (cF2 (pu2 fEq) (vV 0) (vE (cC (.str "both"))))) (jw (Jk (vV 1) (cV 2))) k9)
  (j6 (sIf (tE (cF2 (pu2 fEq) (vV 0) (vE (cC (.str "either"))))) (jw (cOr (vV 1) (cV 2))) k9)
  (j6 (sIf (tE (cF2 (pu2 fEq) (vV 0) (vE (cC (.str "first"))))) (jw (Jk (vV 1) (vjw (vV 2)))) k9)
  (jw (cF2 (pu2 fNe) (vV 1) (vV 2))))))
noncomputable def m_joined_case:Fn:=fn 3
  (j6 (jq 2 (jx B.m_pair_of [(cV 0)]))
  (j6 (sIf (tE (cF2 (pu2 fEq) (vV 2) (vE (kw .no [(cC (.int (-1))),(cC (.int (-1))),(kw .no [])])))) (jw (cC .non)) k9)
  (jw (kw .no [(vjv 1 (vV 2) (vE (cF1 (pu1 W3) (vV 1)))),(jx B.m_held_by_both [(cV 0)])]))))
def YJ:D->Int
 |.int i=>i|_=>0
noncomputable def Zk:D->Sn
 |.tup [.int r,.tup ks]=>some (r,ks.map YJ)|_=>none
noncomputable def rdF(ss:List Str)(rs:List D)(S:Sn)(z:Str)(c:Int):Sn:=match S with
 |none=>none
 |some (room,ks)=>(match rs[room.toNat]? with
  |some (.tup [_,_,.lst st])=>Zk (Qw ss st ks z c)
  |_=>none)
theorem wqc{ai d}(h:Ok2 ai d):stn (Zk d)=d/\kZ ai (Zk d):=by
 rcases h with rfl|⟨room,ks,rfl,r0,r1,hl⟩
 ·exact#[rfl,λ_ _ e=>nomatch e]
 ·have e:Zk (.tup [.int room,iT ks])=some (room,ks):=by
   show some _=_;rw[Xj]
   congr 2
   exact List.map_id ks
  rw[e];refine#[rfl,λa b e=>?_];cases e;exact#[r0,r1,hl]
theorem wwf{ai S}(h:kZ ai S):Ok2 ai (stn S):=by
 cases S with|none=>exact .inl rfl|some x=>obtain⟨a,b,c⟩:=h x.1 x.2 rfl;exact .inr #[x.1,x.2,rfl,a,b,c]
theorem Wv{ai ss rs}{S} z c (hP:Prs ai ss.length rs)(hk:Abk ai)(hS:kZ ai S):Rd ai ss rs (stn S) (z,c) (stn (rdF ss rs S z c))/\kZ ai (rdF ss rs S z c):=by
 obtain⟨s',h1,h2,_⟩:=vkv (z,c) hP hk (wwf hS);obtain⟨g1,g2⟩:=wqc h2;have e:rdF ss rs S z c=Zk s':=by
  rcases id h1 with⟨h3,rfl⟩|⟨room,ks,st,kp,gd,h3,_,hr,_,_,h4⟩
  ·cases S with| none=>rfl| some x=>cases h3
  ·cases S with
   | none=>cases h3
   | some x=>
    injection h3 with h3;injection h3 with e1 h3;injection h3 with e2 _;injection e1 with e1;injection e2 with e2;show(match rs[x.1.toNat]? with
     |some (.tup [_,_,.lst st])=>Zk _
     |_=>none)=_
    rw[e1,hr,((List.map_inj_right λa b h=>by injection h).mp e2),h4]
 rw[e,g1];exact#[h1,g2]
noncomputable def kpF(rs:List D)(p:Int):Int:=if p=-1 then 0 else(match rs[p.toNat]? with
 |some (.tup [.int k,_,_])=>k
 |_=>0)
noncomputable def gdF(rs:List D)(p:Int):Bool:=if p=-1 then false else(match rs[p.toNat]? with
 |some (.tup [_,.bl g,_])=>g
 |_=>false)
theorem wws{rs p k}(h:Kpr rs p k):kpF rs p=k:=by
 rcases h with⟨rfl,rfl⟩|⟨h0,g,st,e⟩
 ·rfl
 ·unfold kpF;rw[Xe ⋯,e]
theorem wx7{rs p g}(h:Gdr rs p g):gdF rs p=g:=by
 rcases h with⟨rfl,rfl⟩|⟨h0,k,st,e⟩
 ·rfl
 ·unfold gdF;rw[Xe ⋯,e]
theorem Kq{ai n rs}{p:Int}(hP:Prs ai n rs)(hk:Abk ai)(h0:-1<=p)(h1:p<ai.length):Kpr rs p (kpF rs p)/\Gdr rs p (gdF rs p)/\0<=kpF rs p/\kpF rs p<=3/\(0<=p->kpF rs p=ai.getD p.toNat 0):=by
 obtain⟨k,g,a,b,c,d⟩:=wwr hP h0 h1;rw[wws a,wx7 b];refine#[a,b,?_]
 by_cases hp:p=-1
 ·rw[c hp];exact#[⋯,⋯,λh=>by lia]
 ·have hd:=d ⋯;have hm:ai.getD p.toNat 0∈ai:=by rw[X9,X1 ⋯];exact Y0 _
  rw[hd];exact#[(hk _ hm).1,(hk _ hm).2,λ_=>rfl]
noncomputable def vj(K:List D)(x:Sn×Sn):List D×D:=if rmO x.1=-1/\rmO x.2=-1 then(K,.non)else(wj K (qV x.1 x.2),.tup [.int ((wj K (qV x.1 x.2)).idxOf (qV x.1 x.2):Nat),iT (x3 (nms x.1) (nms x.2))])
theorem qql:∀l,keyDs 4 (prs l)=true
 |[]=>rfl
 |p::l=>by
  show(v6 4 _&&keyDs 4 _)=true;rw[qql l];rfl
theorem qqm(r r') l:J6 (.tup [.int r,.int r',.tup (prs l)])=true:=by
 have:keyDs 5 [D.int r,.int r',.tup (prs l)]=true:=by
  show(v6 5 _&&(v6 5 _&&(keyDs 4 _&&true)))=true;rw[qql];rfl
 show(keyDs 5 [D.int r,.int r',.tup _]&&true)=true;rw[this];rfl
noncomputable def IsP(d:D):Prop:=∃(r r':Int) (l:List (Int×Int)),d=.tup [.int r,.int r',.tup (prs l)]
theorem wq0{K}(h:∀d∈K,IsP d):unm (wW K)=true:=by
 cases K with|nil=>rfl|cons d K=>obtain⟨r,r',l,rfl⟩:=h d X4;rfl
theorem kve{ai S}(h:kZ ai S)(e:rmO S=-1):S=none:=by
 cases S with|none=>rfl|some x=>have:=(h x.1 x.2 rfl).1;have e:x.1=-1:=e;lia
theorem zK{ai S}(hk:Abk ai)(h:kZ ai S):(nms S).length<=3:=by
 cases S with
 |none=>exact Yg _
 |some x=>
  obtain⟨a,b,c⟩:=h x.1 x.2 rfl;have hm:ai.getD x.1.toNat 0∈ai:=by rw[X9,X1 ⋯];exact Y0 _
  have:=(hk _ hm).2;show x.2.length<=3;lia
theorem vvi{ai am K a b}(ha:kZ ai a)(hb:kZ am b)(hk:Abk ai)(bi:Abk am)(hK:∀d∈K,IsP d)(hl:K.length<9000):
  Oom m_joined_case [(.no,.tup [stn a,stn b]),(.rt,.dct (wW K))] 1 (λy x'=>y.2=(vj K (a,b)).2/\x'=(.rt,.dct (wW (vj K (a,b)).1))) noX:=by
 have la:=zK hk ha;have lb:=zK bi hb;have hu:=wq0 hK;unfold m_joined_case;refine qxy (K9 (Q0 ?_));simp![];refine(qvf a b ⋯ ⋯).via ?_;intro y hy;subst hy
 by_cases hn:rmO a=-1/\rmO b=-1
 ·have ea:=kve ha hn.1;have eb:=kve hb hn.2;subst ea eb;have e:fEq (qV none none) (.tup [.int (-1),.int (-1),.tup []])=some (.bl true):=rfl;simp![];refine K9 (wwb ?_);simp![e];refine qq7 ?_;simp![]
  first|exact#[rfl,rfl]|trivial
 ·have e:fEq (qV a b) (.tup [.int (-1),.int (-1),.tup []])=some (.bl false):=by
   unfold fEq qV;rw[wjq,show(D.tup [.int (-1),.int (-1),.tup []]).flat 40=true from rfl];show some (D.bl ((rmO a == -1)&&((rmO b == -1)&&_)))=_
   by_cases h1:rmO a=-1
   ·have h2:(rmO b == -1)=false:=Xu λh=>hn #[h1,h]
    rw[h2];simp
   ·rw[Xu h1];rfl
  simp![];refine K9 (wwb ?_);simp![e];refine Q0 ?_;simp![];refine qq7 ?_;simp![];refine vxu hu ?_;simp![qqi hu];have hz:=qw6 K 0 (qV a b);have rk:(wW K).length=K.length:=kzx K 0;have hc:vj K (a,b)=(wj K (qV a b),.tup [.int ((wj K (qV a b)).idxOf (qV a b):Nat),iT (x3 (nms a) (nms b))]):=Xe hn;refine#[wW K,rfl,#[qqm _ _ _,by rw[rk];lia,hu,qkg _ _],λd hd=>?_,λmh=>?_]
  ·have hm:qV a b∈K:=by
    by_cases hm:qV a b∈K
    ·exact hm
    ·rw[Xe hm]at hz;unfold wW at hd
     grind
   rw[Xb hm,Nat.zero_add]at hz;unfold wW at hd;rw[hz]at hd;cases oq9 hd;have e1:wj K (qV a b)=K:=by unfold wj;rw[Xb hm]
   refine(qjz a b ⋯ ⋯).via ?_;intro y hy;subst hy;simp![];rw[hc,e1]
   first|exact#[rfl,rfl]|trivial
  ·have hm:qV a b∉K:=λhm=>by
    rw[Xb hm]at hz;unfold wW at mh;rw[hz]at mh;cases mh
   have e1:wj K (qV a b)=K++[qV a b]:=by unfold wj;rw[Xe hm]
   have e2:=wjl K (qV a b);rw[Xe hm]at e2;refine(qjz a b ⋯ ⋯).via ?_;intro y hy;subst hy;simp![rk];rw[hc];dsimp only;rw[e2,e1,qw8]
   first|exact#[rfl,rfl]|trivial
noncomputable def kY:List (Sn×Sn)->List D->List D×List D
 |[],K=>(K,[])|x::r,K=>((kY r (vj K x).1).1,(vj K x).2::(kY r (vj K x).1).2)
def lat(x:Sn×Sn):D:=.tup [stn x.1,stn x.2]
noncomputable def q9(ss:List Str)(rs rs':List D)(S T:Sn)(own:Nat)(z:Str):List (Sn×Sn):=(List.range (own+1)).map λ(c:Nat)=>(rdF ss rs S z c,rdF ss rs' T z c)
noncomputable def qZ(ss:List Str)(rs rs':List D)(S T:Sn)(own:Nat):List Str->List D->List D×List D
 |[],K=>(K,[])|z::zs,K=>((qZ ss rs rs' S T own zs (kY (q9 ss rs rs' S T own z) K).1).1,.lst (kY (q9 ss rs rs' S T own z) K).2::(qZ ss rs rs' S T own zs (kY (q9 ss rs rs' S T own z) K).1).2)
noncomputable def byW(w:Str)(g g':Bool):Bool:=if w == "both" then g&&g' else if w == "either" then g||g' else if w == "first" then g && !g' else g != g'
theorem good_by{w g g'}:Oo m_is_good_by [(.no,.str w),(.no,.bl g),(.no,.bl g')] (λy=>∃o',y=(o',.bl (byW w g g'))/\True) noX:=by
 have e:∀z,fEq (.str w) (.str z)=some (.bl (w==z)):=λ_=>rfl
 have ne:fNe (.bl g) (.bl g')=some (.bl (g != g')):=by cases g<;>cases g'<;>rfl
 unfold m_is_good_by byW;refine kJ ?_;cases h1:w==("both":Str)with
 | true=>
  simp![e,h1];cases g<;>exact#[_,rfl,trivial]
 | false=>
  cases h2:w==("either":Str)with
  | true=>
   simp![e,h1,h2];cases g<;>exact#[_,rfl,trivial]
  | false=>
   cases h3:w==("first":Str)with
   |true=>
    simp![e,h1,h2,h3];cases g<;>exact#[_,rfl,trivial]
   |false=>
    simp![e,h1,h2,h3,ne];exact#[_,rfl,trivial]
structure Kj (K:List D):Prop where
 nd:K.Nodup
 ok:∀d∈K,IsP d
set_option tactic.hygienic true in
theorem kwp{K x}(h:Kj K):Kj (vj K x).1/\K.length<=(vj K x).1.length/\(vj K x).1.length<=K.length+1:=by
 unfold vj
 split
 ·exact#[h,X8 _,Nat.le_succ _]
 ·dsimp only;unfold wj
  split
  ·exact#[h,X8 _,Nat.le_succ _]
  ·rename_i hm;refine#[#[List.nodup_append.mpr #[h.nd,by simp,λa ha b hb e=>?_],λd hd=>?_],by simp,by simp]
   ·rw[aC hb]at e;exact hm (e▸ha)
   ·rcases aA hd with hd|hd
    ·exact h.ok d hd
    ·rw[aC hd];exact#[_,_,_,rfl]
theorem jxw:∀{l K},Kj K->Kj (kY l K).1/\K.length<=(kY l K).1.length/\(kY l K).1.length<=K.length+l.length
 |[],K,h=>#[h,X8 _,X8 _]
 |x::l,K,h=>by
  obtain⟨a,b,c⟩:=kwp h;obtain⟨d,e,f⟩:=jxw a;refine#[d,Xx b e,?_];show(kY l (vj K x).1).1.length<=K.length+(l.length+1);lia
theorem jvv{ss rs rs' S T own}:∀{zs K},Kj K->Kj (qZ ss rs rs' S T own zs K).1/\K.length<=(qZ ss rs rs' S T own zs K).1.length/\(qZ ss rs rs' S T own zs K).1.length<=K.length+zs.length*(own+1)
 |[],K,h=>#[h,X8 _,by simp[qZ]]
 |z::zs,K,h=>by
  obtain⟨a,b,c⟩:=jxw h;obtain⟨d,e,f⟩:=jvv (rs':=rs') a;have hl:(q9 ss rs rs' S T own z).length=own+1:=by unfold q9;rw[X3,Yd]
  refine#[d,Xx b e,?_];show(qZ ss rs rs' S T own zs (kY _ K).1).1.length<=K.length+(zs.length+1)*_
  grind
section
variable {ai am:List Int}{ss:List Str}{rs rs':List D}
noncomputable def pS(rs:List D):D->Sn
 |.tup [.int p,_,_]=>xv0 p (kpF rs p)|_=>none
noncomputable def wqj:List D->List (Int×Int)
 |[]=>[]|.tup [.int i,.int j]::r=>(i,j)::wqj r|_::r=>wqj r
theorem qwq:∀l,wqj (prs l)=l
 |[]=>rfl
 |p::l=>by
  show _::wqj (prs l)=_;rw[qwq l]
noncomputable def pT(rs rs':List D):D->Sn
 |.tup [.int p,.int q,.tup sh]=>wxb q (kpF rs p) (kpF rs' q) (wqj sh)|_=>none
noncomputable def pO(rs rs':List D)(P:D):Nat:=(x3 (nms (pS rs P)) (nms (pT rs rs' P))).length
noncomputable def gS(rs:List D):D->Bool
 |.tup [.int p,_,_]=>gdF rs p|_=>false
noncomputable def gT(rs:List D):D->Bool
 |.tup [_,.int q,_]=>gdF rs q|_=>false
noncomputable def qwt(w:Str)(ss:List Str)(rs rs':List D)(P:D)(st:List D):D:=.tup [.int (pO rs rs' P),.bl (byW w (gS rs P) (gT rs' P)),.lst st]
noncomputable def Pok(ai am:List Int)(P:D):Prop:=∃(p q:Int) (sh:List (Int×Int)),P=.tup [.int p,.int q,.tup (prs sh)]/\-1<=p/\p<ai.length/\-1<=q/\q<am.length/\sh.length<=3
theorem kz3{a b}(ha:a.length<=3)(hb:b.length<=3):(x3 a b).length<=6:=by
 unfold x3
 grind
theorem qxu{P}(hP:Prs ai ss.length rs)(hk:Abk ai)(h:Pok ai am P):kZ ai (pS rs P):=by
 obtain⟨p,q,sh,rfl,h0,h1,_⟩:=h;obtain⟨_,_,c,_,e⟩:=Kq hP hk h0 h1;refine qwl h0 h1 λhp=>?_
 rw[<-e hp,X3,Yd];lia
theorem qxt{P}(bu:Prs am ss.length rs')(bi:Abk am)(h:Pok ai am P):kZ am (pT rs rs' P):=by
 obtain⟨p,q,sh,rfl,_,_,h0,h1,_⟩:=h;obtain⟨_,_,c,_,e⟩:=Kq bu bi h0 h1;refine qwl h0 h1 λhp=>?_
 rw[<-e hp,kk3];lia
theorem vv7{P}(hP:Prs ai ss.length rs)(hk:Abk ai)(bu:Prs am ss.length rs')(bi:Abk am)(h:Pok ai am P):
  Oo m_first_standings [(.no,jv ss rs),(.no,jv ss rs'),(.no,P)] (λy=>y=(.no,lat (pS rs P,pT rs rs' P))) noX:=by
 obtain⟨p,q,sh,rfl,h0,h1,h2,h3,h4⟩:=h;obtain⟨a,_,c,d,_⟩:=Kq hP hk h0 h1;obtain⟨a',_,c',d',_⟩:=Kq bu bi h2 h3;refine(vv6 a a' c ⋯ c' ⋯ ⋯).mono λy hy=>?_
 rw[hy];show _=(Own.no,D.tup [stn _,stn (wxb q _ _ _)]);rw[qwq];rfl
theorem vql{P}(hP:Prs ai ss.length rs)(hk:Abk ai)(bu:Prs am ss.length rs')(bi:Abk am)(h:Pok ai am P):pO rs rs' P<=6:=kz3 (zK hk (qxu hP hk h)) (zK bi (qxt bu bi h))
theorem kje{x S T own z}(hP:Prs ai ss.length rs)(hk:Abk ai)(bu:Prs am ss.length rs')(bi:Abk am)(hS:kZ ai S)(hT:kZ am T)(h:x∈q9 ss rs rs' S T own z):kZ ai x.1/\kZ am x.2:=by
 obtain⟨c,_,rfl⟩:=aE h;exact#[(Wv z c hP hk hS).2,(Wv z c bu bi hT).2]
inductive RmJ (E1:En)(L:List (Sn×Sn))(K1:List D):En->En->List D->List Sd->Prop
 |mk {q:Option Sd} {K2:List D} {xs:List (Sn×Sn)} {aq:List Sd}:Kj K2->(∀x∈xs,x∈L)->K2.length+xs.length<=K1.length+L.length->kY L K1=((kY xs K2).1,aq.map (·.2)++(kY xs K2).2)->RmJ E1 L K1 E1 [q,some (.rt,.dct (wW K2))] (xs.map lat) aq
theorem qkt(t):∀k (o),(vZ t k o).length<=o.length
 |_,[]=>X8 _
 |k,n::o=>by
  have:=qkt t (k+1) o;unfold vZ
  split<;>simp<;>lia
theorem vqj{a b}(ha:kZ ai a)(hb:kZ am b)(hk:Abk ai):Pok ai am (qV a b):=by
 obtain⟨a0,a1⟩:=wqf ha;obtain⟨b0,b1⟩:=wqf hb;exact#[_,_,_,rfl,a0,a1,b0,b1,Xx (qkt _ _ _) (zK hk ha)]
theorem vjl{K x}(hK:∀d∈K,Pok ai am d)(ha:kZ ai x.1)(hb:kZ am x.2)(hk:Abk ai):∀d∈(vj K x).1,Pok ai am d:=by
 intro d hd;unfold vj at hd
 split at hd
 ·exact hK d hd
 ·dsimp only at hd;unfold wj at hd
  split at hd
  ·exact hK d hd
  ·rcases aA hd with hd|hd
   ·exact hK d hd
   ·rw[aC hd];exact vqj ha hb hk
theorem kv0(hk:Abk ai):∀{l K},(∀d∈K,Pok ai am d)->(∀x∈l,kZ ai x.1/\kZ am x.2)->∀d∈(kY l K).1,Pok ai am d
 |[],K,h,_=>h|x::l,K,h,hl=>kv0 hk (l:=l) (vjl h (hl x X4).1 (hl x X4).2 hk) λy hy=>hl y (lc9 _ hy)
theorem kqe{S T own}(hP:Prs ai ss.length rs)(hk:Abk ai)(bu:Prs am ss.length rs')(bi:Abk am)(hS:kZ ai S)(hT:kZ am T):∀{zs K},(∀d∈K,Pok ai am d)->∀d∈(qZ ss rs rs' S T own zs K).1,Pok ai am d
 |[],K,h=>h|z::zs,K,h=>kqe hP hk bu bi hS hT (zs:=zs) (kv0 hk h λx hx=>kje hP hk bu bi hS hT hx)
noncomputable def qwk(w:Str)(ss:List Str)(rs rs' K af:List D):List D×List D:=
 ((qZ ss rs rs' (pS rs (K.getD af.length .non)) (pT rs rs' (K.getD af.length .non)) (pO rs rs' (K.getD af.length .non)) ss K).1,
  af++[qwt w ss rs rs' (K.getD af.length .non) (qZ ss rs rs' (pS rs (K.getD af.length .non)) (pT rs rs' (K.getD af.length .non)) (pO rs rs' (K.getD af.length .non)) ss K).2])
inductive RunJ (w:Str)(ss:List Str)(rs rs':List D):List D->List D->Option (List D×List D)->Prop
 |stop {K af:List D}:¬af.length<K.length->RunJ w ss rs rs' K af (some (K,af))
 |great {K af:List D}:af.length<K.length->40<K.length->RunJ w ss rs rs' K af none
 |go {K af:List D} {r:Option (List D×List D)}:af.length<K.length->K.length<=40->RunJ w ss rs rs' (qwk w ss rs rs' K af).1 (qwk w ss rs rs' K af).2 r->RunJ w ss rs rs' K af r
abbrev P0:D:=.tup [.int 0,.int 0,.tup []]
structure Mst (ai am:List Int)(K af:List D):Prop where
 kj:Kj K
 ok:∀d∈K,Pok ai am d
 le:af.length<=K.length
theorem kwc{w K af}(hP:Prs ai ss.length rs)(hk:Abk ai)(bu:Prs am ss.length rs')(bi:Abk am)(h:Mst ai am K af)(cj:af.length<K.length):
  Mst ai am (qwk w ss rs rs' K af).1 (qwk w ss rs rs' K af).2:=by
 have lm:K.getD af.length .non∈K:=by rw[X9,X1 cj];exact Y0 _
 have lx:=h.ok _ lm;obtain⟨a,b,c⟩:=jvv (rs':=rs') h.kj;refine⟨a,kqe hP hk bu bi (qxu hP hk lx) (qxt bu bi lx) h.ok,?_⟩;show(af++[_]).length<=_;rw[Xi];exact Xx cj b
def wzi:D->Int
 |.tup [.int k,_,_]=>k|_=>0
noncomputable def kx3(rs:List D):Bool:=decide (rs.length<=12)&&rs.all λr=>decide (wzi r<=3)
theorem vjz(g):∀ds:List D,bls (ds.map λd=>D.bl (g d))=some (ds.map g)
 |[]=>rfl
 |d::ds=>by
  rw[List.map_cons,bls,vjz g ds];rfl
theorem wxv g (ds:List D):wzl (.lst (ds.map λd=>D.bl (g d)))=some (.bl (ds.all g)):=by
 show(bls _).map _=_;rw[vjz];simp[Function.comp_def]
theorem qks{d0 rs}(h:∀r∈rs,∃(own:Int) (a b:D),r=.tup [.int own,a,b]):Oo m_is_small [(.no,.tup [d0,.lst rs])] (λy=>∃o',y=(o',.bl (kx3 rs))/\True) noX:=by
 have q1:∀a b,jJ (.tup [a,b]) (.int 1)=some b:=λ_ _=>rfl
 refine kJ ?_
 by_cases hl:rs.length<=12
 ·have e:fLe (.int rs.length) (.int 12)=some (.bl true):=by rw[le_ii,Xh ⋯]
  simp![q1,e];refine Vj [] (λd y=>y.2=.bl (decide (wzi d<=3))) ?_;simp![q1];refine#[λd hd=>?_,λys hy=>?_]
  ·obtain⟨own,a,b,rfl⟩:=h d hd;simp![t0];exact#[#[_,rfl],rfl]
  ·rw[xX,ZV (h:=λd=>.bl (decide (wzi d<=3))) (λ_ _ h=>h) hy];simp![wxv (λd=>decide (wzi d<=3))];exact#[_,by unfold kx3;rw[Xh hl];rfl,trivial]
 ·have e:fLe (.int rs.length) (.int 12)=some (.bl false):=by rw[le_ii,Xp ⋯]
  simp![q1,e];exact#[_,by unfold kx3;rw[Xp hl];rfl,trivial]
theorem qq3{n}(hP:Prs ai n rs):∀r∈rs,∃(own:Int) (a b:D),r=.tup [.int own,a,b]:=λr hr=>by
 obtain⟨i,hi,e⟩:=List.getElem_of_mem hr;obtain⟨r',e',gd,st,h',_⟩:=hP.2 i (hP.1▸hi);rw[X1 hi,e]at e'
 grind
theorem kxl{n}(hP:Prs ai n rs)(hk:Abk ai)(uw:ai.length<=12):kx3 rs=true:=by
 unfold kx3;rw[Xh (hP.1▸uw),Bool.true_and,Yx];intro r hr;obtain⟨i,hi,e⟩:=List.getElem_of_mem hr;have ly:i<ai.length:=by rw[<-hP.1];exact hi
 obtain⟨r',e',gd,st,h',_⟩:=hP.2 i ly;rw[X1 hi,e]at e';cases oq9 e';rw[h'];have hm:ai.getD i 0∈ai:=by rw[X9,X1 ly];exact Y0 _
 exact Xh (hk _ hm).2
end
end J
namespace Kp
open Q PySem C
theorem bk(E:En):back [] [] (clr [] E)=E:=rfl
end Kp
namespace U
open Q PySem C B J
theorem xjc{ai:List Int}{ss:List Str}{rs:List D}{s a b:D}{w:Str×Int}(h:Rd ai ss rs s w a)(h':Rd ai ss rs s w b):a=b:=by
 rcases h with⟨rfl,rfl⟩|⟨room,ks,st,kp,gd,rfl,_,hr,_,_,e⟩
 ·rcases h' with⟨_,rfl⟩|⟨room,ks,st,kp,gd,h,_⟩
  ·rfl
  ·cases h
 ·rcases h' with⟨h,_⟩|⟨room',ks',fm,kp',gd',h,_,hr',_,_,e'⟩
  ·cases h
  ·injection h with h;injection h with e1 h;injection h with e2 _;injection e1 with e1;injection e2 with e2;have e2:ks=ks':=(List.map_inj_right λa b h=>by injection h).mp e2;subst e1 e2;rw[hr]at hr';injection hr' with hr';injection hr' with hr';injection hr' with _ hr';injection hr' with _ hr';injection hr' with hr' _;injection hr' with hr';rw[e,e',hr']
end U
namespace Nk61
open PySem Q
def m_is_small : Fn:= J.m_is_small
def m_read_by : Fn:= C.m_read_by
def m_keepers_in : Fn:= B.m_keepers_in
def m_standing_in : Fn:= B.m_standing_in
def m_first_standings : Fn:= B.m_first_standings
def m_read_by_both : Fn:= B.m_read_by_both
def m_names_of : Fn:= B.m_names_of
def m_room_of : Fn:= B.m_room_of
def m_pair_of : Fn:= B.m_pair_of
def m_held_by_both : Fn:= B.m_held_by_both
def m_is_good_in : Fn:= B.m_is_good_in
def m_is_good_by : Fn:= J.m_is_good_by
def m_joined_case : Fn:= J.m_joined_case
noncomputable def jkz:Fn:=fn 10
  (j6 (jq 5 (jx m_first_standings [(cV 1),(cV 2),(cV 3)]))
  (j6 (jq 6 (cF1 (pu1 qw) (vE (jx m_held_by_both [(cV 5)]))))
  (j6 (jq 7 (kq .dp []))
  (j6 (vw (itS (cH (jk (vV 1) (C9 0)))) (.n 8) (j6 (jq 9 (cLC .rt 1 [1,2,5,8] (vW (vE (cF2 k4 (vV 6) (C9 1)))) (.n 0) tYes (jx m_read_by_both [(cV 1),(cV 2),(cV 3),(cV 4),(cV 0)])))
  (qW qX 7 (zW (cLC .rt 1 [4] (itS (cV 9)) (.n 0) tYes (kv3 m_joined_case 1 [(cV 0)]))))))
  (jw (kw .dp [(cV 6),(zW (jx m_is_good_by [(cV 0),(jx m_is_good_in [(cV 1),(cH (jk (vV 3) (C9 0)))]),(jx m_is_good_in [(cV 2),(cH (jk (vV 3) (C9 1)))])])),(cMv 7)]))))))
noncomputable def jxn:Fn:=fn 5
  (j6 (sIf (tOr (tE (cF2 (pu2 J0) (vV 0) (vE (cC (.tup [(.str "both"),(.str "either"),(.str "first"),(.str "one")]))))) (tE (cF2 (pu2 fNe) (jk (vV 1) (C9 0)) (jk (vV 2) (C9 0))))) (sRz "NoFit") k9)
  (j6 (sIf (tOr (tNot (tEQ (vE (jx m_is_small [(cV 1)])))) (tNot (tEQ (vE (jx m_is_small [(cV 2)]))))) (sRz "TooGreat") k9)
  (j6 (jq 3 (vvo (cC (.tup [(.int 0),(.int 0),(.tup [])])) (cC (.int 0))))
  (j6 (jq 4 (kq .dp []))
  (j6 (sWhile (tE (cF2 (pu2 fLt) (vE (cF1 (pu1 qw) (vV 4))) (vE (cF1 (pu1 W3) (vV 3))))) (j6 (sIf (tE (cF2 (pu2 fGt) (vE (cF1 (pu1 W3) (vV 3))) (C9 40))) (sRz "TooGreat") k9)
  (qW qX 4 (kv3 jkz 3 [(cV 0),(cV 1),(cV 2),(cH (jk (vE (cF1 WK (vV 3))) (vE (cF1 (pu1 qw) (vV 4)))))]))))
  (jw (kw .dp [(kw .dp [(zW (cF1 K6 (jk (vV 1) (C9 0)))),(cMv 4)]),(zW (cF1 WK (vV 3)))])))))))
def m__law_cell_at : Fn:= B.m__law_cell_at
def m__law_whole : Fn:= B.m__law_whole
def m__law_stream : Fn:= B.m__law_stream
def m__law_signs : Fn:= B.m__law_signs
def m__law_fills : Fn:= B.m__law_fills
def m__law_case : Fn:= B.m__law_case
def m__law_plain : Fn:= B.m__law_plain
noncomputable def jqc:Fn:=fn 15
  (j6 (jq 2 (jx m__law_stream [(cV 0),(cC (.int 100))]))
  (j6 (jq 3 (cF2 k4 (C9 10) (vE (cF2 (pu2 qv) (jk (vV 2) (C9 0)) (C9 3)))))
  (j6 (jq 4 (cF2 k4 (vE (kq .rt [(cC (.int 0))])) (vE (cLC .rt 1 [2] (vW (vE (cF2 (pu2 wzk) (vV 3) (C9 1)))) (.n 0) tYes (cF2 (pu2 qv) (jk (vV 1) (vE (cF2 k4 (C9 1) (vV 0)))) (C9 2))))))
  (j6 (jq 5 (kq .rt []))
  (j6 (jq 6 (cC (.int 14)))
  (j6 (vw (vW (vV 3)) (.n 7) (j6 (jq 8 (kq .rt []))
  (j6 (vw (vW (vE (cF1 (pu1 qw) (vV 1)))) (.n 9) (j6 (jq 10 (kq .rt []))
  (j6 (vw (vW (vE (cF2 k4 (jk (vV 4) (vV 7)) (C9 1)))) (.n 11) (j6 (jq 12 (cH (jk (vV 2) (vV 6))))
  (j6 (jq 6 (cF2 k4 (vV 6) (C9 1)))
  (j6 (jq 13 (cF2 k4 (jk (vV 4) (vV 7)) (vE (cF1 (pu1 JK) (vE (cF2 (pu2 fEq) (vV 11) (jk (vV 4) (vV 7))))))))
  (j6 (jq 14 (cH (jk (vE (kq .rt [(cF2 (pu2 qv) (vE (cF2 k4 (vV 7) (C9 1))) (vV 3)),(cF2 (pu2 qv) (vE (cF2 (pu2 xk) (vV 12) (C9 5))) (vV 3))])) (vE (cF1 (pu1 JK) (vE (cF2 (pu2 fEq) (vE (cF2 (pu2 qv) (vV 12) (C9 5))) (C9 3))))))))
  (sIf (tOr (tE (cF2 (pu2 fEq) (vE (cF2 (pu2 qv) (vV 12) (C9 5))) (C9 4))) (tE (cF2 (pu2 fGt) (jk (vV 4) (vV 14)) (vV 13)))) (qW qX 10 (cC .non)) (qW qX 10 (kw .no [(cV 14),(jx m__law_fills [(cF2 (pu2 xk) (vV 12) (C9 97)),(cH (jk (vV 4) (vV 14))),(cV 13)])]))))))))
  (qW qX 8 (cV 10)))))
  (j6 (qW qX 5 (kw .no [(cH (jk (vV 4) (vV 7))),(cF2 (pu2 fEq) (vE (cF2 (pu2 qv) (jk (vV 2) (vV 6)) (C9 2))) (C9 0)),(cV 8)]))
  (jq 6 (cF2 k4 (vV 6) (C9 1)))))))
  (jw (kw .no [(cF1 K6 (vV 1)),(cV 5)]))))))))
noncomputable def W2:Fn:=fn 2
  (j6 (sIf (tE (cF2 (pu2 fEq) (vE (cF2 (pu2 qv) (vV 0) (C9 8))) (C9 5))) (jw (jx jqc [(cF2 (pu2 xk) (vV 0) (C9 8)),(cV 1)])) k9)
  (jw (jx m__law_plain [(cV 0),(cV 1)])))
def m__law_read : Fn:= B.m__law_read
def m__law_keepers : Fn:= B.m__law_keepers
def m__law_pair : Fn:= B.m__law_pair
noncomputable def wQ(r:Fn):Fn:=fn 4
  (j6 (sIf (tOr (tEQ (vE (cF1 (pu1 (qj "tuple")) (vV 1)))) (tEQ (vE (cF1 (pu1 (qj "list")) (vV 1))))) (j6 (sIf (tOr (tE (cF2 (pu2 fNe) (vE (cF1 (pu1 (qj "tuple")) (vV 1))) (vE (cF1 (pu1 (qj "tuple")) (vV 0))))) (tE (cF2 (pu2 fNe) (vE (cF1 (pu1 (qj "list")) (vV 1))) (vE (cF1 (pu1 (qj "list")) (vV 0)))))) (jw (cC (.bl false))) k9)
  (j6 (sIf (tE (cF2 (pu2 fNe) (vE (cF1 (pu1 qw) (vV 0))) (vE (cF1 (pu1 qw) (vV 1))))) (jw (cC (.bl false))) k9)
  (j6 (vw (kz0 (cV 0) (cV 1)) (.t [2,3]) (sIf (tNot (tEQ (vE (jx r [(cV 2),(cV 3)])))) (jw (cC (.bl false))) k9))
  (jw (cC (.bl true)))))) k9)
  (j6 (sIf (tE (cF2 (f2First fIsNon) (vV 1) (vE (cC .non)))) (jw (cF2 (f2First fIsNon) (vV 0) (vE (cC .non)))) k9)
  (j6 (sIf (tOr (tEQ (vE (cF1 (pu1 (qj "bool")) (vV 1)))) (tEQ (vE (cF1 (pu1 (qj "str")) (vV 1))))) (jw (Jk (vE (cF2 (pu2 fEq) (vE (cF1 (pu1 (qj "bool")) (vV 0))) (vE (cF1 (pu1 (qj "bool")) (vV 1))))) (cF2 (pu2 fEq) (vV 0) (vV 1)))) k9)
  (jw (Jk (vE (jx m__law_whole [(cV 0)])) (cF2 (pu2 fEq) (vV 0) (vV 1)))))))
def jqt:Fn:=xz wQ 9
noncomputable def Wk:Fn:=fn 13
  (j6 (Wj [3,4,5] (cV 2))
  (j6 (jq 6 (YQ (vE (jx m__law_keepers [(cV 0),(cV 3)]))))
  (j6 (jq 7 wk4)
  (j6 (vw (itS (cV 5)) (.t [8,9]) (vxz 7 (vV 9) (cV 8)))
  (j6 (jq 10 (kq .rt []))
  (j6 (jq 11 (cF1 (pu1 qw) (vV 6)))
  (j6 (vw (vW (vE (jx m__law_keepers [(cV 1),(cV 4)]))) (.n 9) (j6 (qW qX 10 (cH (vkg (vV 7) (vV 9) (vV 11))))
  (jq 11 (cF2 k4 (vV 11) (vE (cF1 (pu1 JK) (vE (cF2 (pu2 kkd) (vV 9) (vV 7)))))))))
  (j6 (jq 12 (kq .rt [(kw .no [(cV 3),(cF1 xV (vV 6))]),(kw .no [(cV 4),(cF1 xV (vV 10))])]))
  (jw (cLC .rt 1 [] (itS (cV 12)) (.n 0) tYes (cH (jk (vE (kq .rt [(cV 0),(cC .non)])) (vE (cF1 (pu1 JK) (vE (cF2 (pu2 fEq) (jk (vV 0) (C9 0)) (vE (cF1 (pu1 KQ) (C9 1)))))))))))))))))))
noncomputable def ZJ:Fn:=fn 1
  (j6 (sIf (tE (cF2 (f2First fIsNon) (vV 0) (vE (cC .non)))) (jw (kw .no [])) k9)
  (jw (cH (jk (vV 0) (C9 1)))))
noncomputable def ZK:Fn:=fn 2
  (jw (cF2 k4 (vE (cF1 K6 (vE (jx ZJ [(cV 0)])))) (vE (cLC .rt 1 [0] (itS (jx ZJ [(cV 1)])) (.n 0) (tE (cF2 (pu2 J0) (vV 0) (vE (jx ZJ [(cV 1)])))) (cV 0)))))
noncomputable def jvp:Fn:=fn 7
  (j6 (jq 4 (kq .rt [(cC (.bl false)),(cC (.bl false))]))
  (j6 (vw (wwy (kq .rt [(cV 1),(cV 2)])) (.t [5,6]) (sIf (tE (cF2 (pu2 fNe) (jk (vV 3) (vV 5)) (vE (cF1 (pu1 KQ) (C9 1))))) (wql 4 (vV 5) (cH (jk (jk (jk (vV 6) (C9 1)) (jk (vV 3) (vV 5))) (C9 1)))) k9))
  (j6 (sIf (tE (cF2 (pu2 fEq) (vV 0) (vE (cC (.str "both"))))) (jw (cF2 (pu2 fEq) (vV 4) (vE (kq .rt [(cC (.bl true)),(cC (.bl true))])))) k9)
  (j6 (sIf (tE (cF2 (pu2 fEq) (vV 0) (vE (cC (.str "either"))))) (jw (cF2 (pu2 fNe) (vV 4) (vE (kq .rt [(cC (.bl false)),(cC (.bl false))])))) k9)
  (j6 (sIf (tE (cF2 (pu2 fEq) (vV 0) (vE (cC (.str "first"))))) (jw (cF2 (pu2 fEq) (vV 4) (vE (kq .rt [(cC (.bl true)),(cC (.bl false))])))) k9)
  (jw (cF2 (pu2 fNe) (jk (vV 4) (C9 0)) (jk (vV 4) (C9 1)))))))))
noncomputable def jqd:Fn:=fn 13
  (j6 (Wj [5,6] (jx Wk [(cV 0),(cV 1),(cV 2)]))
  (j6 (jq 7 (cF1 (pu1 qw) (vE (jx ZK [(cV 5),(cV 6)]))))
  (j6 (jq 8 (kq .dp []))
  (j6 (vw (vW (vE (cF2 k4 (vV 7) (C9 1)))) (.n 9) (j6 (jq 10 (jx m__law_read [(cV 0),(cV 5),(cV 3),(cV 9)]))
  (j6 (jq 11 (jx m__law_read [(cV 1),(cV 6),(cV 3),(cV 9)]))
  (sIf (tAnd (tE (cF2 (f2First fIsNon) (vV 10) (vE (cC .non)))) (tE (cF2 (f2First fIsNon) (vV 11) (vE (cC .non))))) (qW qX 8 (cC .non)) (j6 (jq 12 (jx m__law_pair [(cV 10),(cV 11)]))
  (j6 (sIf (tE (cF2 (pu2 J0) (vV 12) (vV 4))) (qW qX 4 (cV 12)) k9)
  (qW qX 8 (kw .dp [(zW (JQ (vV 4) (vV 12))),(zW (cF1 xV (vE (jx ZK [(cV 10),(cV 11)]))))]))))))))
  (jw (kw .dp [(cV 7),(cMv 8)]))))))
noncomputable def jwg:Fn:=fn 10
  (j6 (jq 3 (kq .rt [(kw .no [(cC (.int 0)),(cC (.int 0)),(kw .no [])])]))
  (j6 (jq 4 (kq .dp []))
  (j6 (sWhile (tAnd (tE (cF2 (pu2 fLt) (vE (cF1 (pu1 qw) (vV 4))) (vE (cF1 (pu1 qw) (vV 3))))) (tE (cF2 (pu2 fLe) (vE (cF1 (pu1 qw) (vV 3))) (C9 40)))) (j6 (jq 5 (cH (jk (vV 3) (vE (cF1 (pu1 qw) (vV 4))))))
  (j6 (jq 6 (kq .dp []))
  (j6 (jq 7 (cC (.int 0)))
  (j6 (vw (itS (cH (jk (vV 1) (C9 0)))) (.n 8) (j6 (vks 7 9 (kv3 jqd 3 [(cV 1),(cV 2),(cV 5),(cV 8)]))
  (qW qX 6 (cMv 9))))
  (qW qX 4 (kw .dp [(cV 7),(zW (jx jvp [(cV 0),(cV 1),(cV 2),(cV 5)])),(cMv 6)])))))))
  (j6 (sIf (tE (cF2 (pu2 fGt) (vE (cF1 (pu1 qw) (vV 3))) (C9 40))) (jw (cC .non)) k9)
  (jw (kw .dp [(kw .dp [(zW (cF1 K6 (jk (vV 1) (C9 0)))),(cMv 4)]),(zW (cMv 3))]))))))
noncomputable def Z7:Fn:=fn 4
  (j6 (V8 ["NoFit","TooGreat"] 3 (jw (kzj jxn [(cV 0),(cV 1),(cV 2)])) (sIf (tAnd (tEQ (vE (cF1 (pu1 (Wx [("NoFit",false),("TooGreat",true)])) (vV 3)))) (tNot (tEQ (vE (cF1 (pu1 (Wx [("NoFit",true),("TooGreat",false)])) (vV 3)))))) (jw (cC .non)) k9))
  (jw (cC (.int 0))))
noncomputable def m_law:Fn:=fn 14
  (j6 (jq 1 (jx m__law_signs [(jx m__law_cell_at [(cV 0),(cC (.int 0))])]))
  (j6 (jq 2 (jx m__law_cell_at [(cV 0),(cC (.int 2))]))
  (j6 (sIf (tE (cF2 (pu2 fEq) (vE (cF2 (pu2 qv) (vE (jx m__law_cell_at [(cV 0),(cC (.int 3))])) (C9 4))) (C9 3))) (jq 2 (jx m__law_cell_at [(cV 0),(cC (.int 1))])) k9)
  (j6 (jq 3 (jx W2 [(jx m__law_cell_at [(cV 0),(cC (.int 1))]),(cV 1)]))
  (j6 (jq 4 (jx W2 [(cV 2),(cV 1)]))
  (j6 (jq 5 (cH (jk (vE (kq .rt [(cC (.str "both")),(cC (.str "either")),(cC (.str "first")),(cC (.str "one"))])) (vE (cF2 (pu2 qv) (vE (cF2 (pu2 xk) (vE (jx m__law_cell_at [(cV 0),(cC (.int 3))])) (C9 4))) (C9 4))))))
  (j6 (jq 6 (jx jwg [(cV 5),(cV 3),(cV 4)]))
  (j6 (jq 7 (jx Z7 [(cV 5),(cV 3),(cV 4)]))
  (j6 (jq 8 (kq .rt [(jx W2 [(jx m__law_cell_at [(cV 0),(cC (.int 1))]),(cV 1)]),(jx W2 [(cV 2),(cV 1)])]))
  (j6 (sIf (tOr (tNot (tEQ (vE (Vv jqt [(vV 7),(vV 6)])))) (tE (cF2 (pu2 fNe) (vE (kq .rt [(cV 3),(cV 4)])) (vV 8)))) (jw (cC (.bl false))) k9)
  (j6 (sIf (tE (cF2 (f2First fIsNon) (vV 6) (vE (cC .non)))) (jw (cC (.bl true))) k9)
  (j6 (jq 9 (cF2 (pu2 qv) (vE (cF2 (pu2 xk) (vE (jx m__law_cell_at [(cV 0),(cC (.int 3))])) (C9 16))) (vE (cF1 (pu1 qw) (jk (vV 7) (C9 1))))))
  (j6 (jq 10 (cF2 (pu2 qv) (vE (jx m__law_cell_at [(cV 0),(cC (.int 2))])) (vE (cF1 (pu1 qw) (vV 1)))))
  (j6 (wkf 7 [.inl 0,.inl 1,.inr 9,.inl 2,.inr 10] (cC .non))
  (j6 (wkf 6 [.inl 0,.inl 1,.inr 9,.inl 2,.inr 10] (cC .non))
  (j6 (sIf (tNot (tEQ (vE (Vv jqt [(vV 7),(vV 6)])))) (jw (cC (.bl false))) k9)
  (j6 (wqm 6 [.inl 0,.inl 1,.inr 9,.inl 2,.inr 10])
  (j6 (kxa 7 11 12 13 [0,1])
  (j6 (sPC 7 [0,0])
  (j6 (sPC 7 [1])
  (jw (Jk (vE (Vv jqt [(vE (jx Z7 [(cV 5),(cV 3),(cV 4)])),(vV 6)])) (cF2 (pu2 fEq) (vE (kq .rt [(cV 3),(cV 4)])) (vV 8))))))))))))))))))))))))
end Nk61
namespace Nk61
open Q PySem C B F J
theorem xkw:m_first_standings=B.m_first_standings:=rfl
theorem xv2:m_held_by_both=B.m_held_by_both:=rfl
theorem xv3:m_read_by_both=B.m_read_by_both:=rfl
theorem xkv:m_joined_case=J.m_joined_case:=rfl
theorem wzn:m_is_good_by=J.m_is_good_by:=rfl
theorem wzm:m_is_good_in=B.m_is_good_in:=rfl
theorem xkt:m_is_small=J.m_is_small:=rfl
theorem qq6{xs}(h:D.pures xs=true):JZ (.rt,.lst xs)=true:=by
 unfold JZ
 grind
theorem W8{i:Nat}{c}{E:En}{xs N C R X}(h0:E[i]?=some (some (.dp,.lst xs)))
  (h:Eo (c E) (λE1 x=>∃ys,E1[i]?=some (some (.dp,.lst ys))/\ys.length<10000/\x.1=.dp/\N (E1.set i (some (.dp,.lst (ys++[x.2]))))) X):Po (qW qX i c E) N C R X:=
 vx9 h0 (h.mono λE1 x hz=>by obtain⟨ys,h1,h2,h3,h4⟩:=hz;exact#[.dp,ys,h1,⋯,h2,by rw[Xb #[rfl,by unfold ww;rw[h3];rfl]];exists h4])
section
variable {e:Option Sd}{E:En}{P:En->Sd->Prop}{X:XP}
theorem Vx{cs}:Eo (kw .dp cs (e::E)) P X=Eo (v8 cs (e::E)) (λE xs=>xs.all ww=true/\P E (.dp,.tup (xs.map (·.2)))) X:=by
 unfold kw;rw[jX]
 congr 1
 funext E xs;rw[Xb rfl]
 by_cases h:xs.all ww=true
 ·rw[Xb h,JJ];exact propext #[λz=>#[h,z],λz=>z.2]
 ·rw[Xe h,qk4];exact propext #[λz=>z.elim,λz=>absurd z.1 h]
end
theorem vwq{ss}:JZ (.rt,sL ss)=true:=qq6 (D.pures_map _ _ λ_ _=>rfl)
theorem ww5{o n}:JZ (o,.bl n)=true:=by simp[JZ,ww,D.pure]
theorem qxc ks:(iT ks).pure=true:=by
 have:D.pures (ks.map D.int)=true:=D.pures_map _ _ λ_ _=>rfl
 simp[D.pure,this]
theorem kqz:∀L (K),D.pures (kY L K).2=true
 | [],K=>rfl
 | x::L,K=>by
  show(D.pure (vj K x).2&&D.pures (kY L (vj K x).1).2)=true;rw[kqz L];unfold vj
  split
  ·rfl
  ·have:=qxc (x3 (nms x.1) (nms x.2));simp[D.pure,D.pures]at this ⊢;exact this
theorem vwg{K}(h:∀d∈K,IsP d):D.pures K=true:=by
 rw[D.pures_all,Yx];intro d hd;obtain⟨r,r',l,rfl⟩:=h d hd;clear hd;have:D.pures (prs l)=true:=by
  induction l with
  |nil=>rfl
  |cons p l ih=>
   show(D.pure _&&D.pures _)=true;rw[ih];rfl
 simp[D.pure,D.pures,this]
section
variable {ai am:List Int}{ss:List Str}{rs rs':List D}
inductive RmID (w:Str)(ss:List Str)(rs rs':List D)(P:D)(S T:Sn)(own:Nat)(K:List D):En->List D->Prop
 |mk {K1 aq:List D} {zs:List Str} {l8 l9:Option Sd}:Kj K1->K1.length+zs.length*7<=K.length+21->aq.length+zs.length=ss.length->qZ ss rs rs' S T own ss K=((qZ ss rs rs' S T own zs K1).1,aq++(qZ ss rs rs' S T own zs K1).2)->RmID w ss rs rs' P S T own K [some (.no,.str w),some (.no,jv ss rs),some (.no,jv ss rs'),some (.no,P),some (.rt,.dct (wW K1)),some (.no,lat (S,T)),some (.dp,.int own),some (.dp,.lst aq),l8,l9] (zs.map D.str)
theorem vkt{w P K}(hs:ss.length<=3)(hP:Prs ai ss.length rs)(hk:Abk ai)(bu:Prs am ss.length rs')(bi:Abk am)(h:Pok ai am P)(hK:Kj K)(hl:K.length<=1000):
  Oom jkz [(.no,.str w),(.no,jv ss rs),(.no,jv ss rs'),(.no,P),(.rt,.dct (wW K))] 4
   (λy x'=>y=(.dp,qwt w ss rs rs' P (qZ ss rs rs' (pS rs P) (pT rs rs' P) (pO rs rs' P) ss K).2)/\x'=(.rt,.dct (wW (qZ ss rs rs' (pS rs P) (pT rs rs' P) (pO rs rs' P) ss K).1))) noX:=by
 have hS:=qxu hP hk h;have hT:=qxt (rs:=rs) bu bi h;have hO:=vql hP hk bu bi h;have lS:=zK hk hS;have lT:=zK bi hT;have hfi:=vv7 hP hk bu bi h;have q0:∀a b,jJ (.tup [a,b]) (.int 0)=some a:=λ_ _=>rfl
 unfold jkz;refine qxy (K9 (Q0 ?_));simp![];refine hfi.via ?_;intro y hy;subst hy;refine K9 (Q0 ?_);simp![];refine(qjz (pS rs P) (pT rs rs' P) ⋯ ⋯).via ?_;intro y hy;subst hy;simp![];refine K9 (Q0 ?_);simp![];refine K9 (Q0 ?_);have mv:((x3 (nms (pS rs P)) (nms (pT rs rs' P))).length:Int)=(pO rs rs' P):=rfl;rw [mv];generalize hOd:pO rs rs' P=own at *;generalize hSd:pS rs P=S at *;generalize hTd:pT rs rs' P=T at *;refine wX (RmID w ss rs rs' P S T own K) ?_ ?_ ?_
 ·simp![q0];exact .mk hK ⋯ (by simp) (by simp)
 ·intro E d ds hh;generalize bq:d::ds=dd at hh;cases hh with
  | @mk K1 aq zs l8 l9 jp fj hac lp=>
  cases zs with
  | nil=>cases bq
  | cons z zs=>
   injection bq with e1 e2;subst e1 e2;rw [Xg]at fj hac;simp![];refine Vj [some (.no,jv ss rs),some (.no,jv ss rs'),some (.no,lat (S,T)),some (.no,.str z)] (λd y=>y.2=lat (rdF ss rs S z (YJ d),rdF ss rs' T z (YJ d))) (qzo ?_);simp![];refine#[_,rfl,⋯,⋯,rfl,λd hd=>?_,λys hy=>?_]
   ·obtain⟨c,c0,c1,rfl⟩:=qjo hd;refine(wk8 (w:=(z,c)) (Wv z c hP hk hS).1 (Wv z c bu bi hT).1).via ?_;intro y hy;subst hy;exact#[#[_,rfl],rfl]
   have hm:(k8 0 ((own)+1)).map (λd=>lat (rdF ss rs S z (YJ d),rdF ss rs' T z (YJ d)))=(q9 ss rs rs' S T own z).map lat:=by
    unfold k8 q9;rw[Xj,Xj];refine Yw λc _=>?_
    show lat (rdF ss rs S z (0+(c)),rdF ss rs' T z (0+(c)))=_;rw[Int.zero_add];rfl
   rw [xX,ZV (h:=λd=>lat (rdF ss rs S z (YJ d),rdF ss rs' T z (YJ d))) (λ_ _ h=>h) hy,hm];simp only[back,clr,at',List.map_cons,List.map_nil,List.set_cons_zero,List.set_cons_succ];have hlo:∀x∈q9 ss rs rs' S T own z,kZ ai x.1/\kZ am x.2:=λx hx=>kje hP hk bu bi hS hT hx
   have u6:(q9 ss rs rs' S T own z).length=own+1:=by unfold q9;rw[X3,Yd]
   have vh:=jxw (l:=q9 ss rs rs' S T own z) jp;have uz:qZ ss rs rs' S T own (z::zs) K1=((qZ ss rs rs' S T own zs (kY (q9 ss rs rs' S T own z) K1).1).1,.lst (kY (q9 ss rs rs' S T own z) K1).2::(qZ ss rs rs' S T own zs (kY (q9 ss rs rs' S T own z) K1).1).2):=rfl;rw [uz]at lp;generalize q9 ss rs rs' S T own z=L at *;refine W8 rfl ?_;rw [Qj];refine QX (RmJ [some (.no,.str w),some (.no,jv ss rs),some (.no,jv ss rs'),some (.no,P),some (.rt,.dct (wW K1)),some (.no,lat (S,T)),some (.dp,.int own),some (.dp,.lst aq),some (.no,.str z),some (.no,.lst (L.map lat))] L K1) ?_ ?_ ?_
   ·simp![];exact .mk jp (λ_ h=>h) (X8 _) (by simp)
   ·intro E1 B d ds vf hh;generalize bq:d::ds=dd at hh;cases hh with
    | @mk q K2 xs _ hK2 hxs mo hc=>
    cases xs with
    | nil=>cases bq
    | cons x xs=>
     injection bq with e1 e2;subst e1 e2;rw[Xg]at mo;obtain⟨o1,o2⟩:=hlo x (hxs x X4);simp![];refine kwr ?_;simp![];refine#[_,rfl,(vvi (K:=K2) o1 o2 hk bi hK2.ok ⋯).mono (λy' x' h=>?_) λc h=>h.elim];obtain⟨h1,rfl⟩:=h;have hi:=kwp (x:=x) hK2;refine .mk hi.1 (λx' hx'=>hxs x' (lc9 _ hx')) ⋯ ?_;rw[hc,kY];simp[h1]
   ·intro E1 B vf hh;generalize bq:([]:List D)=dd at hh;cases hh with
    | @mk q K2 xs _ hK2 hxs mo hc=>
    cases xs with
    | cons=>cases bq
    | nil=>
     rw[xX];simp only[JV,back,clr,at',List.drop,List.map_cons,List.map_nil,List.set_cons_zero,List.set_cons_succ];have hc:kY L K1=(K2,vf.map (·.2)):=by rw[hc];simp[kY]
     rw[hc]at lp vh;refine#[qq6 ?_,aq,rfl,⋯,trivial,.mk hK2 ?_ ?_ ?_]
     ·have:=kqz L K1;rw[hc]at this;exact this
     ·grind
     ·rw[Xi,Y4];lia
     ·rw[lp];simp
 ·intro E hh;generalize bq:([]:List D)=dd at hh;cases hh with
  | @mk K1 aq zs l8 l9 jp fj hac lp=>
  cases zs with
  | cons=>cases bq
  | nil=>
   obtain⟨p,q,sh,rfl,h0,h1,h2,h3,h4⟩:=h;obtain⟨_,g1,_⟩:=Kq hP hk h0 h1;obtain⟨_,g2,_⟩:=Kq bu bi h2 h3;have t0:jJ (.tup [.int p,.int q,.tup (prs sh)]) (.int 0)=some (.int p):=rfl;have t1:jJ (.tup [.int p,.int q,.tup (prs sh)]) (.int 1)=some (.int q):=rfl;have lp:qZ ss rs rs' S T own ss K=(K1,aq):=by rw[lp];simp[qZ]
   rw[lp];refine qq7 ?_;simp![t0,t1,↓Vx,↓Qj];refine(qzw g1).use ?_;intro _ _;simp![t1];refine(qzw g2).use ?_;intro _ _;simp![];refine good_by.use ?_;intro _ _;simp![ww5,↓Qj];have e:qwt w ss rs rs' (D.tup [D.int p,D.int q,D.tup (prs sh)]) aq=.tup [.int own,.bl (byW w (gdF rs p) (gdF rs' q)),.lst aq]:=by
    unfold qwt;rw[hOd];rfl
   rw[e];exact#[rfl,rfl,rfl]
theorem qvp{w}(hw:w∈(["both","either","first","one"]:List Str))(hs:ss.length<=3)(h1:1<=ai.length)(uw:ai.length<=12)(wg:1<=am.length)(qr:am.length<=12)(hP:Prs ai ss.length rs)(hk:Abk ai)(bu:Prs am ss.length rs')(bi:Abk am):
  Oo jxn [(.no,.str w),(.no,jv ss rs),(.no,jv ss rs')] (λy=>∃K af,y=(.dp,.tup [jv ss af,.lst K])/\RunJ w ss rs rs' [P0] [] (some (K,af))/\Mst ai am K af) (λc=>c="TooGreat"/\RunJ w ss rs rs' [P0] [] none):=by
 have hwn:J0 (.str w) (.tup [.str "both",.str "either",.str "first",.str "one"])=some (.bl false):=by
  simp at hw;rcases hw with rfl|rfl|rfl|rfl<;>rfl
 have q0:∀a b,jJ (.tup [a,b]) (.int 0)=some a:=λ_ _=>rfl
 have cp:fNe _ (sL ss)=some _:=qjk (xx λd hd=>by obtain⟨w,_,rfl⟩:=aE hd;rfl);unfold jxn;refine kJ ?_;simp![hwn,q0,cp];have lw:=qks (d0:=sL ss) (qq3 hP);have f9:=qks (d0:=sL ss) (qq3 bu);rw [kxl hP hk uw]at lw;rw [kxl bu bi qr]at f9;refine lw.any.use ?_;intro _ _;simp![];refine f9.any.use ?_;intro _ _;simp![↓wky];refine#[qqm 0 0 [],?_];have dj:Mst ai am [P0] []:=#[#[by simp,λd hd=>by rw[aC hd];exact#[0,0,[],rfl]],λd hd=>by rw[aC hd];exact#[0,0,[],rfl,⋯,⋯,⋯,⋯,Yg _],Yg _];refine qq4 (λn E=>∃K af,E=[some _,some _,some _,some (.rt,.dct (wW K)),some (.dp,.lst af)]/\Mst ai am K af/\K.length<=100/\n=200 - af.length/\∀r,RunJ w ss rs rs' K af r->RunJ w ss rs rs' [P0] [] r) ?_ 200 _ #[[P0],[],rfl,dj,⋯,rfl,λr h=>h];rintro n E ⟨K,af,rfl,hm,hl,rfl,gq⟩;have hu:=wq0 hm.kj.ok;have rk:(wW K).length=K.length:=kzx K 0;have pj:∀o,WK (o,.dct _)=some (.rt,.lst K):=λo=>by
  rw[wwl (by rw[rk];lia) hu];unfold wW;rw[qkh]
 by_cases cj:af.length<K.length
 ·have hd:decide ((af.length:Int)<(K.length:Int))=true:=Xh ⋯
  by_cases h40:K.length<=40
  ·have hg:fGt (.int K.length) (.int 40)=some (.bl false):=by rw[gt_ii,Xp ⋯]
   have qh:jJ _ (.int af.length)=some (K.getD af.length .non):=wZ ⋯ (by rw[Ye,X9,X1 cj];rfl);have lm:K.getD af.length .non∈K:=by rw[X9,X1 cj];exact Y0 _
   have jb:=(jvv (ss:=ss) (rs:=rs) (rs':=rs') (S:=pS rs (K.getD af.length .non)) (T:=pT rs rs' (K.getD af.length .non)) (own:=pO rs rs' (K.getD af.length .non)) (zs:=ss) hm.kj).2.2;have hO:=vql hP hk bu bi (hm.ok _ lm);have hm3:ss.length*(pO rs rs' (K.getD af.length .non)+1)<=3*7:=Nat.mul_le_mul hs ⋯;simp![qqi hu,rk,hd,hg];refine W8 rfl (kwr ?_);simp![pj,qh];refine#[_,rfl,(vkt hs hP hk bu bi (hm.ok _ lm) hm.kj ⋯).mono (λy x' h=>?_) λc h=>h.elim];obtain⟨rfl,rfl⟩:=h;refine#[af,rfl,⋯,rfl,_,?_,_,_,rfl,(kwc (w:=w) hP hk bu bi hm cj),?_,rfl,λr h=>gq r (.go cj h40 h)]
   ·rw[Xi,Y4];lia
   ·grind
  ·have hg:fGt (.int K.length) (.int 40)=some (.bl true):=by rw[gt_ii,Xh ⋯]
   simp![qqi hu,rk,hd,hg];exact gq _ (.great cj ⋯)
 ·have hd:decide ((af.length:Int)<(K.length:Int))=false:=Xp ⋯;simp![qqi hu,rk,hd,pj,q0,qqh (o:=.no) (xs:=ss.map D.str) ⋯,↓Vx,↓Qj,vwq,qq6 (vwg hm.kj.ok)];exact#[rfl,rfl,K,af,rfl,gq _ (.stop cj),hm]
end
end Nk61
namespace Nk61
open Q PySem C B J U
theorem wxi:m__law_keepers=B.m__law_keepers:=rfl
theorem wxg:m__law_read=B.m__law_read:=rfl
theorem wxh:m__law_pair=B.m__law_pair:=rfl
theorem qq9{k kv}:kkd (.int k) (wv kv)=some (.bl (!(qz kv k).isSome)):=by
 unfold kkd;rw[YZ]
theorem vvf{own kv}{n:Nat}{i}(h:qz kv n=some i)(hi:i<own):K0 own kv (n+1)=K0 own kv n:=by
 unfold K0;rw[qqb h];have:decide (own<=i)=false:=Xp ⋯;simp[this]
theorem vvg{own kv}{n:Nat}(h:qz kv n=none):K0 own kv (n+1)=K0 own kv n+1:=by
 unfold K0;rw[qqc h];have:decide (own<=own+(K0 own kv n))=true:=Xh ⋯;simp[this]
theorem vqx f z:kvS (f++[z])=wq (kvS f) z.2 z.1:=by
 unfold kvS;rw[Xk,List.foldl_append];rfl
theorem qzg:∀(f kv:List (Int×Int)),(f.foldl (λkv p=>wq kv p.1 p.2) kv).length<=kv.length+f.length
 |[],kv=>by simp
 |p::f,kv=>by
  rw[List.foldl_cons,Xg];have:=qzg f (wq kv p.1 p.2);have:=qq2 kv p.1 p.2;lia
theorem xj9{k}:k8 0 k=(YW k).map D.int:=by
 unfold k8;rw[Xj,show k - 0=k by lia];refine Yw λi _=>?_
 show D.int _=D.int i;rw[Int.zero_add]
theorem wqi{k sh}(h:∀p∈sh,0<=p.1/\p.1<k):∀j i,qz (kvS sh) j=some i->0<=i/\i<k:=λj i hv=>by
 exact h _ (vxi hv)
theorem vj4{ss rs rs' p q k k' sh}(hp:Kpr rs p k)(hq:Kpr rs' q k')(hk:0<=k)(mq:k<=100)(bi:0<=k')(hk2':k'<=100)(hsh:∀p∈sh,0<=p.1/\p.1<k)(jb:sh.length<=100):
  Oo Wk [(.no,jv ss rs),(.no,jv ss rs'),(.no,.tup [.int p,.int q,.tup (prs sh)])] (λy=>y=(.rt,.lst [stn (xv0 p k),stn (wxb q k k' sh)])) noX:=by
 have tu:(YW k).length=k.toNat:=by simp
 unfold Wk;refine kJ ?_;simp![];refine(kk9 hp).use ?_;intro o1 _;simp![↓wkx,xj9];refine wX (λE ao=>∃(f1 f2:List _) (l8 l9:Option Sd),E=[some (.no,jv ss rs),some (.no,jv ss rs'),some (.no,.tup [.int p,.int q,.tup (prs sh)]),some (.no,.int p),some (.no,.int q),some (.no,.tup (prs sh)),some (.rt,iL (YW k)),some (.rt,wv (kvS f1)),l8,l9,none,none,none]/\sh=f1++f2/\ao=prs f2) ?_ ?_ ?_
 ·simp![];exact#[[],sh,none,none,rfl,rfl,rfl]
 ·rintro E d ds ⟨f1,f2,l8,l9,rfl,hf,hr⟩;cases f2 with
  | nil=>cases hr
  | cons z f2=>
   injection hr with e1 e2;subst e1 e2;have av:(kvS f1).length<10000:=by
    have:=qzg (f1.map λp=>(p.2,p.1)) [];rw[X3]at this;unfold kvS
    grind
   simp![];refine wjh ?_;simp![];refine#[rfl,kvS f1,z.2,z.1,rfl,rfl,rfl,av,f1++[z],f2,some (.no,.int z.1),some (.no,.int z.2),?_,by rw[hf];simp,rfl];rw[vqx]
 ·rintro E ⟨f1,f2,l8,l9,rfl,hf,hr⟩;have u9:f2=[]:=by cases f2 with|nil=>rfl|cons=>cases hr
  subst u9;rw [Xn]at hf;subst hf;simp![];refine wX (λE ao=>∃(j:Int) (l9:Option Sd) (o11:Own),E=[some (.no,jv ss rs),some (.no,jv ss rs'),some (.no,.tup [.int p,.int q,.tup (prs sh)]),some (.no,.int p),some (.no,.int q),some (.no,.tup (prs sh)),some (.rt,iL (YW k)),some (.rt,wv (kvS sh)),l8,l9,some (.rt,iL (nmF k (kvS sh) j.toNat)),some (o11,.int (k+K0 k (kvS sh) j.toNat)),none]/\0<=j/\j<=k'/\ao=k8 j k') ?_ ?_ ?_
  ·simp![tu];refine(kk9 hq).use ?_;intro o2 _;simp![];refine#[0,l9,.dp,?_,⋯,bi,rfl];rw[Yd,show(k.toNat:Int)=k+K0 k _ (0:Int).toNat by show _=k+0;lia];rfl
  ·rintro E d ds ⟨j,l9,o11,rfl,j0,j1,hr⟩;obtain⟨hj,rfl,rfl⟩:=zY j1 hr;have xm:(j+1).toNat=j.toNat+1:=⋯
   have uf:((j.toNat:Nat):Int)=j:=⋯
   have hln:(nmF k (kvS sh) j.toNat).length=j.toNat:=kk3 ..;cases hvj:qz _ j with
   | some v=>
    have wo:qz (kvS sh) ((j.toNat:Nat):Int)=some v:=by rw[uf];exact hvj
    simp![];refine xY rfl ?_;simp![↓vvz,wx0,vx1,hvj,Option.getD_some];refine#[_,rfl,by rw[X3,hln];lia,?_];simp![qq9,hvj,Option.isSome_some,Bool.not_true,show JK (.bl false)=some (.int 0)from rfl];refine#[j+1,some (.no,.int j),.dp,?_,⋯,⋯,rfl];rw[xm,qqb wo,vvf wo ((wqi hsh) _ _ hvj).2];simp
   | none=>
    have wo:qz (kvS sh) ((j.toNat:Nat):Int)=none:=by rw[uf];exact hvj
    simp![];refine xY rfl ?_;simp![↓vvz,wx0,vx1,hvj,Option.getD_none];refine#[_,rfl,by rw[X3,hln];lia,?_];simp![qq9,hvj,Option.isSome_none,Bool.not_false,show JK (.bl true)=some (.int 1)from rfl];refine#[j+1,some (.no,.int j),.dp,?_,⋯,⋯,rfl];rw[xm,qqc wo,vvg wo,show(((K0 k (kvS sh) j.toNat+1:Nat)):Int)=K0 k (kvS sh) j.toNat+1 by lia,<-Int.add_assoc];simp
  ·rintro E ⟨j,l9,o11,rfl,j0,j1,hr⟩;have:=zV j1 hr;subst this;simp![Q.tup_l (o:=.rt) (xs:=(YW k).map D.int) ⋯,Q.tup_l (o:=.rt) (xs:=(nmF k (kvS sh) j.toNat).map D.int) ⋯];refine Vj [] (λd y=>y.2=wkl d) ?_;simp![];refine#[λd hd=>?_,λys vy=>?_]
   ·obtain⟨r,ks,rfl⟩:∃(r:Int) (ks:List Int),d=.tup [.int r,.tup (ks.map D.int)]:=by
     simp only[Xz,Xm,or_false]at hd;rcases hd with rfl|rfl
     ·exact#[_,_,rfl]
     ·exact#[_,_,rfl]
    by_cases hr1:r=-1
    ·have hb:(r == -1)=true:=by simp[hr1]
     simp![p0,B.neg1,eqi hb,show JK (.bl true)=some (.int 1)from rfl,show jJ (.lst [.tup [.int r,.tup (ks.map D.int)],.non]) (.int 1)=some .non from rfl];refine#[#[_,rfl],?_];unfold wkl;dsimp only;rw[Xb hr1]
    ·have hb:(r == -1)=false:=Xu hr1;simp![p0,B.neg1,eqi hb,show JK (.bl false)=some (.int 0)from rfl,show jJ (.lst [.tup [.int r,.tup (ks.map D.int)],.non]) (.int 0)=some (.tup [.int r,.tup (ks.map D.int)])from rfl];refine#[#[_,rfl],?_];unfold wkl;dsimp only;rw[Xe hr1]
   ·rw[xX,ZV (h:=wkl) (λd y h=>h) vy,List.map_cons,List.map_cons,List.map_nil,qzx,qzx];rfl
theorem wjn S:Oo ZJ [(.no,stn S)] (λy=>∃_:Unit,y=(.no,iT (nms S))/\True) noX:=by
 refine kJ ?_;cases S with
 |none=>
  have e:stn none=.non:=rfl;simp![e]
  first|trivial|exact#[(),rfl,trivial]
 |some s=>
  have e:stn (some s)=.tup [.int s.1,iT s.2]:=rfl;have x1:jJ (.tup [.int s.1,iT s.2]) (.int 1)=some (iT s.2):=rfl;simp![e,x1]
  first|trivial|exact#[(),rfl,trivial]
theorem vwv(a b)(ha:(nms a).length<=100)(hb:(nms b).length<=100):Oo ZK [(.no,stn a),(.no,stn b)] (λy=>y=(.rt,iL (x3 (nms a) (nms b)))) noX:=by
 refine kJ ?_;have hl:K6 (.no,iT (nms a))=some (.rt,iL (nms a)):=rfl;simp![];refine(wjn a).use ?_;intro _ _;simp![hl];refine QX (λE1 B ds aq=>E1=[some (.no,stn a),some (.no,stn b)]/\∃(q0:Option Sd) (f1 f2:List Int),B=[q0,some (.no,stn a)]/\nms b=f1++f2/\ds=f2.map D.int/\aq.map (·.2)=(f1.filter λn=>!((nms a).any λw=>w==n)).map D.int) ?_ ?_ ?_
 ·simp![];refine(wjn b).use ?_;intro _ _;simp![];exact#[_,[],nms b,rfl,rfl,rfl,rfl]
 ·rintro E1 B d ds aq ⟨rfl,q0,f1,f2,rfl,hf,bq,ha⟩;cases f2 with
  | nil=>cases bq
  | cons n f2=>
   injection bq with e1 e2;subst e1 e2;simp![];refine(wjn a).use ?_;intro _ _;cases h:(nms a).any λw=>w==n with
   |true=>
    simp![qz0,h];exact#[_,f1++[n],f2,rfl,by rw[hf];simp,rfl,by rw[ha,Z0];simp[h]]
   |false=>
    simp![qz0,h];exact#[_,f1++[n],f2,rfl,by rw[hf];simp,rfl,by rw[Xk,ha,Z0];simp[h]]
 ·rintro E1 B aq ⟨rfl,q0,f1,f2,rfl,hf,bq,ha⟩;have:f2=[]:=by cases f2 with|nil=>rfl|cons=>cases bq
  subst this;rw[Xn]at hf;subst hf;rw[xX,ha];simp only[JV,back,clr,at',List.drop,List.map_cons,List.map_nil,List.set_cons_zero,List.set_cons_succ];have nw:=List.length_filter_le (λn=>!((nms a).any λw=>w==n)) (nms b);have had:k4 (.no,iL (nms a)) (.no,.lst (((nms b).filter λn=>!((nms a).any λw=>w==n)).map D.int))=some (.rt,iL (x3 (nms a) (nms b))):=by
   show(if((nms a).map D.int).length+_<=big/\qQ (.no,.lst _)/\qQ (.no,.lst _)then some (Own.rt,D.lst (_++_))else none)=_;rw[Xb #[by rw[X3,X3];unfold big;lia,rfl,rfl],<-Xk];rfl
  simp![had]
theorem wwh p:fNe (.int p) (.int (-1))=some (.bl (!(p == -1))):=rfl
inductive GdI (p q:Int)(sh:D)(m m':D)(w:Str)(g g':Bool):En->List D->Prop
 |a {l5 l6}:GdI p q sh m m' w g g' [some (.no,.str w),some (.no,m),some (.no,m'),some (.no,.tup [.int p,.int q,sh]),some (.rt,.lst [.bl false,.bl false]),l5,l6] [.tup [.int 0,m],.tup [.int 1,m']]
 |b {l5 l6}:GdI p q sh m m' w g g' [some (.no,.str w),some (.no,m),some (.no,m'),some (.no,.tup [.int p,.int q,sh]),some (.rt,.lst [.bl g,.bl false]),l5,l6] [.tup [.int 1,m']]
 |c {l5 l6}:GdI p q sh m m' w g g' [some (.no,.str w),some (.no,m),some (.no,m'),some (.no,.tup [.int p,.int q,sh]),some (.rt,.lst [.bl g,.bl g']),l5,l6] []
theorem xkl{ss rs rs' w p q sh g g'}(h1:Gdr rs p g)(h2:Gdr rs' q g'):Oo jvp [(.no,.str w),(.no,jv ss rs),(.no,jv ss rs'),(.no,.tup [.int p,.int q,sh])] (λy=>∃o',y=(o',.bl (byW w g g'))/\True) noX:=by
 have x0:jJ (.tup [.int p,.int q,sh]) (.int 0)=some _:=rfl;have x1:jJ (.tup [.int p,.int q,sh]) (.int 1)=some _:=rfl;have m1:∀rs,jJ (jv ss rs) (.int 1)=some _:=λ_=>rfl
 refine kJ ?_;simp![];refine wX (GdI p q sh (jv ss rs) (jv ss rs') w g g') ?_ ?_ ?_
 ·simp![];exact .a
 ·intro E d ds h;generalize hd:d::ds=dd at h;cases h with
  | a=>
   injection hd with e1 e2;subst e1 e2;rcases h1 with⟨rfl,rfl⟩|⟨p0,k,st,hr⟩
   ·have hn:fNe (.int (-1)) (.int (-1))=some (.bl false):=rfl;simp![x0,B.neg1,hn];exact .b
   ·have hn:fNe (.int p) (.int (-1))=some (.bl true):=by rw[wwh,Xu ⋯];rfl
    have hi:=wZ p0 hr;have hb:jJ (.tup [k,.bl g,st]) (.int 1)=some _:=rfl;simp![x0,B.neg1,hn];refine qq1 ?_;simp![m1,x0,hi,hb];exact#[rfl,.rt,_,0,0,rfl,⋯,rfl,rfl,.b]
  | b=>
   injection hd with e1 e2;subst e1 e2;rcases h2 with⟨rfl,rfl⟩|⟨p0,k,st,hr⟩
   ·have hn:fNe (.int (-1)) (.int (-1))=some (.bl false):=rfl;simp![x1,B.neg1,hn];exact .c
   ·have hn:fNe (.int q) (.int (-1))=some (.bl true):=by rw[wwh,Xu ⋯];rfl
    have hi:=wZ (xs:=rs') p0 hr;have hb:jJ (.tup [k,.bl g',st]) (.int 1)=some (.bl g'):=rfl;simp![x1,B.neg1,hn];refine qq1 ?_;simp![m1,x1,hi,hb];exact#[rfl,.rt,_,1,1,rfl,⋯,rfl,rfl,.c]
  | c=>cases hd
 ·intro E h;generalize hd:([]:List D)=dd at h;cases h with
  | a=>cases hd| b=>cases hd
  | c=>
   have e:∀z,fEq (.str w) (.str z)=some (.bl (w==z)):=λ_=>rfl
   have q0:jJ (.lst [.bl g,.bl g']) (.int 0)=some (.bl g):=rfl;have q1:jJ (.lst [.bl g,.bl g']) (.int 1)=some (.bl g'):=rfl;have eq2:∀a b,fEq (.lst [.bl g,.bl g']) (.lst [.bl a,.bl b])=some (.bl (g==a&&(g'==b&&true))):=λ_ _=>rfl
   have ne2:∀a b,fNe (.lst [.bl g,.bl g']) (.lst [.bl a,.bl b])=some (.bl (!(g==a&&(g'==b&&true)))):=λ_ _=>rfl
   have ne1:fNe (.bl g) (.bl g')=some (.bl (!(g==g'))):=rfl;unfold byW;cases h1:w==("both":Str)with
   | true=>simp![e,h1,eq2];cases g<;>cases g'<;>exact#[_,rfl,trivial]
   | false=>
    cases h2:w==("either":Str)with
    |true=>simp![e,h1,h2,ne2];cases g<;>cases g'<;>exact#[_,rfl,trivial]
    |false=>
     cases h3:w==("first":Str)with|true=>simp![e,h1,h2,h3,eq2];cases g<;>cases g'<;>exact#[_,rfl,trivial]|false=>simp![e,h1,h2,h3,q0,q1,ne1];cases g<;>cases g'<;>exact#[_,rfl,trivial]
theorem sn:stn none=.non:=rfl
section
variable {ai am:List Int}{ss:List Str}{rs rs':List D}
theorem qqf{S}(z)(c)(hP:Prs ai ss.length rs)(hk:Abk ai)(hS:kZ ai S)(hz:S=none\/(ss.any λw=>w==z)=true):
  Oo B.m__law_read [(.no,jv ss rs),(.no,stn S),(.no,.str z),(.no,.int c)] (λy=>∃o',y=(o',stn (rdF ss rs S z c))/\True) noX:=by
 cases S with
 |none=>
  refine kJ ?_;simp![sn];exact#[_,rfl,trivial]
 |some s=>
  obtain⟨r0,r1,hl⟩:=hS s.1 s.2 rfl;obtain⟨r,er,gd,st,rfl,hc⟩:=hP.2 s.1.toNat ⋯;rw[<-hl]at er hc;have h3:=zK hk hS;have h3:s.2.length<=3:=h3;have e:=xjc (Wv z c hP hk hS).1 (.inr #[s.1,s.2,st,_,_,rfl,r0,er,hc,⋯,rfl]);refine(vku r0 er hc ⋯ (hz.resolve_left (λh=>nomatch h))).mono ?_;rintro ⟨o,d⟩ h;exact#[o,by rw[e];cases(show d=_ from h);rfl,trivial]
theorem vqc{a b}(ha:IsP a)(hb:IsP b):peq a b=decide (a=b):=by
 obtain⟨r,r',l,rfl⟩:=ha;obtain⟨s,s',m,rfl⟩:=hb;have k1:=qqm r r' l;have k2:=qqm s s' m;unfold J6 at k1 k2;rw[Bool.and_eq_true]at k1 k2;exact qjs k1.1 k2.1
theorem qqu{d}(h:IsP d):d.flat 30=true:=by
 obtain⟨r,r',l,rfl⟩:=h;have:D.flats 28 (prs l)=true:=by
  induction l with
  |nil=>rfl
  |cons p l ih=>
   show(D.flat 28 _&&D.flats 28 _)=true;rw[ih];rfl
 simp[D.flat,D.flats,this]
theorem wwg{P K}(hp:IsP P)(hK:∀d∈K,IsP d):J0 P (.lst K)=some (.bl (!decide (P∈K))):=by
 have hany:(K.any λz=>peq z P)=decide (P∈K):=by
  rw[Bool.eq_iff_iff,List.any_eq_true,decide_eq_true_iff];refine#[?_,λh=>#[P,h,by rw[vqc hp hp];simp]];rintro ⟨z,hz,h⟩;rw[vqc (hK z hz) hp,decide_eq_true_iff]at h;exact h▸hz
 have h:fIn P (.lst K)=some (.bl (decide (P∈K))):=by
  show(if P.flat 30&&D.flats 30 K then some _ else none)=_;rw[qqu hp,xx λd hd=>qqu (hK d hd),hany];rfl
 show(fIn _ _).bind _=_;rw[h];rfl
theorem xkg{P K}(hK:∀d∈K,IsP d)(h:P∈K):kqs (.lst K) P=some (.int (K.idxOf P:Nat)):=by
 have hp:=hK P h;show(if P.flat 30&&D.flats 30 K then(K.findIdx? λw=>peq w P).map λ(j:Nat)=>D.int j else none)=_;rw[qqu hp,xx λd hd=>qqu (hK d hd),(kwl (p:=λw=>peq w P) (List.any_eq_true.mpr #[P,h,by rw[vqc hp hp];simp]))];have e2:∀(L:List D),(∀d∈L,IsP d)->(L.findIdx λw=>peq w P)=L.idxOf P:=by
  intro L
  induction L with
  |nil=>intro _;rfl
  |cons d L ih=>
   intro hL;rw[List.findIdx_cons,List.idxOf_cons,ih λd hd=>hL d (lc9 _ hd),vqc (hL d X4) hp]
   by_cases hd:d=P
   ·grind
   ·grind
 rw[e2 K hK];rfl
end
section
variable {ai am:List Int}{ss:List Str}{rs rs':List D}
inductive CsI (ss:List Str)(rs rs':List D)(P:D)(S T:Sn)(z:Str)(K:List D)(own:Nat):En->List D->Prop
 |mk {K1 aq:List D} {k:Nat} {l9 nj ln kl:Option Sd}:Kj K1->k<=own+1->K1.length<=K.length+k->aq.length=k->kY (q9 ss rs rs' S T own z) K=((kY ((q9 ss rs rs' S T own z).drop k) K1).1,aq++(kY ((q9 ss rs rs' S T own z).drop k) K1).2) ->
  CsI ss rs rs' P S T z K own [some (.no,jv ss rs),some (.no,jv ss rs'),some (.no,P),some (.no,.str z),some (.rt,.lst K1),some (.no,stn S),some (.no,stn T),some (.dp,.int own),some (.dp,.lst aq),l9,nj,ln,kl] (k8 k ((own:Int)+1))
theorem wxn{P S T own z K}(hP:Prs ai ss.length rs)(hk:Abk ai)(bu:Prs am ss.length rs')(bi:Abk am)(hfi:Oo Wk [(.no,jv ss rs),(.no,jv ss rs'),(.no,P)] (λy=>y=(.rt,.lst [stn S,stn T])) noX)(hS:kZ ai S)(hT:kZ am T)(mv:(x3 (nms S) (nms T)).length=own)(hO:own<=6)(hz:(ss.any λw=>w==z)=true)(hK:Kj K)(hl:K.length<=1000):
  Oom jqd [(.no,jv ss rs),(.no,jv ss rs'),(.no,P),(.no,.str z),(.rt,.lst K)] 4
   (λy x'=>y=(.dp,.tup [.int own,.lst (kY (q9 ss rs rs' S T own z) K).2])/\x'=(.rt,.lst (kY (q9 ss rs rs' S T own z) K).1)) noX:=by
 have lS:=zK hk hS;have lT:=zK bi hT;unfold jqd;simp only[wxg,wxh];refine qxy ?_
 with_reducible refine K9 (Q0 ?_)
 simp![];refine hfi.via ?_;rintro _ rfl;simp![]
 with_reducible refine K9 (Q0 ?_)
 simp![];refine(vwv S T ⋯ ⋯).via ?_;rintro _ rfl;simp![mv]
 with_reducible refine K9 (Q0 ?_)
 simp![]
 with_reducible refine K9 (Q0 ?_)
 obtain⟨R,hR⟩:∃R,R=j6 (jq 12 (jx B.m__law_pair [cV 10,cV 11])) (j6 (sIf (tE (cF2 (pu2 J0) (vV 12) (vV 4))) (qW qX 4 (cV 12)) k9) (qW qX 8 (kw .dp [zW (JQ (vV 4) (vV 12)),zW (cF1 xV (vE (jx ZK [cV 10,cV 11])))]))):=⟨_,rfl⟩;simp only[<-hR];have u6:(q9 ss rs rs' S T own z).length=own+1:=by unfold q9;rw[X3,Yd]
 refine wX (CsI ss rs rs' P S T z K own) ?_ ?_ ?_
 ·refine qzo ?_;simp![];exact⟨_,rfl,⋯,⋯,.mk (k:=0) hK ⋯ ⋯ rfl (by simp)⟩
 ·intro E d ds hh;generalize bq:d::ds=dd at hh;cases hh with
  | @mk K1 aq k l9 nj ln kl jp hk1 fj hac hc=>
  obtain⟨cj,rfl,rfl⟩:=zY ⋯ bq;have hd:(q9 ss rs rs' S T own z).drop k=(rdF ss rs S z k,rdF ss rs' T z k)::(q9 ss rs rs' S T own z).drop (k+1):=by
   have e:(List.range (own+1)).drop k=k::(List.range (own+1)).drop (k+1):=by rw[List.drop_eq_getElem_cons (by rw[Yd];lia),List.getElem_range]
   unfold q9;rw[<-List.map_drop,e,List.map_cons,List.map_drop]
  rw [hd]at hc;have ok1:=(Wv z k hP hk hS).2;have i3:=(Wv z k bu bi hT).2;simp![];refine(qqf z k hP hk hS (.inr hz)).use ?_;intro o1 _;simp![];refine(qqf z k bu bi hT (.inr hz)).use ?_;intro o2 _;generalize rdF ss rs S z k=a at *;generalize rdF ss rs' T z k=b at *;have hi:=kwp (x:=(a,b)) jp;have vh:kY ((a,b)::(q9 ss rs rs' S T own z).drop (k+1)) K1=((kY ((q9 ss rs rs' S T own z).drop (k+1)) (vj K1 (a,b)).1).1,(vj K1 (a,b)).2::(kY ((q9 ss rs rs' S T own z).drop (k+1)) (vj K1 (a,b)).1).2):=rfl;rw [vh]at hc
  by_cases hn:a=none/\b=none
  ·obtain⟨rfl,rfl⟩:=hn;have e:vj K1 (none,none)=(K1,.non):=by unfold vj;rw[Xb #[rfl,rfl]]
   rw[e]at hc;simp![sn];refine W8 rfl ?_;simp![];exact#[aq,rfl,⋯,.mk (k:=k+1) jp ⋯ ⋯ (by simp;lia) (by rw[hc];simp)]
  ·have hp:IsP (qV a b):=#[_,_,_,rfl];have e:vj K1 (a,b)=(wj K1 (qV a b),.tup [.int ((wj K1 (qV a b)).idxOf (qV a b):Nat),iT (x3 (nms a) (nms b))]):=by unfold vj;rw[Xe (λh=>hn #[kve ok1 h.1,kve i3 h.2])]
   rw[e]at hc hi;have la:=zK hk ok1;have lb:=zK bi i3;have lm:qV a b∈wj K1 (qV a b):=by unfold wj;split<;>simp_all
   have qh:=xkg hi.1.ok lm;have hpu:JZ (.no,iT (x3 (nms a) (nms b)))=true:=by
    have:=qxc (x3 (nms a) (nms b));unfold JZ ww;rw[this];rfl
   have hoi:∀n,JZ (.dp,.int n)=true:=λ_=>rfl
   have tw:xV (.no,iL (x3 (nms a) (nms b)))=some (.no,iT (x3 (nms a) (nms b))):=rfl;have hpk:=vqk a b ⋯ ⋯;have hnk:=vwv a b ⋯ ⋯;have ssn:∀s,stn (some s)=.tup [.int s.1,iT s.2]:=λ_=>rfl
   generalize hPd:qV a b=Q at *;generalize hHd:x3 (nms a) (nms b)=hs at *;rcases a with _|s<;>rcases b with _|u
   ·exact absurd #[rfl,rfl] hn
   all_goals
    simp![sn,ssn];rw[hR];simp![];refine hpk.via ?_;rintro _ rfl
    by_cases hm:Q∈K1
    ·have vt:=wwg hp jp.ok;rw[Xh hm]at vt;have ei:wj K1 Q=K1:=by unfold wj;rw[Xb hm]
     rw[ei]at qh hc hi;simp![vt];refine W8 rfl ?_;simp![↓Vx,↓Qj,qh,hoi];refine hnk.via ?_;rintro _ rfl;simp![tw,hpu];exact#[rfl,aq,rfl,⋯,.mk (k:=k+1) jp ⋯ ⋯ (by simp;lia) (by rw[hc];simp)]
    ·have vt:=wwg hp jp.ok;rw[Xp hm]at vt;have ei:wj K1 Q=K1++[Q]:=by unfold wj;rw[Xe hm]
     rw[ei]at qh hc hi;simp![vt];refine xY rfl ?_;simp![];refine#[_,rfl,⋯,?_];simp![];refine W8 rfl ?_;simp![↓Vx,↓Qj,qh,hoi];refine hnk.via ?_;rintro _ rfl;simp![tw,hpu];exact#[rfl,aq,rfl,⋯,.mk (k:=k+1) hi.1 ⋯ (by simp;lia) (by simp;lia) (by rw[hc];simp)]
 ·intro E hh;generalize bq:([]:List D)=dd at hh;cases hh with
  |@mk K1 aq k l9 nj ln kl jp hk1 fj hac hc=>
  have mq:=zV ⋯ bq;rw[List.drop_eq_nil_of_le ⋯]at hc;refine qq7 ?_;simp![↓Vx];have hc:kY (q9 ss rs rs' S T own z) K=(K1,aq):=by rw[hc];simp[kY]
  rw[hc,<-bq];exact#[rfl,rfl,rfl]
end
theorem vxl{i j}{c:Ex}{E N C R X}(h:Eo (c E) (λE1 x=>∃a b,x=(.dp,.tup [a,b])/\i<E1.length/\j<E1.length/\N ((E1.set i (some (.dp,a))).set j (some (.dp,b)))) X):Po (vks i j c E) N C R X:=by
 unfold vks;rw[KW];refine h.mono ?_;rintro E1 _ ⟨a,b,rfl,h1,h2,h3⟩;dsimp only
 rwa [Xb #[rfl,h1,h2],WW]
section
variable {ai am:List Int}{ss:List Str}{rs rs':List D}
noncomputable def Pk(rs:List D)(P:D):Prop:=∃(p q:Int) (sh:List (Int×Int)),P=.tup [.int p,.int q,.tup (prs sh)]/\∀x∈sh,0<=x.1/\x.1<kpF rs p
theorem qwo(t):∀o (k) x,x∈vZ t k o->(k)<=x.1/\x.1<k+o.length
 | [],_,_,h=>nomatch h
 | n::o,k,x,h=>by
  have ih:=qwo t o (k+1) x;unfold vZ at h;rw[Xg]
  split at h
  ·rcases aD h with rfl|h
   ·grind
   ·grind
  ·grind
theorem vzy{a b}(hP:Prs ai ss.length rs)(hk:Abk ai)(ha:kZ ai a):Pk rs (qV a b):=by
 refine#[_,_,_,rfl,λx hx=>?_];have h:=qwo _ _ _ _ hx;cases a with
 |none=>cases hx
 |some s=>
  obtain⟨r0,r1,hl⟩:=ha s.1 s.2 rfl;obtain _:=Kq hP hk ⋯ r1;show 0<=x.1/\x.1<kpF rs s.1;have mo:(nms (some s)).length=s.2.length:=rfl
  grind
theorem wjr{P}(hP:Prs ai ss.length rs)(hk:Abk ai)(bu:Prs am ss.length rs')(bi:Abk am)(h:Pok ai am P)(h2:Pk rs P):Oo Wk [(.no,jv ss rs),(.no,jv ss rs'),(.no,P)] (λy=>y=(.rt,.lst [stn (pS rs P),stn (pT rs rs' P)])) noX:=by
 obtain⟨p,q,sh,rfl,h0,h1,g0,g1,h4⟩:=h;obtain⟨p',q',sh',e,hs⟩:=h2;injection e with e;injection e with e1 e;injection e with e2 e;injection e with e3 _;injection e1 with e1;injection e2 with e2;injection e3 with e3;have e3:sh=sh':=by rw[<-qwq sh,e3,qwq]
 subst e1 e2 e3;obtain⟨a,_,c,d,_⟩:=Kq hP hk h0 h1;obtain⟨a',_,c',d',_⟩:=Kq bu bi g0 g1;have:=vj4 (ss:=ss) a a' c ⋯ c' ⋯ hs ⋯;have eT:wxb q (kpF rs p) (kpF rs' q) sh=pT rs rs' (.tup [.int p,.int q,.tup (prs sh)]):=by
  show _=wxb q _ _ _;rw[qwq]
 rw[eT]at this;exact this
theorem vjm{Q:D->Prop}{K x}(hK:∀d∈K,Q d)(hq:Q (qV x.1 x.2)):∀d∈(vj K x).1,Q d:=by
 intro d hd;unfold vj at hd
 split at hd
 ·exact hK d hd
 ·dsimp only at hd;unfold wj at hd
  split at hd
  ·exact hK d hd
  ·rcases aA hd with hd|hd
   ·exact hK d hd
   ·rw[aC hd];exact hq
theorem kv1{Q:D->Prop}:∀{l K},(∀d∈K,Q d)->(∀x∈l,Q (qV x.1 x.2))->∀d∈(kY l K).1,Q d
 |[],_,h,_=>h|x::l,_,h,hl=>kv1 (l:=l) (vjm h (hl x X4)) λy hy=>hl y (lc9 _ hy)
theorem kx5{S T own}(hP:Prs ai ss.length rs)(hk:Abk ai)(bu:Prs am ss.length rs')(bi:Abk am)(hS:kZ ai S)(hT:kZ am T):∀{zs K},(∀d∈K,Pk rs d)->∀d∈(qZ ss rs rs' S T own zs K).1,Pk rs d
 |[],_,h=>h|z::zs,_,h=>kx5 hP hk bu bi hS hT (zs:=zs) (kv1 h λx hx=>vzy hP hk (kje hP hk bu bi hS hT hx).1)
end
section
variable {ai am:List Int}{ss:List Str}{rs rs':List D}
inductive SgI (w:Str)(ss:List Str)(rs rs':List D)(P:D)(S T:Sn)(own:Nat)(K af:List D):En->List D->Prop
 |mk {K1 aq:List D} {zs:List Str} {m:Int} {l8 l9:Option Sd}:Kj K1->(∀z∈zs,z∈ss)->K1.length+zs.length*7<=K.length+21->aq.length+zs.length=ss.length->(zs.length<ss.length->m=own)->qZ ss rs rs' S T own ss K=((qZ ss rs rs' S T own zs K1).1,aq++(qZ ss rs rs' S T own zs K1).2) ->
  SgI w ss rs rs' P S T own K af [some (.no,.str w),some (.no,jv ss rs),some (.no,jv ss rs'),some (.rt,.lst K1),some (.dp,.lst af),some (.no,P),some (.dp,.lst aq),some (.dp,.int m),l8,l9] (zs.map D.str)
theorem wxk{w}(mr:1<=ss.length)(hs:ss.length<=3)(h1:1<=ai.length)(wg:1<=am.length)(hP:Prs ai ss.length rs)(hk:Abk ai)(bu:Prs am ss.length rs')(bi:Abk am):
  Oo jwg [(.no,.str w),(.no,jv ss rs),(.no,jv ss rs')] (λy=>(∃K af,y=(.dp,.tup [jv ss af,.lst K])/\RunJ w ss rs rs' [P0] [] (some (K,af))/\Mst ai am K af)\/(y=(.dp,.non)/\RunJ w ss rs rs' [P0] [] none)) noX:=by
 have q0:∀a b,jJ (.tup [a,b]) (.int 0)=some a:=λ_ _=>rfl
 refine kJ ?_;simp![];have dj:Mst ai am [P0] []:=#[#[by simp,λd hd=>by rw[aC hd];exact#[0,0,[],rfl]],λd hd=>by rw[aC hd];exact#[0,0,[],rfl,⋯,⋯,⋯,⋯,Yg _],Yg _];have hpk0:∀d∈[P0],Pk rs d:=λd hd=>by rw[aC hd];exact#[0,0,[],rfl,λx hx=>nomatch hx]
 refine qq4 (λn E=>∃(K af:List D) (l5 l6 l7 l8 l9:Option Sd),E=[some (.no,.str w),some (.no,jv ss rs),some (.no,jv ss rs'),some (.rt,.lst K),some (.dp,.lst af),l5,l6,l7,l8,l9]/\Mst ai am K af/\(∀d∈K,Pk rs d)/\K.length<=100/\af.length<=40/\n=200 - af.length/\∀r,RunJ w ss rs rs' K af r->RunJ w ss rs rs' [P0] [] r) ?_ 200 _ #[[P0],[],_,_,_,_,_,rfl,dj,hpk0,by simp,by simp,rfl,λr h=>h];rintro n E ⟨K,af,l5,l6,l7,l8,l9,rfl,hm,hpk,hl,hr40,rfl,gq⟩
 by_cases cj:af.length<K.length
 ·have hd:decide ((af.length:Int)<(K.length:Int))=true:=Xh ⋯
  by_cases h40:K.length<=40
  ·have hg:fLe (.int K.length) (.int 40)=some (.bl true):=by rw[le_ii,Xh ⋯]
   have qh:jJ (.lst K) (.int af.length)=some (K.getD af.length .non):=wZ ⋯ (by rw[Ye,X1 cj,X9,X1 cj];rfl);have lm:K.getD af.length .non∈K:=by rw[X9,X1 cj];exact Y0 _
   have lx:=hm.ok _ lm;have hS:=qxu hP hk lx;have hT:=qxt (rs:=rs) bu bi lx;have hO:=vql hP hk bu bi lx;have kh:=kwc (w:=w) hP hk bu bi hm cj;have sj:=kx5 (own:=pO rs rs' (K.getD af.length .non)) hP hk bu bi hS hT (zs:=ss) hpk;have jb:=(jvv (ss:=ss) (rs:=rs) (rs':=rs') (S:=pS rs (K.getD af.length .non)) (T:=pT rs rs' (K.getD af.length .non)) (own:=pO rs rs' (K.getD af.length .non)) (zs:=ss) hm.kj).2.2;have hgo:=λr h=>gq r (.go cj h40 h)
   unfold qwk at hgo kh;simp![hd,hg,qh];generalize K.getD af.length .non=P at *;refine wX (SgI w ss rs rs' P (pS rs P) (pT rs rs' P) (pO rs rs' P) K af) ?_ ?_ ?_
   ·simp![q0];exact .mk hm.kj (λz h=>h) ⋯ (by simp) (λh=>absurd h ⋯) (by simp)
   ·intro E d ds hh;generalize bq:d::ds=dd at hh;cases hh with
    |@mk K1 aq zs m l8 l9 jp js fj hac hmm lp=>
    cases zs with
    |nil=>cases bq
    |cons z zs=>
     injection bq with e1 e2;subst e1 e2;rw[Xg]at fj hac hmm;have hz:(ss.any λw=>w==z)=true:=List.any_eq_true.mpr #[z,js z X4,beq_self_eq_true _];have vh:=jxw (l:=q9 ss rs rs' (pS rs P) (pT rs rs' P) (pO rs rs' P) z) jp;have u6:(q9 ss rs rs' (pS rs P) (pT rs rs' P) (pO rs rs' P) z).length=pO rs rs' P+1:=by unfold q9;rw[X3,Yd]
     simp![];refine vxl (kwr ?_);simp![];refine#[_,rfl,(wxn (own:=pO rs rs' P) hP hk bu bi (wjr hP hk bu bi lx (hpk _ lm)) hS hT rfl hO hz jp ⋯).mono (λy x' h=>?_) λc h=>h.elim];obtain⟨rfl,rfl⟩:=h;refine#[_,_,rfl,by simp,by simp,(W8 rfl ?_)];simp![];refine#[aq,rfl,⋯,.mk vh.1 (λz h=>js z (lc9 _ h)) ⋯ (by simp;lia) (λ_=>rfl) ?_];rw[lp];simp[qZ]
   ·intro E hh;generalize bq:([]:List D)=dd at hh;cases hh with
    |@mk K1 aq zs m l8 l9 jp js fj hac hmm lp=>
    cases zs with
    |cons=>cases bq
    |nil=>
     have lp:qZ ss rs rs' (pS rs P) (pT rs rs' P) (pO rs rs' P) ss K=(K1,aq):=by rw[lp];simp[qZ]
     have ui:m=pO rs rs' P:=hmm (by simp;lia);subst ui;rw[lp]at hgo kh sj jb;dsimp only at hgo kh sj jb;obtain⟨p,q,sh,rfl,h0,h1,h2,h3,h4⟩:=lx;obtain⟨_,g1,_⟩:=Kq hP hk h0 h1;obtain⟨_,g2,_⟩:=Kq bu bi h2 h3;simp![];refine W8 rfl ?_;simp![↓Vx,↓Qj];refine(xkl g1 g2).use ?_;intro _ _;simp![ww5,↓Qj,↓Vx];refine#[rfl,af,rfl,⋯,_,?_,K1,af++[qwt w ss rs rs' (.tup [.int p,.int q,.tup (prs sh)]) aq],_,_,_,_,_,rfl,kh,sj,⋯,by simp;lia,rfl,hgo];rw[Xi,Y4];lia
  ·have hg:fLe (.int K.length) (.int 40)=some (.bl false):=by rw[le_ii,Xp ⋯]
   have qp:fGt (.int K.length) (.int 40)=some (.bl true):=by rw[gt_ii,Xh ⋯]
   simp![hd,hg,qp];exact .inr (gq _ (.great cj ⋯))
 ·have hd:decide ((af.length:Int)<(K.length:Int))=false:=Xp ⋯;have qp:fGt (.int K.length) (.int 40)=some (.bl false):=by rw[gt_ii,Xp ⋯]
  simp![hd,qp,q0,qqh (o:=.no) (xs:=ss.map D.str) ⋯,↓Vx,↓Qj,vwq,qq6 (vwg hm.kj.ok)];exact#[rfl,rfl,.inl #[K,af,rfl,gq _ (.stop cj),hm]]
end
theorem wku{cs i f as h e}{E:En}{N C R X}:Po (V8 cs i (jw (kzj f as)) h (e::E)) N C R X =
  Eo (v8 as (e::E)) (λE xs=>Ox f (letAll xs) E (λE y=>R y) (λE c=>c∈cs/\Po (h (E.set i (some (.no,.obj c [])))) (λE=>N (E.set i none)) (λE=>C (E.set i none)) R noX)) noX:=by
 unfold V8 jw kzj;cases v8 as _ with
 | none=>ac_rfl
 | some r=>
  cases r with
  | exc E1 c=>ac_rfl
  | ok E1 xs=>
   rw [JJ];unfold Ox Oo;dsimp only;cases f _ with
   | none=>ac_rfl
   | some r=>
    cases r with
    | ok E2 y=>ac_rfl
    | exc E2 c=>
     dsimp only[ofE]
     by_cases hc:c∈cs
     ·rw[Xb hc,wvq]
      simp_all
     ·rw[Xe hc]
      with_unfolding_all exact propext #[λz=>(z).elim,λz=>absurd z.1 hc]
section
variable {ai am:List Int}{ss:List Str}{rs rs':List D}
theorem vxn{w}(hw:w∈(["both","either","first","one"]:List Str))(hs:ss.length<=3)(h1:1<=ai.length)(uw:ai.length<=12)(wg:1<=am.length)(qr:am.length<=12)(hP:Prs ai ss.length rs)(hk:Abk ai)(bu:Prs am ss.length rs')(bi:Abk am):
  Oo Z7 [(.no,.str w),(.no,jv ss rs),(.no,jv ss rs')] (λy=>(∃K af,y=(.dp,.tup [jv ss af,.lst K])/\RunJ w ss rs rs' [P0] [] (some (K,af))/\Mst ai am K af)\/(y=(.dp,.non)/\RunJ w ss rs rs' [P0] [] none)) noX:=by
 refine kJ ?_;simp![↓wku];refine(qvp hw hs h1 uw wg qr hP hk bu bi).ox (λy hy=>?_) (λc hc=>?_)
 ·exact .inl hy
 ·obtain⟨rfl,hr⟩:=hc;refine#[⋯,?_];have f1:Wx [("NoFit",false),("TooGreat",true)] (.obj "TooGreat" [])=some (.bl true):=by rfl
  have f2:Wx [("NoFit",true),("TooGreat",false)] (.obj "TooGreat" [])=some (.bl false):=by rfl
  simp![f1,f2];exact .inr hr
end
theorem wxj:m__law_cell_at=B.m__law_cell_at:=rfl
theorem vvb:m__law_stream=B.m__law_stream:=rfl
theorem wjw:m__law_signs=B.m__law_signs:=rfl
theorem xku:m__law_plain=B.m__law_plain:=rfl
theorem wjx:m__law_fills=B.m__law_fills:=rfl
inductive ChC (c:Int)(ss:List Str)(xs:List Int)(size:Int)(ai:List Int)(rs:List D)(r own:Int)(st:List D)(s:Int):En->List D->Prop
 |mk (k:Int) (b9:Int) (cs:List D) {o3 o4:Own} {o6:Own} {ln kl um xf:Option Sd} {ao:List D} (h0:sub o4=.no) (h1:0<=k) (h2:k<=own+1) (h3:ao=k8 k (own+1)) (h4:(cs.length:Int)=k) (h5:14<=b9) (h6:b9<=14+7*r+2*s+k) (h7:∀k:Nat,k<cs.length->∃z,cs[k]?=some z/\Cs ai (vq own k) z):ChC c ss xs size ai rs r own st s [some (.no,.int c),some (.no,sL ss),some (.rt,iL xs),some (o3,.int size),some (o4,iL ai),some (.rt,.lst rs),some (o6,.int b9),some (.no,.int r),some (.rt,.lst st),some (.no,.int s),some (.rt,.lst cs),ln,kl,um,xf] ao
inductive ChB (c:Int)(ss:List Str)(xs:List Int)(size:Int)(ai:List Int)(rs:List D)(r own:Int):En->List D->Prop
 |mk (s:Int) (b9:Int) (st:List D) {o3 o4:Own} {o6:Own} {l9 nj ln kl um xf:Option Sd} {ao:List D} (h0:sub o4=.no) (h1:0<=s) (h2:s<=ss.length) (h3:ao=k8 s ss.length) (h4:(st.length:Int)=s) (h5:14<=b9) (h6:b9<=14+7*r+2*s) (h7:∀c∈st,∃cs:List D,c=.lst cs/\(cs.length:Int)=own+1/\∀k:Nat,k<cs.length->∃z,cs[k]?=some z/\Cs ai (vq own k) z):ChB c ss xs size ai rs r own [some (.no,.int c),some (.no,sL ss),some (.rt,iL xs),some (o3,.int size),some (o4,iL ai),some (.rt,.lst rs),some (o6,.int b9),some (.no,.int r),some (.rt,.lst st),l9,nj,ln,kl,um,xf] ao
inductive ChA (c:Int)(ss:List Str)(xs:List Int)(size:Int)(ai:List Int):En->List D->Prop
 |mk (r:Int) (b9:Int) (rs:List D) {l7 l8 l9 nj ln kl um xf:Option Sd} {o3 o4:Own} {o6:Own} {ao:List D} (h0:sub o4=.no) (h1:0<=r) (h2:r<=size) (h3:ao=k8 r size) (h4:(rs.length:Int)=r) (h5:14<=b9) (h6:b9<=14+7*r) (h7:∀i:Nat,i<rs.length->∃d,rs[i]?=some d/\Pr ai ss.length (ai.getD i 0) d):ChA c ss xs size ai [some (.no,.int c),some (.no,sL ss),some (.rt,iL xs),some (o3,.int size),some (o4,iL ai),some (.rt,.lst rs),some (o6,.int b9),l7,l8,l9,nj,ln,kl,um,xf] ao
theorem vvh(c)(ss)(hs:1<=ss.length)(ls:ss.length<=3):Oo jqc [(.no,.int c),(.no,sL ss)] (λy=>∃rs,y=(.no,jv ss rs)/\∃ai,1<=ai.length/\ai.length<=12/\ai[0]?=some 0/\(∀p∈ai,0<=p/\p<=3)/\Prs ai ss.length rs) noX:=by
 unfold jqc;simp only[vvb,wjx];refine kJ ?_;simp![];refine(kji c 100 ⋯ ⋯).use ?_;intro xs hx;have hxl:=hx.1;have ix:∀i,0<=i->i<100->∃v,jJ (iL xs) (.int i)=some (.int v)/\0<=v:=λi i0 i1=>by
  obtain⟨v,e,h,_⟩:=ixI xs _ hx.2 i i0 ⋯;exact#[v,e,h.1]
 obtain⟨v0,e0,a0⟩:=ix 0 ⋯ ⋯;have q0:=Y7 v0 (show(3:Int)≠0 by decide);have q1:=Xw v0 (show(0:Int)<3 by decide);refine kxm (λE=>∃(o3:Own) (size:Int),E=[some (.no,.int c),some (.no,sL ss),some (.rt,iL xs),some (o3,.int size),none,none,none,none,none,none,none,none,none,none,none]/\10<=size/\size<=12) ?_ ?_
 ·simp![e0];exact#[_,_,rfl,⋯,⋯]
 rintro E ⟨o3,size,rfl,sz0,sz1⟩;simp![];refine Vj [some (.rt,iL xs)] (λ_ y=>∃i,y=(.dp,.int i)/\0<=i/\i<=1) ?_;simp![];refine#[rfl,λd pi=>?_,λys hy=>?_]
 ·obtain⟨i,i0,i1,rfl⟩:=qjo pi;obtain⟨w,ew,aw⟩:=ix (1+i) ⋯ ⋯;simp![ew];exact#[#[_,rfl],_,rfl,⋯,⋯]
 obtain⟨ks,h1,h2,h3⟩:=kkk (S:=λi=>0<=i/\i<=1) (λd y hz=>by obtain⟨i,h,s⟩:=hz;exact#[i,by rw[h],s]) hy;rw [xX,h1];simp only[back,clr,at',List.map_cons,List.map_nil,List.set_cons_zero,List.set_cons_succ];have pe:((0::ks).length:Int)=size:=by rw[Xg];have:=qz9 (k:=0) (n:=size - 1) ⋯;lia
 have pr:∀p∈(0::ks:List Int),0<=p/\p<=1:=λp hp=>by
  rcases aD hp with rfl|hp
  ·grind
  ·exact h3 p hp
 have mf:∀p∈(0::ks:List Int),0<=p/\p<=3:=λp hp=>by have:=pr p hp;lia
 have ig:k4 (.no,.lst [.int 0]) (.no,.lst (ks.map D.int))=some (.rt,iL (0::ks)):=vk3 ⋯ ⋯ (by rw[X3];simp at pe ⊢;lia);have nq:(0::ks:List Int)[0]?=some 0:=rfl;simp![ig];generalize (0::ks:List Int)=ai at pe pr mf ig nq;refine wX (ChA c ss xs size ai) ?_ ?_ ?_
 ·simp![];exact#[0,14,[],rfl,⋯,⋯,rfl,rfl,⋯,⋯,λi hi=>nomatch hi]
 ·rintro E d ds ⟨r,b9,rs,hs5,r0,r1,hr,tu,at0,at1,hrs⟩;obtain⟨hrk,rfl,rfl⟩:=zY r1 hr;obtain⟨own,eo,⟨ow0,ow1⟩,how⟩:=ixI ai _ pr r r0 ⋯;simp![];refine wX (ChB c ss xs size ai rs r own) ?_ ?_ ?_
  ·simp![];exact#[0,b9,[],hs5,⋯,⋯,rfl,rfl,⋯,⋯,λc hc=>nomatch hc]
  ·rintro E d ds ⟨s,b9,st,hs5,s0,s1,hr,jb,at0,at1,dj⟩;obtain⟨hsk,rfl,rfl⟩:=zY s1 hr;simp![];refine wX (ChC c ss xs size ai rs r own st s) ?_ ?_ ?_
   ·simp![eo,hs5];exact#[0,b9,[],hs5,⋯,⋯,rfl,rfl,⋯,⋯,λc hc=>nomatch hc]
   ·rintro E d ds ⟨k,b9,cs,hs5,k0,k1,hr,fy,at0,at1,im⟩;obtain⟨hkk,rfl,rfl⟩:=zY k1 hr;have dy:b9<100:=⋯
    obtain⟨w,ew,aw⟩:=ix b9 ⋯ dy;have hb1:own+(if k=own then(1:Int)else 0)=vq own k:=rfl;have hB0:0<=vq own k/\vq own k<=4:=by unfold vq;split<;>lia
    obtain⟨to,eto,to0,to1⟩:∃to,jJ (.lst [.int ((r+1) % size),.int (w / 5 % size)]) (.int (if w % 5=3 then 1 else 0))=some (.int to)/\0<=to/\to<size:=by
     split
     ·exact#[_,rfl,Y7 _ ⋯,Xw _ ⋯]
     ·exact#[_,rfl,Y7 _ ⋯,Xw _ ⋯]
    obtain⟨sz,es,⟨es0,es1⟩,hsz⟩:=ixI ai _ pr to to0 ⋯;have fin:∀y,Cs ai (vq own k) y->∀j,j<(cs++[y]).length->∃z,(cs++[y])[j]?=some z/\Cs ai (vq own j) z:=λy hy j hj=>by
     rw[Xi,Y4]at hj
     by_cases ku:j<cs.length
     ·obtain⟨z,z1,z2⟩:=im j ku;exact#[z,by rw[Yh ku];exact z1,z2]
     ·have:j=cs.length:=⋯
      subst this;exact#[y,by simp,by rw[fy];exact hy]
    have m1:=mod_i (a:=r+1) (b:=size) ⋯;have m2:=mod_i (a:=w / 5) (b:=size) ⋯;generalize hR:sIf _ _ _=Rs;simp![eo,ew,XJ,vj5,hb1,hs5,m1,m2,eto];subst hR
    by_cases h4:w % 5=4
    ·have hb:(w % 5==4)=true:=by simp[h4]
     simp![XJ,hb];refine xY rfl ?_;simp![];exact#[_,rfl,⋯,k+1,b9+1,cs++[.non],hs5,⋯,⋯,rfl,by simp;lia,⋯,⋯,fin _ (.inl rfl)]
    ·have hb:(w % 5==4)=false:=Xu h4
     by_cases h6:vq own k<sz
     ·have qt:decide (sz>vq own k)=true:=Xh h6;simp![XJ,hs5,hb,es,qt];refine xY rfl ?_;simp![];exact#[_,rfl,⋯,k+1,b9+1,cs++[.non],hs5,⋯,⋯,rfl,by simp;lia,⋯,⋯,fin _ (.inl rfl)]
     ·have qt:decide (sz>vq own k)=false:=Xp h6;simp![XJ,hs5,hb,es,qt];refine xY rfl ?_;simp![es,hs5];refine(qqv (w / 97) sz (vq own k) es0 ⋯ ⋯).use ?_;intro fs ⟨hf1,u9,hf3⟩;simp![];refine#[_,rfl,⋯,k+1,b9+1,cs++[.tup [.int to,.tup (fs.map D.int)]],hs5,⋯,⋯,rfl,by simp;lia,⋯,⋯,fin _ (.inr #[to,fs,rfl,to0,⋯,u9,hf3,?_])]
      rwa [X9,hsz]
   ·rintro E ⟨k,b9,cs,hs5,k0,k1,hr,fy,at0,at1,im⟩;have:=zV k1 hr;subst this;refine xY rfl ?_;simp![];refine#[_,rfl,⋯,s+1,b9,st++[.lst cs],hs5,⋯,⋯,rfl,by simp;lia,⋯,⋯,λc hc=>?_];rcases aA hc with z|z
    ·exact dj c z
    ·rw[aC z];exact#[cs,rfl,fy,im]
  ·rintro E ⟨s,b9,st,hs5,s0,s1,hr,jb,at0,at1,dj⟩;have:=zV s1 hr;subst this;have dy:b9<100:=⋯
   obtain⟨w,ew,_⟩:=ix b9 ⋯ dy;simp![];refine xY rfl ?_;simp![eo,ew,XJ,hs5];refine#[_,rfl,⋯,?_];simp![];refine ChA.mk (r+1) (b9+1) (rs++[.tup [.int own,.bl (w % 2==0),.lst st]]) hs5 ?_ ?_ rfl ?_ ?_ ?_ ?_
   ·lia
   ·lia
   ·simp;lia
   ·lia
   ·lia
   intro j hj;rw[Xi,Y4]at hj
   by_cases ku:j<rs.length
   ·obtain⟨z,z1,z2⟩:=hrs j ku;exact#[z,by rw[Yh ku];exact z1,z2]
   ·have:j=rs.length:=⋯
    subst this;refine#[_,by simp;rfl,?_];have hg:ai.getD rs.length 0=own:=by rw[X9,show rs.length=r.toNat by lia,how];rfl
    rw[hg];exact#[_,st,rfl,⋯,dj]
 ·rintro E ⟨r,b9,rs,hs5,r0,r1,hr,tu,at0,at1,hrs⟩;have:=zV r1 hr;subst this;simp![qqh (o:=.no) (xs:=ss.map D.str) ⋯];exact#[rs,rfl,ai,⋯,⋯,nq,mf,#[⋯,λi hi=>hrs i ⋯]]
theorem kqj(c)(ss)(hs:1<=ss.length)(ls:ss.length<=3):Oo W2 [(.no,.int c),(.no,sL ss)] (λy=>∃rs,y=(.no,jv ss rs)/\∃ai,1<=ai.length/\ai.length<=12/\ai[0]?=some 0/\(∀p∈ai,0<=p/\p<=3)/\Prs ai ss.length rs) noX:=by
 refine kJ ?_
 by_cases h:c % 8=5
 ·have hb:(c % 8==5)=true:=by simp[h]
  simp![eqi hb];refine(vvh _ ss hs ls).use ?_;intro rs h;exact#[rs,rfl,h]
 ·have hb:_=false:=Xu h;simp![eqi hb];refine(qxl c ss hs ls).use ?_;intro rs ⟨ai,h1,h2,h3⟩;exact#[rs,rfl,ai,h1,⋯,h3]
theorem qwr{w ss rs rs' K af r}(h:RunJ w ss rs rs' K af r):∀{r'},RunJ w ss rs rs' K af r'->r=r':=by
 induction h with
 |stop h1=>
  intro r' h';cases h' with|stop=>rfl|great h2=>exact absurd h2 h1|go h2=>exact absurd h2 h1
 |great h1 h2=>
  intro r' h';cases h' with|stop h3=>exact absurd h1 h3|great=>rfl|go _ h3=>exact absurd h2 (by omega)
 |go h1 h2 _ ih=>
  intro r' h';cases h' with|stop h3=>exact absurd h1 h3|great _ h3=>exact absurd h2 (by omega)|go _ _ h3=>exact ih h3
end Nk61
namespace Nk61
open Q PySem C
theorem hw:m__law_whole=B.m__law_whole:=rfl
theorem wkt{c d e}{E:En}{P X}:Eo (kz0 c d (e::E)) P X=Eo (c (e::E)) (λE x=>Eo (d E) (λE y=>Wo (vj7 x.2 y.2) E P) X) X:=by
 unfold kz0;rw[jX];congr 1;funext E x;rw[jX];congr 1;funext E y;exact zq
theorem kx8{r ds0 ds}(hr:∀d∈ds,Oo r [(.no,d),(.no,d)] (λy=>y.2=.bl true) noX)(hz:vj7 ds0 ds0=some (x4 ds ds)){N C}{R}
  (hN:∀l2 l3,N [some (.no,ds0),some (.no,ds0),l2,l3]):Po (vw (kz0 (cV 0) (cV 1)) (.t [2,3]) (sIf (tNot (tEQ (vE (jx r [(cV 2),(cV 3)])))) (jw (cC (.bl false))) k9) [some (.no,ds0),some (.no,ds0),none,none]) N C R noX:=by
 refine wX (λE ao=>∃(l2 l3:Option Sd) (fw:List D),E=[some (.no,ds0),some (.no,ds0),l2,l3]/\ao=x4 fw fw/\∀d∈fw,d∈ds) ?_ ?_ ?_
 ·simp![wkt,hz];exact#[_,_,ds,rfl,rfl,λd h=>h]
 ·rintro E d ao ⟨l2,l3,fw,rfl,he,hm⟩;cases fw with
  |nil=>cases he
  |cons x fw=>
   injection he with e1 e2;subst e1 e2;simp![];refine(hr x (hm x X4)).via ?_;rintro ⟨o,y⟩ hy;subst hy;simp![];exact#[_,_,fw,rfl,rfl,λd h=>hm d (lc9 _ h)]
 ·rintro E ⟨l2,l3,fw,rfl,he,hm⟩;exact hN l2 l3
noncomputable def Atm(d:D):Prop:=d=.non\/(∃b,d=.bl b)\/(∃z,d=.str z)\/∃i,d=.int i
noncomputable def Sm:Nat->D->Prop
 |0,d=>Atm d|m+1,d=>Atm d\/∃ds:List D,(d=.tup ds\/d=.lst ds)/\ds.length<=10000/\∀x∈ds,Sm m x
theorem kx9{r d}(h:Atm d):Oo (wQ r) [(.no,d),(.no,d)] (λy=>y.2=.bl true) noX:=by
 unfold wQ;simp only[hw];refine kJ ?_;rcases h with rfl|⟨b,rfl⟩|⟨z,rfl⟩|⟨i,rfl⟩
 ·have e1:qj "tuple" .non=some (.bl false):=rfl;have e2:qj "list" .non=some (.bl false):=rfl;simp![e1,e2]
  first|done|rfl|trivial
 ·have e1:qj "tuple" (.bl b)=some (.bl false):=rfl;have e2:qj "list" (.bl b)=some (.bl false):=rfl;have e3:qj "bool" (.bl b)=some (.bl true):=rfl;have e4:fEq (.bl true) (.bl true)=some (.bl true):=rfl;simp![e1,e2,e3,e4,C.eq_self (d:=.bl b) rfl]
  first|done|rfl|trivial
 ·have e1:qj "tuple" (.str z)=some (.bl false):=rfl;have e2:qj "list" (.str z)=some (.bl false):=rfl;have e3:qj "bool" (.str z)=some (.bl false):=rfl;have e5:qj "str" (.str z)=some (.bl true):=rfl;have e4:fEq (.bl false) (.bl false)=some (.bl true):=rfl;simp![e1,e2,e3,e4,e5,C.eq_self (d:=.str z) rfl]
  first|done|rfl|trivial
 ·have e1:qj "tuple" (.int i)=some (.bl false):=rfl;have e2:qj "list" (.int i)=some (.bl false):=rfl;have e3:qj "bool" (.int i)=some (.bl false):=rfl;have e5:qj "str" (.int i)=some (.bl false):=rfl;simp![e1,e2,e3,e5];refine(B.whole_int i).use ?_;intro _ _;simp![C.eq_self (d:=.int i) rfl]
  first|done|rfl|trivial
theorem vxv:∀{m d},Sm m d->Oo (xz wQ (m+1)) [(.no,d),(.no,d)] (λy=>y.2=.bl true) noX:=by
 intro m
 induction m with
 | zero=>exact fun {d} h=>kx9 h
 | succ m ih=>
  intro d h;rcases h with h|⟨ds,hd,hl,hs⟩
  ·exact kx9 h
  ·have hr:∀x∈ds,Oo (xz wQ (m+1)) [(.no,x),(.no,x)] (λy=>y.2=.bl true) noX:=λx hx=>ih (hs x hx)
   show Oo (wQ (xz wQ (m+1))) _ _ _;generalize xz wQ (m+1)=r at hr;unfold wQ;refine kJ ?_;have b1:fNe (.bl true) (.bl true)=some (.bl false):=rfl;have b2:fNe (.bl false) (.bl false)=some (.bl false):=rfl;have b3:∀i,fNe (.int i) (.int i)=some (.bl false):=λi=>qjk rfl
   rcases hd with rfl|rfl
   ·have e1:qj "tuple" (.tup ds)=some (.bl true):=rfl;have e2:qj "list" (.tup ds)=some (.bl false):=rfl;have hz:vj7 (.tup ds) (.tup ds)=some (x4 ds ds):=Xb #[by unfold big;omega,rfl];simp![e1,e2,b1,b2,b3];refine kx8 hr hz λl2 l3=>?_
    simp![]
    first|done|rfl|trivial
   ·have e1:qj "tuple" (.lst ds)=some (.bl false):=rfl;have e2:qj "list" (.lst ds)=some (.bl true):=rfl;have hz:vj7 (.lst ds) (.lst ds)=some (x4 ds ds):=Xb (by unfold big;omega);simp![e1,e2,b1,b2,b3];refine kx8 hr hz λl2 l3=>?_
    simp![]
    first|done|rfl|trivial
theorem kjk{m d}(h:Atm d):Sm m d:=by
 cases m with|zero=>exact h|succ m=>exact .inl h
theorem qj2{d}(h:Sm 8 d):Oo jqt [(.no,d),(.no,d)] (λy=>∃o',y=(o',.bl true)/\True) noX:=(vxv h).mono λ⟨o,y⟩ hy=>#[o,by rw[show y=.bl true from hy],trivial]
end Nk61
namespace Nk61
open Q PySem C B J U
section
variable {ai am:List Int}{ss:List Str}{rs rs':List D}
noncomputable def Zc(z:D):Prop:=z=.non\/∃(to:Int) (fs:List Int),z=.tup [.int to,iT fs]/\fs.length<=6
noncomputable def Yc(m:Nat)(c:D):Prop:=∃cs:List D,c=.lst cs/\cs.length<=m/\∀z∈cs,Zc z
noncomputable def Yr(n m:Nat)(r:D):Prop:=∃(o:Int) (g:Bool) (st:List D),r=.tup [.int o,.bl g,.lst st]/\st.length=n/\∀c∈st,Yc m c
theorem vjk:∀{l K},(∀x∈l,(x3 (nms x.1) (nms x.2)).length<=6)->(kY l K).2.length=l.length/\∀z∈(kY l K).2,Zc z
 | [],_,_=>#[rfl,λ_ h=>nomatch h]
 | x::l,K,h=>by
  obtain⟨h1,h2⟩:=vjk λy hy=>h y (lc9 _ hy)
  refine#[congrArg _ h1,λz hz=>?_];rcases aD hz with rfl|hz
  ·unfold vj
   split
   ·exact .inl rfl
   ·exact .inr #[_,_,rfl,h x X4]
  ·exact h2 z hz
theorem qwm{S T own}(hP:Prs ai ss.length rs)(hk:Abk ai)(bu:Prs am ss.length rs')(bi:Abk am)(hS:kZ ai S)(hT:kZ am T)(ho:own<=6):∀{zs K},(qZ ss rs rs' S T own zs K).2.length=zs.length/\∀c∈(qZ ss rs rs' S T own zs K).2,Yc 7 c
 | [],_=>#[rfl,λ_ h=>nomatch h]
 | z::zs,K=>by
  obtain⟨c1,c2⟩:=vjk λx hx=>by
   obtain⟨a,b⟩:=kje hP hk bu bi hS hT hx;exact kz3 (zK hk a) (zK bi b)
  obtain⟨h1,h2⟩:=qwm hP hk bu bi hS hT ho;refine#[congrArg _ h1,λc hc=>?_];rcases aD hc with rfl|hc
  ·exact#[_,rfl,by rw[c1];unfold q9;rw[X3,Yd];lia,c2]
  ·exact h2 c hc
theorem xj8{w K af r}(hs:ss.length<=3)(hP:Prs ai ss.length rs)(hk:Abk ai)(bu:Prs am ss.length rs')(bi:Abk am)(h:RunJ w ss rs rs' K af r):Mst ai am K af->(∀r∈af,Yr ss.length 7 r)->K.length<=100->1<=K.length->∀K' R',r=some (K',R')->(∀r∈R',Yr ss.length 7 r)/\K'.length<=100/\R'.length=K'.length/\1<=K'.length:=by
 induction h with
 | stop h1=>
  rintro hm hy hl wg K' R' e;cases e;exact#[hy,hl,by have:=hm.le;lia,wg]
 | great=>grind
 | @go K af r h1 h2 _ ih=>
  intro hm hy hl fj;have lm:K.getD af.length .non∈K:=by rw[X9,X1 h1];exact Y0 _
  have lx:=hm.ok _ lm;have hO:=vql hP hk bu bi lx;obtain⟨_,g1,g2⟩:=jvv (rs':=rs') hm.kj;have hm3:ss.length*(pO rs rs' (K.getD af.length .non)+1)<=3*7:=Nat.mul_le_mul hs ⋯;refine ih (kwc hP hk bu bi hm h1) (λr hr=>?_) (Xx g2 ⋯) (Xx fj g1);rcases aA hr with hr|hr
  ·exact hy r hr
  ·rw[aC hr];obtain⟨a,b⟩:=qwm hP hk bu bi (qxu hP hk lx) (qxt bu bi lx) hO;exact#[_,_,_,rfl,a,b]
theorem wkq{m} i:Sm m (.int i):=kjk (.inr (.inr (.inr #[_,rfl])))
theorem wqg{m ds}(hl:ds.length<=10000)(h:∀x∈ds,Sm m x):Sm (m+1) (.lst ds):=.inr #[ds,.inr rfl,hl,h]
theorem VY{m ds}(hl:ds.length<=10000)(h:∀x∈ds,Sm m x):Sm (m+1) (.tup ds):=.inr #[ds,.inl rfl,hl,h]
theorem xqg{n K R}(hs:ss.length<=3)(hn:n<=3)(hK:∀d∈K,Pok ai am d)(pe:K.length<=100)(hR:∀r∈R,Yr n 8 r)(tu:R.length<=100):Sm 8 (.tup [jv ss R,.lst K]):=by
 refine VY (by simp) λx hx=>?_
 simp at hx;rcases hx with rfl|rfl
 ·refine VY (by simp) λx hx=>?_
  simp at hx;rcases hx with rfl|rfl
  ·refine wqg (by rw[X3];lia) λy hy=>?_
   obtain⟨w,_,rfl⟩:=aE hy;exact kjk (.inr (.inr (.inl #[_,rfl])))
  ·refine wqg ⋯ λr hr=>?_
   obtain⟨o,g,st,rfl,h1,h2⟩:=hR r hr;refine VY (by simp) λx hx=>?_
   simp at hx;rcases hx with rfl|rfl|rfl
   ·exact wkq _
   ·exact kjk (.inr (.inl #[_,rfl]))
   ·refine wqg ⋯ λc hc=>?_
    obtain⟨cs,rfl,h3,h4⟩:=h2 c hc;refine wqg ⋯ λz hz=>?_
    rcases h4 z hz with rfl|⟨to,fs,rfl,hf⟩
    ·exact kjk (.inl rfl)
    ·refine VY (by simp) λx hx=>?_
     simp at hx;rcases hx with rfl|rfl
     ·exact wkq _
     ·refine VY (by rw[X3];lia) λy hy=>?_
      obtain⟨i,_,rfl⟩:=aE hy;exact wkq _
 ·refine wqg ⋯ λd hd=>?_
  obtain⟨p,q,sh,rfl,_,_,_,_,h3⟩:=hK d hd;refine VY (by simp) λx hx=>?_
  simp at hx;rcases hx with rfl|rfl|rfl
  ·exact wkq _
  ·exact wkq _
  ·refine VY (by rw[X3];lia) λy hy=>?_
   obtain⟨i,_,rfl⟩:=aE hy;refine VY (by simp) λx hx=>?_
   simp at hx;rcases hx with rfl|rfl<;>exact wkq _
end
theorem vwp{E:En}{i:Nat}{ps c d zs p ds N C R X}(h0:E[i]?=some (some (.dp,d)))(hz:Qk E ps=some zs)(hn:zZ zs d=some p)(dy:D.at p d=some (.lst ds))(hl:ds.length<10000)
  (h:Eo (c (E.set i none)) (λE1 x=>x.2.pure=true/\N (E1.set i (some (.dp,D.put (.lst (ds++[x.2])) p d)))) X):Po (wkf i ps c E) N C R X:=by
 unfold wkf;rw[h0,hz];dsimp only;rw[hn];exact xk1 h0 dy hl h
theorem wvn{E:En}{i:Nat}{ps d zs p ds N C R X}(h0:E[i]?=some (some (.dp,d)))(hz:Qk E ps=some zs)(hn:zZ zs d=some p)(dy:D.at p d=some (.lst ds))(cp:ds≠[])
  (h:N (E.set i (some (.dp,D.put (.lst ds.dropLast) p d)))):Po (wqm i ps E) N C R X:=by
 unfold wqm;rw[h0,hz];dsimp only;rw[hn];unfold sPO;rw[h0];dsimp only;rw[dy];dsimp only
 rwa [Xb cp,WW]
theorem kzc:∀n k (rs),k+n=rs.length->(∀j,k<=j->j<rs.length->∃a b l,rs[j]?=some (.tup [a,b,.lst l]))->∃rs',XV n k (.lst rs)=some (.lst rs')
 | 0,_,rs,_,_=>#[rs,rfl]
 | n+1,k,rs,hk,hs=>by
  have cj:k<rs.length:=⋯
  obtain⟨a,b,l,hg⟩:=hs k (X8 _) cj;have dy:D.at [k] (.lst rs)=some (.tup [a,b,.lst l]):=by
   show(match rs[k]? with|some d=>D.at [] d|none=>none)=_;rw[hg];rfl
  have br:D.put (.lst []) [k,2] (.lst rs)=.lst (rs.set k (.tup [a,b,.lst []])):=by
   show(match rs[k]? with|some d=>Q.D.lst _|none=>_)=_;rw[hg];rfl
  unfold XV;rw[dy,br];refine kzc n _ _ (by rw[Yj];lia) λj hj ku=>?_
  rw[Yj]at ku;obtain⟨a',b',l',e⟩:=hs j ⋯ ku;exact#[a',b',l',by rw[Xr ⋯];exact e]
theorem vva{E:En}{i r1 r2 r3:Nat}{p d rs N C R X}(h0:E[i]?=some (some (.dp,d)))(dy:D.at p d=some (.lst rs))(h1:r1<E.length)(h2:r2<E.length)(h3:r3<E.length)(hs:∀x∈rs,∃a b l,x=.tup [a,b,.lst l])
  (h:∀rs',N (((((E.set i none).set r1 none).set r2 none).set r3 none).set i (some (.dp,D.put (.lst rs') p d)))):Po (kxa i r1 r2 r3 p E) N C R X:=by
 obtain⟨rs',he⟩:=kzc rs.length 0 rs ⋯ λj _ hj=>by
  obtain⟨a,b,l,e⟩:=hs rs[j] (Y0 _);exact#[a,b,l,by rw[X1 hj,e]]
 unfold kxa;rw[h0];dsimp only;rw[dy];dsimp only;rw[Xb #[h1,h2,h3],he,WW];exact h rs'
theorem qxs{ss K rs st cs a b own gd}(a0:0<=a)(hr:rs[a.toNat]?=some (.tup [own,gd,.lst st]))(b0:0<=b)(hk:st[b.toNat]?=some (.lst cs)):
  zZ [0,1,a,2,b] (.tup [jv ss rs,.lst K])=some [0,1,a.toNat,2,b.toNat]/\D.at [0,1,a.toNat,2,b.toNat] (.tup [jv ss rs,.lst K])=some (.lst cs)/\∀y,D.put y [0,1,a.toNat,2,b.toNat] (.tup [jv ss rs,.lst K])=.tup [jv ss (rs.set a.toNat (.tup [own,gd,.lst (st.set b.toNat y)])),.lst K]:=by
 have l1:=(List.getElem?_eq_some_iff.mp hr).1;have l2:=(List.getElem?_eq_some_iff.mp hk).1;have ha:Q.ixN rs.length a=some a.toNat:=by unfold Q.ixN;rw[Xb a0,Xb ⋯]
 have hb:Q.ixN st.length b=some b.toNat:=by unfold Q.ixN;rw[Xb b0,Xb ⋯]
 refine#[?_,?_,λy=>?_]
 ·show((zZ [a,2,b] _).map _).map _=_;unfold zZ;rw[ha];dsimp only;rw[hr];show(((((zZ [b] _).map _).map _).map _).map _)=_;unfold zZ;rw[hb];dsimp only;rw[hk];rfl
 ·show(match rs[a.toNat]? with|some d=>D.at [2,b.toNat] d|none=>none)=_;rw[hr];show(match st[b.toNat]? with|some d=>D.at [] d|none=>none)=_;rw[hk];rfl
 ·show D.tup [D.tup [sL ss,match rs[a.toNat]? with|some d=>Q.D.lst _|none=>_],.lst K]=_;rw[hr];show D.tup [D.tup [sL ss,.lst (rs.set a.toNat (.tup [own,gd,match st[b.toNat]? with|some d=>Q.D.lst _|none=>_]))],.lst K]=_;rw[hk];rfl
theorem vw6{α:Type}{l:List α}{i x}(h:l[i]?=some x):l.set i x=l:=by
 obtain⟨hi,rfl⟩:=List.getElem?_eq_some_iff.mp h;exact List.set_getElem_self hi
theorem wwq(ns)(hn:ns.length<=63):Oo m_law [(.no,iL ns)] (λy=>y.2=.bl true) noX:=by
 have cell:∀k:Nat,Oo B.m__law_cell_at [(.no,iL ns),(.no,.int k)] (λy=>∃o',y=(o',.int (vX ns k))/\True) noX:=λk=>wk1 ns k ⋯
 unfold m_law;simp only[wxj,wjw];refine kJ ?_;simp![];refine(cell 0).use ?_;intro o0 _;simp![];refine(qwn _).use ?_;rintro ss ⟨mr,ng⟩;generalize hR:j6 (sIf (tE _) _ _) _=R1;simp![];refine(cell 2).use ?_;intro o2 _;simp![];subst hR;refine kxm (λE=>∃(o:Own) (c:Int),E=[some (.no,iL ns),some (.rt,sL ss),some (o,.int c),none,none,none,none,none,none,none,none,none,none,none]) ?_ ?_
 ·simp![];refine(cell 3).use ?_;intro o3 _
  by_cases h:vX ns 3 % 4=3
  ·have hb:(vX ns 3 % 4==3)=true:=by simp[h]
   simp![eqi hb];refine(cell 1).use ?_;intro o1 _;simp![];exact#[_,_,rfl]
  ·have hb:(vX ns 3 % 4==3)=false:=Xu h;simp![eqi hb];exact#[_,_,rfl]
 rintro E ⟨oc,c,rfl⟩;simp![];refine(cell 1).use ?_;intro o1 _;simp![];obtain⟨y1,⟨rs,rfl,ai,pe,hk12,nq,mf,hP⟩,hdet⟩:=vwt (kqj (vX ns 1) ss mr ng);refine hdet.via ?_;rintro _ rfl;simp![];obtain⟨y2,⟨rs',rfl,am,hkl',hk12',hk0',hk3',bu⟩,hdet'⟩:=vwt (kqj c ss mr ng);refine hdet'.via ?_;rintro _ rfl;simp![];refine(cell 3).use ?_;intro o3 _;obtain⟨w,ew,hw⟩:∃w,jJ (.lst [.str "both",.str "either",.str "first",.str "one"]) (.int (vX ns 3 / 4 % 4))=some (.str w)/\w∈(["both","either","first","one"]:List Str):=by
  have q0:=Y7 (vX ns 3 / 4) (show(4:Int)≠0 by decide);have q1:=Xw (vX ns 3 / 4) (show(0:Int)<4 by decide);generalize vX ns 3 / 4 % 4=v at q0 q1;rcases(show v=0\/v=1\/v=2\/v=3 by lia)with rfl|rfl|rfl|rfl
  ·exact#["both",rfl,by simp]
  ·exact#["either",rfl,by simp]
  ·exact#["first",rfl,by simp]
  ·exact#["one",rfl,by simp]
 simp![ew];refine(wxk mr ng pe hkl' hP mf bu hk3').via ?_;intro y hy;obtain⟨r,gq,hyr⟩:∃r,RunJ w ss rs rs' [P0] [] r/\((∃K af,r=some (K,af)/\y=(.dp,.tup [jv ss af,.lst K])/\Mst ai am K af)\/(r=none/\y=(.dp,.non))):=by
  rcases hy with⟨K,af,h1,h2,h3⟩|⟨h1,h2⟩
  ·exact#[_,h2,.inl #[K,af,rfl,h1,h3]]
  ·exact#[_,h2,.inr #[rfl,h1]]
 have qg:Oo Z7 [(.no,.str w),(.no,jv ss rs),(.no,jv ss rs')] (λy'=>y'=y) noX:=(vxn hw ng pe hk12 hkl' hk12' hP mf bu hk3').mono λy' uu=>by
  rcases uu with⟨K,af,h1,h2,h3⟩|⟨h1,h2⟩
  ·have:=qwr gq h2;rcases hyr with⟨K',rooms',e1,e2,_⟩|⟨e1,e2⟩
   ·grind
   ·grind
  ·have:=qwr gq h2;rcases hyr with⟨K',rooms',e1,e2,_⟩|⟨e1,e2⟩
   ·grind
   ·rw[h1,e2]
 have nw:(D.lst [jv ss rs,jv ss rs']).flat 40=true:=by
  show D.flats 39 [jv ss rs,jv ss rs']=true;refine xx λd hd=>?_
  simp only[Xz,Xm,or_false]at hd;rcases hd with rfl|rfl
  ·exact kqr hP 31
  ·exact kqr bu 31
 obtain⟨dv,rfl,hsm,im⟩:∃dv,y=(.dp,dv)/\Sm 8 dv/\(dv=.non\/∃K R,dv=.tup [jv ss R,.lst K]/\(∀d∈K,Pok ai am d)/\(∀r∈R,Yr ss.length 7 r)/\(∀r∈R,Yr ss.length 8 r)/\K.length<=100/\R.length=K.length/\1<=K.length):=by
  rcases hyr with⟨K,R,rfl,h1,hm⟩|⟨_,h1⟩
  ·obtain⟨hY,hKl,hRK,jp⟩:=xj8 ng hP mf bu hk3' gq #[#[by simp,λd hd=>by rw[aC hd];exact#[0,0,[],rfl]],λd hd=>by rw[aC hd];exact#[0,0,[],rfl,⋯,⋯,⋯,⋯,Yg _],Yg _] (λ_ h=>nomatch h) (by simp) (by simp) K R rfl;have hY8:∀r∈R,Yr ss.length 8 r:=λr hr=>by
    obtain⟨o,g,st,h1,h2,h3⟩:=hY r hr;exact#[o,g,st,h1,h2,λc hc=>by obtain⟨cs,a,b,d⟩:=h3 c hc;exact#[cs,a,⋯,d]]
   exact#[_,h1,xqg ng ng hm.ok hKl hY8 ⋯,.inr #[K,R,rfl,hm.ok,hY,hY8,hKl,hRK,jp]]
  ·exact#[_,h1,kjk (.inl rfl),.inl rfl]
 generalize hR1:j6 (sIf (tE (cF2 (f2First fIsNon) _ _)) _ _) _=R1;simp![];refine qg.via ?_;rintro _ rfl;simp![];refine(cell 1).use ?_;intro _ _;simp![];refine hdet.via ?_;rintro _ rfl;simp![];refine hdet'.via ?_;rintro _ rfl;simp![];refine(qj2 hsm).use ?_;intro _ _;simp![qjk nw];subst hR1;rcases im with rfl|⟨K,R,rfl,ui,hY,hY8,hKl,hRK,jp⟩
 ·simp![]
 have i0:∀a b,jJ (.tup [a,b]) (.int 0)=some a:=λ_ _=>rfl
 have i1:∀a b,jJ (.tup [a,b]) (.int 1)=some b:=λ_ _=>rfl
 have a0:=Y7 (vX ns 3 / 16) (show(K.length:Int)≠0 by lia);have a1:=Xw (vX ns 3 / 16) (show(0:Int)<K.length by lia);have ma:=mod_i (a:=vX ns 3 / 16) (b:=(K.length:Int)) ⋯;have b0:=Y7 (vX ns 2) (show(ss.length:Int)≠0 by lia);have b1:=Xw (vX ns 2) (show(0:Int)<ss.length by lia);have mb:=mod_i (a:=vX ns 2) (b:=(ss.length:Int)) ⋯;generalize dy:vX ns 3 / 16 % (K.length:Int)=b9 at a0 a1 ma;generalize hbt:vX ns 2 % (ss.length:Int)=bt at b0 b1 mb;have hg:R[b9.toNat]?=some R[b9.toNat]:=X1 ⋯;obtain⟨o,g,st,e1,e2,e3⟩:=hY R[b9.toNat] (Y0 ⋯);rw [e1]at hg;have uz:st[bt.toNat]?=some st[bt.toNat]:=X1 ⋯;obtain⟨cs,e4,e5,e6⟩:=e3 st[bt.toNat] (Y0 ⋯);rw [e4]at uz;obtain⟨z1,z2,z3⟩:=qxs (ss:=ss) (K:=K) a0 hg b0 uz;generalize hR2:R.set b9.toNat (.tup [.int o,.bl g,.lst (st.set bt.toNat (.lst (cs++[.non])))])=R2;have br:D.put (.lst (cs++[.non])) [0,1,b9.toNat,2,bt.toNat] (.tup [jv ss R,.lst K])=.tup [jv ss R2,.lst K]:=by rw[z3,hR2]
 have qp:R2[b9.toNat]?=some (.tup [.int o,.bl g,.lst (st.set bt.toNat (.lst (cs++[.non])))]):=by rw[<-hR2,Xy ⋯]
 have hsg2:(st.set bt.toNat (.lst (cs++[.non])))[bt.toNat]?=some (.lst (cs++[.non])):=Xy ⋯;obtain⟨y1,y2,y3⟩:=qxs (ss:=ss) (K:=K) a0 qp b0 hsg2;have vi:D.put (.lst (cs++[D.non]).dropLast) [0,1,b9.toNat,2,bt.toNat] (.tup [jv ss R2,.lst K])=.tup [jv ss R,.lst K]:=by
  rw[y3,List.dropLast_concat,List.set_set,vw6 uz,<-hR2,List.set_set,vw6 hg]
 have hY2:∀r∈R2,Yr ss.length 8 r:=λr hr=>by
  rw[<-hR2]at hr;rcases List.mem_or_eq_of_mem_set hr with hr|rfl
  ·exact hY8 r hr
  ·refine#[_,_,_,rfl,by rw[Yj];exact e2,λc hc=>?_];rcases List.mem_or_eq_of_mem_set hc with hc|rfl
   ·obtain⟨cs,a,b,d⟩:=e3 c hc;exact#[cs,a,⋯,d]
   ·refine#[_,rfl,by rw[Xi,Y4];lia,λz hz=>?_];rcases aA hz with hz|hz
    ·exact e6 z hz
    ·exact .inl (aC hz)
 simp![];refine(cell 3).use ?_;intro _ _;simp![i1,ma,dy];refine(cell 2).use ?_;intro _ _;simp![mb,hbt];refine vwp rfl rfl z1 z2 ⋯ ?_;simp![];rw[br];refine vwp rfl rfl z1 z2 ⋯ ?_;simp![];rw[br];refine(qj2 (xqg ng ng ui hKl hY2 (by rw[<-hR2,Yj];lia))).use ?_;intro _ _;simp![];refine wvn rfl rfl y1 y2 (by simp) ?_;rw[vi];simp![];refine vva (p:=[0,1]) (rs:=R2) rfl rfl (by simp) (by simp) (by simp) (λx hx=>?_) λR3=>?_
 ·obtain⟨a,b,l,e,_⟩:=hY2 x hx;exact#[_,_,l,e]
 simp![];refine ww2 rfl (ds:=ss.map D.str) rfl ?_;simp![];refine ww2 rfl (ds:=K) rfl ?_;simp![];refine qg.via ?_;rintro _ rfl;simp![];refine(qj2 hsm).use ?_;intro _ _;simp![C.eq_self nw]
theorem law_true(ns:List Int)(hl:ns.length<=63)(hb:∀i∈ns,Builtin.Int.intBits i<=1048576):∃E o,m_law [(.no,.lst (ns.map D.int))]=some (.ok E (o,.bl true)):=by
 obtain _:=(wwq ns hl).out
 grind
end Nk61
namespace Nk61
open PySem L2 L3 Q
def top(i:Nat):Stmt:=PySem.Challenge.pw_freshrooms_k61_joined_room_by_room.main.body.getD i (.Pass #[0,0,0,0])
abbrev jzc:Stmt:=top 7
abbrev kjr:Stmt:=top 8
abbrev jvw:Stmt:=top 19
abbrev jvi:Stmt:=top 16
abbrev jq3:Stmt:=top 12
abbrev jv3:Stmt:=top 13
abbrev jzb:Stmt:=top 18
abbrev kjq:Stmt:=top 17
abbrev kjs:Stmt:=top 14
abbrev jv4:Stmt:=top 15
abbrev jvx:Stmt:=top 20
abbrev jvy:Stmt:=top 27
abbrev jvk:Stmt:=top 26
abbrev jvj:Stmt:=top 25
abbrev kvl:Stmt:=top 24
abbrev jv7:Stmt:=top 29
abbrev jvz:Stmt:=top 30
abbrev jvl:Stmt:=top 31
abbrev jw0:Stmt:=top 32
abbrev jw2:Stmt:=top 33
abbrev jx1:Stmt:=top 34
abbrev jw1:Stmt:=top 35
abbrev jw3:Stmt:=top 36
abbrev jv5:Stmt:=top 37
abbrev jwx:Stmt:=top 38
abbrev jv6:Stmt:=top 39
abbrev jwy:Stmt:=top 40
abbrev jww:Stmt:=top 41
abbrev jvm:Stmt:=top 42
abbrev jwz:Stmt:=top 43
abbrev jkp:Stmt:=top 44
abbrev jx0:Stmt:=top 45
abbrev jw4:Stmt:=top 46
abbrev jzd:Stmt:=top 47
abbrev jwv:Stmt:=top 48
abbrev vxw:Stmt:=top 49
theorem qj1:FnScope ["plain"] ["plain"] (jY jzc):=mkS
set_option tactic.hygienic true in
theorem sc_read_by:FnScope ["plain","standing","sign","name","names","cases","case","held"] ["plain","standing","sign","name"] (jY kjr):=mkS
theorem kvh:FnScope ["plain","room"] ["plain","room"] (jY jvw):=mkS
theorem kkz:FnScope ["room","names"] ["room","names"] (jY jvi):=mkS
theorem sc_first_standings:FnScope ["one","other","pair","own","shared","names","j"] ["one","other","pair"] (jY jq3):=mkS
theorem kjm:FnScope ["one","other","standings","sign","name"] ["one","other","standings","sign","name"] (jY jv3):=mkS
theorem qj0:FnScope ["standing"] ["standing"] (jY jzb):=mkS
theorem qv9:FnScope ["standing"] ["standing"] (jY kjq):=mkS
theorem sc_pair_of:FnScope ["standings","ours","theirs","shared"] ["standings"] (jY kjs):=mkS
theorem sc_held_by_both:FnScope ["standings","ours"] ["standings"] (jY jv4):=mkS
theorem kvi:FnScope ["plain","room"] ["plain","room"] (jY jvx):=mkS
theorem kvj:FnScope ["word","ours","theirs"] ["word","ours","theirs"] (jY jvy):=mkS
theorem sc_joined_case:FnScope ["standings","numbers","pair"] ["standings","numbers"] (jY jvk):=mkS
theorem sc_joined_room:FnScope ["word","one","other","pair","numbers","standings","own","steps","sign","later"] ["word","one","other","pair","numbers"] (jY jvj):=mkS
theorem sc_joined:FnScope ["word","one","other","numbers","rooms"] ["word","one","other"] (jY kvl):=mkS
theorem kjp:FnScope ["_law_script","_law_k"] ["_law_script","_law_k"] (jY jv7):=mkS
theorem kvk:FnScope ["_law_found"] ["_law_found"] (jY jvz):=mkS
theorem sc__law_stream:FnScope ["_law_cell","_law_many","_law_found","_law_k","_law_number"] ["_law_cell","_law_many"] (jY jvl):=mkS
theorem sc__law_signs:FnScope ["_law_cell","_law_letters","_law_xs","_law_base","_law_at","_law_found","_law_k"] ["_law_cell"] (jY jw0):=mkS
theorem sc__law_fills:FnScope ["_law_number","_law_need","_law_free","_law_pool","_law_found","_law_k"] ["_law_number","_law_need","_law_free"] (jY jw2):=mkS
theorem sc__law_case:FnScope ["_law_number","_law_sizes","_law_free","_law_rooms","_law_to"] ["_law_number","_law_sizes","_law_free"] (jY jx1):=mkS
theorem sc__law_plain:FnScope ["_law_cell","_law_signs_here","_law_xs","_law_many","_law_most","_law_sizes","_law_rooms","_law_at","_law_room","_law_steps","_law_s","_law_cases_here","_law_i"] ["_law_cell","_law_signs_here"] (jY jw1):=mkS
theorem sc__law_chain:FnScope ["_law_cell","_law_signs_here","_law_xs","_law_many","_law_sizes","_law_rooms","_law_at","_law_room","_law_steps","_law_s","_law_cases_here","_law_i","_law_number","_law_free","_law_to"] ["_law_cell","_law_signs_here"] (jY jw3):=mkS
theorem kjn:FnScope ["_law_cell","_law_signs_here"] ["_law_cell","_law_signs_here"] (jY jv5):=mkS
theorem sc__law_read:FnScope ["_law_plain_here","_law_standing","_law_sign","_law_name","_law_room","_law_names","_law_keepers_here","_law_good_here","_law_steps","_law_at","_law_case_here"] ["_law_plain_here","_law_standing","_law_sign","_law_name"] (jY jwx):=mkS
theorem kjo:FnScope ["_law_plain_here","_law_room"] ["_law_plain_here","_law_room"] (jY jv6):=mkS
theorem sc__law_pair:FnScope ["_law_here","_law_there","_law_names","_law_rooms","_law_k","_law_standing","_law_shared"] ["_law_here","_law_there"] (jY jwy):=mkS
theorem sc__law_same:FnScope ["_law_found","_law_due_here","_law_one","_law_other"] ["_law_found","_law_due_here"] (jY jww):=mkS
theorem sc__law_firsts:FnScope ["_law_one","_law_other","_law_pair_here","_law_p","_law_q","_law_shared","_law_here","_law_partner","_law_i","_law_j","_law_there","_law_free","_law_standings"] ["_law_one","_law_other","_law_pair_here"] (jY jvm):=mkS
theorem kx6:FnScope ["_law_standing"] ["_law_standing"] (jY jwz):=mkS
theorem jwl:FnScope ["_law_here","_law_there"] ["_law_here","_law_there"] (jY jkp):=mkS
theorem sc__law_good:FnScope ["_law_word","_law_one","_law_other","_law_pair_here","_law_goods","_law_k","_law_plain_here"] ["_law_word","_law_one","_law_other","_law_pair_here"] (jY jx0):=mkS
theorem sc__law_cases:FnScope ["_law_one","_law_other","_law_pair_here","_law_sign","_law_pairs","_law_here","_law_there","_law_many","_law_cases_here","_law_name","_law_left","_law_right","_law_after"] ["_law_one","_law_other","_law_pair_here","_law_sign","_law_pairs"] (jY jw4):=mkS
theorem sc__law_due:FnScope ["_law_word","_law_one","_law_other","_law_pairs","_law_rooms","_law_pair_here","_law_steps","_law_many","_law_sign","_law_cases_here"] ["_law_word","_law_one","_law_other"] (jY jzd):=mkS
theorem sc__law_told:FnScope ["_law_word","_law_one","_law_other","e"] ["_law_word","_law_one","_law_other"] (jY jwv):=mkS
theorem sc_law:FnScope ["_law_script","_law_signs_here","_law_second","_law_one","_law_other","_law_word","_law_due_here","_law_found","_law_kept","_law_at","_law_s","_law_keepers_here","_law_good_here","_law_steps"] ["_law_script"] (jY vxw):=mkS
structure Txt (K:Frag)(mg:Str->Option Value)(ah ac ae:Addr):Prop where
 b_all:mg "all"=none
 b_bool:mg "bool"=none
 b_dict:mg "dict"=none
 b_enumerate:mg "enumerate"=none
 b_int:mg "int"=none
 b_isinstance:mg "isinstance"=none
 b_len:mg "len"=none
 b_list:mg "list"=none
 b_range:mg "range"=none
 b_str:mg "str"=none
 b_tuple:mg "tuple"=none
 b_zip:mg "zip"=none
 c_SMALL_ROOMS:Cst mg "SMALL_ROOMS" (V.int (12))
 c_SMALL_KEEPERS:Cst mg "SMALL_KEEPERS" (V.int (3))
 c_NOWHERE:Cst mg "NOWHERE" (V.int (-1))
 c_FIRST_PAIR:xqb K mg "FIRST_PAIR" (.tup [(.int 0),(.int 0),(.tup [])])
 c_WORDS:xqb K mg "WORDS" (.tup [(.str "both"),(.str "either"),(.str "first"),(.str "one")])
 c_MOST_ROOMS:Cst mg "MOST_ROOMS" (V.int (40))
 n_NoFit:nsIn K mainGlobals "NoFit"=some (some (.ref ah))
 m_NoFit:mg "NoFit"=some (.ref ah)
 e_NoFit:ECls K mg "NoFit" ah
 n_TooGreat:nsIn K mainGlobals "TooGreat"=some (some (.ref ac))
 m_TooGreat:mg "TooGreat"=some (.ref ac)
 e_TooGreat:ECls K mg "TooGreat" ac
 n_RoomError:nsIn K mainGlobals "RoomError"=some (some (.ref ae))
 m_RoomError:mg "RoomError"=some (.ref ae)
 h_TooGreat_RoomError:PySem.W.exmOne K (.ref ac) (.ref ae)=some true
 h_NoFit_RoomError:PySem.W.exmOne K (.ref ah) (.ref ae)=some true
 i_TooGreat_NoFit:kitOne K (.ref ac) (.ref ah)=some false
 i_NoFit_NoFit:kitOne K (.ref ah) (.ref ah)=some true
 i_TooGreat_TooGreat:kitOne K (.ref ac) (.ref ac)=some true
 i_NoFit_TooGreat:kitOne K (.ref ah) (.ref ac)=some false
section
variable (P:Program)(w:PySem.World)(K:Frag)(mg:Str->Option Value)(base:Heap)
abbrev kv5:=jW P w K mg base 1 "is_small" ["plain"] (spF K mg 1 m_is_small)
abbrev kzr:=jW P w K mg base 1 "read_by" ["plain","standing","sign","name"] (spF K mg 4 m_read_by)
abbrev jzt:=jW P w K mg base 1 "keepers_in" ["plain","room"] (spF K mg 2 m_keepers_in)
abbrev jz3:=jW P w K mg base 1 "standing_in" ["room","names"] (spF K mg 2 m_standing_in)
abbrev jzl:=jW P w K mg base 2 "first_standings" ["one","other","pair"] (spF K mg 3 m_first_standings)
abbrev kqb:=jW P w K mg base 2 "read_by_both" ["one","other","standings","sign","name"] (spF K mg 5 m_read_by_both)
abbrev jzk:=jW P w K mg base 1 "names_of" ["standing"] (spF K mg 1 m_names_of)
abbrev kzq:=jW P w K mg base 1 "room_of" ["standing"] (spF K mg 1 m_room_of)
abbrev vk6:=jW P w K mg base 2 "pair_of" ["standings"] (spF K mg 1 m_pair_of)
abbrev jwq:=jW P w K mg base 2 "held_by_both" ["standings"] (spF K mg 1 m_held_by_both)
abbrev jzu:=jW P w K mg base 1 "is_good_in" ["plain","room"] (spF K mg 2 m_is_good_in)
abbrev jzv:=jW P w K mg base 1 "is_good_by" ["word","ours","theirs"] (spF K mg 3 m_is_good_by)
abbrev jz5:=jW P w K mg base 3 "joined_case" ["standings","numbers"] (spM K mg 1 m_joined_case)
abbrev jz4:=jW P w K mg base 4 "joined_room" ["word","one","other","pair","numbers"] (spM K mg 4 jkz)
abbrev vvx:=jW P w K mg base 5 "joined" ["word","one","other"] (spF K mg 3 jxn)
abbrev jws:=jW P w K mg base 1 "_law_cell_at" ["_law_script","_law_k"] (spF K mg 2 m__law_cell_at)
abbrev jzw:=jW P w K mg base 1 "_law_whole" ["_law_found"] (spF K mg 1 m__law_whole)
abbrev jqm:=jW P w K mg base 1 "_law_stream" ["_law_cell","_law_many"] (spF K mg 2 m__law_stream)
abbrev kzs:=jW P w K mg base 2 "_law_signs" ["_law_cell"] (spF K mg 1 m__law_signs)
abbrev jwd:=jW P w K mg base 1 "_law_fills" ["_law_number","_law_need","_law_free"] (spF K mg 3 m__law_fills)
abbrev qke:=jW P w K mg base 2 "_law_case" ["_law_number","_law_sizes","_law_free"] (spF K mg 3 m__law_case)
abbrev kzt:=jW P w K mg base 3 "_law_plain" ["_law_cell","_law_signs_here"] (spF K mg 2 m__law_plain)
abbrev kzu:=jW P w K mg base 2 "_law_chain" ["_law_cell","_law_signs_here"] (spF K mg 2 jqc)
abbrev kqc:=jW P w K mg base 4 "_law_machine" ["_law_cell","_law_signs_here"] (spF K mg 2 W2)
abbrev kkr:=jW P w K mg base 1 "_law_read" ["_law_plain_here","_law_standing","_law_sign","_law_name"] (spF K mg 4 m__law_read)
abbrev jwr:=jW P w K mg base 1 "_law_keepers" ["_law_plain_here","_law_room"] (spF K mg 2 m__law_keepers)
abbrev kks:=jW P w K mg base 1 "_law_pair" ["_law_here","_law_there"] (spF K mg 2 m__law_pair)
abbrev kkq:=jW P w K mg base 10 "_law_same" ["_law_found","_law_due_here"] (spF K mg 2 jqt)
abbrev kwu:=jW P w K mg base 2 "_law_firsts" ["_law_one","_law_other","_law_pair_here"] (spF K mg 3 Wk)
abbrev kkt:=jW P w K mg base 1 "_law_held" ["_law_standing"] (spF K mg 1 ZJ)
abbrev jx9:=jW P w K mg base 2 "_law_joined_names" ["_law_here","_law_there"] (spF K mg 2 ZK)
abbrev kku:=jW P w K mg base 1 "_law_good" ["_law_word","_law_one","_law_other","_law_pair_here"] (spF K mg 4 jvp)
abbrev jzx:=jW P w K mg base 3 "_law_cases" ["_law_one","_law_other","_law_pair_here","_law_sign","_law_pairs"] (spM K mg 4 jqd)
abbrev qvy:=jW P w K mg base 4 "_law_due" ["_law_word","_law_one","_law_other"] (spF K mg 3 jwg)
abbrev qkd:=jW P w K mg base 6 "_law_told" ["_law_word","_law_one","_law_other"] (spF K mg 3 Z7)
end
section
variable {ah ac ae:Addr}
variable {P:Program}{w:PySem.World}{K:Frag}{mg:Str->Option Value}{base:Heap}{f:Addr}{fd:FuncData}
theorem qjh(T:Txt K mg ah ac ae):OkF P w K mg base 1 "is_small" jzc ["plain"] 1 m_is_small:=
 okF qj1 λhr=>(jz (VZ (j5 (xv4 (j5 (qL (kx (vv 0) ki) T.b_len)) (j5 (q_C (KZ T.c_SMALL_ROOMS) (λ_=>vK))))) (QY (wvf (wk3 K) wz5 (j5 (qM .rt 1 [] 1 ["room"] (JY (jQ (kx (vv 0) ki))) (λ_ _ _ _ _=>(xv4 (kx (vv 0) ki) (j5 (q_C (KZ T.c_SMALL_KEEPERS) (λ_=>vK))))))) T.b_all wxs))))
theorem qvk(T:Txt K mg ah ac ae):OkF P w K mg base 1 "read_by" kjr ["plain","standing","sign","name"] 4 m_read_by:=
 okF sc_read_by λhr=>have nd:=sc_read_by.nd;(j7 (kK (QW.pt (V6 (K5 (vv 1) kn) (Vq (wV (jxk hr.units) jz1 (vv 2) (kx (vv 0) ki) (by rfl) jxz)))) (jz kN)) (j7 (qA nd (jQ (kx (vv 1) ki))) (j7 (qA nd (jQ (kx (kx (kx (kx (vv 0) ki) (kx (vv 1) ki)) ki) (j5 (W4 hr.units (kx (vv 0) ki) (vv 2)))))) (j7 (qA nd (jQ (kx (vv 5) (j5 (Zj (wV (vqq hr.units) vvv (vv 3) (vv 4) (by rfl) vvt) (W4 hr.units (vv 4) (vv 3)) (qL (vv 4) T.b_len)))))) (j7 (kK (K5 (vv 6) kn) (jz kN)) (j7 (qA nd (oA (vv 4) (j5 (kQ (o:=.no) (j4 (cv 3) j9))))) (jz (kQ (o:=.no) (j4 (jQ (kx (vv 6) ki)) (j4 (qT (j5 (qM .rt 1 [7] 8 ["fill","held"] (JY (jQ (kx (vv 6) ki))) (λ_ _ _ _ _=>(jQ (kx (vv 1) (vv 0)))))) T.b_tuple) j9))))))))))
theorem kw0(T:Txt K mg ah ac ae):OkF P w K mg base 1 "keepers_in" jvw ["plain","room"] 2 m_keepers_in:=
 okF kvh λhr=>(jz (Zj (xj hr (vv 1) (j5 (q_C (KZ T.c_NOWHERE) (λ_=>vK)))) kI (jQ (kx (kx (kx (vv 0) ki) (vv 1)) ki))))
theorem kq2(T:Txt K mg ah ac ae):OkF P w K mg base 1 "standing_in" jvi ["room","names"] 2 m_standing_in:=
 okF kkz λhr=>(jz (Zj (xj hr (vv 0) (j5 (q_C (KZ T.c_NOWHERE) (λ_=>vK)))) kN (kQ (o:=.no) (j4 (cv 0) (j4 (qT (vv 1) T.b_tuple) j9)))))
theorem jxl(T:Txt K mg ah ac ae)(ce:jzt P w K mg base)(bv:jz3 P w K mg base):OkF P w K mg base 2 "first_standings" jq3 ["one","other","pair"] 3 m_first_standings:=
 okF sc_first_standings λhr=>have nd:=sc_first_standings.nd;(j7 (qA nd (qC ce hr (j4 (cv 0) (j4 (jQ (kx (vv 2) ki)) j9)))) (j7 (qA nd (xZ (vju K) vvw (j5 (qm .rt 2 [] 7 ["i","j"] (JY (jQ (kx (vv 2) ki))) (λhN _ _ _ _ _=>(Kv (is:=[0,1]) (J5 K (t:=gNs [0,1]) (n:=2) (qY (gn hN) (qY (gn hN) J4))))) (λ_ _ _ _ _=>vz6) (λ_ _ _ _ _=>(kQ (o:=.no) (j4 (cv 1) (j4 (cv 0) j9)))))) T.b_dict wk7)) (j7 (qA nd K3) (j7 (qF (x8 (j5 (qC ce hr (j4 (cv 1) (j4 (jQ (kx (vv 2) ki)) j9)))) rfl T.b_range) (gN nd) (kW (qP (Zj (wV (xk6 hr.units) wz1 (vv 6) (vv 4) (by rfl) wxu) (jQ (xjn hr.units (vv 4) (vv 6) (λ_ _=>rfl))) (oA (vv 3) (j5 (qL (j5 (xjm (o:=.rt) (k:=1) (R:=[3]) ["name","own"] (xjo (pv 5)) (λ_ _ _ _ _=>(Ww (gn (show(["name","own"]:List Str).Nodup by decide +kernel)))) (λ_ _ _ _ _=>(YV (wV xk5 (qvw (g:=λa b=>decide (b<=a))) (vv 0) (vv 1) (xJ _) vk0))) (λ_ _ _ _ _=>(cv 0)) wJ #[_,_,rfl,rfl] ⋯ (show ∀j∈([3]:List Nat) ,j<7 by decide))) T.b_len))))))) (jz (kQ (o:=.no) (j4 (qC bv hr (j4 (jQ (kx (vv 2) ki)) (j4 (vz8 (vv 3) T.b_range T.b_list) j9))) (j4 (kvu bv (hr.mono ⋯) wJ (Vw (kx (vv 2) ki) (Vw (vv 5) vq2))) j9))))))))
theorem kjx(T:Txt K mg ah ac ae)(fb:kzr P w K mg base):OkF P w K mg base 2 "read_by_both" jv3 ["one","other","standings","sign","name"] 5 m_read_by_both:=
 okF kjm λhr=>(jz (kQ (o:=.no) (j4 (qC fb hr (j4 (cv 0) (j4 (jQ (kx (vv 2) ki)) (j4 (cv 3) (j4 (cv 4) j9))))) (j4 (qC fb hr (j4 (cv 1) (j4 (jQ (kx (vv 2) ki)) (j4 (cv 3) (j4 (cv 4) j9))))) j9))))
theorem qjg(T:Txt K mg ah ac ae):OkF P w K mg base 1 "names_of" jzb ["standing"] 1 m_names_of:=
 okF qj0 λhr=>(jz (Zj (K5 (vv 0) kn) (kQ (o:=.no) j9) (jQ (kx (vv 0) ki))))
theorem qvj(T:Txt K mg ah ac ae):OkF P w K mg base 1 "room_of" kjq ["standing"] 1 m_room_of:=
 okF qv9 λhr=>(jz (Zj (K5 (vv 0) kn) (q_C (KZ T.c_NOWHERE) (λ_=>vK)) (jQ (kx (vv 0) ki))))
theorem qvl(T:Txt K mg ah ac ae)(bb:jzk P w K mg base)(fc:kzq P w K mg base):OkF P w K mg base 2 "pair_of" kjs ["standings"] 1 m_pair_of:=
 okF sc_pair_of λhr=>have nd:=sc_pair_of.nd;(j7 (qA nd (qC bb hr (j4 (jQ (kx (vv 0) ki)) j9))) (j7 (qA nd (qC bb hr (j4 (jQ (kx (vv 0) ki)) j9))) (j7 (kvr (i:=3) (o:=.rt) (k:=2) (R:=[2]) ["i","name","theirs"] nd rfl (by first|exact Or.inl rfl|exact Or.inr rfl) (qx7 (cv 1) rfl T.b_enumerate) (λ_ _ _ _ _=>(Kv (is:=[0,1]) (J5 K (t:=gNs [0,1]) (n:=2) (qY (gn (show(["i","name","theirs"]:List Str).Nodup by decide +kernel)) (qY (gn (show(["i","name","theirs"]:List Str).Nodup by decide +kernel)) J4))))) (λ_ _ _ _ _=>(YV (wV (vqq hr.units) vvv (vv 1) (vv 2) (by rfl) vvt))) (λ_ _ _ _ _=>(kQ (o:=.no) (j4 (cv 0) (j4 (W4 hr.units (vv 2) (vv 1)) j9)))) wJ #[_,_,rfl,rfl] ⋯ (show ∀j∈([2]:List Nat) ,j<4 by decide)) (jz (kQ (o:=.no) (j4 (qC fc hr (j4 (jQ (kx (vv 0) ki)) j9)) (j4 (qC fc hr (j4 (jQ (kx (vv 0) ki)) j9)) (j4 (qT (vv 3) T.b_tuple) j9))))))))
theorem kjy(T:Txt K mg ah ac ae)(bb:jzk P w K mg base):OkF P w K mg base 2 "held_by_both" jv4 ["standings"] 1 m_held_by_both:=
 okF sc_held_by_both λhr=>have nd:=sc_held_by_both.nd;(j7 (qA nd (qC bb hr (j4 (jQ (kx (vv 0) ki)) j9))) (jz (oA (vv 1) (j5 (qT (j5 (qm .rt 1 [1] 2 ["name","ours"] (JY (qC bb hr (j4 (jQ (kx (vv 0) ki)) j9))) (λhN _ _ _ _ _=>(Ww (gn hN))) (λ_ _ _ _ _=>(YV (wV (jxk hr.units) jz1 (vv 0) (vv 1) (by rfl) jxz))) (λ_ _ _ _ _=>(cv 0)))) T.b_tuple)))))
theorem kw1(T:Txt K mg ah ac ae):OkF P w K mg base 1 "is_good_in" jvx ["plain","room"] 2 m_is_good_in:=
 okF kvi λhr=>(jz (VZ (j5 (V9 (qxx hr.units) vk5 (vv 1) (j5 (q_C (KZ T.c_NOWHERE) (λ_=>vK))) (xJ _))) (QY (jQ (kx (kx (kx (vv 0) ki) (vv 1)) ki)))))
theorem kw2(T:Txt K mg ah ac ae):OkF P w K mg base 1 "is_good_by" jvy ["word","ours","theirs"] 3 m_is_good_by:=
 okF kvj λhr=>(j7 (kK (xj hr (vv 0) ks) (jz (VZ (vv 1) (QY (cv 2))))) (j7 (kK (xj hr (vv 0) ks) (jz (q_or (vv 1) (QY (cv 2))))) (j7 (kK (xj hr (vv 0) ks) (jz (VZ (vv 1) (QY (wv6 (vv 2)))))) (jz (V9 (qxx hr.units) vk5 (vv 1) (vv 2) (xJ _))))))
theorem kq4(T:Txt K mg ah ac ae)(gb:vk6 P w K mg base)(b8:jwq P w K mg base)(F:Fun K "joined_case" "joined_case" jvk f fd):FnOk P w K mg base (CXE P w) 3 f fd ["standings","numbers"] (spM K mg 1 m_joined_case):=
 jzn F sc_joined_case (kzy rfl) λdq A outer s H vs Q E hr h=>have nd:=sc_joined_case.nd;qk1 rfl
  (j7 (qA nd (qC gb hr (j4 (cv 0) j9))) (j7 (kK (xj hr (vv 2) (j5 (kQ (o:=.no) (j4 (q_C (KZ T.c_NOWHERE) (λ_=>vK)) (j4 (q_C (KZ T.c_NOWHERE) (λ_=>vK)) (j4 (kQ (o:=.no) j9) j9)))))) (jz kN)) (jz (kQ (o:=.no) (j4 (wv4 (i:=1) hr.units (pv 1) (vv 2) (j5 (wvf (kkn K) qkc (vv 1) T.b_len qv0))) (j4 (QE.weak (qC b8 hr (j4 (cv 0) j9))) Qx)))))) h
theorem kq3(T:Txt K mg ah ac ae)(bn:jzl P w K mg base)(b8:jwq P w K mg base)(cz:jzv P w K mg base)(cg:kqb P w K mg base)(cb:jzu P w K mg base)(cu:jz5 P w K mg base)(F:Fun K "joined_room" "joined_room" jvj f fd):FnOk P w K mg base (CXE P w) 4 f fd ["word","one","other","pair","numbers"] (spM K mg 4 jkz):=
 jzn F sc_joined_room (kzy rfl) λdq A outer s H vs Q E hr h=>have nd:=sc_joined_room.nd;qk1 rfl
  (j7 (qA nd (qC bn hr (j4 (cv 1) (j4 (cv 2) (j4 (cv 3) j9))))) (j7 (qA nd (qL (j5 (qC b8 hr (j4 (cv 5) j9))) T.b_len)) (j7 (qA nd (v7 (o:=.dp) j9)) (j7 (qF (JY (jQ (kx (vv 1) ki))) (gN nd) (j7 (kvr (i:=9) (o:=.rt) (k:=1) (R:=[1,2,5,8]) ["name","one","other","standings","sign"] nd rfl (by first|exact Or.inl rfl|exact Or.inr rfl) (x8 (j5 (oA (vv 6) ki)) rfl T.b_range) (λ_ _ _ _ _=>(Ww (gn (show(["name","one","other","standings","sign"]:List Str).Nodup by decide +kernel)))) (λ_ _ _ _ _=>vz6) (λ_ _ _ _ _=>(qC cg hr (j4 (cv 1) (j4 (cv 2) (j4 (cv 3) (j4 (cv 4) (j4 (cv 0) j9))))))) wJ #[_,_,rfl,rfl] ⋯ (show ∀j∈([1,2,5,8]:List Nat) ,j<10 by decide)) (kW (qP (QZ (qM .rt 1 [4] 10 ["both","numbers"] (JY (QE.weak (cv 9))) (λ_ _ _ _ _=>(qj8 (i:=1) cu (hr.mono ⋯) wJ (Q9 (cv 0) (xjl (i:=1) (pv 1))))))))))) (jz (kQ (o:=.dp) (q:=false) (j4 (QE.weak (cv 6)) (j4 (QE.weak (QZ (qC cz hr (j4 (cv 0) (j4 (qC cb hr (j4 (cv 1) (j4 (jQ (kx (vv 3) ki)) j9))) (j4 (qC cb hr (j4 (cv 2) (j4 (jQ (kx (vv 3) ki)) j9))) j9)))))) (j4 (Qv (pv 7)) Qx))))))))) h
theorem qxz(T:Txt K mg ah ac ae)(cy:kv5 P w K mg base)(cn:jz4 P w K mg base):OkF P w K mg base 5 "joined" kvl ["word","one","other"] 3 jxn:=
 okF sc_joined λhr=>have nd:=sc_joined.nd;(j7 (kK (QW.pt (V6 (wV (jxk hr.units) jz1 (vv 0) (j5 (xqv T.c_WORDS)) (by rfl) jxz) (Vq (Z8 hr (kx (vv 1) ki) (kx (vv 2) ki))))) (kW (qj7 T.e_NoFit T.m_NoFit wJ kxn))) (j7 (kK (QW.pt (V6 (ZY (Kk (j5 (qC cy hr (j4 (cv 1) j9))))) (Vq (ZY (Kk (j5 (qC cy hr (j4 (cv 2) j9)))))))) (kW (qj7 T.e_TooGreat T.m_TooGreat wJ kxn))) (j7 (qA nd (wve hr.units (xqv T.c_FIRST_PAIR) kI)) (j7 (qA nd (v7 (o:=.dp) j9)) (j7 (qx6 (vqm #[_,_,rfl,rfl]) (wzx (j5 (qL (vv 4) T.b_len)) (j5 (wvf (kkn K) qkc (vv 3) T.b_len qv0))) (j7 (kK (wzy (j5 (wvf (kkn K) qkc (vv 3) T.b_len qv0)) (j5 (q_C (KZ T.c_MOST_ROOMS) (λ_=>vK)))) (kW (qj7 T.e_TooGreat T.m_TooGreat wJ kxn))) (kW (qP (qj8 (i:=3) cn (hr.mono ⋯) wJ (Q9 (cv 0) (Q9 (cv 1) (Q9 (cv 2) (Q9 (jQ (kx (j5 (xZ (kv2 rfl) qv2 (vv 3) T.b_list JW)) (j5 (qL (vv 4) T.b_len)))) (xjl (i:=3) (pv 3))))))))))) (jz (kQ (o:=.dp) (q:=false) (j4 (kQ (o:=.dp) (q:=false) (j4 (QE.weak (QZ (xZ (Zz K) Zq (kx (vv 1) ki) T.b_list JW))) (j4 (Qv (pv 4)) Qx))) (j4 (QE.weak (QZ (xZ (kv2 rfl) qv2 (vv 3) T.b_list JW))) Qx)))))))))
theorem kk1(T:Txt K mg ah ac ae):OkF P w K mg base 1 "_law_cell_at" jv7 ["_law_script","_law_k"] 2 m__law_cell_at:=
 okF kjp λhr=>(j7 (kK (wzx (vv 1) (j5 (qL (vv 0) T.b_len))) (jz (jQ (kx (vv 0) (vv 1))))) (jz kI))
theorem kw3(T:Txt K mg ah ac ae):OkF P w K mg base 1 "_law_whole" jvz ["_law_found"] 1 m__law_whole:=
 okF kvk λhr=>(jz (VZ (j5 (Jq (vv 0) T.b_isinstance T.b_int kv4 rfl)) (QY (wv6 (j5 (Jq (vv 0) T.b_isinstance T.b_bool kws rfl))))))
theorem kq5(T:Txt K mg ah ac ae):OkF P w K mg base 1 "_law_stream" jvl ["_law_cell","_law_many"] 2 m__law_stream:=
 okF sc__law_stream λhr=>have nd:=sc__law_stream.nd;(j7 (qA nd K3) (j7 (kK (xj hr (j5 (oM (vv 0) ki)) ki) (j7 (qA nd (zJ (vv 0) ki)) (j7 (qF (x8 (vv 1) rfl T.b_range) (gN nd) (j7 (qP (oM (vv 0) ki)) (kW (qA nd (zJ (vv 0) ki))))) (jz (Qv (pv 2)))))) (j7 (qA nd (oA (j5 (oM (j5 (zJ (vv 0) ki)) ki)) ki)) (j7 (qF (x8 (j5 (oA (vv 1) ki)) rfl T.b_range) (gN nd) (j7 (qA nd (oM (j5 (oA (j5 (oA (j5 (oX (vv 4) (vv 4))) (j5 (oX ki (vv 4))))) (vv 3))) ki)) (kW (qP (oM (j5 (oA (j5 (oX (vv 4) ki)) (j5 (oX ki (vv 3))))) ki))))) (jz (wzf (vv 2) (vkx ki) vky))))))
theorem kw4(T:Txt K mg ah ac ae)(az:jqm P w K mg base):OkF P w K mg base 2 "_law_signs" jw0 ["_law_cell"] 1 m__law_signs:=
 okF sc__law_signs λhr=>have nd:=sc__law_signs.nd;(j7 (qA nd kS) (j7 (qA nd (qC az hr (j4 (cv 0) (j4 kI j9)))) (j7 (qA nd (wv8 kxn (j5 (qM .rt 1 [1] 7 ["_law_x","_law_letters"] (JY (wzf (vv 2) vky (vkx (j5 (oA ki (j5 (oM (vv 0) ki))))))) (λ_ _ _ _ _=>(jQ (kx (vv 1) (j5 (oM (vv 0) ki))))))))) (j7 (qA nd (oM (j5 (zJ (vv 0) ki)) (j5 (qL (vv 3) T.b_len)))) (j7 (qA nd K3) (j7 (qF (x8 (kx (j5 (v7 (o:=.rt) (j4 kI (j4 kI (j4 kI (j4 kI (j4 kI (j4 kI (j4 kI (j4 kI j9)))))))))) (j5 (oM (j5 (zJ (vv 0) ki)) ki))) rfl T.b_range) (gN nd) (kW (qP (oA (j5 (oA (j5 (wzf (vv 3) vky (vkx (vv 4)))) (kx (vv 1) (j5 (oA (j5 (oM (kx (vv 2) ki) ki)) (vv 6)))))) (j5 (wzf (vv 3) (vkx (j5 (oA (vv 4) ki))) vky)))))) (jz (Qv (pv 5)))))))))
theorem kw6(T:Txt K mg ah ac ae):OkF P w K mg base 1 "_law_fills" jw2 ["_law_number","_law_need","_law_free"] 3 m__law_fills:=
 okF sc__law_fills λhr=>have nd:=sc__law_fills.nd;(j7 (qA nd (vz8 (vv 2) T.b_range T.b_list)) (j7 (qA nd K3) (j7 (qF (x8 (vv 1) rfl T.b_range) (gN nd) (j7 (qP (xjj (i:=3) (qxr K Yn PySem.F.slot_list_pop PySem.F.type_list_pop vqs (pv 3) (vJ (j5 (oM (vv 0) (j5 (qL (vv 3) T.b_len)))) wK)))) (kW (qA nd (oA (j5 (zJ (vv 0) ki)) (j5 (oX ki (vv 5)))))))) (jz (qT (vv 4) T.b_tuple)))))
theorem kxv(T:Txt K mg ah ac ae)(bf:jwd P w K mg base):OkF P w K mg base 2 "_law_case" jx1 ["_law_number","_law_sizes","_law_free"] 3 m__law_case:=
 okF sc__law_case λhr=>have nd:=sc__law_case.nd;(j7 (kK (xj hr (j5 (oM (vv 0) ki)) ki) (jz kN)) (j7 (kvr (i:=3) (o:=.rt) (k:=1) (R:=[1,2]) ["_law_to","_law_sizes","_law_free"] nd rfl (by first|exact Or.inl rfl|exact Or.inr rfl) (x8 (j5 (qL (vv 1) T.b_len)) rfl T.b_range) (λ_ _ _ _ _=>(Ww (gn (show(["_law_to","_law_sizes","_law_free"]:List Str).Nodup by decide +kernel)))) (λ_ _ _ _ _=>(YV (wV wj4 (qvw (g:=λa b=>decide (a<=b))) (kx (vv 1) (vv 0)) (vv 2) (xJ _) vk0))) (λ_ _ _ _ _=>(cv 0)) wJ #[_,_,rfl,rfl] ⋯ (show ∀j∈([1,2]:List Nat) ,j<5 by decide)) (j7 (qA nd (jQ (kx (vv 3) (j5 (oM (j5 (zJ (vv 0) ki)) (j5 (qL (vv 3) T.b_len))))))) (jz (kQ (o:=.no) (j4 (cv 4) (j4 (qC bf hr (j4 (zJ (vv 0) ki) (j4 (jQ (kx (vv 1) (vv 4))) (j4 (cv 2) j9)))) j9)))))))
theorem kw5(T:Txt K mg ah ac ae)(az:jqm P w K mg base)(f8:qke P w K mg base):OkF P w K mg base 3 "_law_plain" jw1 ["_law_cell","_law_signs_here"] 2 m__law_plain:=
 okF sc__law_plain λhr=>have nd:=sc__law_plain.nd;(j7 (qA nd (qC az hr (j4 (cv 0) (j4 kI j9)))) (j7 (qA nd (jQ (kx (j5 (v7 (o:=.rt) (j4 kI (j4 kI (j4 kI (j4 kI (j4 kI (j4 kI (j4 kI (j4 kI j9)))))))))) (j5 (oM (kx (vv 2) ki) ki))))) (j7 (qA nd kI) (j7 (kK (QW.pt (qkz (xj hr (vv 3) ki) (kvq (xj hr (j5 (oM (kx (vv 2) ki) ki)) ki)))) (kW (qA nd kI))) (j7 (qA nd (oA (j5 (v7 (o:=.rt) (j4 kI j9))) (j5 (qM .rt 1 [2,4] 13 ["_law_k","_law_xs","_law_most"] (x8 (j5 (YX vwr vxb (vv 3) ki)) rfl T.b_range) (λ_ _ _ _ _=>(oM (j5 (zJ (kx (vv 1) (j5 (oA ki (vv 0)))) ki)) (j5 (oA (vv 2) ki)))))))) (j7 (qA nd K3) (j7 (qA nd kI) (j7 (qF (x8 (vv 3) rfl T.b_range) (gN nd) (j7 (qA nd K3) (j7 (qF (x8 (j5 (qL (vv 1) T.b_len)) rfl T.b_range) (gN nd) (j7 (qA nd K3) (j7 (qF (x8 (j5 (oA (kx (vv 5) (vv 8)) ki)) rfl T.b_range) (gN nd) (j7 (qP (qC f8 hr (j4 (jQ (kx (vv 2) (vv 7))) (j4 (cv 5) (j4 (oA (kx (vv 5) (vv 8)) (j5 (xZ jwc kzp (j5 (Jv hr (vv 12) (kx (vv 5) (vv 8)))) T.b_int kv4))) j9))))) (kW (qA nd (oA (vv 7) ki))))) (kW (qP (cv 11)))))) (j7 (qP (kQ (o:=.no) (j4 (jQ (kx (vv 5) (vv 8))) (j4 (Jv hr (j5 (oM (kx (vv 2) (vv 7)) ki)) ki) (j4 (cv 9) j9))))) (kW (qA nd (oA (vv 7) ki))))))) (jz (kQ (o:=.no) (j4 (xZ (Zz K) Zq (vv 1) T.b_list JW) (j4 (cv 6) j9))))))))))))
theorem kw7(T:Txt K mg ah ac ae)(az:jqm P w K mg base)(bf:jwd P w K mg base):OkF P w K mg base 2 "_law_chain" jw3 ["_law_cell","_law_signs_here"] 2 jqc:=
 okF sc__law_chain λhr=>have nd:=sc__law_chain.nd;(j7 (qA nd (qC az hr (j4 (cv 0) (j4 kI j9)))) (j7 (qA nd (oA ki (j5 (oM (kx (vv 2) ki) ki)))) (j7 (qA nd (oA (j5 (v7 (o:=.rt) (j4 kI j9))) (j5 (qM .rt 1 [2] 15 ["_law_k","_law_xs"] (x8 (j5 (YX vwr vxb (vv 3) ki)) rfl T.b_range) (λ_ _ _ _ _=>(oM (kx (vv 1) (j5 (oA ki (vv 0)))) ki)))))) (j7 (qA nd K3) (j7 (qA nd kI) (j7 (qF (x8 (vv 3) rfl T.b_range) (gN nd) (j7 (qA nd K3) (j7 (qF (x8 (j5 (qL (vv 1) T.b_len)) rfl T.b_range) (gN nd) (j7 (qA nd K3) (j7 (qF (x8 (j5 (oA (kx (vv 4) (vv 7)) ki)) rfl T.b_range) (gN nd) (j7 (qA nd (jQ (kx (vv 2) (vv 6)))) (j7 (qA nd (oA (vv 6) ki)) (j7 (qA nd (oA (kx (vv 4) (vv 7)) (j5 (xZ jwc kzp (j5 (Jv hr (vv 11) (kx (vv 4) (vv 7)))) T.b_int kv4)))) (j7 (qA nd (jQ (kx (j5 (v7 (o:=.rt) (j4 (oM (j5 (oA (vv 7) ki)) (vv 3)) (j4 (oM (j5 (zJ (vv 12) ki)) (vv 3)) j9)))) (j5 (xZ jwc kzp (j5 (Jv hr (j5 (oM (vv 12) ki)) ki)) T.b_int kv4))))) (kW (xjp (QW.pt (V6 (xj hr (j5 (oM (vv 12) ki)) ki) (Vq (wzy (kx (vv 4) (vv 14)) (vv 13))))) (kW (qP kN)) (kW (qP (kQ (o:=.no) (j4 (cv 14) (j4 (qC bf hr (j4 (zJ (vv 12) ki) (j4 (jQ (kx (vv 4) (vv 14))) (j4 (cv 13) j9)))) j9)))))))))))) (kW (qP (cv 10)))))) (j7 (qP (kQ (o:=.no) (j4 (jQ (kx (vv 4) (vv 7))) (j4 (Jv hr (j5 (oM (kx (vv 2) (vv 6)) ki)) ki) (j4 (cv 8) j9))))) (kW (qA nd (oA (vv 6) ki))))))) (jz (kQ (o:=.no) (j4 (xZ (Zz K) Zq (vv 1) T.b_list JW) (j4 (cv 5) j9))))))))))
theorem kjz(T:Txt K mg ah ac ae)(d8:kzt P w K mg base)(df:kzu P w K mg base):OkF P w K mg base 4 "_law_machine" jv5 ["_law_cell","_law_signs_here"] 2 W2:=
 okF kjn λhr=>(j7 (kK (xj hr (j5 (oM (vv 0) ki)) ki) (jz (qC df hr (j4 (zJ (vv 0) ki) (j4 (cv 1) j9))))) (jz (qC d8 hr (j4 (cv 0) (j4 (cv 1) j9)))))
theorem kxr(T:Txt K mg ah ac ae):OkF P w K mg base 1 "_law_read" jwx ["_law_plain_here","_law_standing","_law_sign","_law_name"] 4 m__law_read:=
 okF sc__law_read λhr=>have nd:=sc__law_read.nd;(j7 (kK (K5 (vv 1) kn) (jz kN)) (j7 (qky (cv 1) (Kv (is:=[4,5]) (J5 K (t:=gNs [4,5]) (n:=2) (qY (gn nd) (qY (gn nd) J4))))) (j7 (qky (jQ (kx (kx (vv 0) ki) (vv 4))) (Kv (is:=[6,7,8]) (J5 K (t:=gNs [6,7,8]) (n:=3) (qY (gn nd) (qY (gn nd) (qY (gn nd) J4)))))) (j7 (qA nd (cv 6)) (j7 (kK (wV (vqq hr.units) vvv (vv 3) (vv 5) (by rfl) vvt) (kW (qA nd (W4 hr.units (vv 5) (vv 3))))) (j7 (qA nd (jQ (kx (kx (vv 8) (j5 (W4 hr.units (kx (vv 0) ki) (vv 2)))) (vv 9)))) (j7 (kK (K5 (vv 10) kn) (jz kN)) (jz (kQ (o:=.no) (j4 (jQ (kx (vv 10) ki)) (j4 (qT (j5 (qM .rt 1 [5,3] 11 ["_law_fill","_law_names","_law_name"] (JY (jQ (kx (vv 10) ki))) (λ_ _ _ _ _=>(jQ (kx (j5 (oA (j5 (xZ (Zz K) Zq (vv 1) T.b_list JW)) (j5 (v7 (o:=.rt) (j4 (cv 2) j9))))) (vv 0)))))) T.b_tuple) j9)))))))))))
theorem kk0(T:Txt K mg ah ac ae):OkF P w K mg base 1 "_law_keepers" jv6 ["_law_plain_here","_law_room"] 2 m__law_keepers:=
 okF kjo λhr=>(j7 (kK (xj hr (vv 1) (j5 wwi)) (jz kI)) (jz (jQ (kx (kx (kx (vv 0) ki) (vv 1)) ki))))
theorem kxs(T:Txt K mg ah ac ae):OkF P w K mg base 1 "_law_pair" jwy ["_law_here","_law_there"] 2 m__law_pair:=
 okF sc__law_pair λhr=>have nd:=sc__law_pair.nd;(j7 (qA nd (v7 (o:=.rt) (j4 (kQ (o:=.no) j9) (j4 (kQ (o:=.no) j9) j9)))) (j7 (qA nd (v7 (o:=.rt) (j4 wwi (j4 wwi j9)))) (j7 (qF (vwd (v7 (o:=.rt) (j4 (cv 0) (j4 (cv 1) j9))) rfl T.b_enumerate) (Kv (is:=[4,5]) (J5 K (t:=gNs [4,5]) (n:=2) (qY (gn nd) (qY (gn nd) J4)))) (kW (kK (tNoN (vv 5) kn) (j7 (vz7 (i:=3) (pv 3) (vv 4) (jQ (kx (vv 5) ki))) (kW (vz7 (i:=2) (pv 2) (vv 4) (jQ (kx (vv 5) ki)))))))) (j7 (kvr (i:=6) (o:=.rt) (k:=2) (R:=[2]) ["_law_i","_law_name","_law_names"] nd rfl (by first|exact Or.inl rfl|exact Or.inr rfl) (qx7 (jQ (kx (vv 2) ki)) rfl T.b_enumerate) (λ_ _ _ _ _=>(Kv (is:=[0,1]) (J5 K (t:=gNs [0,1]) (n:=2) (qY (gn (show(["_law_i","_law_name","_law_names"]:List Str).Nodup by decide +kernel)) (qY (gn (show(["_law_i","_law_name","_law_names"]:List Str).Nodup by decide +kernel)) J4))))) (λ_ _ _ _ _=>(YV (wV (vqq hr.units) vvv (vv 1) (kx (vv 2) ki) (by rfl) vvt))) (λ_ _ _ _ _=>(kQ (o:=.no) (j4 (cv 0) (j4 (W4 hr.units (kx (vv 2) ki) (vv 1)) j9)))) wJ #[_,_,rfl,rfl] ⋯ (show ∀j∈([2]:List Nat) ,j<7 by decide)) (jz (kQ (o:=.no) (j4 (jQ (kx (vv 3) ki)) (j4 (jQ (kx (vv 3) ki)) (j4 (qT (vv 6) T.b_tuple) j9)))))))))
theorem V0(n:Nat){r:Fn}(T:Txt K mg ah ac ae)(rg:jW P w K mg base (1+n) "_law_same" ["_law_found","_law_due_here"] (spF K mg 2 r))(ay:jzw P w K mg base)(F:Fun K "_law_same" "_law_same" jww f fd):FnOk P w K mg base (CXE P w) (1+n+1) f fd ["_law_found","_law_due_here"] (spF K mg 2 (wQ r)):=
 jzn F sc__law_same (kzz rfl) λdq A outer s H vs Q E hr h=>have nd:=sc__law_same.nd;vj3 rfl
  (j7 (kK (QW.pt (V6 (Kk (j5 (Jq (vv 1) T.b_isinstance T.b_tuple kjg rfl))) (Vq (Kk (j5 (Jq (vv 1) T.b_isinstance T.b_list JW rfl)))))) (j7 (kK (QW.pt (V6 (Z8 hr (j5 (Jq (vv 1) T.b_isinstance T.b_tuple kjg rfl)) (j5 (Jq (vv 0) T.b_isinstance T.b_tuple kjg rfl))) (Vq (Z8 hr (j5 (Jq (vv 1) T.b_isinstance T.b_list JW rfl)) (j5 (Jq (vv 0) T.b_isinstance T.b_list JW rfl)))))) (jz zx)) (j7 (kK (Z8 hr (j5 (qL (vv 0) T.b_len)) (j5 (qL (vv 1) T.b_len))) (jz zx)) (j7 (qF (vq1 (cv 0) (cv 1) rfl T.b_zip) (Kv (is:=[2,3]) (J5 K (t:=gNs [2,3]) (n:=2) (qY (gn nd) (qY (gn nd) J4)))) (kW (kK (ZY (Kk (j5 (qx9 rg (hr.mono (X8 _)) wJ (j4 (cv 2) (j4 (cv 3) j9)))))) (jz zx)))) (jz zx))))) (j7 (kK (K5 (vv 1) kn) (jz (V9 vws vxd (vv 0) kn (xJ _)))) (j7 (kK (QW.pt (V6 (Kk (j5 (Jq (vv 1) T.b_isinstance T.b_bool kws rfl))) (Vq (Kk (j5 (Jq (vv 1) T.b_isinstance T.b_str wxr rfl)))))) (jz (VZ (j5 (Jv hr (j5 (Jq (vv 0) T.b_isinstance T.b_bool kws rfl)) (j5 (Jq (vv 1) T.b_isinstance T.b_bool kws rfl)))) (QY (Jv hr (vv 0) (vv 1)))))) (jz (VZ (j5 (qx9 ay (hr.mono (by omega)) wJ (j4 (cv 0) j9))) (QY (Jv hr (vv 0) (vv 1)))))))) h
theorem kq6(T:Txt K mg ah ac ae)(bj:jwr P w K mg base):OkF P w K mg base 2 "_law_firsts" jvm ["_law_one","_law_other","_law_pair_here"] 3 Wk:=
 okF sc__law_firsts λhr=>have nd:=sc__law_firsts.nd;(j7 (qky (cv 2) (Kv (is:=[3,4,5]) (J5 K (t:=gNs [3,4,5]) (n:=3) (qY (gn nd) (qY (gn nd) (qY (gn nd) J4)))))) (j7 (qA nd (vz8 (j5 (qC bj hr (j4 (cv 0) (j4 (cv 3) j9)))) T.b_range T.b_list)) (j7 (qA nd wvd) (j7 (qF (JY (cv 5)) (Kv (is:=[8,9]) (J5 K (t:=gNs [8,9]) (n:=2) (qY (gn nd) (qY (gn nd) J4)))) (kW (wv9 (i:=7) hr.units (pv 7) (vv 9) (cv 8)))) (j7 (qA nd K3) (j7 (qA nd (qL (vv 6) T.b_len)) (j7 (qF (x8 (j5 (qC bj hr (j4 (cv 1) (j4 (cv 4) j9)))) rfl T.b_range) (gN nd) (j7 (qP (jQ (wvb hr.units (vv 7) (vv 9) (vv 11)))) (kW (qA nd (oA (vv 11) (j5 (xZ jwc kzp (j5 (V9 (vqp hr.units) vk4 (vv 9) (vv 7) (by rfl))) T.b_int kv4))))))) (j7 (qA nd (v7 (o:=.rt) (j4 (kQ (o:=.no) (j4 (cv 3) (j4 (qT (vv 6) T.b_tuple) j9))) (j4 (kQ (o:=.no) (j4 (cv 4) (j4 (qT (vv 10) T.b_tuple) j9))) j9)))) (jz (qM .rt 1 [] 13 ["_law_standing"] (JY (cv 12)) (λ_ _ _ _ _=>(jQ (kx (j5 (v7 (o:=.rt) (j4 (cv 0) (j4 kN j9)))) (j5 (xZ jwc kzp (j5 (Jv hr (kx (vv 0) ki) (j5 wwi))) T.b_int kv4)))))))))))))))
theorem kxt(T:Txt K mg ah ac ae):OkF P w K mg base 1 "_law_held" jwz ["_law_standing"] 1 ZJ:=
 okF kx6 λhr=>(j7 (kK (K5 (vv 0) kn) (jz (kQ (o:=.no) j9))) (jz (jQ (kx (vv 0) ki))))
theorem jwm(T:Txt K mg ah ac ae)(bw:kkt P w K mg base):OkF P w K mg base 2 "_law_joined_names" jkp ["_law_here","_law_there"] 2 ZK:=
 okF jwl λhr=>(jz (oA (j5 (xZ (Zz K) Zq (j5 (qC bw hr (j4 (cv 0) j9))) T.b_list JW)) (j5 (qm .rt 1 [0] 2 ["_law_name","_law_here"] (JY (qC bw hr (j4 (cv 1) j9))) (λhN _ _ _ _ _=>(Ww (gn hN))) (λ_ _ _ _ _=>(YV (wV (jxk hr.units) jz1 (vv 0) (j5 (qC bw hr (j4 (cv 1) j9))) (by rfl) jxz))) (λ_ _ _ _ _=>(cv 0))))))
theorem kxu(T:Txt K mg ah ac ae):OkF P w K mg base 1 "_law_good" jx0 ["_law_word","_law_one","_law_other","_law_pair_here"] 4 jvp:=
 okF sc__law_good λhr=>have nd:=sc__law_good.nd;(j7 (qA nd (v7 (o:=.rt) (j4 zx (j4 zx j9)))) (j7 (qF (vwd (v7 (o:=.rt) (j4 (cv 1) (j4 (cv 2) j9))) rfl T.b_enumerate) (Kv (is:=[5,6]) (J5 K (t:=gNs [5,6]) (n:=2) (qY (gn nd) (qY (gn nd) J4)))) (kW (kK (Z8 hr (kx (vv 3) (vv 5)) (j5 wwi)) (kW (vz7 (i:=4) (pv 4) (vv 5) (jQ (kx (kx (kx (vv 6) ki) (kx (vv 3) (vv 5))) ki))))))) (j7 (kK (xj hr (vv 0) ks) (jz (Jv hr (vv 4) (j5 (v7 (o:=.rt) (j4 zx (j4 zx j9))))))) (j7 (kK (xj hr (vv 0) ks) (jz (V9 (qxx hr.units) vk5 (vv 4) (j5 (v7 (o:=.rt) (j4 zx (j4 zx j9)))) (xJ _)))) (j7 (kK (xj hr (vv 0) ks) (jz (Jv hr (vv 4) (j5 (v7 (o:=.rt) (j4 zx (j4 zx j9))))))) (jz (V9 (qxx hr.units) vk5 (kx (vv 4) ki) (kx (vv 4) ki) (xJ _))))))))
theorem kw8(T:Txt K mg ah ac ae)(cq:kwu P w K mg base)(b6:jx9 P w K mg base)(cm:kkr P w K mg base)(eh:kks P w K mg base)(F:Fun K "_law_cases" "_law_cases" jw4 f fd):FnOk P w K mg base (CXE P w) 3 f fd ["_law_one","_law_other","_law_pair_here","_law_sign","_law_pairs"] (spM K mg 4 jqd):=
 jzn F sc__law_cases (kzy rfl) λdq A outer s H vs Q E hr h=>have nd:=sc__law_cases.nd;qk1 rfl
  (j7 (qky (qC cq hr (j4 (cv 0) (j4 (cv 1) (j4 (cv 2) j9)))) (Kv (is:=[5,6]) (J5 K (t:=gNs [5,6]) (n:=2) (qY (gn nd) (qY (gn nd) J4))))) (j7 (qA nd (qL (j5 (qC b6 hr (j4 (cv 5) (j4 (cv 6) j9)))) T.b_len)) (j7 (qA nd (v7 (o:=.dp) j9)) (j7 (qF (x8 (j5 (oA (vv 7) ki)) rfl T.b_range) (gN nd) (j7 (qA nd (qC cm hr (j4 (cv 0) (j4 (cv 5) (j4 (cv 3) (j4 (cv 9) j9)))))) (j7 (qA nd (qC cm hr (j4 (cv 1) (j4 (cv 6) (j4 (cv 3) (j4 (cv 9) j9)))))) (kW (xjp (QW.pt (qkz (K5 (vv 10) kn) (kvq (K5 (vv 11) kn)))) (kW (qP kN)) (j7 (qA nd (qC eh hr (j4 (cv 10) (j4 (cv 11) j9)))) (j7 (kK (wV (jxk hr.units) jz1 (vv 12) (vv 4) (by rfl) jxz) (kW (qP (cv 12)))) (kW (qP (kQ (o:=.dp) (q:=false) (j4 (QE.weak (QZ (W4 hr.units (vv 4) (vv 12)))) (j4 (QE.weak (QZ (qT (j5 (qC b6 hr (j4 (cv 10) (j4 (cv 11) j9)))) T.b_tuple))) Qx)))))))))))) (jz (kQ (o:=.dp) (q:=false) (j4 (QE.weak (cv 7)) (j4 (Qv (pv 8)) Qx)))))))) h
theorem qji(T:Txt K mg ah ac ae)(d9:jzx P w K mg base)(dw:kku P w K mg base):OkF P w K mg base 4 "_law_due" jzd ["_law_word","_law_one","_law_other"] 3 jwg:=
 okF sc__law_due λhr=>have nd:=sc__law_due.nd;(j7 (qA nd (v7 (o:=.rt) (j4 (kQ (o:=.no) (j4 kI (j4 kI (j4 (kQ (o:=.no) j9) j9)))) j9))) (j7 (qA nd (v7 (o:=.dp) j9)) (j7 (qx6 (vqm #[_,_,rfl,rfl]) (QW.pt (qkz (wzx (j5 (qL (vv 4) T.b_len)) (j5 (qL (vv 3) T.b_len))) (kvq (wV wj4 (qvw (g:=λa b=>decide (a<=b))) (j5 (qL (vv 3) T.b_len)) ki (xJ _) vk0)))) (j7 (qA nd (jQ (kx (vv 3) (j5 (qL (vv 4) T.b_len))))) (j7 (qA nd (v7 (o:=.dp) j9)) (j7 (qA nd kI) (j7 (qF (JY (jQ (kx (vv 1) ki))) (gN nd) (j7 (wv1 (i:=7) (j:=9) (qj8 (i:=3) d9 (hr.mono ⋯) wJ (Q9 (cv 1) (Q9 (cv 2) (Q9 (cv 5) (Q9 (cv 8) (xjl (i:=3) (pv 3))))))) (J5 K (t:=gNs [7,9]) (n:=2) (qY (gn nd) (qY (gn nd) J4)))) (kW (qP (Qv (pv 9)))))) (kW (qP (kQ (o:=.dp) (q:=false) (j4 (QE.weak (cv 7)) (j4 (QE.weak (QZ (qC dw hr (j4 (cv 0) (j4 (cv 1) (j4 (cv 2) (j4 (cv 5) j9))))))) (j4 (Qv (pv 6)) Qx))))))))))) (j7 (kK (wzy (j5 (qL (vv 3) T.b_len)) ki) (jz kN)) (jz (kQ (o:=.dp) (q:=false) (j4 (kQ (o:=.dp) (q:=false) (j4 (QE.weak (QZ (xZ (Zz K) Zq (kx (vv 1) ki) T.b_list JW))) (j4 (Qv (pv 4)) Qx))) (j4 (QZ (Qv (pv 3))) Qx))))))))
theorem kxq(T:Txt K mg ah ac ae)(gu:vvx P w K mg base):OkF P w K mg base 6 "_law_told" jwv ["_law_word","_law_one","_law_other"] 3 Z7:=
 okF sc__law_told λhr=>have nd:=sc__law_told.nd;(j7 (wv2 (i:=3) (cs:=["NoFit","TooGreat"]) nd rfl rfl #[_,_,rfl,rfl] T.m_RoomError rfl (kkm T.e_NoFit T.n_NoFit T.h_NoFit_RoomError (kkm T.e_TooGreat T.n_TooGreat T.h_TooGreat_RoomError qvt)) (vzb gu (hr.mono ⋯) (j4 (cv 0) (j4 (cv 1) (j4 (cv 2) j9)))) (λx_x=>(kW (kK (QW.pt (qkz (Kk (j5 (wva (vv 3) T.b_isinstance (vwn T.m_TooGreat) rfl (kwg T.n_NoFit T.i_NoFit_TooGreat (kwg T.n_TooGreat T.i_TooGreat_TooGreat qzq))))) (kvq (ZY (Kk (j5 (wva (vv 3) T.b_isinstance (vwn T.m_NoFit) rfl (kwg T.n_NoFit T.i_NoFit_NoFit (kwg T.n_TooGreat T.i_TooGreat_NoFit qzq))))))))) (jz kN))))) (jz kI))
theorem wwc(T:Txt K mg ah ac ae)(cx:kzs P w K mg base)(au:jws P w K mg base)(b7:kqc P w K mg base)(fi:qvy P w K mg base)(ck:qkd P w K mg base)(bz:kkq P w K mg base)(F:Fun K "law" "law" vxw f fd):FnOk P w K mg base (CXE P w) 11 f fd ["_law_script"] (spF K mg 1 m_law):=
 jzn F sc_law (kzz rfl) λdq A outer s H vs Q E hr h=>have nd:=sc_law.nd;vj3 rfl
  (j7 (qA nd (qC cx hr (j4 (qC au hr (j4 (cv 0) (j4 kI j9))) j9))) (j7 (qA nd (qC au hr (j4 (cv 0) (j4 kI j9)))) (j7 (kK (xj hr (j5 (oM (j5 (qC au hr (j4 (cv 0) (j4 kI j9)))) ki)) ki) (kW (qA nd (qC au hr (j4 (cv 0) (j4 kI j9)))))) (j7 (qA nd (qC b7 hr (j4 (qC au hr (j4 (cv 0) (j4 kI j9))) (j4 (cv 1) j9)))) (j7 (qA nd (qC b7 hr (j4 (cv 2) (j4 (cv 1) j9)))) (j7 (qA nd (jQ (kx (j5 (v7 (o:=.rt) (j4 kS (j4 kS (j4 kS (j4 kS j9)))))) (j5 (oM (j5 (zJ (j5 (qC au hr (j4 (cv 0) (j4 kI j9)))) ki)) ki))))) (j7 (qA nd (qC fi hr (j4 (cv 5) (j4 (cv 3) (j4 (cv 4) j9))))) (j7 (qA nd (qC ck hr (j4 (cv 5) (j4 (cv 3) (j4 (cv 4) j9))))) (j7 (qA nd (v7 (o:=.rt) (j4 (qC b7 hr (j4 (qC au hr (j4 (cv 0) (j4 kI j9))) (j4 (cv 1) j9))) (j4 (qC b7 hr (j4 (cv 2) (j4 (cv 1) j9))) j9)))) (j7 (kK (QW.pt (V6 (ZY (Kk (j5 (kvu bz (hr.mono ⋯) wJ (Vw (vv 7) (Vw (vv 6) vq2)))))) (Vq (Z8 hr (j5 (v7 (o:=.rt) (j4 (cv 3) (j4 (cv 4) j9)))) (vv 8))))) (jz zx)) (j7 (kK (K5 (vv 6) kn) (jz zx)) (j7 (qA nd (oM (j5 (zJ (j5 (qC au hr (j4 (cv 0) (j4 kI j9)))) ki)) (j5 (qL (kx (vv 7) ki) T.b_len)))) (j7 (qA nd (oM (j5 (qC au hr (j4 (cv 0) (j4 kI j9)))) (j5 (qL (vv 1) T.b_len)))) (j7 (wv5 (i:=7) (ps:=[.inl 0,.inl 1,.inr 9,.inl 2,.inr 10]) (YY (Q1 (YY (Q1 (Q1 (qxa K (pv 7)) (λ_ _=>rfl)) (λ_ _=>rfl)) (pv 9) (λ_ _=>rfl)) (λ_ _=>rfl)) (pv 10) (λ_ _=>rfl)) kN rfl kk4) (j7 (wv5 (i:=6) (ps:=[.inl 0,.inl 1,.inr 9,.inl 2,.inr 10]) (YY (Q1 (YY (Q1 (Q1 (qxa K (pv 6)) (λ_ _=>rfl)) (λ_ _=>rfl)) (pv 9) (λ_ _=>rfl)) (λ_ _=>rfl)) (pv 10) (λ_ _=>rfl)) kN rfl kk4) (j7 (kK (ZY (Kk (j5 (kvu bz (hr.mono ⋯) wJ (Vw (vv 7) (Vw (vv 6) vq2)))))) (jz zx)) (j7 (xji (i:=6) (ps:=[.inl 0,.inl 1,.inr 9,.inl 2,.inr 10]) (YY (Q1 (YY (Q1 (Q1 (qxa K (pv 6)) (λ_ _=>rfl)) (λ_ _=>rfl)) (pv 9) (λ_ _=>rfl)) (λ_ _=>rfl)) (pv 10) (λ_ _=>rfl)) rfl wwj) (j7 (vza (i:=7) (r1:=11) (r2:=12) (r3:=13) (p:=[0,1]) (vqm #[_,_,rfl,rfl]) rfl (jxj 1 (jxj 0 (qja K (pv 7)) (λ_ _=>rfl)) (λ_ _=>rfl)) (J5 K (t:=gNs [11,12,13]) (n:=3) (qY (gn nd) (qY (gn nd) (qY (gn nd) J4)))) (pv 13) rfl kwb) (j7 (xqt (i:=7) (p:=[0,0]) (jxj 0 (jxj 0 (qja K (pv 7)) (λ_ _=>rfl)) (λ_ _=>rfl)) rfl kwb) (j7 (xqt (i:=7) (p:=[1]) (jxj 1 (qja K (pv 7)) (λ_ _=>rfl)) rfl kwb) (jz (VZ (j5 (kvu bz (hr.mono ⋯) wJ (Vw (j5 (qC ck hr (j4 (cv 5) (j4 (cv 3) (j4 (cv 4) j9))))) (Vw (vv 6) vq2)))) (QY (Jv hr (j5 (v7 (o:=.rt) (j4 (cv 3) (j4 (cv 4) j9)))) (vv 8))))))))))))))))))))))))) h
end
theorem all_mk{l:PySem.W.OpenLaw}{w:PySem.World}{K:Frag}{h:Heap}{mg:Str->Option Value}{fa:Addr}(X:K.In h)(G:h.Ns mainGlobals mg)(hfa:mg "law"=some (.ref fa)){fe dh ib fq:Value}{dg dz ik:Addr}{fu eq km:Obj}{ah ac ae:Addr}
  (g0:Gf K "is_small" jzc)
  (g1:Gf K "read_by" kjr)
  (g2:Gf K "keepers_in" jvw)
  (g3:Gf K "standing_in" jvi)
  (g4:Gf K "first_standings" jq3)
  (g5:Gf K "read_by_both" jv3)
  (g6:Gf K "names_of" jzb)
  (g7:Gf K "room_of" kjq)
  (g8:Gf K "pair_of" kjs)
  (g9:Gf K "held_by_both" jv4)
  (g10:Gf K "is_good_in" jvx)
  (g11:Gf K "is_good_by" jvy)
  (g12:Gf K "joined_case" jvk)
  (g13:Gf K "joined_room" jvj)
  (g14:Gf K "joined" kvl)
  (g15:Gf K "_law_cell_at" jv7)
  (g16:Gf K "_law_whole" jvz)
  (g17:Gf K "_law_stream" jvl)
  (g18:Gf K "_law_signs" jw0)
  (g19:Gf K "_law_fills" jw2)
  (g20:Gf K "_law_case" jx1)
  (g21:Gf K "_law_plain" jw1)
  (g22:Gf K "_law_chain" jw3)
  (g23:Gf K "_law_machine" jv5)
  (g24:Gf K "_law_read" jwx)
  (g25:Gf K "_law_keepers" jv6)
  (g26:Gf K "_law_pair" jwy)
  (nr:Gf K "_law_same" jww)
  (g28:Gf K "_law_firsts" jvm)
  (g29:Gf K "_law_held" jwz)
  (g30:Gf K "_law_joined_names" jkp)
  (g31:Gf K "_law_good" jx0)
  (g32:Gf K "_law_cases" jw4)
  (g33:Gf K "_law_due" jzd)
  (g34:Gf K "_law_told" jwv)
  (g35:Gf K "law" vxw)
  (i6:nsIn K mainGlobals "SMALL_ROOMS"=some (some fe)) (h8:RelV (V.int (12)) fe)
  (gj:nsIn K mainGlobals "SMALL_KEEPERS"=some (some dh)) (gi:RelV (V.int (3)) dh)
  (lr:nsIn K mainGlobals "NOWHERE"=some (some ib)) (lg:RelV (V.int (-1)) ib)
  (il:nsIn K mainGlobals "MOST_ROOMS"=some (some fq)) (ic:RelV (V.int (40)) fq)
  (iq:nsIn K mainGlobals "FIRST_PAIR"=some (some (.ref dg)))
  (oq:nsIn K mainGlobals "WORDS"=some (some (.ref ik)))
  (io:K.lookup dg=some fu)
  (ie:wzr fu [(V.int 0),(V.int 0),.ref dz])
  (gv:K.lookup dz=some eq)
  (gz:wzr eq [])
  (p8:K.lookup ik=some km)
  (og:wzr km [(V.str "both"),(V.str "either"),(V.str "first"),(V.str "one")])
  (ug:nsIn K mainGlobals "all"=some none)
  (rl:nsIn K mainGlobals "bool"=some none)
  (rh:nsIn K mainGlobals "dict"=some none)
  (jg:nsIn K mainGlobals "enumerate"=some none)
  (xu:nsIn K mainGlobals "int"=some none)
  (ip:nsIn K mainGlobals "isinstance"=some none)
  (wu:nsIn K mainGlobals "len"=some none)
  (sf:nsIn K mainGlobals "list"=some none)
  (om:nsIn K mainGlobals "range"=some none)
  (ya:nsIn K mainGlobals "str"=some none)
  (o8:nsIn K mainGlobals "tuple"=some none)
  (xl:nsIn K mainGlobals "zip"=some none)
  (n_NoFit:nsIn K mainGlobals "NoFit"=some (some (.ref ah)))
  (md:PySem.W.excIn K ah bmV "ValueError.__new__"=true) (ni:findIn K (.ref ah) "__getattribute__"=some (some (.builtin "BaseException.__getattribute__"))) (m6:findIn K (.ref ah) "__getattr__"=some none) (nk:findIn K (.ref ah) "__class__"=some (some (.builtin "object.__class__"))) (n9:PySem.W.specialIn K (.builtin "object.__class__") "__get__"=some (some (.builtin "getset_descriptor.__get__"))) (ms:PySem.W.takesIn K (.builtin "object.__class__")=some true) (n8:PySem.W.mroIn K ah (.type "object")=some true) (mx:PySem.W.mroIn K ah (.type "BaseException")=some true) (mw:PySem.W.isClsIn K ah=true)
  (n_TooGreat:nsIn K mainGlobals "TooGreat"=some (some (.ref ac)))
  (jf:PySem.W.excIn K ac bmV "ValueError.__new__"=true) (jm:findIn K (.ref ac) "__getattribute__"=some (some (.builtin "BaseException.__getattribute__"))) (ji:findIn K (.ref ac) "__getattr__"=some none) (jt:findIn K (.ref ac) "__class__"=some (some (.builtin "object.__class__"))) (jl:PySem.W.specialIn K (.builtin "object.__class__") "__get__"=some (some (.builtin "getset_descriptor.__get__"))) (jc:PySem.W.takesIn K (.builtin "object.__class__")=some true) (jr:PySem.W.mroIn K ac (.type "object")=some true) (je:PySem.W.mroIn K ac (.type "BaseException")=some true) (ja:PySem.W.isClsIn K ac=true)
  (n_RoomError:nsIn K mainGlobals "RoomError"=some (some (.ref ae)))
  (h_TooGreat_RoomError:PySem.W.exmOne K (.ref ac) (.ref ae)=some true)
  (h_NoFit_RoomError:PySem.W.exmOne K (.ref ah) (.ref ae)=some true)
  (i_TooGreat_NoFit:kitOne K (.ref ac) (.ref ah)=some false)
  (i_NoFit_NoFit:kitOne K (.ref ah) (.ref ah)=some true)
  (i_TooGreat_TooGreat:kitOne K (.ref ac) (.ref ac)=some true)
  (i_NoFit_TooGreat:kitOne K (.ref ah) (.ref ac)=some false)
  : ∃fd:FuncData,(∀(s:Shared) (v:Value),BindsTo s fd #[[v],[]] [("_law_script",v)])/\∀base:Heap,K.In base->base.Ns mainGlobals mg->FnOk l.prog w K mg base (CXE l.prog w) 11 fa fd ["_law_script"] (spF K mg 1 m_law):=by
 have T:Txt K mg ah ac ae:=#[Y3 X G ug,Y3 X G rl,Y3 X G rh,Y3 X G jg,Y3 X G xu,Y3 X G ip,Y3 X G wu,Y3 X G sf,Y3 X G om,Y3 X G ya,Y3 X G o8,Y3 X G xl,#[_,Yk X G i6,h8],#[_,Yk X G gj,gi],#[_,Yk X G lr,lg],#[_,#[_,Yk X G iq,(show RelV (.ref dg) _ from rfl)],λH=>(xjb (qjl io ie) (YK vK (YK vK (YK (xjb (qjl gv gz) vz2) vz2))))],#[_,#[_,Yk X G oq,(show RelV (.ref ik) _ from rfl)],λH=>(xjb (qjl p8 og) (YK (Q5 ⋯) (YK (Q5 ⋯) (YK (Q5 ⋯) (YK (Q5 ⋯) vz2)))))],#[_,Yk X G il,ic],n_NoFit,Yk X G n_NoFit,#[Yk X G n_NoFit,md,qw9 ni m6 nk n9 ms n8 mx mw],n_TooGreat,Yk X G n_TooGreat,#[Yk X G n_TooGreat,jf,qw9 jm ji jt jl jc jr je ja],n_RoomError,Yk X G n_RoomError,h_TooGreat_RoomError,h_NoFit_RoomError,i_TooGreat_NoFit,i_NoFit_NoFit,i_TooGreat_TooGreat,i_NoFit_TooGreat];refine g35.law X G hfa fun {base _ _} F=>?_
 have cy:kv5 l.prog w K mg base:=g0.d X G (qjh T  _ _);have fb:kzr l.prog w K mg base:=g1.d X G (qvk T  _ _);have ce:jzt l.prog w K mg base:=g2.d X G (kw0 T  _ _);have bv:jz3 l.prog w K mg base:=g3.d X G (kq2 T  _ _);have bn:=g4.d X G (jxl T ce bv _ _);have cg:=g5.d X G (kjx T fb _ _);have bb:jzk l.prog w K mg base:=g6.d X G (qjg T  _ _);have fc:kzq l.prog w K mg base:=g7.d X G (qvj T  _ _);have gb:=g8.d X G (qvl T bb fc _ _);have b8:=g9.d X G (kjy T bb _ _);have cb:jzu l.prog w K mg base:=g10.d X G (kw1 T  _ _);have cz:jzv l.prog w K mg base:=g11.d X G (kw2 T  _ _);have cu:jz5 l.prog w K mg base:=g12.d X G (kq4 T gb b8);have cn:jz4 l.prog w K mg base:=g13.d X G (kq3 T bn b8 cz cg cb cu);have gu:=g14.d X G (qxz T cy cn _ _);have au:jws l.prog w K mg base:=g15.d X G (kk1 T  _ _);have ay:jzw l.prog w K mg base:=g16.d X G (kw3 T  _ _);have az:jqm l.prog w K mg base:=g17.d X G (kq5 T  _ _);have cx:=g18.d X G (kw4 T az _ _);have bf:jwd l.prog w K mg base:=g19.d X G (kw6 T  _ _);have f8:=g20.d X G (kxv T bf _ _);have d8:=g21.d X G (kw5 T az f8 _ _);have df:=g22.d X G (kw7 T az bf _ _);have b7:=g23.d X G (kjz T d8 df _ _);have cm:kkr l.prog w K mg base:=g24.d X G (kxr T  _ _);have bj:jwr l.prog w K mg base:=g25.d X G (kk0 T  _ _);have eh:kks l.prog w K mg base:=g26.d X G (kxs T  _ _);have R0:jW l.prog w K mg base (1+0) "_law_same" ["_law_found","_law_due_here"] (spF K mg 2 (xz wQ 0)):=nr.d X G λ_=>wjp
 have R1:jW l.prog w K mg base (1+1) "_law_same" ["_law_found","_law_due_here"] (spF K mg 2 (xz wQ 1)):=nr.d X G (V0 0 T R0 ay);have R2:jW l.prog w K mg base (1+2) "_law_same" ["_law_found","_law_due_here"] (spF K mg 2 (xz wQ 2)):=nr.d X G (V0 1 T R1 ay);have R3:jW l.prog w K mg base (1+3) "_law_same" ["_law_found","_law_due_here"] (spF K mg 2 (xz wQ 3)):=nr.d X G (V0 2 T R2 ay);have R4:jW l.prog w K mg base (1+4) "_law_same" ["_law_found","_law_due_here"] (spF K mg 2 (xz wQ 4)):=nr.d X G (V0 3 T R3 ay);have R5:jW l.prog w K mg base (1+5) "_law_same" ["_law_found","_law_due_here"] (spF K mg 2 (xz wQ 5)):=nr.d X G (V0 4 T R4 ay);have R6:jW l.prog w K mg base (1+6) "_law_same" ["_law_found","_law_due_here"] (spF K mg 2 (xz wQ 6)):=nr.d X G (V0 5 T R5 ay);have R7:jW l.prog w K mg base (1+7) "_law_same" ["_law_found","_law_due_here"] (spF K mg 2 (xz wQ 7)):=nr.d X G (V0 6 T R6 ay);have R8:jW l.prog w K mg base (1+8) "_law_same" ["_law_found","_law_due_here"] (spF K mg 2 (xz wQ 8)):=nr.d X G (V0 7 T R7 ay);have R9:jW l.prog w K mg base (1+9) "_law_same" ["_law_found","_law_due_here"] (spF K mg 2 (xz wQ 9)):=nr.d X G (V0 8 T R8 ay);have bz:kkq l.prog w K mg base:=R9;have cq:=g28.d X G (kq6 T bj _ _);have bw:kkt l.prog w K mg base:=g29.d X G (kxt T  _ _);have b6:=g30.d X G (jwm T bw _ _);have dw:kku l.prog w K mg base:=g31.d X G (kxu T  _ _);have d9:jzx l.prog w K mg base:=g32.d X G (kw8 T cq b6 cm eh);have fi:=g33.d X G (qji T d9 dw _ _);have ck:=g34.d X G (kxq T gu _ _);exact wwc T cx au b7 fi ck bz F
end Nk61
namespace PySem.W.Fast
theorem tw5574192799164531504:True:=#[]
theorem tw11801599059945638418:True:=#[]
theorem tw2222072763523063526:True:=#[]
theorem tw15500226875726243381:True:=#[]
theorem tw4848403528048778039:True:=#[]
theorem tw11596061180987450771:True:=#[]
theorem tw14990244950983232894:True:=#[]
theorem tw7235049720105614961:True:=#[]
theorem tw12317703188062161608:True:=#[]
theorem tw5482353434660750310:True:=#[]
theorem tw9017526349405674604:True:=#[]
theorem tw13751427291674808830:True:=#[]
theorem tw12582554421559911990:True:=#[]
theorem tw1836105212971582650:True:=#[]
theorem tw13859955668911068541:True:=#[]
theorem tw11064185722250023250:True:=#[]
theorem tw949573409195095193:True:=#[]
theorem tw14305560331025522961:True:=#[]
theorem tw6483297224267238470:True:=#[]
theorem tw204598273745462231:True:=#[]
theorem tw5173620894049786630:True:=#[]
theorem tw8699397944153371533:True:=#[]
theorem tw1316769400121316007:True:=#[]
theorem tw4792999251555487421:True:=#[]
theorem tw10483526778277127353:True:=#[]
theorem tw2086530330108827514:True:=#[]
theorem tw11026077717141689198:True:=#[]
theorem tw7741069674270500795:True:=#[]
theorem tw895696035791892968:True:=#[]
theorem tw11103863276793280501:True:=#[]
theorem tw8271838256883051759:True:=#[]
theorem tw17901990886497583367:True:=#[]
theorem tw8476385955209210598:True:=#[]
theorem tw2768401945244896106:True:=#[]
theorem tw14024161311114936312:True:=#[]
theorem tw3172041498117619282:True:=#[]
theorem tw7035067613244573830:True:=#[]
theorem tw8850212330653170356:True:=#[]
theorem tw10609042391043111526:True:=#[]
theorem tw15790715248505174781:True:=#[]
theorem tw2289293935693413023:True:=#[]
theorem tw9333098264727119471:True:=#[]
theorem tw6020040406197957683:True:=#[]
theorem tw4433144841631612043:True:=#[]
theorem tw5744271622931496698:True:=#[]
theorem tw8860882215043068091:True:=#[]
theorem tw7026231329329796949:True:=#[]
theorem tw7335331474541758520:True:=#[]
theorem tw9936261887564809870:True:=#[]
theorem tw13228058322432894269:True:=#[]
theorem tw12560915885520403926:True:=#[]
theorem tw5939822300861539704:True:=#[]
theorem tw17426053693944028511:True:=#[]
theorem tw651511764828394987:True:=#[]
theorem tw16086258212501075527:True:=#[]
theorem tw12144877791083847870:True:=#[]
theorem tw17815187876403929781:True:=#[]
theorem tw13115233888069918997:True:=#[]
theorem tw12907745279656984605:True:=#[]
theorem tw12845214757541687943:True:=#[]
theorem tw12590097223662597150:True:=#[]
theorem tw15433167935878346256:True:=#[]
theorem tw18406399153425454272:True:=#[]
theorem tw10514638730238930063:True:=#[]
theorem tw607930528759069738:True:=#[]
theorem tw15427614877026346619:True:=#[]
theorem tw6860103569448575752:True:=#[]
theorem tw3153623133989557246:True:=#[]
theorem tw14282269460187546313:True:=#[]
theorem tw15971203216991341843:True:=#[]
theorem tw3550250160312507371:True:=#[]
theorem tw1563994642581631784:True:=#[]
theorem tw8981946860537972616:True:=#[]
theorem tw9061183713315349851:True:=#[]
theorem tw14035712845161300818:True:=#[]
theorem tw5933258900432608759:True:=#[]
theorem tw12556157859642525304:True:=#[]
theorem tw1382134351615270929:True:=#[]
theorem tw1251408283741556760:True:=#[]
theorem tw17915138906715032991:True:=#[]
theorem tw14112554767689607180:True:=#[]
theorem tw16533704338618631013:True:=#[]
theorem tw12597730877018275677:True:=#[]
theorem tw2352985195880779197:True:=#[]
theorem tw9994843268942083771:True:=#[]
theorem tw5963108036827995370:True:=#[]
theorem tw17918868447788364223:True:=#[]
theorem tw8817428809227778556:True:=#[]
theorem tw6432180323476396429:True:=#[]
theorem tw8721453243935363280:True:=#[]
theorem tw10799072060744728044:True:=#[]
theorem tw9395329734517872792:True:=#[]
theorem tw6680449128560666632:True:=#[]
theorem tw10808933208366494463:True:=#[]
theorem tw13685352845093794031:True:=#[]
theorem tw9663018164483957830:True:=#[]
theorem tw1511624700453958470:True:=#[]
theorem tw1235654990813140344:True:=#[]
theorem tw9094788350789882438:True:=#[]
theorem tw13031995295672762794:True:=#[]
theorem tw12203444240226757648:True:=#[]
theorem tw5645469987155302205:True:=#[]
theorem tw10609893028836717794:True:=#[]
theorem tw13806010554752106913:True:=#[]
theorem tw7238635743647717120:True:=#[]
theorem tw10178816088110466397:True:=#[]
end PySem.W.Fast
open PySem PySem.W PyProof.Rows
set_option maxRecDepth 100000 in
set_option maxHeartbeats 0 in
set_option tactic.hygienic true in
theorem PySem.Challenge.cw_freshrooms_k61_joined_room_by_room_holds : PySem.Challenge.rw_freshrooms_k61_joined_room_by_room.Holds := by
 w_on;o_law;k_head;(case hw=>w_witness2)
 k_fill
 refine Q.walkQ (l:=PySem.Challenge.rw_freshrooms_k61_joined_room_by_room) (n:=63) (k:=11) (x:="_law_script") (f:=Nk61.m_law) rfl ⋯ rfl #[rfl,⋯,⋯,rfl] (fun w h Y=>PySem.W.kIn_of Y) ?F Nk61.law_true
 case F =>
  intro w mg fa h KX G hmg
  refine' Nk61.all_mk KX G hmg ?_ ?_ ?_ ?_ ?_ ?_ ?_ ?_ ?_ ?_ ?_ ?_ ?_ ?_ ?_ ?_ ?_ ?_ ?_ ?_ ?_ ?_ ?_ ?_ ?_ ?_ ?_ ?_ ?_ ?_ ?_ ?_ ?_ ?_ ?_ ?_ ?y0 ?y1 ?y2 ?y3 ?y4 ?y5 ?y6 ?y7 ?y8 ?y9 ?y10 ?y11 ?y12 ?y13 ?y14 ?y15 ?y16 ?y17 ?y18 ?y19 ?y20 ?y21 ?y22 ?y23 ?y24 ?y25 ?y26 ?y27 ?y28 ?y29 ?y30 ?y31 ?y32 ?y33 ?y34 ?y35 ?y36 ?y37 ?y38 ?y39 ?y40 ?y41 ?y42 ?y43 ?y44 ?y45 ?y46 ?y47 ?y48 ?y49 ?y50 ?y51 ?y52 ?y53 ?y54
  all_goals try (refine' Q.Gf.mk ?a ?b ?c ?d;(case a=>k_is);(case b=>k_is);(case c=>k_is);(case d=>k_is))
  case y0 | y2 | y4 | y6 | y8 | y9 | y16 | y17 | y18 | y19 | y20 | y21 | y22 | y23 | y24 | y25 | y26 | y27 | y28 | y38 | y48=>k_is
  case y1 | y3 | y5 | y7=>exact #[_,rfl]
  case y10=>k_is
  case y11=>exact #[rfl,rfl,_,_,rfl,⋯,(.cons #[_,rfl] (.cons #[_,rfl] (.cons rfl .nil)))]
  case y12=>k_is
  case y13=>exact #[rfl,rfl,_,_,rfl,⋯,.nil]
  case y14=>k_is
  case y15=>exact #[rfl,rfl,_,_,rfl,⋯,(.cons #[_,rfl] (.cons #[_,rfl] (.cons #[_,rfl] (.cons #[_,rfl] .nil))))]
  case y29 | y39=>k_exc
  case y30 | y31 | y32 | y33 | y34 | y35 | y36 | y37 | y40 | y41 | y42 | y43 | y44 | y45 | y46 | y47=>k_is
  case y51 | y52 | y53 | y54=>kit_is
  case y49 | y50=>kts_exm
