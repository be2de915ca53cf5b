import PyProof.Rows.All
import Wide.All
import OpenK.AllK
import Wide.FinOn
import Lean
import PySem.Challenge.RW_freshrooms_k13_texts_of_no_machine
open PySem.W(Frag kitOne nsIn findIn)
set_option Elab.async false
set_option linter.all false
set_option bootstrap.genMatcherCode false
set_option compiler.extract_closed false
set_option maxRecDepth 100000
set_option tactic.hygienic false
local macro_rules|`(#[$a,*])=>`(⟨$a,*⟩)
local macro_rules|`(⋯)=>`(by first|decide|lia)
local macro_rules|`(tactic|ac_rfl)=>`(tactic|with_unfolding_all rfl)
local macro_rules|`(tactic|exists$e)=>`(tactic|with_unfolding_all exact$e)
abbrev VP9:=PySem.Value->PySem.Shared->Prop
abbrev LA9:=List (PySem.Addr×PySem.Obj)
abbrev Kq9(k:List Int):=∀p∈k,0<=p/\p<=3
theorem aA{α}{a:α}{s t:List α}:a∈s++t->a∈s∨a∈t:=List.mem_append.mp
theorem aB{α}{a b:α}:a=b->a∈[b]:=List.mem_singleton.mpr
theorem aC{α}{a b:α}:a∈[b]->a=b:=List.mem_singleton.mp
theorem aD{α}{a b:α}{l:List α}:a∈b::l->a=b∨a∈l:=List.mem_cons.mp
theorem aE{α β}{f:α->β}{l:List α}{b:β}:b∈l.map f->∃a,a∈l∧f a=b:=List.mem_map.mp
def Ŕq(_:True:=by rfl):True:=trivial
def Ŕq.z:True:=trivial
open Ŕq renaming _auto_1→Ŕ
def ŕq(_:True:=by decide):True:=trivial
def ŕq.z:True:=trivial
open ŕq renaming _auto_1→ŕ
def Ŗq(_:True:=by intro _;rfl):True:=trivial
def Ŗq.z:True:=trivial
open Ŗq renaming _auto_1→Ŗ
def ŗq(_:True:=by decide +kernel):True:=trivial
def ŗq.z:True:=trivial
open ŗq renaming _auto_1→ŗ
def Řq(_:True:=by first|exact .inl rfl|exact .inr rfl|assumption):True:=trivial
def Řq.z:True:=trivial
open Řq renaming _auto_1→Ř
def řq(_:True:=by first|exact Or.inl rfl|exact Or.inr (Or.inl rfl)|exact Or.inr (Or.inr rfl)):True:=trivial
def řq.z:True:=trivial
open řq renaming _auto_1→ř
def Śq(_:True:=by first|exact Or.inl rfl|exact Or.inr rfl):True:=trivial
def Śq.z:True:=trivial
open Śq renaming _auto_1→Ś
def śq(_:True:=by first|exact .inl rfl|exact .inr rfl):True:=trivial
def śq.z:True:=trivial
open śq renaming _auto_1→ś
theorem oq9{α : Type _}{a b : α}(h:some a=some b):a=b:=Option.some.inj h
theorem lr9{α : Type _}{a : α}{b : List α}(c : List α)(h:a ∈ b):a ∈ c ++ b:=List.mem_append_right c h
theorem ll9{α : Type _}{a : α}{b : List α}(c : List α)(h:a ∈ b):a ∈ b ++ c:=List.mem_append_left c h
theorem lc9{α : Type _}{a : α}{l : List α}(b : α)(h:a ∈ l):a ∈ b::l:=List.mem_cons_of_mem b h
section
open PySem PySem.Spec PyProof.Rows
theorem X0:type_of% @wpAny_bind:=@wpAny_bind
theorem X1:type_of% @List.length_map:=@List.length_map
theorem X2:type_of% @List.mem_cons_self:=@List.mem_cons_self
theorem X3:type_of% @List.getElem?_eq_getElem:=@List.getElem?_eq_getElem
theorem X4:type_of% @Heap.get?_push_of_some:=@Heap.get?_push_of_some
theorem X5:type_of% @decide_eq_true:=@decide_eq_true
theorem X6:type_of% @decide_eq_false:=@decide_eq_false
theorem X7:type_of% @List.nodup_append:=@List.nodup_append
theorem X8:type_of% @if_pos:=@if_pos
theorem X9:type_of% @wpAny_pure:=@wpAny_pure
theorem Xa:type_of% @List.getD_eq_getElem?_getD:=@List.getD_eq_getElem?_getD
theorem Xb:type_of% @Array.length_toList:=@Array.length_toList
theorem Xd:type_of% @if_neg:=@if_neg
theorem Xe:type_of% @List.size_toArray:=@List.size_toArray
theorem Xf:type_of% @List.length_append:=@List.length_append
theorem Xg:type_of% @List.length_cons:=@List.length_cons
theorem Xh:type_of% @Heap.get?_push_size:=@Heap.get?_push_size
theorem Xi:type_of% @List.getElem?_map:=@List.getElem?_map
theorem Xj:type_of% @Int.emod_lt_of_pos:=@Int.emod_lt_of_pos
theorem Xk:type_of% @Nat.le_refl:=@Nat.le_refl
theorem Xl:type_of% @Heap.lt_size:=@Heap.lt_size
theorem Xm:type_of% @Int.emod_nonneg:=@Int.emod_nonneg
theorem Xn:type_of% @List.append_assoc:=@List.append_assoc
theorem Xp:type_of% @Nat.lt_of_lt_of_le:=@Nat.lt_of_lt_of_le
def Xq:type_of% @List.map_append:=@List.map_append
theorem Xr:type_of% @List.append_nil:=@List.append_nil
theorem Xs:type_of% @Nat.le_trans:=@Nat.le_trans
theorem Xu:type_of% @List.map_map:=@List.map_map
theorem Xv:type_of% @Nat.ne_of_lt:=@Nat.ne_of_lt
theorem Xw:type_of% @List.mem_map_of_mem:=@List.mem_map_of_mem
theorem Xx:type_of% @List.sum_cons:=@List.sum_cons
theorem Xy:type_of% @PySem.W.mg_of:=@PySem.W.mg_of
theorem Xz:type_of% @PySem.W.mg_none_of:=@PySem.W.mg_none_of
theorem Y0:type_of% @List.getElem?_set_self:=@List.getElem?_set_self
theorem Y1:type_of% @List.length_take:=@List.length_take
theorem Y2:type_of% @PySem.W.kia_one:=@PySem.W.kia_one
theorem Y3:type_of% @Heap.get?_update_self:=@Heap.get?_update_self
theorem Y4:type_of% @wpAny_holding:=@wpAny_holding
theorem Y5:type_of% @List.mem_cons:=@List.mem_cons
theorem Y6:type_of% @List.getElem?_set_ne:=@List.getElem?_set_ne
theorem Y7:type_of% @of_decide_eq_true:=@of_decide_eq_true
theorem Y8:type_of% @List.length_set:=@List.length_set
theorem Y9:type_of% @List.not_mem_nil:=@List.not_mem_nil
theorem Ya:type_of% @List.mem_of_getElem?:=@List.mem_of_getElem?
theorem Yb:type_of% @Array.getElem?_eq_getElem:=@Array.getElem?_eq_getElem
theorem Yc:type_of% @wpAny_newObj_type:=@wpAny_newObj_type
theorem Yd:type_of% @List.length_range:=@List.length_range
theorem Ye:type_of% @PySem.F.plainAttrs_list:=@PySem.F.plainAttrs_list
theorem Yf:type_of% @Heap.get?_none_of_le:=@Heap.get?_none_of_le
theorem Yg:type_of% @List.nodup_nil:=@List.nodup_nil
theorem Yh:type_of% @wpAny_call_entry:=@wpAny_call_entry
theorem Yi:type_of% @List.all_eq_true:=@List.all_eq_true
theorem Yj:type_of% @List.getElem_mem:=@List.getElem_mem
theorem Yk:type_of% @Heap.SameBut.update:=@Heap.SameBut.update
theorem Yl:type_of% @List.getElem?_eq_none:=@List.getElem?_eq_none
theorem Ym:type_of% @List.mapM_cons:=@List.mapM_cons
theorem Yn:type_of% @List.length_drop:=@List.length_drop
theorem Yo:type_of% @wpAny_truthy_bool:=@wpAny_truthy_bool
theorem Yp:type_of% @List.Sublist.refl:=@List.Sublist.refl
def Yq:type_of% @List.take_of_length_le:=@List.take_of_length_le
theorem Yr:type_of% @PySem.mem_of_lookup:=@PySem.mem_of_lookup
theorem Ys:type_of% @Nat.zero_le:=@Nat.zero_le
theorem Yt:type_of% @List.length_replicate:=@List.length_replicate
theorem Yu:type_of% @Array.getElem?_toList:=@Array.getElem?_toList
theorem Yv:type_of% @List.perm_append_comm:=@List.perm_append_comm
theorem Yw:type_of% @Nat.lt_irrefl:=@Nat.lt_irrefl
theorem Yx:type_of% @PySem.F.slot_list_append:=@PySem.F.slot_list_append
theorem Yy:type_of% @PySem.F.type_list_append:=@PySem.F.type_list_append
theorem Yz:type_of% @wpAny_setField:=@wpAny_setField
theorem Z0:type_of% @wpAny_callSpecial?_slot:=@wpAny_callSpecial?_slot
theorem Z1:type_of% @Heap.get?_update_ne:=@Heap.get?_update_ne
theorem Z2:type_of% @List.map_congr_left:=@List.map_congr_left
theorem Z3:type_of% @List.all_cons:=@List.all_cons
theorem Z4:type_of% @List.lookup_cons:=@List.lookup_cons
theorem Z5:type_of% @wpAny_Call_Name_kw:=@wpAny_Call_Name_kw
theorem Z6:type_of% @List.nodup_cons:=@List.nodup_cons
theorem Z7:type_of% @wpAny_setState_of:=@wpAny_setState_of
theorem Z8:type_of% @wpAny_field:=@wpAny_field
theorem Z9:type_of% @Ne.symm:=@Ne.symm
end
noncomputable section
namespace L2
open PySem PySem.Spec PyProof.Rows
abbrev Key:=Sum Int Str
noncomputable def wx5:Key->Value->Bool
 |.inl k,v=>Value.isInt k v|.inr x,v=>Value.isStrOf x v
noncomputable def keyH(w:World):Key->Int
 |.inl k=>hashInt k|.inr x=>hashStr w x
theorem Qk:∀{k v},wx5 k v=true->(∃i t,k=Sum.inl i/\v=Value.int i t)\/(∃x t,k=Sum.inr x/\v=Value.str x t)
 |.inl i,v,h=>by
  obtain⟨t,e⟩:=Value.isInt_shape h;exact .inl #[i,t,rfl,e]
 |.inr x,v,h=>by
  obtain⟨t,e⟩:=Value.isStrOf_shape h;exact .inr #[x,t,rfl,e]
theorem wx4(a b):decide ((Sum.inl a:Key)=Sum.inl b)=(a==b):=by
 by_cases e:a=b
 ·subst e;simp
 ·grind
theorem wx1(a b):decide ((Sum.inr a:Key)=Sum.inr b)=decide (a=b):=by
 by_cases e:a=b
 ·subst e;simp
 ·grind
theorem wx3 a b:decide ((Sum.inl a:Key)=Sum.inr b)=false:=X6 (λq=>nomatch q)
theorem wx2 a b:decide ((Sum.inr a:Key)=Sum.inl b)=false:=X6 (λq=>nomatch q)
noncomputable def kxa(prog:Program)(w:World):PySem.KeyKind prog w Key where
 is:=wx5
 hash:=keyH w
 inj:=λv a b ha hb=>by
  rcases Qk ha with⟨i,t,rfl,rfl⟩|⟨x,t,rfl,rfl⟩
  ·rcases Qk hb with⟨j,u,rfl,e⟩|⟨y,u,rfl,e⟩
   ·injection e with e1 _;rw[e1]
   ·exact nomatch e
  ·rcases Qk hb with⟨j,u,rfl,e⟩|⟨y,u,rfl,e⟩
   ·exact nomatch e
   ·injection e with e1 _;rw[e1]
 byValue:=λk v h=>by
  rcases Qk h with⟨i,t,rfl,rfl⟩|⟨x,t,rfl,rfl⟩<;>rfl
 pyHash:=λhv h=>by
  rcases Qk hv with⟨i,t,rfl,rfl⟩|⟨x,t,rfl,rfl⟩
  ·exact wpAny_pyHash_int h
  ·exact wpAny_pyHash_str h
 eqBool:=λhu hv h=>by
  rcases Qk hu with⟨i,t,rfl,rfl⟩|⟨x,t,rfl,rfl⟩
  ·rcases Qk hv with⟨j,u,rfl,rfl⟩|⟨y,u,rfl,rfl⟩
   ·rw[wx4]at h;exact wpAny_eqBool_int h
   ·rw[wx3]at h;exact SeqAt.EqAt.int_str i t y u _ _ _ _ h
  ·rcases Qk hv with⟨j,u,rfl,rfl⟩|⟨y,u,rfl,rfl⟩
   ·rw[wx2]at h;exact SeqAt.EqAt.str_int x t j u _ _ _ _ h
   ·rw[wx1]at h;exact wpAny_eqBool_str h
 «strs»:=λk x t v h=>by
  rcases Qk h with⟨i,u,rfl,e⟩|⟨y,u,rfl,e⟩
  ·exact nomatch e
  ·injection e with e1 _;subst e1;cases v<;>rfl
inductive V where
 |non|bl (b:Bool)|int (i:Int)|str (x:Str)|byt (b:Array UInt8)|flt (b:UInt64)|ref (a:Addr)|ty (n:String)
 deriving DecidableEq
noncomputable def RelV:V->Value->Prop
 |.non,u=>u=Value.none|.bl b,u=>u=Value.bool b|.int i,u=>∃t,u=Value.int i t|.str x,u=>∃t,u=Value.str x t|.byt b,u=>∃t,u=Value.bytes b t|.flt b,u=>∃t,u=Value.float b t|.ref a,u=>u=Value.ref a|.ty n,u=>u=Value.type n
abbrev Vals:List V->List Value->Prop:=Paired RelV
theorem Vals.length{xs us}(r:Vals xs us):xs.length=us.length:=Paired.length r
theorem Vals.get:∀{xs us} {i:Nat} {x},Vals xs us->xs[i]?=some x->∃u,us[i]?=some u/\RelV x u
 |_,_,_,_,.nil,e=>by simp at e|_,_,0,_,.cons r _,e=>by simp at e;subst e;exact#[_,rfl,r]
 |_,_,i+1,x,.cons _ t,e=>by
  obtain⟨u,h1,h2⟩:=Vals.get t (by simpa using e);exact#[u,by simpa using h1,h2]
theorem Vals.set{x u}(r:RelV x u):∀{xs us} (i),Vals xs us->Vals (xs.set i x) (us.set i u)
 |_,_,_,.nil=>.nil|_,_,0,.cons _ t=>.cons r t|_,_,i+1,.cons q t=>.cons q (Vals.set r i t)
theorem Vals.append:∀{xs ys us ws},Vals xs us->Vals ys ws->Vals (xs++ys) (us++ws)
 |_,_,_,_,.nil,s=>s|_,_,_,_,.cons r t,s=>.cons r (Vals.append t s)
theorem Vals.take:∀{xs us} (n),Vals xs us->Vals (xs.take n) (us.take n)
 |_,_,0,_=>.nil|_,_,_+1,.nil=>.nil|_,_,n+1,.cons r t=>.cons r (Vals.take n t)
theorem Vals.drop:∀{xs us} (n),Vals xs us->Vals (xs.drop n) (us.drop n)
 |_,_,0,r=>r|_,_,_+1,.nil=>.nil|_,_,n+1,.cons _ t=>Vals.drop n t
noncomputable def xkx:Option V->Option Value->Prop
 |some v,some u=>RelV v u|none,none=>True|_,_=>False
noncomputable def KV{κ:Type}:List (κ×V)->List (κ×Value)->Prop:=Paired λ(p:κ×V) (q:κ×Value)=>p.1=q.1/\RelV p.2 q.2
def kV:Key->V
 |.inl i=>.int i|.inr x=>.str x
inductive HO where
 |lst (xs:List V)
 |tup (xs:List V)
 |dK (bf:List (Key×V))|dT (bf:List (List Key×V))
 |set (S:Int->Bool) (n:Nat)
 |ins (C dx:Addr) (fs:List (Str×V))
 |own (x:Addr)
 |xd (fs:List (Str×V))
 |met (f x:Addr)
 |rng (lo hi:Int)
 |frz (o:Obj) (u:HO)
 |tbl (ps:Array Value)
 |ext (φ:World->Heap->Prop)
abbrev Hp:=Addr->Option HO
noncomputable def IsTupD(h:Heap)(a:Addr)(items:Array Value):Prop:=∃o,h.get? a=some o/\o.cls=.type "tuple"/\o.dict=none/\∃n,o.data=.seq items n
theorem IsTupD.tup{h a items}(p:IsTupD h a items):IsTup h a items:=by
 obtain⟨o,e,c,_,n,d⟩:=p;exact⟨o,e,c,n,d⟩
theorem IsTupD.new(h:Heap) xs:IsTupD (h.push {cls:=.type "tuple",data:=.seq xs}) h.objs.size xs:=⟨_,Xh _ rfl,rfl,rfl,0,rfl⟩
noncomputable def upd(H:Hp)(a:Addr)(o:HO):Hp:=λb=>if b=a then some o else H b
theorem xV{H a o}:upd H a o a=some o:=by unfold upd;rw[X8 rfl]
theorem kj{H a b o}(h:b≠a):upd H a o b=H b:=by unfold upd;rw[Xd h]
theorem xY{H:Hp}{a b o}(h:H a=some o)(h':H b=none):a≠b:=by
 grind
section
variable (P:Program)(w:World)
noncomputable def ObjOk(H : Hp)(h : Heap)(a : Addr): HO -> Prop
  |.lst xs=>xs.length<=sizeLine /\ ∃(aq : List Value) (n : Nat),Vals xs aq /\ h.get? a = some {cls:= .type "list",data:= .seq aq.toArray n}|.tup xs=>xs.length<=sizeLine /\ ∃aq : List Value,Vals xs aq /\ IsTupD h a aq.toArray|.dK bf=>bf.length<=sizeLine /\ (a==sysModules) = false /\ ∃vs,KV bf vs /\ h.DictOf (kxa P w) a vs
  |.dT bf=>bf.length<=sizeLine /\ (a==sysModules) = false /\ ∃xs : List (List Key × Addr × Value),
      Paired (λ(p : List Key × V) (q : List Key × Addr × Value)=>p.1 = q.1 /\ H q.2.1 = some (.tup (p.1.map kV)) /\ RelV p.2 q.2.2) bf xs /\
      ∃o es ep,h.get? a = some o /\ o.ExactDict /\ o.data = .dict es ep /\ es.toList = xs.map (entryOfKey (tupleKind (kxa P w))) /\ (xs.map (·.1)).Nodup
  |.set S n=>h.SetOf (intKind P w) a S n
  |.ins C dx fs=>H dx = some (.own a) /\ fs.length<=1000 /\ dx≠a /\ h.get? a = some (PySem.W.instObj C dx) /\
      ∃mA,h.Ns1 dx mA /\ (∀f,xkx (fs.lookup f) (mA f)) /\ PySem.Within mA (fs.map (·.1))
  |.own _=> ∃o,h.get? a = some o|.xd fs=> ∃mA,h.Ns1 a mA /\ ∀f,xkx (fs.lookup f) (mA f)|.rng lo hi=> ∃t u v,h.get? a = some {cls:= .type "range",data:= .fields (List.toArray [.int lo t,.int hi u,.int 1 v])}|.frz o u=>h.get? a = some o /\ ObjOk H h a u|.tbl ps=>h.get? a = some {cls:= .none,data:= .fields ps}|.met f x=>h.get? a = some (PySem.W.methodObj (.ref f) (.ref x))|.ext φ=>φ w h /\ (∃o,h.get? a = some o) /\ ∀h1 h2 : Heap,φ w h1 -> (∀o,h1.get? a = some o -> h2.get? a = some o) -> φ w h2
noncomputable def HOk(H:Hp)(h:Heap):Prop:=∀a o,H a=some o->ObjOk P w H h a o
end
section
variable {P:Program}{w:World}{H H':Hp}{h h':Heap}{a:Addr}{o:HO}
theorem ObjOk.lt(x:ObjOk P w H h a o):a<h.objs.size:=by
 cases o with|lst xs=>obtain⟨_,_,_,_,e⟩:=x;exact Xl e|tup xs=>obtain⟨_,_,_,p⟩:=x;exact p.tup.lt|dK bf=>obtain⟨_,_,_,_,o,_,_,e,_⟩:=x;exact Xl e|dT bf=>obtain⟨_,_,_,_,o,_,_,e,_⟩:=x;exact Xl e|set S n=>obtain⟨o,_,_,_,e,_⟩:=x;exact Xl e|ins C dx fs=>obtain⟨_,_,_,e,_⟩:=x;exact Xl e|own y=>obtain⟨_,e⟩:=x;exact Xl e|xd fs=>obtain⟨_,⟨_,_,_,e,_⟩,_⟩:=x;exact Xl e|rng lo hi=>obtain⟨_,_,_,e⟩:=x;exact Xl e|frz ob u=>obtain⟨e,_⟩:=x;exact Xl e|tbl ps=>exact Xl (x)|met f y=>exact Xl (x)|ext φ=>obtain⟨_,⟨_,e⟩,_⟩:=x;exact Xl e
theorem Paired.mapP{α β F G}:∀{l₁:List α} {l₂:List β},Paired F l₁ l₂->(∀a b,F a b->G a b)->Paired G l₁ l₂
 |_,_,.nil,_=>.nil|_,_,.cons r t,f=>.cons (f _ _ r) (Paired.mapP t f)
theorem ObjOk.stay(x:ObjOk P w H h a o)(k:∀b u,(b=a\/H b=some (.own a))->h.get? b=some u->h'.get? b=some u)
  (ho:∀b,H b=some (.own a)->H' b=some (.own a)) (ht:∀b xs,H b=some (.tup xs)->H' b=some (.tup xs)):ObjOk P w H' h' a o:=by
 induction o with
 |lst xs=>obtain⟨z,aq,n,r,e⟩:=x;exact#[z,aq,n,r,k _ _ (.inl rfl) e]|tup xs=>obtain⟨z,aq,r,ob,e,c⟩:=x;exact#[z,aq,r,ob,k _ _ (.inl rfl) e,c]|dK bf=>obtain⟨z,y,vs,r,ob,es,ep,e,c⟩:=x;exact#[z,y,vs,r,ob,es,ep,k _ _ (.inl rfl) e,c]
 |dT bf=>
  obtain⟨z,y,xs,r,ob,es,ep,e,c⟩:=x;exact#[z,y,xs,Paired.mapP r λp q z=>#[z.1,ht _ _ z.2.1,z.2.2],ob,es,ep,k _ _ (.inl rfl) e,c]
 |set S n=>obtain⟨ob,es,ep,t,e,c⟩:=x;exact#[ob,es,ep,t,k _ _ (.inl rfl) e,c]
 |ins C dx fs=>
  obtain⟨d,z,ne,e,mA,⟨od,es,ep,e2,c⟩,r⟩:=x;exact#[ho _ d,z,ne,k _ _ (.inl rfl) e,mA,#[od,es,ep,k _ _ (.inr d) e2,c],r]
 |own y=>obtain⟨ob,e⟩:=x;exact#[ob,k _ _ (.inl rfl) e]|xd fs=>obtain⟨mA,⟨od,es,ep,e,c⟩,r⟩:=x;exact#[mA,#[od,es,ep,k _ _ (.inl rfl) e,c],r]|rng lo hi=>obtain⟨t,u,v,e⟩:=x;exact#[t,u,v,k _ _ (.inl rfl) e]|frz ob u ih=>obtain⟨e,q⟩:=x;exact#[k _ _ (.inl rfl) e,ih q]
 |tbl ps=>
  have e:h.get? a=some {cls:=.none,data:=.fields ps}:=x;exact k a _ (.inl rfl) e
 |met f y=>
  have e:=x;exact k a _ (.inl rfl) e
 |ext φ=>obtain⟨p,⟨o,e⟩,st⟩:=x;exact#[st _ _ p λo q=>k _ _ (.inl rfl) q,#[o,k _ _ (.inl rfl) e],st]
theorem HOk.lt(x:HOk P w H h)(e:H a=some o):a<h.objs.size:=(x a o e).lt
theorem HOk.fresh(x:HOk P w H h)(e:h.objs.size<=a):H a=none:=by
 cases q:H a with|none=>rfl|some u=>exact absurd (Xp (x.lt q) e) (Yw _)
theorem HOk.kept(x:HOk P w H h)(k:∀b u,h.get? b=some u->h'.get? b=some u):HOk P w H h':=λa o e=>
 (x a o e).stay (λb u _ q=>k b u q) (λ_ q=>q) λ_ _ q=>q
theorem HOk.laid(x:HOk P w H h)(k:∀b u,h.get? b=some u->h'.get? b=some u)(hp:h.objs.size<=a)(new:ObjOk P w (upd H a o) h' a o):HOk P w (upd H a o) h':=λb u e=>by
 have hn:=x.fresh hp
 by_cases hb:b=a
 ·subst hb;rw[xV]at e;cases e;exact new
 ·rw[kj hb]at e;exact(x b u e).stay (λc v _ q=>k c v q) (λc q=>by rw[kj (xY q hn)];exact q) λc xs q=>by rw[kj (xY q hn)];exact q
end
noncomputable def Rd(H:Hp)(a:Addr)(u:HO):Prop:=H a=some u\/∃o,H a=some (.frz o u)
theorem Rd.ok{P w H h a u}(r:Rd H a u)(x:HOk P w H h):ObjOk P w H h a u:=by
 rcases r with r|⟨o,r⟩
 ·exact x a u r
 ·obtain⟨_,q⟩:=x a _ r;exact q
noncomputable def Mut:Option HO->Prop
 |some (.lst _)=>True|some (.dK _)=>True|some (.dT _)=>True|some (.set _ _)=>True|some (.ins _ _ _)=>True|some (.ext _)=>True|_=>False
section
variable {P:Program}{w:World}{H:Hp}{h h':Heap}{x e:Addr}{o':HO}
theorem HOk.write(ok:HOk P w H h)(mu:Mut (H x))(he:e=x\/H e=some (.own x))(k:∀b u,b≠e->h.get? b=some u->h'.get? b=some u)(uc:∃u,h'.get? e=some u)
  (new:ObjOk P w (upd H x o') h' x o'):HOk P w (upd H x o') h':=λb u q=>by
 have nown:∀c y,H c=some (.own y)->c≠x:=λc y r z=>by subst z;rw[r]at mu;exact mu
 have ntup:∀c xs,H c=some (.tup xs)->c≠x:=λc xs r z=>by subst z;rw[r]at mu;exact mu
 by_cases hb:b=x
 ·subst hb;rw[xV]at q;cases q;exact new
 ·rw[kj hb]at q
  by_cases hbe:b=e
  ·have q':H b=some (.own x):=by
    rcases he with z|z
    ·exact absurd (hbe.trans z) hb
    ·rw[hbe];exact z
   rw[q]at q';cases q';obtain⟨v,hv⟩:=uc;exact#[v,by rw[hbe];exact hv]
  ·refine(ok b u q).stay (λc v hc r=>k c v ?_ r) (λc r=>by rw[kj (nown c b r)];exact r) λc xs r=>by rw[kj (ntup c xs r)];exact r
   rcases hc with rfl|hc
   ·exact hbe
   ·grind
end
structure Un (fs ex:List Addr)(H H':Hp)(h h':Heap):Prop where
 keep:∀b o,h.get? b=some o->H b=none->b∉fs->b∉ex->h'.get? b=some o
 slot:∀b o,h.get? b=some o->H b=none->b∈fs->b∉ex->∃sl,h'.get? b=some {o with slots:=sl}
 free:∀b o,h.get? b=some o->H b=none->b∉ex->H' b=none
 there:∀b o,h.get? b=some o->b∉ex->∃o',h'.get? b=some o'
 tups:∀b xs,H b=some (.tup xs)->H' b=some (.tup xs)
 frzs:∀b o u,H b=some (.frz o u)->H' b=some (.frz o u)
 tbls:∀b ps,H b=some (.tbl ps)->∃more,H' b=some (.tbl (ps++more))
section
variable {fs fs' ex ex':List Addr}{H H1 H2:Hp}{h h1 h2 h':Heap}{a x e:Addr}{o:HO}
theorem Un.any(u:Un fs ex H H1 h h1){b ob}(q:h.get? b=some ob)(n:H b=none)(hx:b∉ex):∃sl,h1.get? b=some {ob with slots:=sl}:=by
 by_cases hb:b∈fs
 ·exact u.slot b ob q n hb hx
 ·exact#[ob.slots,u.keep b ob q n hb hx]
theorem Un.kept(k:∀b u,h.get? b=some u->h'.get? b=some u):Un fs ex H H h h':=
 #[λb ob q _ _ _=>k b ob q,λb ob q _ _ _=>#[ob.slots,k b ob q],λ_ _ _ n _=>n,λb ob q _=>#[ob,k b ob q],λ_ _ q=>q,λ_ _ _ q=>q,λ_ ps q=>#[(List.toArray []),by rw[q];simp]]
theorem Un.refl:Un fs ex H H h h:=Un.kept λ_ _ q=>q
theorem Un.laid(k:∀b u,h.get? b=some u->h'.get? b=some u)(hp:h.objs.size<=a)(hn:H a=none):Un fs ex H (upd H a o) h h' where
 keep:=λb u q _ _ _=>k b u q
 slot:=λb u q _ _ _=>#[u.slots,k b u q]
 free:=λb u q n _=>by rw[kj (Xv (Xp (Xl q) hp))];exact n
 there:=λb u q _=>#[u,k b u q]
 tups:=λb xs q=>by rw[kj (xY q hn)];exact q
 frzs:=λb u xs q=>by rw[kj (xY q hn)];exact q
 tbls:=λb ps q=>#[(List.toArray []),by rw[kj (xY q hn),q];simp]
theorem Un.write(mu:Mut (H x))(he:e=x\/H e=some (.own x))(k:∀b u,b≠e->h.get? b=some u->h'.get? b=some u)(uc:∃u,h'.get? e=some u):Un fs ex H (upd H x o) h h':=by
 have hx:∀b,H b=none->b≠x:=λb n z=>by subst z;rw[n]at mu;exact mu
 have hb:∀b,H b=none->b≠e:=λb n z=>by
  subst z;rcases he with r|r
  ·exact hx b n r
  ·grind
 have hm:∀b u,H b=some u->¬Mut (some u)->b≠x:=λb u q nm z=>by subst z;rw[q]at mu;exact nm mu
 refine#[λb u q n _ _=>k b u (hb b n) q,λb u q n _ _=>#[u.slots,k b u (hb b n) q],λb u q n _=>by rw[kj (hx b n)];exact n,λb u q _=>?_,
  λb xs q=>by rw[kj (hm b _ q λz=>z)];exact q,λb u xs q=>by rw[kj (hm b _ q λz=>z)];exact q,λb ps q=>#[(List.toArray []),by rw[kj (hm b _ q λz=>z),q];simp]]
 by_cases hbe:b=e
 ·grind
 ·exact#[u,k b u hbe q]
end
noncomputable def trk(h:Heap)(H:Hp):List Addr:=(List.range h.objs.size).filter λa=>(H a).isSome
def WZ(h:Heap)(H:Hp):Heap:=PySem.W.hideAll h (trk h H)
theorem vkr h H:(WZ h H).objs.size=h.objs.size:=PySem.W.hideAll_size _ _
theorem vwi{h H b o}(e:h.get? b=some o)(n:H b=none):(WZ h H).get? b=some o:=
 PySem.W.hideAll_get _ e λhm=>by
  have q:=(List.mem_filter.mp hm).2;rw[n]at q;simp at q
theorem wjq{h H b o}(e:(WZ h H).get? b=some o):h.get? b=some o/\H b=none:=by
 have e':=PySem.W.of_hideAll _ e;refine#[e',?_];cases q:H b with
 |none=>rfl
 |some x=>
  have hm:b∈trk h H:=List.mem_filter.mpr #[List.mem_range.mpr (Xl e'),by simp[q]];have z:(WZ h H).get? b=none:=PySem.W.hideAll_none _ hm
  grind
structure Mod (K:Frag)(mg:Str->Option Value)(base:Heap):Prop where
 kin:K.In base
 glob:base.Ns mainGlobals mg
 blt:∃mb,base.Ns builtinsNs mb/\∀x:Str,x≠"__name__"->mb x=bootBuiltins x
 nolimit:base.NoLimit
structure Cx where
 prog:Program
 w:World
 K:Frag
 mg:Str->Option Value
 base:Heap
 A:Around
 N:List Str
 s₀:Shared
 H₀:Hp
 env:Env
 outer:List Env
 stack:List Env
 ex:List Addr
 fn:Str->Bool
 calm:Bool
 pn:LA9
 xe:VP9
def frs(l:List Env):List Addr:=l.filterMap (·.frame)
abbrev Cx.fs(X:Cx):List Addr:=frs X.outer
noncomputable def Vis(sc:Scope)(x:Str):Prop:=sc.names.lookup x=some .local\/sc.names.lookup x=some .cell\/sc.names.lookup x=some .free
noncomputable def Loc(sc:Scope)(x:Str):Prop:=sc.names.lookup x=some .local\/sc.names.lookup x=some .cell
noncomputable def xqw(env:Env)(h:Heap)(m:Str->Option Value)(x:Str)(u:Value):Prop:=
 (env.kindOf x=some .local/\m x=some u)\/((env.kindOf x=some .cell\/env.kindOf x=some .free)/\∃c,env.cells.lookup x=some c/\h.IsCell c (some u))
structure Cx.Ok (X:Cx):Prop where
 mod:Mod X.K X.mg X.base
 kind:X.env.scope.kind=.function
 glob:X.env.globals=mainGlobals
 blt:X.env.builtins=builtinsNs
 above:X.s₀.heap.objs.size<=X.env.locals
 inj:∀x y c,X.env.cells.lookup x=some c->X.env.cells.lookup y=some c->x=y
 has:∀x,(X.env.kindOf x=some .cell\/X.env.kindOf x=some .free)->∃c,X.env.cells.lookup x=some c
 cab:∀x c,X.fn x=true->X.env.cells.lookup x=some c->X.s₀.heap.objs.size<=c
 hd:X.calm=true->X.A.handled=none
 frames:X.A.frames=some X.stack
 stk:X.stack=X.outer\/(X.stack=X.env::X.outer/\X.env.frame=some X.env.locals)
 exf:∀b∈X.ex,b≠X.env.locals/\∀x c,X.env.cells.lookup x=some c->c≠b
 bs:∀b o,X.base.get? b=some o->X.s₀.heap.get? b=some o/\X.H₀ b=none
 bsz:X.base.objs.size<=X.s₀.heap.objs.size
 noex:∀b o,X.base.get? b=some o->b∉X.ex
 exfs:∀b∈X.ex,b∉X.fs
 funs:X.s₀.heap.FunFrames X.base X.outer
 frf:∀b∈X.fs,X.H₀ b=none
structure Inv (X:Cx)(a7:LA9)(σ:List (Option V))(H:Hp)(s:Shared):Prop where
 ok:X.Ok
 os:s.os=X.s₀.os
 bare:AllBare s.gens
 base:Un X.fs X.ex X.H₀ H X.s₀.heap s.heap
 loc:∃m,s.heap.Ns X.env.locals m/\∀(i:Nat) (x:Str) (v:V),X.N[i]?=some x->σ[i]?=some (some v)->Vis X.env.scope x->∃u,RelV v u/\xqw X.env s.heap m x u
 cell:∀x c,X.env.cells.lookup x=some c->∃v,s.heap.IsCell c v
 free:H X.env.locals=none
 freeC:∀x c,X.env.cells.lookup x=some c->H c=none
 pin:∀p∈X.pn++a7,s.heap.get? p.1=some p.2/\H p.1=none/\p.1≠X.env.locals/\p.1∉X.fs/\∀v,p.2.data≠.cell v
 hok:HOk X.prog X.w H s.heap
 len:σ.length=X.N.length
section
variable {X:Cx}{a7:LA9}{σ:List (Option V)}{H H':Hp}{s:Shared}{h':Heap}
theorem Cx.Ok.nofr(ok:X.Ok){b o}(e:X.base.get? b=some o):b∉X.fs:=λhb=>by
 have:=(ok.funs.mem hb).1
 grind
theorem Inv.bs(I:Inv X a7 σ H s):∀b o,X.base.get? b=some o->s.heap.get? b=some o/\H b=none:=λb o e=>
 #[I.base.keep b o (I.ok.bs b o e).1 (I.ok.bs b o e).2 (I.ok.nofr e) (I.ok.noex b o e),I.base.free b o (I.ok.bs b o e).1 (I.ok.bs b o e).2 (I.ok.noex b o e)]
theorem Inv.bk(I:Inv X a7 σ H s):∀b o,X.base.get? b=some o->s.heap.get? b=some o:=λb o e=>(I.bs b o e).1
theorem Inv.mod(I:Inv X a7 σ H s):Mod X.K X.mg X.base:=I.ok.mod
theorem Inv.kIn(I:Inv X a7 σ H s):X.K.In s.heap:=I.ok.mod.kin.keeps I.bk
theorem Inv.lt(I:Inv X a7 σ H s):X.env.locals<s.heap.objs.size:=let ⟨_,hn,_⟩:=I.loc;hn.lt
theorem Inv.sz(I:Inv X a7 σ H s):X.s₀.heap.objs.size<=s.heap.objs.size:=Xs I.ok.above (Nat.le_of_lt I.lt)
theorem Inv.nofs(I:Inv X a7 σ H s){a:Addr}(h:s.heap.objs.size<=a):a∉X.fs:=λhb=>by
 obtain⟨_,o,ho,_⟩:=I.ok.funs.mem hb;exact absurd (Xp (Xl ho) (Xs I.sz h)) (Yw _)
theorem Inv.cne(I:Inv X a7 σ H s):∀x c,X.env.cells.lookup x=some c->c≠X.env.locals:=λx c e z=>by
 obtain⟨v,o,ho,hd⟩:=I.cell x c e;obtain⟨m,⟨o',es,ep,jh,hd',_⟩,_⟩:=I.loc
 grind
theorem Inv.funs(I:Inv X a7 σ H s):s.heap.FunFrames X.base X.outer:=by
 have all:∀l,(∀b∈frs l,b∈X.fs)->X.s₀.heap.FunFrames X.base l->s.heap.FunFrames X.base l:=by
  intro l
  induction l with
  |nil=>intro _ _;trivial
  |cons env r ih=>
   rintro hs ⟨hk,⟨L,o,hf,hn,ho,hd⟩,hr⟩;have hL:=hs L (by unfold frs;rw[List.filterMap_cons,hf];exact X2);obtain⟨sl,e⟩:=I.base.slot L o ho (I.ok.frf L hL) hL λz=>I.ok.exfs L z hL
   exact#[hk,#[L,_,hf,hn,e,hd],ih (λb hb=>hs b (by unfold frs;rw[List.filterMap_cons,hf];exact lc9 _ hb)) hr]
 exact all X.outer (λ_ hb=>hb) I.ok.funs
theorem Inv.stack(I:Inv X a7 σ H s):s.heap.FunFrames X.base X.stack:=by
 rcases I.ok.stk with e|⟨e,hf⟩
 ·rw[e];exact I.funs
 ·rw[e];obtain⟨m,hn,_⟩:=I.loc;exact .cons (by rw[I.ok.kind];decide) hf hn (Yf (Xs I.ok.bsz I.ok.above)) I.funs
theorem Inv.stkSub(I:Inv X a7 σ H s):∀b∈frs X.stack,b∈X.env.locals::X.fs:=λb hb=>by
 rcases I.ok.stk with e|⟨e,hf⟩
 ·rw[e]at hb;exact lc9 _ hb
 ·rw[e]at hb;unfold frs at hb;rw[List.filterMap_cons,hf]at hb;exact hb
theorem Inv.stkFree(I:Inv X a7 σ H s):∀b∈frs X.stack,H b=none:=λb hb=>by
 rcases aD (I.stkSub b hb)with e|hb
 ·rw[e];exact I.free
 ·obtain⟨_,o,ho,_⟩:=I.ok.funs.mem hb;exact I.base.free b o ho (I.ok.frf b hb) λz=>I.ok.exfs b z hb
theorem Inv.step{g' t' d'}{ch:List Addr}(I:Inv X a7 σ H s)
  (jy:∀b∈ch,(b∈X.ex\/X.s₀.heap.get? b=none)/\b≠X.env.locals/\(∀x c,X.env.cells.lookup x=some c->c≠b)/\∀p∈X.pn++a7,p.1≠b)
  (keep:∀b o,b≠X.env.locals->b∉X.fs->b∉ch->s.heap.get? b=some o->H b=none->h'.get? b=some o)
  (slot:∀b o,b≠X.env.locals->b∈X.fs->b∉ch->s.heap.get? b=some o->H b=none->∃sl,h'.get? b=some {o with slots:=sl}) (free:∀b o,b∉ch->s.heap.get? b=some o->H b=none->H' b=none)
  (there:∀b o,b∉ch->s.heap.get? b=some o->∃o',h'.get? b=some o')
  (tups:∀b xs,H b=some (.tup xs)->H' b=some (.tup xs)) (frzs:∀b o u,H b=some (.frz o u)->H' b=some (.frz o u)) (tbls:∀b ps,H b=some (.tbl ps)->∃more,H' b=some (.tbl (ps++more)))
  (ns:∀m,s.heap.Ns X.env.locals m->h'.Ns X.env.locals m) (hok:HOk X.prog X.w H' h') (hg:AllBare g'):
  Inv X a7 σ H' {s with heap:=h',gens:=g',drawn:=d',toks:=t' }:=by
 have neL:∀b o,X.s₀.heap.get? b=some o->b≠X.env.locals:=λb o e=>Xv (Xp (Xl e) I.ok.above)
 have neC:∀b o,X.s₀.heap.get? b=some o->b∉X.ex->b∉ch:=λb o e hx hb=>by
  rcases(jy b hb).1 with z|z
  ·exact hx z
  ·rw[z]at e;cases e
 have pc:∀x c,X.env.cells.lookup x=some c->∀v,s.heap.IsCell c v->h'.IsCell c v:=λx c e v hz=>by
  obtain⟨o,ho,hd⟩:=hz;have tw:=λz=>(jy c z).2.2.1 x c e rfl
  by_cases hc:c∈X.fs
  ·obtain⟨sl,q⟩:=slot c o (I.cne x c e) hc tw ho (I.freeC x c e);exact#[_,q,hd]
  ·exact#[o,keep c o (I.cne x c e) hc tw ho (I.freeC x c e),hd]
 refine#[I.ok,I.os,hg,#[λb o e n hb hx=>?_,λb o e n hb hx=>?_,λb o e n hx=>?_,λb o e hx=>?_,λb xs e=>tups b xs (I.base.tups b xs e),λb o xs e=>frzs b o xs (I.base.frzs b o xs e),λb ps e=>?_],?_,λx c e=>?_,?_,λx c e=>?_,λp hp=>?_,hok,I.len]
 ·exact keep b o (neL b o e) hb (neC b o e hx) (I.base.keep b o e n hb hx) (I.base.free b o e n hx)
 ·obtain⟨sl,e1⟩:=I.base.slot b o e n hb hx;obtain⟨sl',e2⟩:=slot b _ (neL b o e) hb (neC b o e hx) e1 (I.base.free b o e n hx);exact#[sl',e2]
 ·obtain⟨o',e1⟩:=I.base.there b o e hx;exact free b o' (neC b o e hx) e1 (I.base.free b o e n hx)
 ·obtain⟨o',e1⟩:=I.base.there b o e hx;exact there b o' (neC b o e hx) e1
 ·obtain _:=I.base.tbls b ps e
  grind
 ·obtain⟨m,hn,hl⟩:=I.loc;refine#[m,ns m hn,λi x v e1 e2 e3=>?_];obtain⟨u,r,l⟩:=hl i x v e1 e2 e3;refine#[u,r,?_];rcases l with l|⟨k,c,e,z⟩
  ·exact .inl l
  ·exact .inr #[k,c,e,pc x c e _ z]
 ·obtain⟨v,z⟩:=I.cell x c e;exact#[v,pc x c e v z]
 ·obtain⟨m,⟨o,_,_,ho,_⟩,_⟩:=I.loc;exact free _ o (λz=>(jy _ z).2.1 rfl) ho I.free
 ·obtain⟨v,o,ho,hd⟩:=I.cell x c e;exact free c o (λz=>(jy c z).2.2.1 x c e rfl) ho (I.freeC x c e)
 ·obtain⟨e,n,ne,nf,d⟩:=I.pin p hp;have tw:=λz=>(jy p.1 z).2.2.2 p hp rfl
  exact#[keep p.1 p.2 ne nf tw e n,free p.1 p.2 tw e n,ne,nf,d]
theorem Inv.un{t'}(I:Inv X a7 σ H s)(u:Un X.fs [] H H' s.heap h')(hok:HOk X.prog X.w H' h'):Inv X a7 σ H' {s with heap:=h',toks:=t' }:=by
 obtain⟨m,⟨o,es,ep,ho,r⟩,_⟩:=id I.loc;obtain⟨sl,hL⟩:=u.any ho I.free (by simp);exact I.step (g':=s.gens) (d':=s.drawn) (ch:=[]) (λ_ z=>nomatch z) (λb o _ hb _ e n=>u.keep b o e n hb (by simp)) (λb o _ hb _ e n=>u.slot b o e n hb (by simp)) (λb o _ e n=>u.free b o e n (by simp)) (λb o _ e=>u.there b o e (by simp)) u.tups u.frzs u.tbls (λm' hm=>by
  obtain⟨o',es',ep',jh,r'⟩:=hm;rw[ho]at jh;cases jh;exact#[_,es',ep',hL,r']) hok I.bare
theorem Inv.call{g' t' d' ch}(I:Inv X a7 σ H s)(u:Un (frs X.stack) ch H H' s.heap h')(hok:HOk X.prog X.w H' h')(hg:AllBare g')
  (jy:∀b∈ch,(b∈X.ex\/X.s₀.heap.get? b=none)/\b≠X.env.locals/\(∀x c,X.env.cells.lookup x=some c->c≠b)/\∀p∈X.pn++a7,p.1≠b):
  Inv X a7 σ H' {s with heap:=h',gens:=g',drawn:=d',toks:=t' }:=by
 obtain⟨m,⟨o,es,ep,ho,r⟩,_⟩:=id I.loc;obtain⟨sl,hL⟩:=u.any ho I.free λz=>(jy _ z).2.1 rfl
 exact I.step jy (λb o hL hb hc e n=>u.keep b o e n (λz=>(aD (I.stkSub b z)).elim hL hb) hc) (λb o _ _ hc e n=>u.any e n hc) (λb o hc e n=>u.free b o e n hc) (λb o hc e=>u.there b o e hc) u.tups u.frzs u.tbls (λm' hm=>by
  obtain⟨o',es',ep',jh,r'⟩:=hm;rw[ho]at jh;cases jh;exact#[_,es',ep',hL,r']) hok hg
theorem Inv.turned{t' it}(I:Inv X a7 σ H s)(k:∀b o,b≠it->s.heap.get? b=some o->h'.get? b=some o)(hn:H it=none)(hL:it≠X.env.locals)
  (h1:it∈X.ex\/X.s₀.heap.objs.size<=it) (h2:∀x c,X.env.cells.lookup x=some c->c≠it) (h3:∀p∈X.pn++a7,p.1≠it):Inv X a7 σ H {s with heap:=h',toks:=t' }:=by
 have nit:∀b u,H b=some u->b≠it:=λb u e z=>by rw[z,hn]at e;cases e
 refine I.step (g':=s.gens) (d':=s.drawn) (ch:=[it]) (λb hb=>?_) (λb o _ _ hc e _=>k b o (λz=>hc (by simp[z])) e) (λb o _ _ hc e _=>#[o.slots,k b o (λz=>hc (by simp[z])) e]) (λ_ _ _ _ n=>n)
  (λb o hc e=>#[o,k b o (λz=>hc (by simp[z])) e]) (λ_ _ e=>e) (λ_ _ _ e=>e) (λb ps e=>#[(List.toArray []),by rw[e];simp]) (λm hm=>?_) (λb u e=>?_) I.bare
 ·have e:b=it:=by simpa using hb
  subst e;exact#[h1.imp id λz=>Yf z,hL,h2,h3]
 ·obtain⟨o,es,ep,ho,r⟩:=hm;exact#[o,es,ep,k _ o (Z9 hL) ho,r]
 ·refine(I.hok b u e).stay (λc v hc q=>k c v ?_ q) (λ_ q=>q) λ_ _ q=>q
  rcases hc with z|z
  ·rw[z];exact nit b u e
  ·exact nit c _ z
theorem Inv.tok(I:Inv X a7 σ H s) t:Inv X a7 σ H {s with toks:=t}:=I.un (h':=s.heap) (t':=t) Un.refl I.hok
theorem Inv.kept{t'}(I:Inv X a7 σ H s)(k:∀b u,s.heap.get? b=some u->h'.get? b=some u):Inv X a7 σ H {s with heap:=h',toks:=t' }:=I.un (Un.kept k) (I.hok.kept k)
theorem Inv.laid{a:Addr}{o t'}(I:Inv X a7 σ H s)(k:∀b u,s.heap.get? b=some u->h'.get? b=some u)(hp:s.heap.objs.size<=a)(new:ObjOk X.prog X.w (upd H a o) h' a o):
  Inv X a7 σ (upd H a o) {s with heap:=h',toks:=t' }:=I.un (Un.laid k hp (I.hok.fresh hp)) (I.hok.laid k hp new)
theorem Inv.write{x e o t'}(I:Inv X a7 σ H s)(mu:Mut (H x))(he:e=x\/H e=some (.own x))(k:∀b u,b≠e->s.heap.get? b=some u->h'.get? b=some u)(uc:∃u,h'.get? e=some u)
  (new:ObjOk X.prog X.w (upd H x o) h' x o):Inv X a7 σ (upd H x o) {s with heap:=h',toks:=t' }:=I.un (Un.write mu he k uc) (I.hok.write mu he k uc new)
theorem Inv.pins_of{da}(I:Inv X a7 σ H s)(h:∀p∈da,s.heap.get? p.1=some p.2/\H p.1=none/\p.1≠X.env.locals/\p.1∉X.fs/\∀v,p.2.data≠.cell v):Inv X da σ H s:=
 #[I.ok,I.os,I.bare,I.base,I.loc,I.cell,I.free,I.freeC,λp hp=>(aA hp).elim (λz=>I.pin p (ll9 _ z)) (h p),I.hok,I.len]
theorem kx7{N:List Str}(hN:N.Nodup){i j:Nat}{x}(a:N[i]?=some x)(b:N[j]?=some x):i=j:=by
 obtain⟨h1,e1⟩:=List.getElem?_eq_some_iff.mp a;obtain⟨h2,e2⟩:=List.getElem?_eq_some_iff.mp b;exact(List.getElem_inj hN).mp (e1.trans e2.symm)
theorem qzf{M A E i x v u Q}(I:Inv X a7 σ H s)(hN:X.N.Nodup)(hi:X.N[i]?=some x)(hx:Loc X.env.scope x)(r:RelV v u)
  (h:∀s',Inv X a7 (σ.set i (some v)) H s'->(∃a,Heap.SameBut a s.heap s'.heap/\(a=X.env.locals\/X.env.cells.lookup x=some a))->Q () s') (hf:autoParam (X.fn x=true\/X.env.scope.names.lookup x=some .local) Ř):wpAny M A (storeName X.env x u) Q E s:=by
 obtain⟨m,hn,hl⟩:=id I.loc;have rz:(X.env.scope.kind == .class||(X.env.scope.kind == .module&&X.env.locals != X.env.globals))=false:=by rw[I.ok.kind];rfl
 have tz:i < σ.length:=by rw[I.len];exact(List.getElem?_eq_some_iff.mp hi).1
 have cne:=I.cne;have ju:∀{a h'},(∃o,s.heap.get? a=some o/\H a=none)->Heap.SameBut a s.heap h'->HOk X.prog X.w H h':=fun {a h'} ha hs b ob e=>by
  refine(I.hok b ob e).stay (λc w' hc q=>(hs.2 c ?_).trans q) (λ_ q=>q) λ_ _ q=>q
  rintro rfl;rcases hc with rfl|hc
  ·grind
  ·grind
 rcases hx with hk|hk
 ·refine wpAny_storeName_local hk hn (λh' ur hs=>?_) rz;obtain⟨oL,_,_,ut,_⟩:=id hn;refine h _ #[I.ok,I.os,I.bare,#[λb o e n hb hx=>?_,λb o e n hb hx=>?_,I.base.free,λb o e hx=>?_,I.base.tups,I.base.frzs,I.base.tbls],#[_,ur,λj y v' e1 e2 e3=>?_],λy c e=>?_,I.free,I.freeC,λp hp=>?_,ju #[oL,ut,I.free] hs,by simpa using I.len] #[_,hs,.inl rfl]
  ·exact(hs.2 b (Xv (Xp (Xl e) I.ok.above))).trans (I.base.keep b o e n hb hx)
  ·obtain⟨sl,e1⟩:=I.base.slot b o e n hb hx;exact#[sl,(hs.2 b (Xv (Xp (Xl e) I.ok.above))).trans e1]
  ·obtain⟨o',e1⟩:=I.base.there b o e hx;exact#[o',(hs.2 b (Xv (Xp (Xl e) I.ok.above))).trans e1]
  ·by_cases hj:j=i
   ·subst hj;rw[hi]at e1;cases e1;rw[Y0 tz]at e2;cases e2;exact#[u,r,.inl #[hk,by simp]]
   ·rw[Y6 (Z9 hj)]at e2;obtain⟨u',r',q⟩:=hl j y v' e1 e2 e3;refine#[u',r',?_];rcases q with⟨k,e⟩|⟨k,c,e,z⟩
    ·refine .inl #[k,?_];have:y≠x:=λe=>hj (kx7 hN e1 (e▸hi))
     simp[this,e]
    ·exact .inr #[k,c,e,z.sameBut hs (cne y c e)]
  ·obtain⟨w',z⟩:=I.cell y c e;exact#[w',z.sameBut hs (cne y c e)]
  ·obtain⟨e,n,ne,nf,d⟩:=I.pin p hp;exact#[(hs.2 p.1 ne).trans e,n,ne,nf,d]
 ·have hfn:X.fn x=true:=by
   rcases hf with z|z
   ·exact z
   ·grind
  obtain⟨c,hc⟩:=I.ok.has x (.inl hk);obtain⟨w',z⟩:=I.cell x c hc;refine wpAny_storeName_cell I.ok.kind hk hc z (λh' nv hs=>?_);obtain⟨oc,hoc,hocd⟩:=id z;refine h {s with heap:=h' } #[I.ok,I.os,I.bare,#[λb o e n hb hx=>?_,λb o e n hb hx=>?_,I.base.free,λb o e hx=>?_,I.base.tups,I.base.frzs,I.base.tbls],#[m,hn.sameBut hs (Z9 (cne x c hc)),λj y v' e1 e2 e3=>?_],λy c' e=>?_,I.free,I.freeC,λp hp=>?_,ju #[oc,hoc,I.freeC x c hc] hs,by simpa using I.len] #[c,hs,.inr hc]
  ·exact(hs.2 b (Xv (Xp (Xl e) (I.ok.cab x c hfn hc)))).trans (I.base.keep b o e n hb hx)
  ·obtain⟨sl,e1⟩:=I.base.slot b o e n hb hx;exact#[sl,(hs.2 b (Xv (Xp (Xl e) (I.ok.cab x c hfn hc)))).trans e1]
  ·obtain⟨o',e1⟩:=I.base.there b o e hx;exact#[o',(hs.2 b (Xv (Xp (Xl e) (I.ok.cab x c hfn hc)))).trans e1]
  ·by_cases hj:j=i
   ·subst hj;rw[hi]at e1;cases e1;rw[Y0 tz]at e2;cases e2;exact#[u,r,.inr #[.inl hk,c,hc,nv]]
   ·rw[Y6 (Z9 hj)]at e2;obtain⟨u',r',q⟩:=hl j y v' e1 e2 e3;refine#[u',r',?_];rcases q with q|⟨k,c',e,z'⟩
    ·exact .inl q
    ·refine .inr #[k,c',e,z'.sameBut hs ?_];rintro rfl;exact hj (kx7 hN e1 (I.ok.inj _ _ _ e hc▸hi))
  ·by_cases cu:c'=c
   ·subst cu;exact#[_,nv]
   ·obtain⟨w2,z2⟩:=I.cell y c' e;exact#[w2,z2.sameBut hs cu]
  ·obtain⟨e,n,ne,nf,d⟩:=I.pin p hp;refine#[(hs.2 p.1 ?_).trans e,n,ne,nf,d];intro q;rw[q,hoc]at e;have q':oc=p.2:=oq9 e;exact d w' (q'▸hocd)
theorem jzl{M A E i x v u Q}(I:Inv X a7 σ H s)(hN:X.N.Nodup)(hi:X.N[i]?=some x)(hx:Loc X.env.scope x)(r:RelV v u)
  (h:∀s',Inv X a7 (σ.set i (some v)) H s'->Q () s') (hf:autoParam (X.fn x=true\/X.env.scope.names.lookup x=some .local) Ř):wpAny M A (storeName X.env x u) Q E s:=
 qzf I hN hi hx r (λs' I' _=>h s' I') hf
theorem Inv.call'{s' ch}(I:Inv X a7 σ H s)(ho:s'.os=s.os)(u:Un (frs X.stack) ch H H' s.heap s'.heap)(hok:HOk X.prog X.w H' s'.heap)(hg:AllBare s'.gens)
  (jy:∀b∈ch,(b∈X.ex\/X.s₀.heap.get? b=none)/\b≠X.env.locals/\(∀x c,X.env.cells.lookup x=some c->c≠b)/\∀p∈X.pn++a7,p.1≠b):Inv X a7 σ H' s':=by
 obtain⟨h',g',d',t',o'⟩:=s';subst ho;exact I.call (g':=g') (t':=t') (d':=d') u hok hg jy
end
abbrev XK:=Value->Option Addr->Hp->Prop
abbrev St:=List (Option V)
abbrev VK:=V->Hp->Prop
abbrev TE:=St->Hp->VK->Prop
abbrev TT:=St->Hp->(Bool->Hp->Prop)->Prop
abbrev TA:=St->Hp->(List V->Hp->Prop)->Prop
structure Ends where
 nx:St->Hp->Prop
 rt:VK
 bk:St->Hp->Prop:=λ_ _=>False
 ct:St->Hp->Prop:=λ_ _=>False
abbrev TS:=Ends->St->Hp->Prop
noncomputable def EP(X:Cx)(a7:LA9)(σ:St)(Q:VK)(u:Value)(s':Shared):Prop:=∃v H',Inv X a7 σ H' s'/\RelV v u/\Q v H'
noncomputable def TP(X:Cx)(a7:LA9)(σ:St)(Q:Bool->Hp->Prop)(b:Bool)(s':Shared):Prop:=∃H',Inv X a7 σ H' s'/\Q b H'
noncomputable def AP(X:Cx)(a7:LA9)(σ:St)(Q:List V->Hp->Prop)(us:List Value)(s':Shared):Prop:=∃vs H',Inv X a7 σ H' s'/\Vals vs us/\Q vs H'
set_option tactic.hygienic true in
noncomputable def SP(X:Cx)(a7:LA9)(D:Ends)(f:Flow)(s':Shared):Prop:=
 match f with
 |.next=>∃ σ' H',Inv X a7 σ' H' s'/\D.nx σ' H'|.brk=>∃ σ' H',Inv X a7 σ' H' s'/\D.bk σ' H'|.cont=>∃ σ' H',Inv X a7 σ' H' s'/\D.ct σ' H'|.ret u=>∃v σ' H',Inv X a7 σ' H' s'/\RelV v u/\D.rt v H'
noncomputable def PE(X:Cx)(e:Expr)(t:TE):Prop:=
 ∀(a7:LA9) (s:Shared) (σ:St) (H:Hp) (Q:VK),Inv X a7 σ H s->t σ H Q->wpAny (model X.prog X.w) X.A (eval e X.env) (EP X a7 σ Q) X.xe s
noncomputable def PT(X:Cx)(e:Expr)(t:TT):Prop:=
 ∀(a7:LA9) (s:Shared) (σ:St) (H:Hp) (Q:Bool->Hp->Prop),Inv X a7 σ H s->t σ H Q->wpAny (model X.prog X.w) X.A (isTrue e X.env (eval e X.env)) (TP X a7 σ Q) X.xe s
noncomputable def PW(X:Cx)(e:Expr)(t:TT):Prop:=
 ∀(gr:Sem Value) (a7:LA9) (s:Shared) (σ:St) (H:Hp) (Q:Bool->Hp->Prop),Inv X a7 σ H s->t σ H Q->wpAny (model X.prog X.w) X.A (isTrue e X.env gr) (TP X a7 σ Q) X.xe s
theorem PW.pt{X e t}(h:PW X e t):PT X e t:=h _
noncomputable def PA(X:Cx)(es:List Expr)(t:TA):Prop:=
 ∀(pos:Pos) (a7:LA9) (s:Shared) (σ:St) (H:Hp) (Q:List V->Hp->Prop),Inv X a7 σ H s->t σ H Q->wpAny (model X.prog X.w) X.A (spliced (backTo pos (starEach es X.env))) (AP X a7 σ Q) X.xe s
noncomputable def PS(X:Cx)(st:Stmt)(t:TS):Prop:=
 ∀(a7:LA9) (s:Shared) (σ:St) (H:Hp) (D:Ends),Inv X a7 σ H s->t D σ H->wpAny (model X.prog X.w) X.A (exec st X.env) (SP X a7 D) X.xe s
noncomputable def PSs(X:Cx)(st:List Stmt)(t:TS):Prop:=
 ∀(a7:LA9) (s:Shared) (σ:St) (H:Hp) (D:Ends),Inv X a7 σ H s->t D σ H->wpAny (model X.prog X.w) X.A (execs st X.env) (SP X a7 D) X.xe s
theorem thn{α t}{Q Q':α->Shared->Prop}{M A E s}(h:wpAny M A t Q E s)(hQ:∀a s,Q a s->Q' a s):wpAny M A t Q' E s:=wpAny_mono h hQ λ_ _ x=>x
section
variable {X:Cx}
abbrev J4(i:Nat):TE:=fun σ H Q=>∃v,σ[i]?=some (some v)/\Q v H
abbrev tC(v:V):TE:=λ_ H Q=>Q v H
abbrev _root_.Abd(x:Str):Prop:=(x==("__debug__":Str))=false
theorem ww1{i x pos}(hN:X.N[i]?=some x)(hv:Vis X.env.scope x)(hd:autoParam (Abd x) ŕ)(jm:autoParam ((x==("__classdict__":Str))=false) ŕ):PE X (.Name x pos) (J4 i):=by
 rintro a7 s σ H Q I ⟨v,e,h⟩;obtain⟨m,hn,hl⟩:=I.loc;obtain⟨u,r,l⟩:=hl i x v hN e hv;have fin:EP X a7 σ Q u s:=#[v,H,I,r,h];rcases l with⟨hk,hm⟩|⟨hk,c,hc,hcell⟩
 ·exact wpAny_Name (wpAny_loadName_local I.ok.kind hk hn hm fin) hd
 ·rcases hk with hk|hk
  ·exact wpAny_Name (wpAny_loadName_cell I.ok.kind hk hc hcell fin) hd
  ·exact wpAny_Name (wpAny_loadName_free I.ok.kind hk hc hcell fin jm) hd
theorem vjh{i j pos}:PE X (.Constant (.int i) j pos) (tC (.int i)):=λ_ _ _ H _ I h=>wpAny_Constant_int #[.int i,H,I.tok _,#[_,rfl],h]
theorem xjs{b j pos}:PE X (.Constant (.bool b) j pos) (tC (.bl b)):=λ_ _ _ H _ I h=>Constant_bool #[.bl b,H,I,rfl,h]
theorem ww4{j pos}:PE X (.Constant .none j pos) (tC .non):=λ_ _ _ H _ I h=>Constant_none #[.non,H,I,rfl,h]
theorem zW{x j pos}:PE X (.Constant (.str x) j pos) (tC (.str x)):=λ_ _ _ H _ I h=>Calls.Constant_str #[.str x,H,I.tok _,#[_,rfl],h]
noncomputable def Gl(X:Cx)(x:Str):Prop:=X.env.kindOf x=some .globalImplicit
theorem kql{E a7 s}{σ:St}{H x u pos Q}(I:Inv X a7 σ H s)(hg:Gl X x)(hm:X.mg x=some u)(h:Q u s)
  (hd:autoParam (Abd x) ŕ):wpAny (model X.prog X.w) X.A (eval (.Name x pos) X.env) Q E s:=
 Calls.Name_function_global I.ok.kind hg (Calls.loadGlobal_global (I.ok.glob▸I.mod.glob.keeps I.bk) hm h) hd
theorem kw5{E a7 s}{σ:St}{H x u pos Q}(I:Inv X a7 σ H s)(hg:Gl X x)(hm:X.mg x=none)(hv:bootBuiltins x=some u)(h:Q u s)
  (hn:autoParam (x≠"__name__") ŕ) (hd:autoParam (Abd x) ŕ):wpAny (model X.prog X.w) X.A (eval (.Name x pos) X.env) Q E s:=by
 obtain⟨mb,h1,h2⟩:=I.mod.blt;exact Calls.Name_function_global I.ok.kind hg (Calls.loadGlobal_builtin (I.ok.glob▸I.mod.glob.keeps I.bk) hm (I.ok.blt▸h1.keeps I.bk) ((h2 x hn).trans hv) h) hd
theorem vji{x v u pos}(hg:Gl X x)(hm:X.mg x=some u)(r:RelV v u)(hd:autoParam (Abd x) ŕ):PE X (.Name x pos) (tC v):=
 λ_ _ _ H _ I h=>kql I hg hm #[v,H,I,r,h] hd
theorem vjl{x v u pos}(hg:Gl X x)(hm:X.mg x=none)(hv:bootBuiltins x=some u)(r:RelV v u)(hn:autoParam (x≠"__name__") ŕ)(hd:autoParam (Abd x) ŕ):PE X (.Name x pos) (tC v):=
 λ_ _ _ H _ I h=>kw5 I hg hm hv #[v,H,I,r,h] hn hd
variable {a b:Expr}{ta tb:TE}{pos:Pos}
variable {tA tB':TT}{b6:List Expr}
abbrev tAnd(t u:TT):TT:=fun σ H Q=>t σ H λc H1=>if c=true then u σ H1 Q else Q false H1
abbrev tOr(t u:TT):TT:=fun σ H Q=>t σ H λc H1=>if c=true then Q true H1 else u σ H1 Q
abbrev tNot(t:TT):TT:=fun σ H Q=>t σ H λc H1=>Q (!c) H1
theorem wj7(ha:PT X a tA):PW X (.BoolOp .And [a] pos) tA:=by
 intro wh a7 s σ H Q I h;refine isTrue_and (thn (ha a7 s σ H Q I h) λc s1 e=>?_);cases c with|true=>exact isTrue_and_nil e|false=>exact e
theorem wvp(ha:PT X a tA):PW X (.BoolOp .Or [a] pos) tA:=by
 intro wh a7 s σ H Q I h;refine isTrue_or (thn (ha a7 s σ H Q I h) λc s1 e=>?_);cases c with|false=>exact isTrue_or_nil e|true=>exact e
theorem wvq(ha:PT X a tA)(hb:PW X (.BoolOp .And (b::b6) pos) tB'):PW X (.BoolOp .And (a::b::b6) pos) (tAnd tA tB'):=by
 intro wh a7 s σ H Q I h;refine isTrue_and (thn (ha a7 s σ H _ I h) λc s1 hz=>?_);obtain⟨H1,I1,q1⟩:=hz;cases c with|true=>exact hb wh a7 s1 σ H1 Q I1 q1|false=>exact#[H1,I1,q1]
theorem xjo(ha:PT X a tA)(hb:PW X (.BoolOp .Or (b::b6) pos) tB'):PW X (.BoolOp .Or (a::b::b6) pos) (tOr tA tB'):=by
 intro wh a7 s σ H Q I h;refine isTrue_or (thn (ha a7 s σ H _ I h) λc s1 hz=>?_);obtain⟨H1,I1,q1⟩:=hz;cases c with|true=>exact#[H1,I1,q1]|false=>exact hb wh a7 s1 σ H1 Q I1 q1
theorem wvr(ha:PT X a tA):PT X (.UnaryOp .Not a pos) (tNot tA):=by
 intro a7 s σ H Q I h;exact isTrue_not (ha a7 s σ H _ I h)
abbrev wzz(ta tb:TE):TE:=fun σ H Q=>ta σ H λx H1=>∃c,x=.bl c/\if c=true then tb σ H1 Q else Q (.bl false) H1
abbrev tOrV(ta tb:TE):TE:=fun σ H Q=>ta σ H λx H1=>∃c,x=.bl c/\if c=true then Q (.bl true) H1 else tb σ H1 Q
theorem ww3{op t}(h:PE X a t):PE X (.BoolOp op [a] pos) t:=λa7 s σ H Q I hw=>BoolOp_one (h a7 s σ H Q I hw)
theorem ww7(ha:PE X a ta)(hb:PE X (.BoolOp .And (b::b6) pos) tb):PE X (.BoolOp .And (a::b::b6) pos) (wzz ta tb):=by
 intro a7 s σ H Q I h;refine BoolOp_and (thn (ha a7 s σ H _ I h) λv s1 hz=>?_);obtain⟨x,H1,I1,r1,q1⟩:=hz;obtain⟨c,rfl,q1⟩:=q1;cases r1;refine Yo ?_;cases c with|true=>exact hb a7 s1 σ H1 Q I1 q1|false=>exact#[.bl false,H1,I1,rfl,q1]
theorem xjp(ha:PE X a ta)(hb:PE X (.BoolOp .Or (b::b6) pos) tb):PE X (.BoolOp .Or (a::b::b6) pos) (tOrV ta tb):=by
 intro a7 s σ H Q I h;refine BoolOp_or (thn (ha a7 s σ H _ I h) λv s1 hz=>?_);obtain⟨x,H1,I1,r1,q1⟩:=hz;obtain⟨c,rfl,q1⟩:=q1;cases r1;refine Yo ?_;cases c with|false=>exact hb a7 s1 σ H1 Q I1 q1|true=>exact#[.bl true,H1,I1,rfl,q1]
abbrev tIf(t:TT)(ta tb:TE):TE:=fun σ H Q=>t σ H λc H1=>if c=true then ta σ H1 Q else tb σ H1 Q
theorem vw0{c}(hc:PT X c tA)(ha:PE X a ta)(hb:PE X b tb):PE X (.IfExp c a b pos) (tIf tA ta tb):=by
 intro a7 s σ H Q I h;refine wpAny_IfExp (thn (hc a7 s σ H _ I h) λd s1 hz=>?_);obtain⟨H1,I1,q1⟩:=hz;cases d with|true=>exact ha a7 s1 σ H1 Q I1 q1|false=>exact hb a7 s1 σ H1 Q I1 q1
end
noncomputable def SqL(K:Frag)(H:Hp)(a:Addr)(xs:List V):Prop:=
 Rd H a (.lst xs) \/
  ∃(o:Obj) (aq:Array Value) (n:Nat),K.lookup a=some o/\o.cls=.type "list"/\o.dict=none/\o.data=.seq aq n/\aq.size<=sizeLine/\Vals xs aq.toList
noncomputable def SqT(K:Frag)(H:Hp)(a:Addr)(xs:List V):Prop:=
 Rd H a (.tup xs) \/
  ∃(o:Obj) (aq:Array Value) (n:Nat),K.lookup a=some o/\o.cls=.type "tuple"/\o.dict=none/\o.data=.seq aq n/\aq.size<=sizeLine/\Vals xs aq.toList
noncomputable def absV:Value->Option V
 |.none=>some .non|.bool b=>some (.bl b)|.int i _=>some (.int i)|.str x _=>some (.str x)|.bytes b _=>some (.byt b)|.float b _=>some (.flt b)|.ref a=>some (.ref a)|.type n=>some (.ty n)|_=>none
theorem RelV.abs{x u}(r:RelV x u):absV u=some x:=by
 cases x with|non=>cases r;rfl|bl _=>cases r;rfl|int _=>obtain⟨t,rfl⟩:=r;rfl|str _=>obtain⟨t,rfl⟩:=r;rfl|byt _=>obtain⟨t,rfl⟩:=r;rfl|flt _=>obtain⟨t,rfl⟩:=r;rfl|ref _=>cases r;rfl|ty _=>cases r;rfl
theorem RelV.inj{x y u}(r:RelV x u)(q:RelV y u):x=y:=oq9 (r.abs.symm.trans q.abs)
theorem Vals.inj:∀{xs ys us},Vals xs us->Vals ys us->xs=ys
 |_,_,_,.nil,.nil=>rfl|_,_,_,.cons r t,.cons r' t'=>by rw[r.inj r',Vals.inj t t']
section
variable {X:Cx}{a7:LA9}{σ:St}{H:Hp}{s:Shared}{a:Addr}{xs ys:List V}
theorem SqL.of{K}(h:H a=some (.lst xs)):SqL K H a xs:=.inl (.inl h)
theorem SqT.of{K}(h:H a=some (.tup xs)):SqT K H a xs:=.inl (.inl h)
theorem Inv.list(I:Inv X a7 σ H s)(h:SqL X.K H a xs):∃aq,Vals xs aq/\PlainL s.heap a aq.toArray/\xs.length<=sizeLine:=by
 rcases h with h|⟨o,aq,n,hk,hc,hd,hs,hz,r⟩
 ·obtain⟨z,aq,n,r,e⟩:=h.ok I.hok;exact#[aq,r,#[_,n,e,rfl,rfl,rfl],z]
 ·refine#[aq.toList,r,#[o,n,I.kIn a o hk,hc,hd,by simpa using hs],?_];have e:=r.length;simp at e;lia
theorem Inv.tuple(I:Inv X a7 σ H s)(h:SqT X.K H a xs):∃aq,Vals xs aq/\IsTup s.heap a aq.toArray/\xs.length<=sizeLine:=by
 rcases h with h|⟨o,aq,n,hk,hc,_,hs,hz,r⟩
 ·obtain⟨z,aq,r,p⟩:=h.ok I.hok;exact#[aq,r,p.tup,z]
 ·refine#[aq.toList,r,#[o,I.kIn a o hk,hc,n,by simpa using hs],?_];have e:=r.length;simp at e;lia
theorem Inv.list_inj(I:Inv X a7 σ H s)(h:SqL X.K H a xs)(h':SqL X.K H a ys):xs=ys:=by
 obtain⟨aq,r,⟨o,n,e,_,_,d⟩,_⟩:=I.list h;obtain⟨its',r',⟨o',n',e',_,_,d'⟩,_⟩:=I.list h';rw[e]at e';cases e';rw[d]at d';injection d' with d1 _;have:aq=its':=by simpa using congrArg Array.toList d1
 subst this;exact r.inj r'
theorem Inv.tuple_inj(I:Inv X a7 σ H s)(h:SqT X.K H a xs)(h':SqT X.K H a ys):xs=ys:=by
 obtain⟨aq,r,⟨o,e,_,n,d⟩,_⟩:=I.tuple h;obtain⟨its',r',⟨o',e',_,n',d'⟩,_⟩:=I.tuple h';rw[e]at e';cases e';rw[d]at d';injection d' with d1 _;have:aq=its':=by simpa using congrArg Array.toList d1
 subst this;exact r.inj r'
end
abbrev Cx.wish(X:Cx)(E:VP9):Cx:={X with xe:=E}
abbrev Cx.nox(X:Cx):Cx:=X.wish λ_ _=>False
theorem Cx.Ok.wish{X:Cx}(ok:X.Ok) E:(X.wish E).Ok:=
 #[ok.mod,ok.kind,ok.glob,ok.blt,ok.above,ok.inj,ok.has,ok.cab,ok.hd,ok.frames,ok.stk,ok.exf,ok.bs,ok.bsz,ok.noex,ok.exfs,ok.funs,ok.frf]
theorem Cx.Ok.unwish{X:Cx}{E}(ok:(X.wish E).Ok):X.Ok:=
 #[ok.mod,ok.kind,ok.glob,ok.blt,ok.above,ok.inj,ok.has,ok.cab,ok.hd,ok.frames,ok.stk,ok.exf,ok.bs,ok.bsz,ok.noex,ok.exfs,ok.funs,ok.frf]
section
variable {X:Cx}{a7:LA9}{σ:St}{H:Hp}{s:Shared}{E:VP9}
theorem Inv.wish(I:Inv X a7 σ H s) E:Inv (X.wish E) a7 σ H s:=#[I.ok.wish E,I.os,I.bare,I.base,I.loc,I.cell,I.free,I.freeC,I.pin,I.hok,I.len]
theorem Inv.unwish(I:Inv (X.wish E) a7 σ H s):Inv X a7 σ H s:=#[I.ok.unwish,I.os,I.bare,I.base,I.loc,I.cell,I.free,I.freeC,I.pin,I.hok,I.len]
set_option tactic.hygienic true in
theorem SP.unwish{D f s'}(h:SP (X.wish E) a7 D f s'):SP X a7 D f s':=by
 cases f with|next=>obtain⟨σ',H',I,q⟩:=h;exact#[σ',H',I.unwish,q]|brk=>obtain⟨σ',H',I,q⟩:=h;exact#[σ',H',I.unwish,q]|cont=>obtain⟨σ',H',I,q⟩:=h;exact#[σ',H',I.unwish,q]|ret u=>obtain⟨v,σ',H',I,r,q⟩:=h;exact#[v,σ',H',I.unwish,r,q]
end
section
variable {X:Cx}{st:Stmt}{b6:List Stmt}{t u:TS}{e:Expr}{te:TE}{pos:Pos}
abbrev wzx:TS:=λD σ H=>D.nx σ H
abbrev tSeq(t u:TS):TS:=λD σ H=>t {D with nx:=u D} σ H
theorem vj7:PSs X [] wzx:=λ_ _ σ H _ I h=>wpAny_execs_nil #[σ,H,I,h]
set_option tactic.hygienic true in
theorem qvk(h1:PS X st t)(h2:PSs X b6 u):PSs X (st::b6) (tSeq t u):=by
 intro a7 s σ H D I h;refine wpAny_execs_cons (thn (h1 a7 s σ H {D with nx:=u D} I h) λf s1 q=>?_);cases f with
 |next=>
  obtain⟨σ',H',I',q⟩:=q;exact h2 a7 s1 σ' H' D I' q
 |ret v=>exact q|brk=>exact q|cont=>exact q
set_option tactic.hygienic true in
theorem YZ(h1:PS X st t):PSs X [st] t:=by
 intro a7 s σ H D I h;refine wpAny_execs_cons (thn (h1 a7 s σ H D I h) λf s1 q=>?_);cases f with|next=>exact wpAny_execs_nil q|ret v=>exact q|brk=>exact q|cont=>exact q
theorem Inv.quiet{a7}{σ:St}{H s}(I:Inv X a7 σ H s):interactive X.env=false:=by simp[interactive,I.ok.kind]
abbrev wqi(te:TE):TS:=λD σ H=>te σ H λ_ H1=>D.nx σ H1
theorem WV(he:PE X e te)(hs:autoParam (swapsWith e none pos.line X.env=pure false) Ŕ):PS X (.Expr e pos) (wqi te):=by
 intro a7 s σ H D I h;exact wpAny_Expr_any (thn (he a7 s σ H _ I h) λv s1 hz=>by obtain⟨x,H1,I1,r1,q1⟩:=hz;exact#[σ,H1,I1,q1]) I.quiet hs
abbrev tRet(te:TE):TS:=λD σ H=>te σ H D.rt
theorem vja(he:PE X e te):PS X (.Return (some e) pos) (tRet te):=by
 intro a7 s σ H D I h;exact wpAny_Return_some (thn (he a7 s σ H _ I h) λv s1 hz=>by obtain⟨x,H1,I1,r1,q1⟩:=hz;exact#[x,σ,H1,I1,r1,q1])
abbrev tIfS(c:TT)(t u:TS):TS:=λD σ H=>c σ H λb H1=>if b=true then t D σ H1 else u D σ H1
theorem vvu{c a b tc}(hc:PT X c tc)(ha:PSs X a t)(hb:PSs X b u):PS X (.If c a b pos) (tIfS tc t u):=by
 intro a7 s σ H D I h;refine wpAny_If (thn (hc a7 s σ H _ I h) λd s1 hz=>?_);obtain⟨H1,I1,q1⟩:=hz;cases d with|true=>exact ha a7 s1 σ H1 D I1 q1|false=>exact hb a7 s1 σ H1 D I1 q1
end
abbrev TG:=V->St->Hp->(St->Hp->Prop)->Prop
abbrev TGs:=List V->St->Hp->(St->Hp->Prop)->Prop
noncomputable def PG(X:Cx)(gp:Expr)(t:TG):Prop:=
 ∀(a7:LA9) (s:Shared) (σ:St) (H:Hp) (v:V) (u:Value) (Q:St->Hp->Prop),Inv X a7 σ H s->RelV v u->t v σ H Q ->
  wpAny (model X.prog X.w) X.A (assign gp X.env u) (λ_ s'=>∃ σ' H',Inv X a7 σ' H' s'/\Q σ' H') X.xe s
noncomputable def PGs(X:Cx)(ts:List Expr)(t:TGs):Prop:=
 ∀(a7:LA9) (s:Shared) (σ:St) (H:Hp) (vs:List V) (us:List Value) (Q:St->Hp->Prop),Inv X a7 σ H s->Vals vs us->t vs σ H Q ->
  wpAny (model X.prog X.w) X.A (assignInOrder ((assignEach ts X.env).map (·.2)) us) (λ_ s'=>∃ σ' H',Inv X a7 σ' H' s'/\Q σ' H') X.xe s
abbrev xkw:=V->V->V->Hp->(Hp->Prop)->Prop
noncomputable def xqu(X:Cx)(t:xkw):Prop:=
 ∀(a7:LA9) (s:Shared) (σ:St) (H:Hp) (o i v:V) (ov iv u:Value) (Q:Hp->Prop),Inv X a7 σ H s->RelV o ov->RelV i iv->RelV v u->t o i v H Q ->
  wpAny (model X.prog X.w) X.A (setItem ov iv u) (λ_ s'=>∃H',Inv X a7 σ H' s'/\Q H') X.xe s
section
variable {X:Cx}{pos:Pos}
abbrev vkt(i:Nat):TG:=λv σ H Q=>Q (σ.set i (some v)) H
theorem qkx{i x}(hN:X.N.Nodup)(hi:X.N[i]?=some x)(hx:Loc X.env.scope x)(hf:autoParam (X.fn x=true\/X.env.scope.names.lookup x=some .local) Ř):PG X (.Name x pos) (vkt i):=by
 intro a7 s σ H v u Q I r h;exact wpAny_assign_Name (jzl I hN hi hx r (λs' I'=>#[_,H,I',h]) hf)
abbrev xqo:TGs:=λvs σ H Q=>vs=[]/\Q σ H
abbrev wxf(t:TG)(u:TGs):TGs:=λvs σ H Q=>∃v r,vs=v::r/\t v σ H fun σ' H'=>u r σ' H' Q
theorem vjg:PGs X [] xqo:=by
 rintro a7 s σ H vs us Q I r ⟨e,h⟩;subst e;exact assignInOrder_nil #[σ,H,I,h]
theorem YV{e es t u}(h1:PG X e t)(h2:PGs X es u)
  (hs:autoParam ((assignEach (e::es) X.env).map (·.2)=assign e X.env::(assignEach es X.env).map (·.2)) Ŕ):PGs X (e::es) (wxf t u):=by
 rintro a7 s σ H vs us Q I r ⟨v,vr,e1,h⟩;subst e1;cases r with
 |cons r rr=>
  rw[hs];exact assignInOrder_cons (thn (h1 a7 s σ H _ _ _ I r h) λ_ s1 hz=>by obtain⟨σ1,H1,I1,q1⟩:=hz;exact(h2 a7 s1 σ1 H1 _ _ Q I1 rr q1))
abbrev gSub(to ti:TE)(t:xkw):TG:=λv σ H Q=>to σ H λo H1=>ti σ H1 λi H2=>t o i v H2 λH3=>Q σ H3
theorem ww0{o i:Expr}{to ti:TE}{t:xkw}(ho:PE X o to)(hi:PE X i ti)(hs:xqu X t)
  (ha:autoParam (∀v,assign (.Subscript o i pos) X.env v=(do
   let ov <-holding [v] (eval o X.env)
   let iv <-holding [v,ov] (eval i X.env)
   standAt pos
   holding [v,ov,iv] (setItem ov iv v)
   release [v,ov,iv] [])) Ŗ):PG X (.Subscript o i pos) (gSub to ti t):=by
 intro a7 s σ H v u Q I r h;rw[ha];refine X0 (Y4 (thn (ho a7 s σ H _ I h) λov s1 hz=>?_));obtain⟨x,H1,I1,r1,q1⟩:=hz;refine X0 (Y4 (thn (hi a7 s1 σ H1 _ I1 q1) λiv s2 hz=>?_));obtain⟨y,H2,I2,r2,q2⟩:=hz;refine X0 (wpAny_standAt (X0 (Y4 (thn (hs a7 s2 σ H2 x y v ov iv u _ I2 r1 r2 r q2) λ_ s3 hz=>?_))));obtain⟨H3,I3,q3⟩:=hz;exact wpAny_release #[σ,H3,I3,q3]
abbrev xq1(te:TE)(g:TG):TS:=λD σ H=>te σ H λx H1=>g x σ H1 D.nx
theorem wvt{tg e te g}(he:PE X e te)(hg:PG X tg g)(hs:autoParam (swapsWithSole [tg] e pos.line X.env=pure false) Ŕ)(hw:autoParam (swappedStores [tg] e X.env=pure none) Ŕ)
  (h1:autoParam ((assignEach [tg] X.env).map (·.2)=[assign tg X.env]) Ŕ):PS X (.Assign [tg] e pos) (xq1 te g):=by
 intro a7 s σ H D I h;refine wpAny_Assign_stores (thn (he a7 s σ H _ I h) λv s1 hz=>?_) hs hw;obtain⟨x,H1,I1,r1,q1⟩:=hz;rw[h1];exact thn (hg a7 s1 σ H1 x v _ I1 r1 q1) λ_ s2 q=>q
theorem wvs{i x e te cm}(hN:X.N.Nodup)(hi:X.N[i]?=some x)(hx:Loc X.env.scope x)(he:PE X e te)(hs:autoParam (swapsWith e (some (.Name x cm)) pos.line X.env=pure false) Ŕ)(hf:autoParam (X.fn x=true\/X.env.scope.names.lookup x=some .local) Ř):
  PS X (.Assign [.Name x cm] e pos) (xq1 te (vkt i)):=by
 intro a7 s σ H D I h;exact wpAny_Assign_Name (thn (he a7 s σ H _ I h) λv s1 hz=>by obtain⟨y,H1,I1,r1,q1⟩:=hz;exact(jzl I1 hN hi hx r1 (λs2 I2=>#[_,H1,I2,q1]) hf)) hs
end
structure It where
 go:Nat->Hp->Prop
 yld:Nat->Hp->V->Hp->Prop
 stop:Nat->Hp->Prop
noncomputable def zx(X:Cx)(a7:LA9)(H:Hp)(b:Addr):Prop:=
 H b=none/\b≠X.env.locals/\b∉X.fs/\(b∈X.ex\/X.s₀.heap.objs.size<=b)/\(∀x c,X.env.cells.lookup x=some c->c≠b)/\∀p∈X.pn++a7,p.1≠b
theorem Inv.fpOk{X a7}{σ:St}{H H' s}{b:Addr}(I:Inv X a7 σ H s)(hb:s.heap.objs.size<=b)(hn:H' b=none):zx X a7 H' b:=by
 refine#[hn,Nat.ne_of_gt (Xp I.lt hb),I.nofs hb,.inr (Xs I.sz hb),λx c e z=>?_,λp hp z=>?_]
 ·obtain⟨v,q⟩:=I.cell x c e;exact absurd (Xp q.lt (z▸hb)) (Yw _)
 ·exact absurd (Xp (Xl (I.pin p hp).1) (z▸hb)) (Yw _)
structure Turn (P:Program)(w:World)(K:Frag)(tg:Expr)(J:It)(fp:List Addr)(it:Addr)(tn:Nat->Heap->Prop):Prop where
 mem:it∈fp
 obj:∀i h,tn i h->∀b∈fp,∃o,h.get? b=some o/\∀v,o.data≠.cell v
 keep:∀i h h',tn i h->(∀b∈fp,∀o,h.get? b=some o->h'.get? b=some o)->tn i h'
 item:∀(X:Cx),X.prog=P->X.w=w->X.K=K->X.calm=true->∀(i:Nat) (a7:LA9) (s:Shared) (σ:St) (H:Hp) (E:VP9),Inv X a7 σ H s->(∀b∈fp,zx X a7 H b)->tn i s.heap->J.go i H ->
  wpAny (model P w) X.A (pyNext (.ref it)) (λr s1=>∃u,r=some u /\
   wpAny (model P w) X.A (letOwnedTupleGo tg (.ref it) u) (λ_ s2=>∃x H',Inv X a7 σ H' s2/\RelV x u/\J.yld i H x H'/\tn (i+1) s2.heap/\∀b∈fp,H' b=none) E s1) E s
 done:∀(X:Cx),X.prog=P->X.w=w->X.K=K->X.calm=true->∀(i:Nat) (a7:LA9) (s:Shared) (σ:St) (H:Hp) (E:VP9),Inv X a7 σ H s->(∀b∈fp,zx X a7 H b)->tn i s.heap->J.stop i H ->
  wpAny (model P w) X.A (pyNext (.ref it)) (λr s1=>r=none/\Inv X a7 σ H s1) E s
 self:∀(A:Around) (i:Nat) (s:Shared) (Q:VP9) (E:VP9),tn i s.heap->Q (.ref it) s->wpAny (model P w) A (pyIter (.ref it)) Q E s
abbrev TI:=St->Hp->(It->Hp->Prop)->Prop
noncomputable def PIE(X:Cx)(a7:LA9)(σ:St)(tg:Expr)(R:It->Hp->Prop)(itv:Value)(s2:Shared):Prop:=
 ∃(it:Addr) (fp:List Addr) (tn:Nat->Heap->Prop) (J:It) (H':Hp),itv=.ref it/\Inv X a7 σ H' s2/\Turn X.prog X.w X.K tg J fp it tn/\tn 0 s2.heap/\(∀b∈fp,zx X a7 H' b)/\R J H'
noncomputable def PI(X:Cx)(tg bc:Expr)(wi:TI):Prop:=
 ∀(a7:LA9) (s:Shared) (σ:St) (H:Hp) (R:It->Hp->Prop),Inv X a7 σ H s->wi σ H R ->
  wpAny (model X.prog X.w) X.A (eval bc X.env) (λv s1=>wpAny (model X.prog X.w) X.A (pyIter v) (PIE X a7 σ tg R) X.xe s1) X.xe s
theorem vwj {M A E s tg it u o n vs Q} (ho : s.heap.get? it = some o) (hc : o.cls = .type n) (hd : o.data = .fields vs)
    (hn : ["enumerate", "zip", "dict_itemiterator", "dict_reverseitemiterator", "odict_iterator", "itertools.zip_longest", "itertools.pairwise"].contains n = false) (hQ : Q () s): wpAny M A (letOwnedTupleGo tg (.ref it) u) Q E s:= by
  cases tg <;> first
    |exact X9 hQ
    |(cases u <;> first
        |exact X9 hQ
        | (refine X0 (wpAny_load ho ?_)
           rw[hc,hd];show wpAny M A (if _ = true then _ else _) Q E s;rw[Xd (by grind)];exact X9 hQ))
noncomputable def Itl(K:Frag)(a:Addr):It:=
 ⟨λi H=>∃xs x,SqL K H a xs/\xs[i]?=some x,λi H x H'=>H'=H/\∀xs,SqL K H a xs->xs[i]?=some x,λi H=>∃xs,SqL K H a xs/\xs.length<=i⟩
noncomputable def Itt(K:Frag)(a:Addr):It:=
 ⟨λi H=>∃xs x,SqT K H a xs/\xs[i]?=some x,λi H x H'=>H'=H/\∀xs,SqT K H a xs->xs[i]?=some x,λi H=>∃xs,SqT K H a xs/\xs.length<=i⟩
noncomputable def Itr(lo:Int)(n:Nat):It:=⟨λi _=>i<n,λi H x H'=>H'=H/\x=.int (lo+i),λi _=>n<=i⟩
theorem qz7{P w K tg}(a it):Turn P w K tg (Itl K a) [it] it (λi h=>h.IsListIter it a i) where
 mem:=by simp
 obj:=λi h st b hb=>by
  have e:b=it:=by simpa using hb
  subst e;obtain⟨o,e,c,d⟩:=st;exact#[o,e,λv z=>by rw[d]at z;cases z]
 keep:=λi h h' st k=>st.at λo e=>k it (by simp) o e
 item:=by
  intro X hP hw hK hc i a7 s σ H E I hf st hg;subst hP hw hK;obtain⟨xs,x,hq,hx⟩:=hg;obtain⟨aq,rv,p,hz⟩:=I.list hq;obtain⟨u,hu,ru⟩:=rv.get hx;obtain⟨f0,f1,f2,f3,f4,f5⟩:=hf it (by simp);refine wpAny_pyNext_list_item st p.isList (by simpa using hu) λh' dq sb=>?_
  have I1:Inv X a7 σ H {s with heap:=h' }:=I.turned (t':=s.toks) (λb o hb e=>(sb.2 b hb).trans e) f0 f1 f3 f4 f5;obtain⟨o,e,c,d⟩:=id dq;exact#[u,rfl,vwj e c d ⋯ #[x,H,I1,ru,#[rfl,λys hy=>by rw[I.list_inj hy hq];exact hx],dq,λb hb=>(hf b hb).1]]
 done:=by
  intro X hP hw hK hc i a7 s σ H E I hf st hg;subst hP hw hK;obtain⟨xs,hq,hx⟩:=hg;obtain⟨aq,rv,p,hz⟩:=I.list hq;obtain⟨f0,f1,f2,f3,f4,f5⟩:=hf it (by simp);have hl:=rv.length;exact wpAny_pyNext_list_end (I.ok.hd hc) st p.isList (by simp;lia) λh' eb=>#[rfl,I.turned (t':=s.toks) (λb o hb e=>eb b o hb e) f0 f1 f3 f4 f5]
 self:=λ_ _ _ _ _ st h=>wpAny_pyIter_listiter st h
theorem qwo{P w K tg}(a it):Turn P w K tg (Itt K a) [it] it (λi h=>h.IsTupleIter it a i) where
 mem:=by simp
 obj:=λi h st b hb=>by
  have e:b=it:=by simpa using hb
  subst e;obtain⟨o,e,c,d⟩:=st;exact#[o,e,λv z=>by rw[d]at z;cases z]
 keep:=λi h h' st k=>st.at λo e=>k it (by simp) o e
 item:=by
  intro X hP hw hK hc i a7 s σ H E I hf st hg;subst hP hw hK;obtain⟨xs,x,hq,hx⟩:=hg;obtain⟨aq,rv,p,hz⟩:=I.tuple hq;obtain⟨u,hu,ru⟩:=rv.get hx;obtain⟨f0,f1,f2,f3,f4,f5⟩:=hf it (by simp);refine wpAny_pyNext_tuple_item st (p) (x:=u) (by simpa using hu) λh' dq sb=>?_
  have I1:Inv X a7 σ H {s with heap:=h' }:=I.turned (t':=s.toks) (λb o hb e=>(sb.2 b hb).trans e) f0 f1 f3 f4 f5;obtain⟨o,e,c,d⟩:=id dq;exact#[u,rfl,vwj e c d ⋯ #[x,H,I1,ru,#[rfl,λys hy=>by rw[I.tuple_inj hy hq];exact hx],dq,λb hb=>(hf b hb).1]]
 done:=by
  intro X hP hw hK hc i a7 s σ H E I hf st hg;subst hP hw hK;obtain⟨xs,hq,hx⟩:=hg;obtain⟨aq,rv,p,hz⟩:=I.tuple hq;obtain⟨f0,f1,f2,f3,f4,f5⟩:=hf it (by simp);have hl:=rv.length;exact wpAny_pyNext_tuple_end (I.ok.hd hc) st (p) (by simp;lia) λh' eb=>#[rfl,I.turned (t':=s.toks) (λb o hb e=>eb b o hb e) f0 f1 f3 f4 f5]
 self:=λ_ _ _ _ _ st h=>wpAny_pyIter_tupleiter st h
theorem qwp{P w K tg}(it)(lo)(n):Turn P w K tg (Itr lo n) [it] it (λi h=>IsRangeIter h it (lo+(i)*1) ((n) - (i)) 1) where
 mem:=by simp
 obj:=λi h st b hb=>by
  have e:b=it:=by simpa using hb
  subst e;exact#[_,st,λv z=>by
   cases z]
 keep:=λi h h' st k=>k it (by simp) _ st
 item:=by
  intro X hP hw hK hc i a7 s σ H E I hf st hg;subst hP hw hK;obtain⟨f0,f1,f2,f3,f4,f5⟩:=hf it (by simp);refine(Walks.range (prog:=X.prog) (w:=X.w) (I.ok.hd hc) it lo 1 n).item i s _ _ hg st λv h' tk hv dq kk=>?_
  obtain⟨t,rfl⟩:=hv;have I1:Inv X a7 σ H {s with heap:=h',toks:=tk}:=I.turned (λb o hb e=>kk b o (by simpa using hb) e) f0 f1 f3 f4 f5;refine#[_,rfl,vwj dq rfl rfl ⋯ #[.int _,H,I1,#[t,?_],#[rfl,rfl],dq,λb hb=>(hf b hb).1]];rw[Int.mul_one]
 done:=by
  intro X hP hw hK hc i a7 s σ H E I hf st hg;obtain⟨f0,f1,f2,f3,f4,f5⟩:=hf it (by simp);exact wpAny_pyNext_range_end (I.ok.hd hc) st (by have:n<=i:=hg;lia) λh' eb=>#[rfl,I.turned (t':=s.toks) (λb o hb e=>eb b o hb e) f0 f1 f3 f4 f5]
 self:=λ_ _ _ _ _ st h=>wpAny_pyIter_rangeiter st h
section
variable {X:Cx}{tg:Expr}
theorem vvm{a7}{σ:St}{H s R E lo hi t u v tk}(I:Inv X a7 σ H s)(h1:-(2 ^ 62)<=lo)(h2:lo<2 ^ 62)(h3:-(2 ^ 62)<=hi)(h4:hi<2 ^ 62)
  (q:R (Itr lo (hi - lo).toNat) H):wpAny (model X.prog X.w) X.A (pyIter (.ref s.heap.objs.size)) (PIE X a7 σ tg R) E {s with heap:=s.heap.push {cls:=.type "range",data:=.fields (List.toArray [.int lo t,.int hi u,.int 1 v])},toks:=tk}:=by
 refine wpAny_pyIter_range (IsRange.new ..) (small_one h1 h2 h3 h4) ?_;have I1:Inv X a7 σ H {s with heap:=s.heap.push {cls:=.type "range",data:=.fields (List.toArray [.int lo t,.int hi u,.int 1 v])},toks:=tk}:=I.kept λb o e=>X4 _ e
 refine#[(s.heap.push {cls:=.type "range",data:=.fields (List.toArray [.int lo t,.int hi u,.int 1 v])}).objs.size,[(s.heap.push {cls:=.type "range",data:=.fields (List.toArray [.int lo t,.int hi u,.int 1 v])}).objs.size],_,_,H,rfl,
  I1.kept (t':=tk) λb o e=>X4 _ e,qwp _ lo (hi - lo).toNat,?_,λb hb=>?_,q]
 ·have e1:lo+((0:Nat):Int)*1=lo:=by simp
  have e2:(((hi - lo).toNat:Nat):Int) - ((0:Nat):Int)=Builtin.Range.rangeSize lo hi 1:=by rw[rangeSize_one];split<;>lia
  rw[e1,e2];exact Xh _ rfl
 ·have e:b=(s.heap.push {cls:=.type "range",data:=.fields (List.toArray [.int lo t,.int hi u,.int 1 v])}).objs.size:=by simpa using hb
  subst e;exact I1.fpOk (Xk _) (I1.hok.fresh (Xk _))
abbrev xka(ta:TA):TI:=fun σ H R=>ta σ H λvs H1=>∃j:Int,vs=[.int j]/\-(2 ^ 62)<=j/\j<2 ^ 62/\R (Itr 0 j.toNat) H1
theorem vjf{a ta p pos}(hg:Gl X "range")(hm:X.mg "range"=none)(ha:PA X [a] ta)(hs:autoParam (starEach [a] X.env=[(false,eval a X.env)]) Ŕ):PI X tg (.Call (.Name "range" p) [a] [] pos) (xka ta):=by
 intro a7 s σ H R I h;refine Call_ (kw5 I hg hm boot_range (PyProof.Rows.callWith_type1 (thn (ha pos a7 s σ H _ I h) λus s1 hz=>?_) hs rfl));obtain⟨vs,H1,I1,r1,q1⟩:=hz;obtain⟨j,e,q1,q2,q⟩:=q1;subst e;cases r1 with
 |cons r rr=>
  cases rr;obtain⟨t,rfl⟩:=r;exact call_range_1 (vvm I1 ⋯ ⋯ q1 q2 (by simpa using q))
abbrev tFor(wi:TI)(g:TG)(tb:TS):TS:=λD σ H=>wi σ H λJ H1=>∃W:Nat->Nat->St->Hp->Prop,(∃m,W 0 m σ H1)/\∀i m σ H,W i m σ H ->
 (J.stop i H/\D.nx σ H)\/(J.go i H/\∃N:St->Hp->Prop,(∀ σ' H',N σ' H'->∃m',m'<m/\W (i+1) m' σ' H')/\∀x H',J.yld i H x H'->g x σ H' fun σ2 H2=>tb {D with nx:=N,ct:=N,bk:=D.nx} σ2 H2)
noncomputable def Vz(fp:List Addr)(h:Heap):LA9:=fp.filterMap λb=>(h.get? b).map λo=>(b,o)
theorem kjl{fp h b o}(hb:b∈fp)(e:h.get? b=some o):(b,o)∈Vz fp h:=List.mem_filterMap.mpr #[b,hb,by rw[e];rfl]
theorem qja{fp h p}(hp:p∈Vz fp h):p.1∈fp/\h.get? p.1=some p.2:=by
 obtain⟨b,hb,e⟩:=List.mem_filterMap.mp hp;cases q:h.get? b with
 |none=>rw[q]at e;cases e
 |some o=>
  rw[q]at e;have e':=oq9 e;subst e';exact#[hb,q]
theorem Inv.pinned{a7}{σ:St}{H s fp}(I:Inv X a7 σ H s)(hf:∀b∈fp,zx X a7 H b)(ho:∀b∈fp,∃o,s.heap.get? b=some o/\∀v,o.data≠.cell v):Inv X (a7++Vz fp s.heap) σ H s:=
 I.pins_of λp hp=>(aA hp).elim (λz=>I.pin p (lr9 _ z)) λz=>by
  obtain⟨hb,e⟩:=qja z;obtain⟨f0,f1,f2,_⟩:=hf p.1 hb;obtain⟨o,e',d⟩:=ho p.1 hb;rw[e]at e';cases e';exact#[e,f0,f1,f2,d]
theorem Inv.unpinned{a7 pl}{σ:St}{H s}(I:Inv X (a7++pl) σ H s):Inv X a7 σ H s:=I.pins_of λp hp=>I.pin p (lr9 _ (ll9 _ hp))
set_option tactic.hygienic true in
theorem vxn{bc:Expr}{body:List Stmt}{wi:TI}{g:TG}{tb:TS}{pos:Pos}(hp:PassesOwn (model X.prog X.w) X.A X.env X.xe)(hc:X.calm=true)(hi:PI X tg bc wi)(hg:PG X tg g)(hb:PSs X body tb)
  (hs:autoParam (∀x,foldedSetIterable bc X.env x=pure x) Ŗ):PS X (.For tg bc body [] pos) (tFor wi g tb):=by
 intro a7 s σ H D I h;refine wpAny_For (thn (hi a7 s σ H _ I h) λv s1 h1=>thn h1 λitv s2 h2=>?_) hs;obtain⟨it,fp,tn,J,H2,e,I2,T,st2,f2,W,⟨m0,w0⟩,ig⟩:=h2;subst e;have jr:∀{H':Hp},(∀b∈fp,H' b=none)->∀b∈fp,zx X a7 H' b:=λhn b hb=>#[hn b hb,(f2 b hb).2]
 refine codeAny_forLoop_any (λn s'=>∃i σ' H',Inv X a7 σ' H' s'/\tn i s'.heap/\(∀b∈fp,H' b=none)/\W i n σ' H') ?_ m0 #[0,σ,H2,I2,st2,λb hb=>(f2 b hb).1,w0];rintro n s3 ⟨i,σ3,H3,I3,dy,rq,w3⟩;rcases ig i n σ3 H3 w3 with⟨stop,qn⟩|⟨go,N,hN,step⟩
 ·refine wpAny_passesOwn hp (thn (T.done X rfl rfl rfl hc i a7 s3 σ3 H3 X.xe I3 (jr rq) dy stop) λr s4 #[hr,I4]=>?_);subst hr;exact wpAny_execs_nil #[σ3,H3,I4,qn]
 ·refine wpAny_passesOwn hp (thn (T.item X rfl rfl rfl hc i a7 s3 σ3 H3 X.xe I3 (jr rq) dy go) λr s4 #[u,hr,h4]=>?_);subst hr;refine wpAny_passesOwn hp (thn h4 λ_ s5 #[x,H5,I5,r5,y5,ka,fr5]=>?_);have I5':=I5.pinned (jr fr5) (T.obj _ _ ka);refine wpAny_passesOwn hp (thn (hg _ s5 σ3 H5 x u _ I5' r5 (step x H5 y5)) λ_ s6 #[σ6,H6,I6,q6]=>?_);refine wpAny_passesOwn hp (thn (hb _ s6 σ6 H6 _ I6 q6) λf s7 q7=>?_);have again:∀{σ7:St} {H7:Hp},Inv X (a7++Vz fp s5.heap) σ7 H7 s7->N σ7 H7->∃m,m<n/\∃i σ' H',Inv X a7 σ' H' s7/\tn i s7.heap/\(∀b∈fp,H' b=none)/\W i m σ' H':=fun {σ7 H7} I7 n7=>by
   obtain⟨m',hm,w7⟩:=hN σ7 H7 n7;refine#[m',hm,i+1,σ7,H7,I7.unpinned,T.keep _ _ _ ka λb hb o e=>(I7.pin (b,o) (lr9 _ (lr9 _ (kjl hb e)))).1,λb hb=>?_,w7];obtain⟨o,e,d⟩:=T.obj _ _ ka b hb;exact(I7.pin (b,o) (lr9 _ (lr9 _ (kjl hb e)))).2.1
  cases f with|next=>obtain⟨σ7,H7,I7,n7⟩:=q7;exact again I7 n7|cont=>obtain⟨σ7,H7,I7,n7⟩:=q7;exact again I7 n7|brk=>obtain⟨σ7,H7,I7,q7⟩:=q7;exact#[σ7,H7,I7.unpinned,q7]|ret v=>obtain⟨x7,σ7,H7,I7,r7,q7⟩:=q7;exact#[x7,σ7,H7,I7.unpinned,r7,q7]
end
abbrev R2:=V->V->Hp->VK->Prop
noncomputable def OpR(X:Cx)(f:Value->Value->Sem Value)(r:R2):Prop:=
 ∀(a7:LA9) (s:Shared) (σ:St) (H:Hp) (x y:V) (v u:Value) (Q:VK),Inv X a7 σ H s->RelV x v->RelV y u->r x y H Q ->
  wpAny (model X.prog X.w) X.A (f v u) (EP X a7 σ Q) X.xe s
noncomputable def UnR(X:Cx)(f:Value->Sem Value)(r:V->Hp->VK->Prop):Prop:=
 ∀(a7:LA9) (s:Shared) (σ:St) (H:Hp) (x:V) (v:Value) (Q:VK),Inv X a7 σ H s->RelV x v->r x H Q ->
  wpAny (model X.prog X.w) X.A (f v) (EP X a7 σ Q) X.xe s
noncomputable def CallR(X:Cx)(f:Value)(r:List V->Hp->VK->Prop):Prop:=
 ∀(a7:LA9) (s:Shared) (σ:St) (H:Hp) (xs:List V) (us:List Value) (Q:VK),Inv X a7 σ H s->Vals xs us->r xs H Q ->
  wpAny (model X.prog X.w) X.A (call f us) (EP X a7 σ Q) X.xe s
noncomputable def TruR(X:Cx)(r:V->Hp->(Bool->Hp->Prop)->Prop):Prop:=
 ∀(a7:LA9) (s:Shared) (σ:St) (H:Hp) (x:V) (v:Value) (Q:Bool->Hp->Prop),Inv X a7 σ H s->RelV x v->r x H Q ->
  wpAny (model X.prog X.w) X.A (truthy v) (TP X a7 σ Q) X.xe s
abbrev tOp(r:R2)(ta tb:TE):TE:=fun σ H Q=>ta σ H λx H1=>tb σ H1 λy H2=>r x y H2 Q
abbrev tUn(r:V->Hp->VK->Prop)(ta:TE):TE:=fun σ H Q=>ta σ H λx H1=>r x H1 Q
noncomputable def rI(C:Int->Int->Prop)(g:Int->Int->V):R2:=λx y H Q=>∃i j,x=.int i/\y=.int j/\C i j/\Q (g i j) H
noncomputable def rI0(g:Int->Int->V):R2:=λx y H Q=>∃i j,x=.int i/\y=.int j/\Q (g i j) H
noncomputable def rU(g:Int->V):V->Hp->VK->Prop:=λx H Q=>∃i,x=.int i/\Q (g i) H
section
variable {X:Cx}{a b c:Expr}{ta tb tc:TE}{pos:Pos}
theorem xkt(ha:PE X a ta)(hb:PE X b tb){a7 s}{σ:St}{H}{R:V->V->Hp->Prop}(I:Inv X a7 σ H s)
  (h:ta σ H λx H1=>tb σ H1 λy H2=>R x y H2) {Q} {f:Value->Value->Sem Value}
  (hf:∀v u s2 x y H2,Inv X a7 σ H2 s2->RelV x v->RelV y u->R x y H2->wpAny (model X.prog X.w) X.A (f v u) Q X.xe s2):
  wpAny (model X.prog X.w) X.A (eval a X.env) (λv s₁=>wpAny (model X.prog X.w) X.A (eval b X.env) (λu s₂=>wpAny (model X.prog X.w) X.A (f v u) Q X.xe s₂) X.xe s₁) X.xe s:=by
 exact thn (ha a7 s σ H _ I h) λv s1 #[x,H1,I1,r1,q1]=>(thn (hb a7 s1 σ H1 _ I1 q1) λu s2 #[y,H2,I2,r2,q2]=>(hf v u s2 x y H2 I2 r1 r2 q2))
theorem xjq{op r}(ho:OpR X (binaryOp op) r)(ha:PE X a ta)(hb:PE X b tb):PE X (.BinOp a op b pos) (tOp r ta tb):=by
 intro a7 s σ H Q I h;exact wpAny_BinOp (xkt ha hb I h λv u s2 x y H2 I2 rx ry q=>ho a7 s2 σ H2 x y v u Q I2 rx ry q)
theorem ww2{op r}(ho:UnR X (unaryOp op) r)(ha:PE X a ta):PE X (.UnaryOp op a pos) (tUn r ta):=by
 intro a7 s σ H Q I h;exact UnaryOp_ (thn (ha a7 s σ H _ I h) λv s1 hz=>by obtain⟨x,H1,I1,r1,q1⟩:=hz;exact ho a7 s1 σ H1 x v Q I1 r1 q1)
theorem opI{f C}{g:Int->Int->Int}
  (rule:∀i j (t u) s Q E,C i j->Q (.int (g i j) s.toks) {s with toks:=s.toks+1}->wpAny (model X.prog X.w) X.A (f (.int i t) (.int j u)) Q E s):
  OpR X f (rI C λi j=>.int (g i j)):=by
 rintro a7 s σ H x y v u Q I rx ry ⟨i,j,rfl,rfl,hc,q⟩;obtain⟨t,rfl⟩:=rx;obtain⟨t',rfl⟩:=ry;exact rule i j t t' s _ _ hc #[.int _,H,I.tok _,#[_,rfl],q]
theorem opI0{f}{g:Int->Int->Int}
  (rule:∀i j (t u) s Q E,Q (.int (g i j) s.toks) {s with toks:=s.toks+1}->wpAny (model X.prog X.w) X.A (f (.int i t) (.int j u)) Q E s):
  OpR X f (rI0 λi j=>.int (g i j)):=by
 rintro a7 s σ H x y v u Q I rx ry ⟨i,j,rfl,rfl,q⟩;obtain⟨t,rfl⟩:=rx;obtain⟨t',rfl⟩:=ry;exact rule i j t t' s _ _ #[.int _,H,I.tok _,#[_,rfl],q]
theorem wzn{f}{g:Int->Int->Bool}
  (rule:∀i j (t u) (s) (Q) (E),Q (.bool (g i j)) s->wpAny (model X.prog X.w) X.A (f (.int i t) (.int j u)) Q E s):
  OpR X f (rI0 λi j=>.bl (g i j)):=by
 rintro a7 s σ H x y v u Q I rx ry ⟨i,j,rfl,rfl,q⟩;obtain⟨t,rfl⟩:=rx;obtain⟨t',rfl⟩:=ry;exact rule i j t t' s _ _ #[.bl _,H,I,rfl,q]
def xqx(i j:Int):Prop:=0<=j/\j<=1000000/\i.natAbs<2 ^ 64
theorem op_add:OpR X (binaryOp .Add) (rI0 λi j=>.int (i+j)):=opI0 λ_ _ _ _ _ _ _ q=>add_int q
theorem wwf:OpR X (binaryOp .Mod) (rI (λ_ j=>0<j) λi j=>.int (i % j)):=opI λi j _ _ _ _ _ hc q=>by
 exact mod_int' ⋯ (by rw[Int.fmod_eq_emod_of_nonneg i ⋯];exact q)
theorem wwe:OpR X (binaryOp .LShift) (rI xqx λi j=>.int (i*2 ^ j.toNat)):=opI λ_ _ _ _ _ _ _ hc q=>lshift_int_small hc.1 hc.2.1 hc.2.2 q
theorem unI{f}{g:Int->Int}
  (rule:∀i t s Q E,Q (.int (g i) s.toks) {s with toks:=s.toks+1}->wpAny (model X.prog X.w) X.A (f (.int i t)) Q E s):
  UnR X f (rU λi=>.int (g i)):=by
 rintro a7 s σ H x v Q I rx ⟨i,rfl,q⟩;obtain⟨t,rfl⟩:=rx;exact rule i t s _ _ #[.int _,H,I.tok _,#[_,rfl],q]
theorem vxb:UnR X (unaryOp .USub) (rU λi=>.int (-i)):=unI λ_ _ _ _ _ q=>neg_int q
end
section
variable {X:Cx}{a b c:Expr}{ta tb tc:TE}{pos:Pos}
theorem vkw{a7}{σ:St}{H s Q k k'}(I:Inv X a7 σ H s)(q:Q (.bl k) H)(e:k=k'):EP X a7 σ Q (.bool k') s:=by
 subst e;exact#[.bl k,H,I,rfl,q]
theorem wwg:OpR X (compareOp .Lt) (rI0 λi j=>.bl (decide (i<j))):=wzn λ_ _ _ _ _ _ _ q=>lt_int q
theorem WQ:OpR X (compareOp .LtE) (rI0 λi j=>.bl (decide (i<=j))):=wzn λ_ _ _ _ _ _ _ q=>le_int q
theorem xjv:OpR X (compareOp .Gt) (rI0 λi j=>.bl (decide (j<i))):=wzn λ_ _ _ _ _ _ _ q=>gt_int q
theorem xjw:OpR X (compareOp .GtE) (rI0 λi j=>.bl (decide (j<=i))):=wzn λ_ _ _ _ _ _ _ q=>ge_int q
theorem vjq:OpR X (compareOp .In) (λx y H Q=>∃i j,x=.str i/\y=.str j/\Q (.bl (!(Builtin.Str.occurrences j i 0 j.length 1).isEmpty)) H):=by
 rintro a7 s σ H x y v u Q I rx ry ⟨i,j,rfl,rfl,q⟩;obtain⟨t,rfl⟩:=rx;obtain⟨t',rfl⟩:=ry;exact in_str (vkw I q rfl)
theorem vxs:OpR X (compareOp .Is) (λx y H Q=>y=.non/\Q (.bl (decide (x=.non))) H):=by
 rintro a7 s σ H x y v u Q I rx ry ⟨rfl,q⟩;cases ry;refine is_none_gen (vkw I q ?_);cases x<;>first
  |(obtain⟨t,rfl⟩:=rx;rfl)
theorem vjp:OpR X (compareOp .IsNot) (λx y H Q=>y=.non/\Q (.bl (!decide (x=.non))) H):=by
 rintro a7 s σ H x y v u Q I rx ry ⟨rfl,q⟩;cases ry;refine isnot_none_gen (vkw I q ?_);cases x<;>first
  |(obtain⟨t,rfl⟩:=rx;rfl)
theorem OpR.or{f r r'}(h:OpR X f r)(h':OpR X f r'):OpR X f (λx y H Q=>r x y H Q\/r' x y H Q):=by
 intro a7 s σ H x y v u Q I rx ry q;rcases q with q|q
 ·exact h a7 s σ H x y v u Q I rx ry q
 ·exact h' a7 s σ H x y v u Q I rx ry q
theorem KZ b {op}(h:autoParam (op≠.In) ŕ)(h2:autoParam (op≠.NotIn) ŕ):behindInMarks op b=false:=by
 have e1:(op==CmpOp.In)=false:=by cases op<;>first|rfl|exact absurd rfl h
 have e2:(op==CmpOp.NotIn)=false:=by cases op<;>first|rfl|exact absurd rfl h2
 cases b<;>simp[behindInMarks,e1,e2]
theorem wji{op r}(ho:OpR X (compareOp op) r)(ha:PE X a ta)(hb:PE X b tb)(hm:behindInMarks op b=false):PE X (.Compare a [op] [b] pos) (tOp r ta tb):=by
 intro a7 s σ H Q I h;exact wpAny_Compare1 (xkt ha hb I h λv u s2 x y H2 I2 rx ry q=>ho a7 s2 σ H2 x y v u Q I2 rx ry q) hm
abbrev wqf(t:TE):TT:=fun σ H Q=>t σ H λx H'=>∃k,x=.bl k/\Q k H'
theorem wjb{op r}(ho:OpR X (compareOp op) r)(ha:PE X a ta)(hb:PE X b tb)(hm:behindInMarks op b=false):PT X (.Compare a [op] [b] pos) (wqf (tOp r ta tb)):=by
 intro a7 s σ H Q I h;refine wpAny_isTrue_Compare1 (thn (ha a7 s σ H _ I h) λv s1 #[x,H1,I1,r1,q1]=>thn (hb a7 s1 σ H1 _ I1 q1) λu s2 #[y,H2,I2,r2,q2]=>
  thn (ho a7 s2 σ H2 x y v u _ I2 r1 r2 q2) λc s3 #[z,H3,I3,r3,k,e,q3]=>?_) hm
 subst e;cases r3;exact Yo #[H3,I3,q3]
abbrev qzb(r r':R2)(ta tb tc:TE):TE:=fun σ H Q=>ta σ H λx H1=>tb σ H1 λy H2=>r x y H2 λz H3=>∃k,z=.bl k /\
 (if k=true then tc σ H3 λw' H4=>r' y w' H4 Q else Q (.bl false) H3)
theorem vw1{op js:CmpOp}{r r':R2}(ho:OpR X (compareOp op) r)(jh:OpR X (compareOp js) r')(ha:PE X a ta)(hb:PE X b tb)(hc:PE X c tc)
  (hm:lastMarks [op,js] [b,c]=false:=by ac_rfl):PE X (.Compare a [op,js] [b,c] pos) (qzb r r' ta tb tc):=by
 intro a7 s σ H Q I h;refine Compare_chain (thn (ha a7 s σ H _ I h) λv s1 #[x,H1,I1,r1,q1]=>chain_link (thn (hb a7 s1 σ H1 _ I1 q1) λu s2 #[y,H2,I2,r2,q2]=>
  thn (ho a7 s2 σ H2 x y v u _ I2 r1 r2 q2) λd s3 #[z,H3,I3,r3,k,e,q3]=>?_)) hm
 subst e;cases r3;refine Yo ?_;cases k with|false=>exact ite_ff #[.bl false,H3,I3,rfl,q3]|true=>exact ite_tt (chain_last (thn (hc a7 s3 σ H3 _ I3 q3) λw' s4 #[z',H4,I4,r4,q4]=>jh a7 s4 σ H4 y z' u w' Q I4 r2 r4 q4))
theorem vvr{op js r r'}(ho:OpR X (compareOp op) r)(jh:OpR X (compareOp js) r')(ha:PE X a ta)(hb:PE X b tb)(hc:PE X c tc)
  (hm:lastMarks [op,js] [b,c]=false:=by ac_rfl):PT X (.Compare a [op,js] [b,c] pos) (wqf (qzb r r' ta tb tc)):=by
 intro a7 s σ H Q I h;refine isTrue_chain (thn (ha a7 s σ H _ I h) λv s1 #[x,H1,I1,r1,q1]=>test_link (thn (hb a7 s1 σ H1 _ I1 q1) λu s2 #[y,H2,I2,r2,q2]=>
  thn (ho a7 s2 σ H2 x y v u _ I2 r1 r2 q2) λd s3 #[z,H3,I3,r3,k,e,q3]=>?_)) hm
 subst e;cases r3;refine Yo ?_;cases k with
 |false=>
  obtain⟨k',e',q'⟩:=q3;cases e';exact ite_ff #[H3,I3,q']
 |true=>
  refine ite_tt (test_last (thn (hc a7 s3 σ H3 _ I3 q3) λw' s4 #[z',H4,I4,r4,q4]=>thn (jh a7 s4 σ H4 y z' u w' _ I4 r2 r4 q4) λd' s5 #[z2,H5,I5,r5,k2,e2,q5]=>?_));subst e2;cases r5;exact Yo #[H5,I5,q5]
noncomputable def wzv(K:Frag)(x:V)(H:Hp)(k:Bool):Prop:=
 match x with
 |.non=>k=false|.bl b=>k=b|.int i=>k=(i != 0)|.str y=>y.length<=sizeLine/\k=((y.length:Int) != 0)|.byt y=>y.size<=sizeLine/\k=((y.size:Int) != 0)|.ref p=>(∃xs,SqL K H p xs/\k=!xs.isEmpty)\/(∃xs,SqT K H p xs/\k=!xs.isEmpty)\/∃bf,H p=some (.dK bf)/\k=!bf.isEmpty|_=>False
theorem qxe{κ bf}{vs:List (κ×Value)}(r:KV bf vs):(!vs.isEmpty)=!bf.isEmpty:=by
 cases r<;>rfl
theorem kw9{xs aq}(r:Vals xs aq):(!aq.toArray.isEmpty)=!xs.isEmpty:=by
 cases r<;>simp
theorem YJ:(sizeLine)<2 ^ 63:=⋯
theorem vxd:TruR X (λx H Q=>∃k,wzv X.K x H k/\Q k H):=by
 rintro a7 s σ H x v Q I rx ⟨k,e,q⟩;have hl:=YJ;have hs:sizeLine=16777216:=sizeLine_eq;cases x with
 | non=>
  cases rx;have e':k=false:=e;subst e';exact truthy_none #[H,I,q]
 | bl b=>
  cases rx;have e':k=b:=e;subst e';exact Yo #[H,I,q]
 | int i=>
  obtain⟨t,rfl⟩:=rx;have e':k=(i != 0):=e;subst e';exact PySem.P.truthy_int #[H,I,q]
 | str y=>
  obtain⟨t,rfl⟩:=rx;obtain⟨hy,e'⟩:y.length<=sizeLine/\k=((y.length:Int) != 0):=e;subst e';exact PySem.P.truthy_str ⋯ #[H,I.tok _,q]
 | byt y=>
  obtain⟨t,rfl⟩:=rx;obtain⟨hy,e'⟩:y.size<=sizeLine/\k=((y.size:Int) != 0):=e;subst e';exact PySem.W.truthy_bytes ⋯ #[H,I.tok _,q]
 | ref p=>
  cases rx;have e':(∃xs,SqL X.K H p xs/\k=!xs.isEmpty)\/(∃xs,SqT X.K H p xs/\k=!xs.isEmpty)\/∃bf,H p=some (.dK bf)/\k=!bf.isEmpty:=e;rcases e' with⟨xs,hx,e'⟩|⟨xs,hx,e'⟩|⟨bf,hx,e'⟩
  ·subst e';obtain⟨aq,r,pl,hz⟩:=I.list hx;have az:=r.length;exact wpAny_truthy_list pl.isList (by simp only[Xe];lia) #[H,I.tok _,by rw[kw9 r];exact q]
  ·subst e';obtain⟨aq,r,pl,hz⟩:=I.tuple hx;have az:=r.length;exact truthy_tuple pl (by simp only[Xe];lia) #[H,I.tok _,by rw[kw9 r];exact q]
  ·subst e';obtain⟨hz,hS,vs,r,m⟩:bf.length<=sizeLine/\(p==sysModules)=false/\∃vs,KV bf vs/\s.heap.DictOf (kxa X.prog X.w) p vs:=I.hok p _ hx;have az:bf.length=vs.length:=Paired.length r;exact wpAny_truthy_dict hS m ⋯ #[H,I.tok _,by rw[qxe r];exact q]
 |_=>exact(show False from e).elim
theorem vvq(ha:PE X a ta)(he:∀gr,isTrue a X.env gr=(do let v <-gr;standAt a.pos;holding [v] (truthy v))):
  PT X a (fun σ H Q=>ta σ H λx H'=>∃k,wzv X.K x H' k/\Q k H'):=by
 intro a7 s σ H Q I h;exact isTrue_plain (thn (ha a7 s σ H _ I h) λv s1 hz=>by obtain⟨x,H1,I1,r1,q1⟩:=hz;exact vxd a7 s1 σ H1 x v Q I1 r1 q1) (he _)
theorem op_add_str:OpR X (binaryOp .Add) (λx y H Q=>∃i j,x=.str i/\y=.str j/\i.length+j.length<=sizeLine/\Q (.str (i++j)) H):=by
 rintro a7 s σ H x y v u Q I rx ry ⟨i,j,rfl,rfl,hz,q⟩;obtain⟨t,rfl⟩:=rx;obtain⟨t',rfl⟩:=ry;exact add_str (λt' tk=>#[.str (i++j),H,I.tok _,#[_,rfl],q]) hz
theorem zQ{x us}(r:Vals [x] us):∃u,us=[u]/\RelV x u:=by
 cases r with|cons r1 r2=>cases r2;exact#[_,rfl,r1]
theorem qwn{x y us}(r:Vals [x,y] us):∃u w',us=[u,w']/\RelV x u/\RelV y w':=by
 cases r with
 |cons r1 r2=>
  cases r2 with|cons r3 r4=>cases r4;exact#[_,_,rfl,r1,r3]
theorem vqc:CallR X (.type "int") (λxs H Q=>(∃i,xs=[.int i]/\Q (.int i) H)\/∃k,xs=[.bl k]/\Q (.int (if k then 1 else 0)) H):=by
 intro a7 s σ H xs us Q I r h;rcases h with⟨i,rfl,q⟩|⟨k,rfl,q⟩
 ·obtain⟨u,rfl,t,rfl⟩:=zQ r;exact call_int_int #[.int i,H,I,#[_,rfl],q]
 ·obtain⟨u,rfl,r1⟩:=zQ r;cases r1;exact call_int_bool #[.int _,H,I.tok _,#[_,rfl],q]
end
structure ObjM (h:Heap)(x dx C:Addr)(mA:Str->Option Value):Prop where
 obj:h.get? x=some (PySem.W.instObj C dx)
 ns:h.Ns1 dx mA
 ne:dx≠x
set_option tactic.hygienic true in
theorem vk6{h:Heap}{dx mA}(n:h.Ns1 dx mA):∃od,h.get? dx=some od/\∀name,PySem.W.lookIn name od=some (mA name):=by
 obtain⟨o,es,ep,ho,hd,hk,_,hm⟩:=n;refine#[o,ho,λname=>?_];have e:=hm name;unfold nsFind findBy at e;rw[<-Array.find?_toList]at e;unfold PySem.W.lookIn;rw[hd];dsimp only
 split
 ·rename_i y q;rw[q]at e;exact congrArg some e
 ·rename_i q;have a:es.toList.any (·.refKey)=false:=by
   rw[List.any_eq_false];intro y hy;obtain⟨z,t,oz⟩:=hk y (Array.mem_toList_iff.mp hy);simp[DictEntry.refKey,oz]
  grind
theorem ObjM.look{h x dx C mA}(I:ObjM h x dx C mA):∃od,PySem.W.InstAt h x (PySem.W.instObj C dx) C (some od)/\∀name,PySem.W.lookIn name od=some (mA name):=
 let ⟨od,ho,hl⟩:=vk6 I.ns
 #[od,#[I.obj,rfl,rfl,ho],hl]
section
variable {P:Program}{w:World}{H H':Hp}{h h':Heap}{a C dx:Addr}{fs fs':List (Str×V)}
theorem wk9(hok:HOk P w H h)(e:H a=some (.ins C dx fs)):∃mA,ObjM h a dx C mA/\(∀f,xkx (fs.lookup f) (mA f))/\PySem.Within mA (fs.map (·.1))/\fs.length<=1000/\H dx=some (.own a):=by
 obtain⟨d,z,ne,ob,mA,n,r,q⟩:=(hok a _ e);exact#[mA,#[ob,n,ne],r,q,z,d]
end
structure Cls (K:Frag)(C:Addr):Prop where
 pg:PySem.W.plainGet K C Str.empty=true
 hd:PySem.W.hasDictIn K C=true
 po:PySem.W.plainOver K C=true
 sa:findIn K (.ref C) "__setattr__"=some (some (.builtin "object.__setattr__"))
theorem Cls.get{K C}(c:Cls K C) f:PySem.W.plainGet K C f=true:=c.pg
section
variable {X:Cx}{a7:LA9}{σ:St}{H:Hp}{s:Shared}{A:Around}{E:VP9}{Q:VP9}{c:Value}{b:Bool}
inductive TyOf (K:Frag)(H:Hp):V->Value->Prop where
 | non:TyOf K H .non (.type "NoneType")
 | bl (x:Bool):TyOf K H (.bl x) (.type "bool")
 | int (i:Int):TyOf K H (.int i) (.type "int")
 | str (x:Str):TyOf K H (.str x) (.type "str")
 | flt (x:UInt64):TyOf K H (.flt x) (.type "float")
 | lst {a:Addr} {xs:List V} (e:H a=some (.lst xs)):TyOf K H (.ref a) (.type "list")
 | frz {a:Addr} {o:Obj} {xs:List V} (e:H a=some (.frz o (.lst xs))):TyOf K H (.ref a) (.type "list")
 | tup {a:Addr} {xs:List V} (e:H a=some (.tup xs)):TyOf K H (.ref a) (.type "tuple")
 | dK {a:Addr} {bf:List (Key×V)} (e:H a=some (.dK bf)):TyOf K H (.ref a) (.type "dict")
 | dT {a:Addr} {bf:List (List Key×V)} (e:H a=some (.dT bf)):TyOf K H (.ref a) (.type "dict")
 | ins {a C dx:Addr} {fs:List (Str×V)} (e:H a=some (.ins C dx fs)) (cl:Cls K C) (ha:findIn K (.ref C) "__class__"=some (some (.builtin "object.__class__")))
   (hn:PySem.W.specialIn K (.builtin "object.__class__") "__get__"=some (some (.builtin "getset_descriptor.__get__"))) (htk:PySem.W.takesIn K (.builtin "object.__class__")=some true)
   (hm:PySem.W.mroIn K C (.type "object")=some true):TyOf K H (.ref a) (.ref C)
theorem vkk{x u t}(I:Inv X a7 σ H s)(rx:RelV x u)(ty:TyOf X.K H x t)(e:kitOne X.K t c=some b)(h:∀tk,Q (.bool b) {s with toks:=tk}):
  wpAny (model X.prog X.w) A (call (.builtin "isinstance") [u,c]) Q E s:=by
 cases ty with
 |non=>cases(rx);exact Y2 PySem.W.kitx_none I.kIn True.intro e (λz=>nomatch z) h
 |bl y=>cases(rx);exact Y2 PySem.W.kitx_bool I.kIn True.intro e (λz=>nomatch z) h
 |int i=>obtain⟨t,q⟩:=(rx);cases q;exact Y2 PySem.W.kitx_int I.kIn True.intro e (λz=>nomatch z) h
 |str y=>obtain⟨t,q⟩:=(rx);cases q;exact Y2 PySem.W.kitx_str I.kIn True.intro e (λz=>nomatch z) h
 |flt y=>obtain⟨t,q⟩:=(rx);cases q;exact Y2 PySem.W.kitx_float I.kIn True.intro e (λz=>nomatch z) h
 |@lst a xs ea=>
  cases(show u=Value.ref a from rx);obtain⟨_,_,n,_,h1⟩:=(I.hok a _ ea);exact Y2 PySem.W.kitx_list I.kIn #[_,h1,rfl] e (λz=>nomatch z) h
 |@frz a ob xs ea=>
  cases(rx);obtain⟨_,_,_,n,_,h1⟩:=(I.hok a _ ea);exact Y2 PySem.W.kitx_list I.kIn #[_,h1,rfl] e (λz=>nomatch z) h
 |@tup a xs ea=>
  cases(show u=Value.ref a from rx);obtain⟨_,_,_,p⟩:=(I.hok a _ ea);obtain⟨o,h1,h2,_⟩:=p;exact Y2 PySem.W.kitx_tuple I.kIn #[o,h1,h2] e (λz=>nomatch z) h
 |@dK a bf ea=>
  cases(show u=Value.ref a from rx);obtain⟨_,_,vs,_,p⟩:=(I.hok a _ ea);obtain⟨o,es,ep,h1,h2,_⟩:=p;exact Y2 PySem.W.kitx_dict I.kIn #[o,h1,h2.1] e (λz=>nomatch z) h
 |@dT a bf ea=>
  cases(show u=Value.ref a from rx);obtain⟨_,_,xs,_,o,es,ep,h1,h2,_⟩:=(I.hok a _ ea);exact Y2 PySem.W.kitx_dict I.kIn #[o,h1,h2.1] e (λz=>nomatch z) h
 |@ins a C dx fs ea cl ha hn htk hm=>
  cases(rx);obtain⟨mA,O,_⟩:=wk9 I.hok ea;obtain⟨od,J,_⟩:=O.look;exact Y2 (PySem.W.kitx_own (cl.get _) cl.hd ha hn htk hm) I.kIn J e (λz=>nomatch z) h
end
structure Room (k:Nat)(A:Around):Prop where
 hd:A.handled=none
 dp:A.depth+3*k+5<recursionLimit
 un:A.units+16*k+200<cLine
 gd:A.guards=some []
theorem Room.mono{j k A}(r:Room k A)(h:j<=k):Room j A:=#[r.hd,by have:=r.dp;lia,by have:=r.un;lia,r.gd]
theorem Room.deeper{k A}(r:Room (k+1) A) env:Room k (A.deeper env):=
 #[r.hd,by have:=r.dp;show A.depth+1+3*k+5<_;lia,by have:=r.un;show A.units+3+16*k+200<_;lia,r.gd]
theorem Room.depth{k A}(r:Room k A):A.depth<recursionLimit:=by have:=r.dp;lia
theorem Room.units{k A}(r:Room k A):A.units+64<cLine:=by have:=r.un;lia
abbrev wzj:TA:=λ_ H Q=>Q [] H
abbrev vv7(ta:TE)(tr:TA):TA:=fun σ H Q=>ta σ H λx H1=>tr σ H1 λxs H2=>Q (x::xs) H2
section
variable {X:Cx}{e:Expr}{es:List Expr}{te:TE}{t:TA}{pos:Pos}
theorem v6:PA X [] wzj:=λ_ _ _ _ H Q I h=>Calls.spliced_nil #[[],H,I,.nil,h]
abbrev _root_.Abs(e:Expr)(es:List Expr)(X:Cx):Prop:=starEach (e::es) X.env=(false,eval e X.env)::starEach es X.env
theorem kX(ha:PE X e te)(hr:PA X es t)(hs:autoParam (Abs e es X) Ŕ):PA X (e::es) (vv7 te t):=by
 intro pos a7 s σ H Q I h;rw[hs];exact Calls.spliced_cons (thn (ha a7 s σ H _ I h) λu s1 hz=>by obtain⟨x,H1,I1,r1,q1⟩:=hz;exact(thn (hr pos a7 s1 σ H1 _ I1 q1) λus s2 hz=>by obtain⟨xs,H2,I2,r2,q2⟩:=hz;exact#[x::xs,H2,I2,.cons r1 r2,q2]))
abbrev tTup(t:TA):TE:=fun σ H Q=>t σ H λxs H1=>xs.length<=sizeLine/\∀p,H1 p=none->Q (.ref p) (upd H1 p (.tup xs))
abbrev tLst(t:TA):TE:=fun σ H Q=>t σ H λxs H1=>xs.length<=sizeLine/\∀p,H1 p=none->Q (.ref p) (upd H1 p (.lst xs))
theorem vxq{x1}(h:PA X es t):PE X (.Tuple es x1 pos) (tTup t):=by
 intro a7 s σ H Q I hq;refine wpAny_Tuple_spliced (thn (h pos a7 s σ H _ I hq) λus s1 #[xs,H1,I1,r,z,q]=>#[by rw[<-r.length];exact z,(#[.ref s1.heap.objs.size,upd H1 s1.heap.objs.size _,I1.laid (t':=s1.toks) (λb u e=>X4 _ e) (Xk _) ?_,rfl,q _ (I1.hok.fresh (Xk _))])]);exact#[z,us,r,#[_,Xh _ rfl,rfl,rfl,_,rfl]]
theorem ww5(h:PA X es t):PE X (.List es pos) (tLst t):=by
 intro a7 s σ H Q I hq;refine wpAny_List_spliced (thn (h pos a7 s σ H _ I hq) λus s1 #[xs,H1,I1,r,z,q]=>#[by rw[<-r.length];exact z,(#[.ref s1.heap.objs.size,upd H1 s1.heap.objs.size _,I1.laid (t':=s1.toks) (λb u e=>X4 _ e) (Xk _) ?_,rfl,q _ (I1.hok.fresh (Xk _))])]);exact#[z,us,0,r,Xh _ rfl]
end
abbrev Sp:=List V->Hp->VK->XK->Prop
abbrev CXT:=List Env->Hp->Shared->XK->Value->Shared->Prop
structure Env0 (P:Program)(w:World)(K:Frag)(mg:Str->Option Value)(base:Heap)(A:Around)(outer:List Env)(s:Shared)(H:Hp):Prop where
 frames:A.frames=some outer
 mod:Mod K mg base
 bs:∀b o,base.get? b=some o->s.heap.get? b=some o/\H b=none
 bsz:base.objs.size<=s.heap.objs.size
 funs:s.heap.FunFrames base outer
 frf:∀b∈frs outer,H b=none
 hok:HOk P w H s.heap
 bare:AllBare s.gens
noncomputable def CE(outer:List Env)(P:Program)(w:World)(H:Hp)(s:Shared)(Q:VK)(u:Value)(s':Shared):Prop:=
 ∃v H',s'.os=s.os/\AllBare s'.gens/\Un (frs outer) [] H H' s.heap s'.heap/\HOk P w H' s'.heap/\RelV v u/\Q v H'
noncomputable def CR(CX:CXT)(outer:List Env)(P:Program)(w:World)(H:Hp)(s:Shared)(Q:VK)(E:XK)(r:Result)(s':Shared):Prop:=
 match r with
 |.ok (.ret u)=>CE outer P w H s Q u s'|.ok _=>False|.error e=>CX outer H s E e s'
structure FnOk (P:Program)(w:World)(K:Frag)(mg:Str->Option Value)(base:Heap)(CX:CXT)(k:Nat)(f:Addr)(fd:FuncData)(ps:List Str)(sp:Sp):Prop where
 len:∀vs H Q E,sp vs H Q E->vs.length=ps.length
 run:∀(A:Around) (outer:List Env) (s:Shared) (H:Hp) (args:Args) (us:List Value) (vs:List V) (Q:VK) (E:XK),Room k A->Env0 P w K mg base A outer s H->BindsTo s fd args (ps.zip us)->Vals vs us->sp vs H Q E ->
  codeAny (model P w) A (.call (.ref f) args) (CR CX outer P w H s Q E) s
section
variable {X:Cx}{a7:LA9}{σ:St}{H:Hp}{s s':Shared}
theorem Inv.env0(I:Inv X a7 σ H s):Env0 X.prog X.w X.K X.mg X.base X.A X.stack s H:=
 #[I.ok.frames,I.ok.mod,I.bs,Xs I.ok.bsz I.sz,I.stack,I.stkFree,I.hok,I.bare]
theorem Inv.after{Q u}(I:Inv X a7 σ H s)(h:CE X.stack X.prog X.w H s Q u s'):EP X a7 σ Q u s':=by
 obtain⟨v,H',os,bare,un,hok,r,q⟩:=h;obtain⟨hh,g,d,t,os'⟩:=s';obtain rfl:os'=s.os:=os;exact#[v,H',I.call (h':=hh) (g':=g) (d':=d) (t':=t) un hok bare (λb z=>absurd z (by simp)),r,q]
end
abbrev vzl(sp:Sp)(sw:List V)(E:XK)(t:TA):TE:=fun σ H Q=>t σ H λvs H1=>sp (vs++sw) H1 Q E
noncomputable def Binds(K:Frag)(fd:FuncData)(ps:List Str)(ds:List Value):Prop:=
 ∀(s:Shared) (us:List Value),K.In s.heap->(us++ds).length=ps.length->BindsTo s fd #[us,[]] (ps.zip (us++ds))
theorem Binds.all{K fd ps}(h:∀us,us.length=ps.length->bindArgs fd #[us,[]]=pure (ps.zip us)):Binds K fd ps []:=λs us _ hl=>by
 rw[Xr]at hl ⊢;exact .of_eq (h us hl)
noncomputable def vqu(CX:CXT)(X:Cx)(E:XK):Prop:=∀(a7:LA9) (σ:St) (H:Hp) (s:Shared) (e:Value) (s':Shared),Inv X a7 σ H s->CX X.stack H s E e s'->X.xe e s'
section
variable {X:Cx}{CX:CXT}{k:Nat}{f C:Addr}{fd:FuncData}{ps:List Str}{sp:Sp}{sw:List V}{ds:List Value}{E:XK}{x m:Str}{p pos bi:Pos}{e o:Expr}{es:List Expr}{ta:TE}{t:TA}
set_option tactic.hygienic true in
theorem wqv{a7}{σ:St}{H s Q us vs}(F:FnOk X.prog X.w X.K X.mg X.base CX k f fd ps sp)(hr:Room k X.A)(hb:Binds X.K fd ps ds)(hd:Vals sw ds)(hx:vqu CX X E)
  (I:Inv X a7 σ H s) (r:Vals vs us) (h:sp (vs++sw) H Q E):wpAny (model X.prog X.w) X.A (call (.ref f) us) (EP X a7 σ Q) X.xe s:=by
 have r2:=r.append hd;have hl:(us++ds).length=ps.length:=by rw[<-r2.length];exact F.len _ _ _ _ h
 refine wpAny_call (codeAny_mono (F.run X.A X.stack s H _ _ _ Q E hr I.env0 (hb s us I.kIn hl) r2 h) λr s' hq=>?_);cases r with
 |error e=>exact hx a7 σ H s e s' I hq
 |ok fl=>
  cases fl with|ret u=>exact I.after hq|next=>exact False.elim hq|brk=>exact False.elim hq|cont=>exact False.elim hq
abbrev _root_.Abb(p:Pos)(es:List Expr)(X:Cx):Prop:=(backTo p (starEach es X.env)).any (·.1)=false
theorem wjj(F:FnOk X.prog X.w X.K X.mg X.base CX k f fd ps sp)(hr:Room k X.A)(hg:Gl X x)(hm:X.mg x=some (.ref f))(hk:PySem.W.keepIn X.K (.ref f)=true)(hb:Binds X.K fd ps ds)(hd:Vals sw ds)(hx:vqu CX X E)
  (ha:PA X (e::es) t) (eh:autoParam (Abd x) ŕ) (he:autoParam (Abs e es X) Ŕ) (bv:autoParam (Abb pos es X) Ŕ):
  PE X (.Call (.Name x p) (e::es) [] pos) (vzl sp sw E t):=by
 intro a7 s σ H Q I h;exact Z5 (kql I hg hm (PySem.W.callWith_K I.ok.mod.kin hk (thn (ha pos a7 s σ H _ I h) λus s1 hz=>by obtain⟨vs,H1,I1,r,q⟩:=hz;exact#[I1.kIn,(wqv F hr hb hd hx I1 r q)]) he bv) eh)
end
structure FnScope (N P:List Str)(sc:Scope):Prop where
 kind:sc.kind=.function
 co:sc.isCoroutine=false
 gen:sc.isGenerator=false
 nd:N.Nodup
 pre:N.take P.length=P
 par:∀x∈P,sc.names.lookup x=some .local\/sc.names.lookup x=some .cell
 nofree:∀y∈sc.names,y.2≠.free
theorem qk4{kindOf x}: ∀{binds m},(∀v,(x,v)∉binds) -> bindL kindOf binds m x = m x
  | [],_,_=>rfl
  | (n,v)::r,m,h=>by
    unfold bindL;rw[qk4 λw hw=>h w (lc9 _ hw)]
    split
    · have : x≠n:= by rintro rfl; exact h v X2
      simp[this]
    · rfl
theorem qk6{kindOf x}: ∀{binds m},(∀v,(x,v)∉binds) -> bindC kindOf binds m x = m x
  | [],_,_=>rfl
  | (n,v)::r,m,h=>by
    unfold bindC;rw[qk6 λw hw=>h w (lc9 _ hw)]
    split
    · rfl
    · have : x≠n:= by rintro rfl; exact h v X2
      simp[this]
theorem qk5{kindOf x v}:∀{P:List Str} {vs} {i:Nat} {m},P.Nodup->P[i]?=some x->vs[i]?=some v->kindOf x=some .local ->
  bindL kindOf (P.zip vs) m x=some v
 |[],_,_,_,_,h,_,_=>by simp at h
 |p::P,w::vs,0,m,nd,h1,h2,hk=>by
  simp at h1 h2;subst h1;subst h2;show bindL kindOf (_::P.zip vs) m p=_;unfold bindL;rw[qk4 λv hv=>(List.nodup_cons.mp nd).1 (List.of_mem_zip hv).1,X8 hk];simp
 |p::P,w::vs,i+1,m,nd,h1,h2,hk=>by
  unfold bindL;exact qk5 (List.nodup_cons.mp nd).2 (by simpa using h1) (by simpa using h2) hk
theorem qk7{kindOf x v}:∀{P:List Str} {vs} {i:Nat} {m},P.Nodup->P[i]?=some x->vs[i]?=some v->kindOf x≠some .local ->
  bindC kindOf (P.zip vs) m x=some v
 |[],_,_,_,_,h,_,_=>by simp at h
 |p::P,w::vs,0,m,nd,h1,h2,hk=>by
  simp at h1 h2;subst h1;subst h2;show bindC kindOf (_::P.zip vs) m p=_;unfold bindC;rw[qk6 λv hv=>(List.nodup_cons.mp nd).1 (List.of_mem_zip hv).1,Xd hk];simp
 |p::P,w::vs,i+1,m,nd,h1,h2,hk=>by
  unfold bindC;exact qk7 (List.nodup_cons.mp nd).2 (by simpa using h1) (by simpa using h2) hk
noncomputable def start(N:List Str)(vs:List V):St:=vs.map some++List.replicate (N.length - vs.length) none
noncomputable def K6(CX:CXT)(P:Program)(w:World)(K:Frag)(mg:Str->Option Value)(base:Heap)(N:List Str)(qual:Str)(scope:Scope)(f:Addr)(cd:Value)(A:Around)(outer:List Env)(s:Shared)(H:Hp)(E:XK):Cx where
 prog:=P
 w:=w
 K:=K
 mg:=mg
 base:=base
 A:=A.deeper (envOfC qual scope s.heap.objs.size f cd)
 N:=N
 s₀:=s
 H₀:=H
 env:=envOfC qual scope s.heap.objs.size f cd
 outer:=outer
 stack:=envOfC qual scope s.heap.objs.size f cd::outer
 ex:=[]
 calm:=true
 fn:=λ_=>true
 pn:=[]
 xe:=λe s'=>wpAny (model P w) (A.deeper (envOfC qual scope s.heap.objs.size f cd)) (leaving (envOfC qual scope s.heap.objs.size f cd) e) (λ_ oh=>CX outer H s E e oh) (λe' oh=>CX outer H s E e' oh) s'
theorem qwh{sc:Scope}{n x}(h:sc.names.lookup x=some .cell):∃c,(cellsFrom n sc.names []).lookup x=some c:=by
 exact Option.isSome_iff_exists.mp (PySem.W.cellsFrom_some sc.names n [] (.inl h))
theorem vkl{CX P w K mg base N ps qual scope f cd A outer s s1 H E us}{vs}
  (S:FnScope N ps scope) (hd:A.handled=none) (e0:Env0 P w K mg base A outer s H) (hl:vs.length=ps.length) (r:Vals vs us)
  (x:InCallC s s.heap.objs.size (bindL (envOfC qual scope s.heap.objs.size f cd).kindOf (ps.zip us) λ_=>none) (cellsFrom (s.heap.objs.size+1) scope.names []) (bindC (envOfC qual scope s.heap.objs.size f cd).kindOf (ps.zip us) λ_=>none) s1):
  Inv (K6 CX P w K mg base N qual scope f cd A outer s H E) [] (start N vs) H s1:=by
 have bv:ps.length<=N.length:=by have:=congrArg List.length S.pre;rw[Y1]at this;lia
 obtain⟨h1,tk,rfl,hk⟩:=x.done;have uh:∀b,b∉(K6 CX P w K mg base N qual scope f cd A outer s H E).ex:=λb z=>absurd (show b∈([]:List Addr)from z) (by simp)
 refine#[#[e0.mod,S.kind,rfl,rfl,Xk _,λy z c h1 h2=>?_,λy hy=>?_,λy c _ h=>?_,λ_=>hd,Around.frames_deeper e0.frames,.inr #[rfl,rfl],λb z=>absurd z (uh b),e0.bs,e0.bsz,λb _ _=>uh b,λb z=>absurd z (uh b),e0.funs,e0.frf],
  rfl,e0.bare,Un.kept hk,#[_,x.toInCall.ns,λi y v h1 h2 h3=>?_],λy c h=>#[_,x.cell y c h],e0.hok.fresh (Xk _),λy c h=>?_,λp hp=>absurd (show p∈([]:List _)from hp) (by simp),e0.hok.kept hk,?_]
 ·exact name_of_addr x.apart (Yr h1) (Yr h2)
 ·rcases hy with hy|hy
  ·exact qwh hy
  ·exact absurd rfl (S.nofree _ (Yr hy))
 ·exact Nat.le_of_lt (x.above y c (Yr h))
 ·have hi:i<vs.length:=by
   unfold start at h2
   by_cases hi:i<vs.length
   ·exact hi
   ·rw[List.getElem?_append_right (by simpa using hi),List.getElem?_replicate]at h2
    split at h2<;>cases h2
  have ha:vs[i]?=some v:=by
   unfold start at h2;rw[List.getElem?_append_left (by simpa using hi),Xi]at h2;cases e:vs[i]? with|none=>rw[e]at h2;cases h2|some a=>rw[e]at h2;cases h2;rfl
  obtain⟨u,hu,rv⟩:=r.get ha;have hp:ps[i]?=some y:=by
   rw[<-S.pre,List.getElem?_take_of_lt ⋯];exact h1
  have ndP:ps.Nodup:=by rw[<-S.pre];exact S.nd.sublist (List.take_sublist _ _)
  refine#[u,rv,?_];rcases S.par y (Ya hp)with k|k
  ·exact .inl #[k,qk5 ndP hp hu k]
  ·obtain⟨c,e⟩:=qwh k;refine .inr #[.inl k,c,e,?_];have q:=x.cell y c e;rw[qk7 ndP hp hu (by show scope.names.lookup y≠_;rw[k];decide)]at q;exact q
 ·exact e0.hok.fresh (Nat.le_of_lt (x.above y c (Yr h)))
 ·unfold start;show _=N.length;rw[Xf,X1,Yt];lia
set_option tactic.hygienic true in
theorem xkf{CX P w K mg base k f name qual params body scope dV kV iq pm dw ct oc}{an od}
  {om N ps sp} (lk:K.lookup f=some #[oc,od,.func (PySem.W.fnOf name qual params body scope dV kV iq pm an dw ct),om]) (jm:PySem.W.codeIn K dw qual=true) (S:FnScope N ps scope)
  (len:∀vs H Q E,sp vs H Q E->vs.length=ps.length)
  (n6:∀A (outer) (s) (H) (vs) (Q) (E),Room k (A.deeper (envOfC qual scope s.heap.objs.size f dw))->sp vs H Q E ->
   ∃t,PSs (K6 CX P w K mg base N qual scope f dw A outer s H E) body t/\t {nx:=λ_ H'=>Q .non H',rt:=Q} (start N vs) H):
  FnOk P w K mg base CX (k+1) f (PySem.W.fnOf name qual params body scope dV kV iq pm an dw ct) ps sp:=by
 refine#[len,λA outer s H args us vs Q E hr e0 hb r iy=>?_];have KX:=e0.mod.kin.keeps λb o e=>(e0.bs b o e).1
 have u3:∀y∈ps.zip us,scope.names.lookup y.1=some .local\/(scope.names.lookup y.1=some .cell/\((cellsFrom (s.heap.objs.size+1) scope.names []).lookup y.1).isSome=true):=λhz hy=>by
  obtain⟨n,v⟩:=hz;rcases S.par n (List.of_mem_zip hy).1 with q|q
  ·exact .inl q
  ·exact .inr #[q,PySem.W.cellsFrom_some _ _ _ (.inl q)]
 refine codeAny_call_function hr.depth (KX _ _ lk) rfl S.co S.gen rfl (PySem.W.codeRec_of KX jm) (hb _ _ _ _ (wpAny_newFunctionEnv_cells S.kind u3 λenv he s1 x=>?_));subst he;refine#[(e0.mod.nolimit.keeps λb o e=>(e0.bs b o e).1).keeps x.toInCall.keep,codeAny_func ?_];obtain⟨t,ht,hq⟩:=n6 A outer s H vs Q E (hr.deeper _) iy;have I:Inv (K6 CX P w K mg base N qual scope f dw A outer s H E) [] _ H s1:=vkl S hr.hd e0 (len _ _ _ _ iy) r x;refine wpAny_mono (ht [] s1 _ H _ I hq) (λfl s' hs=>?_) λe s' hs=>hs
 have fin:∀{σ' H' v u},Inv (K6 CX P w K mg base N qual scope f dw A outer s H E) [] σ' H' s'->RelV v u->Q v H'->CE outer P w H s Q u s':=
  fun {σ' H' v u} J rv q=>#[v,H',J.os,J.bare,J.base,J.hok,rv,q]
 cases fl with
 |ret u=>
  obtain⟨v,σ',H',J,rv,q⟩:=hs;exact fin J rv q
 |next=>
  obtain⟨σ',H',J,q⟩:=hs;exact fin (v:=V.non) J rfl q
 |brk=>
  obtain⟨_,_,_,q⟩:=hs;exact False.elim q
 |cont=>
  obtain⟨_,_,_,q⟩:=hs;exact False.elim q
section
variable {X:Cx}{x:Str}{p pos:Pos}{e:Expr}{es:List Expr}{t:TA}{id T:String}{r:List V->Hp->VK->Prop}
abbrev tCB(r:List V->Hp->VK->Prop)(t:TA):TE:=fun σ H Q=>t σ H λvs H1=>r vs H1 Q
theorem kkm(hc:CallR X (.builtin id) r)(hg:Gl X x)(hm:X.mg x=none)(hv:bootBuiltins x=some (.builtin id))(ha:PA X (e::es) t)(hn:autoParam (x≠"__name__") ŕ)(eh:autoParam (Abd x) ŕ)
  (he:autoParam (Abs e es X) Ŕ) (bv:autoParam (Abb pos es X) Ŕ):PE X (.Call (.Name x p) (e::es) [] pos) (tCB r t):=by
 intro a7 s σ H Q I h;exact Z5 (kw5 I hg hm hv (PyProof.Rows.callWith_builtin1 (thn (ha pos a7 s σ H _ I h) λus s1 hz=>by obtain⟨vs,H1,I1,r1,q1⟩:=hz;exact hc a7 s1 σ H1 vs us Q I1 r1 q1) he bv) hn eh)
theorem vjj(hc:CallR X (.type T) r)(hg:Gl X x)(hm:X.mg x=none)(hv:bootBuiltins x=some (.type T))(ha:PA X (e::es) t)(hn:autoParam (x≠"__name__") ŕ)(eh:autoParam (Abd x) ŕ)
  (he:autoParam (Abs e es X) Ŕ) (bv:autoParam (Abb pos es X) Ŕ):PE X (.Call (.Name x p) (e::es) [] pos) (tCB r t):=by
 intro a7 s σ H Q I h;exact Z5 (kw5 I hg hm hv (PyProof.Rows.callWith_type1 (thn (ha pos a7 s σ H _ I h) λus s1 hz=>by obtain⟨vs,H1,I1,r1,q1⟩:=hz;exact hc a7 s1 σ H1 vs us Q I1 r1 q1) he bv) hn eh)
end
end L2
namespace HT
open PySem PyProof.Rows
section
variable {prog:Program}{w:World}{A:Around}{E:VP9}{s:Shared}
theorem cat_tup{t b vs ws Q}(ht:IsTup s.heap t vs.toArray)(hb:IsTup s.heap b ws.toArray)(hv:vs≠[])
  (h1:ws=[]->Q (.ref t) s) (h2:ws≠[]->Q (.ref s.heap.objs.size) {s with heap:=s.heap.push {cls:=.type "tuple",data:=.seq (vs++ws).toArray}})
  (hsz:vs.length+ws.length<=sizeLine):wpAny (model prog w) A (binaryOp .Add (.ref t) (.ref b)) Q E s:=by
 obtain⟨⟨cls,dd,data,sl⟩,ho,hc,n,hd⟩:=id ht;obtain⟨⟨cls2,dd2,data2,t7⟩,ho2,hc2,n2,mn⟩:=id hb;subst hc hd hc2 mn;have e:vs.toArray++ws.toArray=(vs++ws).toArray:=by simp
 by_cases hw:ws=[]
 ·exact concat_meets #[_,ho,rfl] #[_,ho2,rfl] noFill_tuple_add seq_tuple_add PySem.F.slot_tuple_add PySem.F.entry_tuple_add (PySem.F.args_tuple_add_2 _ _)
   (tuple_addW1 t b vs.toArray ws.toArray n n2 dd dd2 sl t7 (by simpa using hv) (by simp[hw])) #[ho,ho2,h1 hw]
 ·refine concat_meets #[_,ho,rfl] #[_,ho2,rfl] noFill_tuple_add seq_tuple_add PySem.F.slot_tuple_add PySem.F.entry_tuple_add (PySem.F.args_tuple_add_2 _ _)
   (tuple_addW2 t b vs.toArray ws.toArray n n2 dd dd2 sl t7 (by simpa using hv) (by simpa using hw) (hsz)) #[ho,ho2,?_]
  rw[e];exact h2 hw
noncomputable def sIx(n d:Nat):Option Int->Nat
 |none=>d|some v=>if v<0 then(v+(n:Int)).toNat else min v.toNat n
theorem vq8 v (n d:Nat):(if v<0 then max (v+(n:Int)) 0 else min v n)=((sIx n d (some v):Nat):Int):=by
 show _=(((if v<0 then(v+n).toNat else min v.toNat n):Nat):Int)
 by_cases hv:v<0
 ·simp only[X8 hv];lia
 ·grind
theorem qxr(lo hi)(n:Nat):Builtin.Slice.sliceAdjust lo hi 1 n=(((sIx n 0 lo:Nat):Int),((sIx n n hi):Int)):=by
 have h1:¬((1:Int)<0):=⋯
 unfold Builtin.Slice.sliceAdjust;refine Prod.ext ?_ ?_
 ·cases lo with|none=>rfl|some v=>exact vq8 v n 0
 ·cases hi with|none=>rfl|some v=>exact vq8 v n n
theorem qx3(i j:Nat):Builtin.Slice.slicePlaces i j 1=j - i:=by
 unfold Builtin.Slice.slicePlaces;have h1:1>0:=⋯
 simp
 split<;>lia
theorem kvy{v o Q}(p:IsPart v o)(h:Q o s):wpAny (model prog w) A (Builtin.Slice.slicePartIndex v) Q E s:=by
 cases p with|none=>exact slicePart_none h|int i t=>exact slicePart_int h
theorem kk8{sl vl vu lo hi n}{Q:Int×Int×Nat->Shared->Prop}(hs:s.heap.IsSliceOf sl vl vu .none)(pl:IsPart vl lo)(pu:IsPart vu hi)
  (h:Q (((sIx n 0 lo:Nat):Int),1,sIx n n hi - sIx n 0 lo) s):wpAny (model prog w) A (Builtin.Slice.sliceApplied (.ref sl) (pure n)) Q E s:=by
 obtain⟨os,ma,mf,f8⟩:=id hs;refine X0 (X0 (Z8 ma f8 (x:=vl) rfl (X0 (Z8 ma f8 (x:=vu) rfl (X0 (Z8 ma f8 (x:=.none) rfl (X9 (X0 (slicePart_none (X0 (kvy pl (X0 (kvy pu (X0 (X9 ?_)))))))))))))));show wpAny _ _ (match Builtin.Slice.sliceAdjust lo hi 1 n with|(lo,hi)=>pure (lo,_,Builtin.Slice.slicePlaces lo hi 1)) _ _ s;rw[qxr lo hi n];show wpAny _ _ (pure _) _ _ s;rw[qx3];exact X9 h
theorem vvw(xs:Array Value)(i k:Nat):((List.range k).filterMap λ(m:Nat)=>xs[(i+(m:Int)*1).toNat]?).toArray=((xs.toList.drop i).take k).toArray:=by
 have e:(λ(m:Nat)=>xs[(i+(m:Int)*1).toNat]?)=λm=>xs[i+m]?:=by
  funext m;have:(i+(m:Int)*1).toNat=i+m:=⋯
  rw[this]
 rw[e];have:=pick_run xs i k;rw[List.filterMap_map]at this;have e2:(_∘λx=>i+x)=λm=>xs[i+m]?:=rfl
 rw[e2]at this;rw[this]
theorem getItem_tuple_cut{t sl items vl vu lo hi Q}(ht:IsTup s.heap t items)(hs:s.heap.IsSliceOf sl vl vu .none)(pl:IsPart vl lo)(pu:IsPart vu hi)
  (hw:¬(sIx items.size 0 lo=0/\sIx items.size items.size hi=items.size))
  (h:Q (.ref s.heap.objs.size) {s with heap:=s.heap.push {cls:=.type "tuple",data:=.seq ((items.toList.drop (sIx items.size 0 lo)).take (sIx items.size items.size hi - sIx items.size 0 lo)).toArray}})
  (hsz:items.size<=sizeLine):wpAny (model prog w) A (getItem (.ref t) (.ref sl)) Q E s:=by
 have uq:sizeOk (.seq ((items.toList.drop (sIx items.size 0 lo)).take (sIx items.size items.size hi - sIx items.size 0 lo)).toArray):=by
  show((items.toList.drop _).take _).toArray.size<=sizeLine;rw[Xe,Y1,Yn,Xb];lia
 obtain⟨os,ma,mf,f8⟩:=id hs;have hTs:s.TypeIs (.ref sl) "slice":=#[os,ma,mf];unfold getItem
 try with_reducible refine Y4 ?_
 refine X0 (wpAny_sequenceKey ht.typeIs ⋯ ?_);refine X0 (Z0 ht.typeIs PyProof.Rows.slot_tuple_getitem
  (Yh PyProof.Rows.slot_tuple_getitem ht.typeIs entry_tuple_getitem ?_ (args_tuple_getitem _ _)))
 show wpAny _ _ (Builtin.Tuple.tupleItemsOf _ >>= _) _ _ s;refine X0 (tupleItemsOf_ ht (X0 (wpAny_typeOf hTs (X0 (kk8 hs pl pu ?_)))));have me:¬((((sIx items.size 0 lo:Nat):Int)==0&&(1:Int)==1&&(sIx items.size items.size hi - sIx items.size 0 lo)==items.size)=true):=by
  grind
 show wpAny _ _ (if _=true then _ else _) _ _ s;rw[Xd me,vvw]
 first
  |exact X0 (Yc (X0 (X9 (X9 ⟨_,rfl,X9 h⟩))) uq)
end
end HT
namespace L2
open PySem PySem.Spec PyProof.Rows
abbrev TO:=St->Hp->(Option Int->Hp->Prop)->Prop
noncomputable def PO(X:Cx)(e:Option Expr)(t:TO):Prop:=
 ∀(a7:LA9) (s:Shared) (σ:St) (H:Hp) (Q:Option Int->Hp->Prop),Inv X a7 σ H s->t σ H Q ->
  wpAny (model X.prog X.w) X.A (evalPart e X.env) (λu s'=>∃o H',Inv X a7 σ H' s'/\IsPart u o/\Q o H') X.xe s
abbrev qza:TO:=λ_ H Q=>Q none H
abbrev wqh(t:TE):TO:=fun σ H Q=>t σ H λx H1=>∃i,x=.int i/\Q (some i) H1
theorem qxf{ns}:∀{us},Vals (ns.map V.int) us->IntsAre us ns:=by
 induction ns with
 | nil=>intro us r;cases r;exact .nil
 | cons n ns ih=>
  intro us r;cases r with
  |cons r1 r2=>
   obtain⟨t,e⟩:=r1;subst e;exact .cons n t (ih r2)
section
variable {X:Cx}{e:Expr}{te:TE}{lo hi:Option Expr}{tl th:TO}{pos p2:Pos}
theorem wjf:PO X none qza:=by
 intro a7 s σ H Q I h;exact X9 #[none,H,I,.none,h]
theorem wjd(h:PE X e te):PO X (some e) (wqh te):=by
 intro a7 s σ H Q I hw;refine thn (h a7 s σ H _ I hw) λu s1 hz=>?_
 obtain⟨x,H1,I1,r1,q1⟩:=hz;obtain⟨i,rfl,q⟩:=q1;obtain⟨t,rfl⟩:=r1;exact#[some i,H1,I1,.int i t,q]
noncomputable def SlR(X:Cx)(r:V->Option Int->Option Int->Hp->VK->Prop):Prop:=
 ∀(a7:LA9) (s:Shared) (σ:St) (H:Hp) (x:V) (v vl vu:Value) (lo hi:Option Int) (sl:Addr) (Q:VK),Inv X a7 σ H s->RelV x v->s.heap.IsSliceOf sl vl vu .none->IsPart vl lo->IsPart vu hi->r x lo hi H Q ->
  ∃T id,typeLookup (.type T) "__getitem__"=pure (some (.builtin id))/\s.TypeIs v T/\wpAny (model X.prog X.w) X.A (getItem v (.ref sl)) (EP X a7 σ Q) X.xe s
theorem SlR.or{r r'}(h:SlR X r)(h':SlR X r'):SlR X (λx lo hi H Q=>r x lo hi H Q\/r' x lo hi H Q):=by
 intro a7 s σ H x v vl vu lo hi sl Q I rx hs pl pu q;rcases q with q|q
 ·exact h a7 s σ H x v vl vu lo hi sl Q I rx hs pl pu q
 ·exact h' a7 s σ H x v vl vu lo hi sl Q I rx hs pl pu q
abbrev tSl(r:V->Option Int->Option Int->Hp->VK->Prop)(te:TE)(tl th:TO):TE:=fun σ H Q=>te σ H λx H1=>tl σ H1 λl H2=>th σ H2 λu H3=>r x l u H3 Q
theorem vvy{r}(hr:SlR X r)(he:PE X e te)(hl:PO X lo tl)(hu:PO X hi th):PE X (.Subscript e (.Slice lo hi none p2) pos) (tSl r te tl th):=by
 intro a7 s σ H Q I h;refine Subscript_ (thn (he a7 s σ H _ I h) λv s1 #[x,H1,I1,r1,q1]=>(wpAny_Slice (thn (hl a7 s1 σ H1 _ I1 q1) λvl s2 #[l,H2,I2,pl,q2]=>thn (hu a7 s2 σ H2 _ I2 q2) λvu s3 #[u,H3,I3,pu,q3]=>(X9 ?_))));have I4:Inv X a7 σ H3 {s3 with heap:=s3.heap.push {cls:=.type "slice",data:=.fields (List.toArray [vl,vu,.none])}}:=I3.kept (t':=s3.toks) λb ob q=>X4 _ q
 obtain⟨T,id,hT,ht,hg⟩:=hr a7 {s3 with heap:=s3.heap.push {cls:=.type "slice",data:=.fields (List.toArray [vl,vu,.none])}} σ H3 x v vl vu l u s3.heap.objs.size Q I4 r1 (Heap.IsSliceOf.new ..) pl pu q3;exact tail_any ht hT hg (by ac_rfl)
noncomputable def wq6(xs:List V)(lo hi:Option Int):List V:=(xs.drop (HT.sIx xs.length 0 lo)).take (HT.sIx xs.length xs.length hi - HT.sIx xs.length 0 lo)
theorem kqu xs (lo hi):(wq6 xs lo hi).length<=xs.length:=by
 unfold wq6;rw[Y1,Yn];lia
noncomputable def xq3(K:Frag):V->Option Int->Option Int->Hp->VK->Prop:=λx lo hi H Q=>∃a xs,x=.ref a/\SqT K H a xs /\
 ¬(HT.sIx xs.length 0 lo=0/\HT.sIx xs.length xs.length hi=xs.length)/\∀p,H p=none->Q (.ref p) (upd H p (.tup (wq6 xs lo hi)))
theorem sl_tup:SlR X (xq3 X.K):=by
 rintro a7 s σ H x v vl vu lo hi sl Q I rx hs pl pu ⟨a,xs,rfl,hx,hw,q⟩;cases rx;obtain⟨aq,r,ht,hz⟩:=I.tuple hx;have az:aq.toArray.size=xs.length:=r.length.symm;refine#["tuple",_,PyProof.Rows.slot_tuple_getitem.lookup,ht.typeIs,(HT.getItem_tuple_cut ht hs pl pu (az▸hw) ?_ (az▸hz))];rw[az];refine#[.ref s.heap.objs.size,_,I.laid (t':=s.toks) (λb ob q=>X4 _ q) (Xk _) ?_,rfl,q _ (I.hok.fresh (Xk _))];exact#[Xs (kqu xs lo hi) hz,_,(r.drop _).take _,IsTupD.new _ _]
noncomputable def wv6(K:Frag):R2:=λx y H Q=>∃a b xs ys,x=.ref a/\y=.ref b/\SqT K H a xs/\SqT K H b ys/\xs≠[]/\xs.length+ys.length<=sizeLine /\
 (ys=[]->Q (.ref a) H)/\(ys≠[]->∀p,H p=none->Q (.ref p) (upd H p (.tup (xs++ys))))
theorem Vals.nil_iff{xs us}(r:Vals xs us):us=[]↔xs=[]:=by
 cases r with|nil=>simp|cons _ _=>simp
theorem wjo:OpR X (binaryOp .Add) (wv6 X.K):=by
 rintro a7 s σ H x y v u Q I rx ry ⟨a,b,xs,ys,rfl,rfl,ha,hb,hx,hz,q1,q2⟩;cases rx;cases ry;obtain⟨aq,r1,p1,_⟩:=I.tuple ha;obtain⟨n9,r2,p2,_⟩:=I.tuple hb;refine HT.cat_tup p1 p2 (λz=>hx (r1.nil_iff.mp z)) (λz=>#[.ref a,H,I,rfl,q1 (r2.nil_iff.mp z)]) (λz=>(#[.ref s.heap.objs.size,_,I.laid (t':=s.toks) (λb ob q=>X4 _ q) (Xk _) ?_,rfl,q2 (λw=>z (r2.nil_iff.mpr w)) _ (I.hok.fresh (Xk _))])) (by rw[<-r1.length,<-r2.length];exact hz);exact#[by rw[Xf];exact hz,_,r1.append r2,IsTupD.new _ _]
end
noncomputable def ixN(n:Nat)(i:Int):Option Nat:=if 0<=i then(if i<n then some i.toNat else none)else if -(n:Int)<=i then some (i+n).toNat else none
noncomputable def atI{α:Type}(xs:List α)(i:Int):Option α:=(ixN xs.length i).bind λj=>xs[j]?
theorem qqa{n i j}(h:ixN n i=some j):seqIndex? i n=some j/\j<n/\-n<=i/\i<n:=by
 unfold ixN at h
 by_cases h0:0<=i
 ·rw[X8 h0]at h
  by_cases h1:i<n
  ·rw[X8 h1]at h;exact#[by rw[seqIndex_of h0 h1,(oq9 h)],⋯,⋯,h1]
  ·rw[Xd h1]at h;cases h
 ·rw[Xd h0]at h
  by_cases h1:-n<=i
  ·rw[X8 h1]at h;exact#[by rw[seqIndex_neg ⋯ h1,(oq9 h)],⋯,h1,⋯]
  ·rw[Xd h1]at h;cases h
theorem qqm{α xs i}{v:α}(h:atI xs i=some v):∃j,seqIndex? i xs.length=some j/\xs[j]?=some v/\j<xs.length/\-(xs.length:Int)<=i/\i<xs.length:=by
 unfold atI at h;cases e:ixN xs.length i with
 |none=>rw[e]at h;cases h
 |some j=>
  rw[e]at h;obtain⟨h1,h2,h3,h4⟩:=qqa e;exact#[j,h1,h,h2,h3,h4]
noncomputable def kjy(b:Expr):Prop:=∀o i,subscripted b false o i=operate [o,i] (getItem o i)
noncomputable def IxR(X:Cx)(r:R2):Prop:=
 ∀(gk slice:Expr) (a7:LA9) (s:Shared) (σ:St) (H:Hp) (x y:V) (v u:Value) (Q:VK),Inv X a7 σ H s->RelV x v->RelV y u->r x y H Q ->
  subscripted slice false v u=operate [v,u] (getItem v u)->wpAny (model X.prog X.w) X.A (subscriptTail gk slice v u) (EP X a7 σ Q) X.xe s
noncomputable def MtR(X:Cx)(id:String)(r:V->List V->Hp->VK->Prop):Prop:=
 ∀(a7:LA9) (s:Shared) (σ:St) (H:Hp) (x:V) (xs:List V) (v:Value) (us:List Value) (Q:VK),Inv X a7 σ H s->RelV x v->Vals xs us->r x xs H Q ->
  wpAny (model X.prog X.w) X.A (call (.builtin id) (v::us)) (EP X a7 σ Q) X.xe s
section
variable {X:Cx}{a b:Expr}{ta tb:TE}{pos:Pos}
theorem IxR.or{r r'}(h:IxR X r)(h':IxR X r'):IxR X (λx y H Q=>r x y H Q\/r' x y H Q):=by
 intro gk slice a7 s σ H x y v u Q I rx ry q hs;rcases q with q|q
 ·exact h gk slice a7 s σ H x y v u Q I rx ry q hs
 ·exact h' gk slice a7 s σ H x y v u Q I rx ry q hs
theorem vvz{r}(hr:IxR X r)(ha:PE X a ta)(hb:PE X b tb)(hs:kjy b):PE X (.Subscript a b pos) (tOp r ta tb):=by
 intro a7 s σ H Q I h;exact Subscript_ (xkt ha hb I h λv u s2 x y H2 I2 rx ry q=>hr a b a7 s2 σ H2 x y v u Q I2 rx ry q (hs _ _))
noncomputable def xq9(K:Frag):R2:=λx y H Q=>∃p xs i v,x=.ref p/\y=.int i/\SqL K H p xs/\atI xs i=some v/\Q v H
noncomputable def xq7(K:Frag):R2:=λx y H Q=>∃p xs i v,x=.ref p/\y=.int i/\SqT K H p xs/\atI xs i=some v/\Q v H
noncomputable def xq8:R2:=λx y H Q=>∃z i c,x=.str z/\y=.int i/\z.length<=sizeLine/\atI z.cps.toList i=some c/\Q (.str #[(List.toArray [c])]) H
theorem ix_list:IxR X (xq9 X.K):=by
 intro gk slice a7 s σ H x y v u Q I rx ry h hs;obtain⟨p,xs,i,z,rfl,rfl,hq,he,q⟩:=h;cases rx;obtain⟨t,rfl⟩:=ry;obtain⟨aq,r,pl,hz⟩:=I.list hq;obtain⟨j,h1,h2,h3,h4,h5⟩:=qqm he;obtain⟨w,ew,qd⟩:=r.get h2;have hl:=r.length;have hn:=YJ;have fin:EP X a7 σ Q w s:=#[z,H,I,qd,q]
 by_cases h0:0<=i
 ·have hj:i.toNat=j:=by
   rw[seqIndex_of h0 h5]at h1;exact oq9 h1
  exact item_listR pl.isList h0 ⋯ (by rw[hj];simpa using ew) fin hs
 ·have hj:(i+(aq.toArray.size:Int)).toNat=j:=by
   rw[seqIndex_neg ⋯ h4]at h1;rw[Xe,<-hl];exact oq9 h1
  exact subscriptTail_builtinR pl.isList.typeIs slot_list_getitem.lookup
   (wpAny_getItem_list_neg pl.isList ⋯ (by rw[Xe]<;>lia) ⋯ (by rw[hj];simpa using ew) #[rfl,fin]) hs
theorem ix_tup:IxR X (xq7 X.K):=by
 intro gk slice a7 s σ H x y v u Q I rx ry h hs;obtain⟨p,xs,i,z,rfl,rfl,hq,he,q⟩:=h;cases rx;obtain⟨t,rfl⟩:=ry;obtain⟨aq,r,pl,hz⟩:=I.tuple hq;obtain⟨j,h1,h2,h3,h4,h5⟩:=qqm he;obtain⟨w,ew,qd⟩:=r.get h2;have hn:=YJ;have fin:EP X a7 σ Q w s:=#[z,H,I,qd,q];exact subscriptTail_builtinR pl.typeIs slot_tuple_getitem.lookup
  (getItem_tuple pl ⋯ ⋯ (by rw[Xe,<-r.length];exact h1) (by simpa using ew) #[rfl,fin]) hs
theorem wx6:IxR X xq8:=by
 intro gk slice a7 s σ H x y v u Q I rx ry h hs;obtain⟨z,i,c,rfl,rfl,hz,he,q⟩:=h;obtain⟨t,rfl⟩:=rx;obtain⟨t',rfl⟩:=ry;obtain⟨j,h1,h2,h3,h4,h5⟩:=qqm he;have hl:z.cps.toList.length=z.length:=by simp[Str.length]
 rw[hl]at h1 h4 h5;have hn:=YJ;exact tail_any (typeIs_str s z t) slot_str_getitem.lookup (getItem_str (c:=c) (by
  have e1:decide (i < -(2 ^ 63:Int))=false:=X6 ⋯;have e2:decide (i>=2 ^ 63)=false:=X6 ⋯;rw[e1,e2,Bool.or_false]) (by rw[h1];simpa using h2) #[.str #[(List.toArray [c])],H,I.tok _,#[_,rfl],q]) hs
noncomputable def rIx(K:Frag):R2:=λx y H Q=>xq9 K x y H Q\/xq7 K x y H Q\/xq8 x y H Q
theorem qvw:IxR X (rIx X.K):=ix_list.or (ix_tup.or wx6)
theorem qxb(aq:List Value)(n j) u:Obj.mapSeq (·.setIfInBounds j u) {cls:=.type "list",data:=.seq aq.toArray n}={cls:=.type "list",data:=.seq (aq.set j u).toArray n}:=by
 simp[Obj.mapSeq]
theorem Inv.lst{a7}{σ:St}{H s p xs}(I:Inv X a7 σ H s)(h:H p=some (.lst xs)):
  ∃(aq:List Value) (n:Nat),Vals xs aq/\s.heap.get? p=some {cls:=.type "list",data:=.seq aq.toArray n}/\xs.length<=sizeLine:=by
 obtain⟨z,aq,n,r,e⟩:=I.hok p _ h;exact#[aq,n,r,e,z]
theorem Inv.lstUpd{a7}{σ:St}{H s p xs ys}{aq its':List Value}{n n' f}(I:Inv X a7 σ H s)(h:H p=some (.lst xs))
  (ho:s.heap.get? p=some {cls:=.type "list",data:=.seq aq.toArray n}) (hf:f {cls:=.type "list",data:=.seq aq.toArray n}={cls:=.type "list",data:=.seq its'.toArray n' }) (r:Vals ys its') (hz:ys.length<=sizeLine) t :
  Inv X a7 σ (upd H p (.lst ys)) {s with heap:=s.heap.update p f,toks:=t}:=by
 have e:(s.heap.update p f).get? p=some {cls:=.type "list",data:=.seq its'.toArray n' }:=by
  rw[Y3 f ho (by rw[hf]<;>rfl),hf]
 refine I.write (by rw[h];trivial) (.inl rfl) (λb u hb q=>(Heap.get?_update_other _ _ (Z9 hb)).trans q) #[_,e] ?_;exact#[hz,its',n',r,e]
noncomputable def wqy:V->V->V->Hp->(Hp->Prop)->Prop:=λo i v H Q=>∃p xs k j,o=.ref p/\i=.int k/\H p=some (.lst xs)/\ixN xs.length k=some j/\Q (upd H p (.lst (xs.set j v)))
theorem vvf:xqu X wqy:=by
 rintro a7 s σ H o i v ov iv u Q I ro ri rv ⟨p,xs,k,j,rfl,rfl,hp,hj,q⟩;cases ro;obtain⟨t,rfl⟩:=ri;obtain⟨aq,n,r,ho,hz⟩:=I.lst hp;obtain⟨h1,h2,h3,h4⟩:=qqa hj;have hl:=r.length;have hn:=YJ;have I':Inv X a7 σ _ {s with heap:=s.heap.update p _}:=
  I.lstUpd hp ho (qxb aq n j u) (r.set rv j) (by rw[Y8];exact hz) s.toks
 by_cases h0:0<=k
 ·have hk:k.toNat=j:=by
   rw[seqIndex_of h0 h4]at h1;exact oq9 h1
  exact PySem.W.ki_setAt ho h0 ⋯ (by rw[Xe,<-hl];exact h4) (hk▸#[_,I',q])
 ·have hk:(k+(aq.toArray.size:Int)).toNat=j:=by
   rw[seqIndex_neg ⋯ h3]at h1;rw[Xe,<-hl];exact oq9 h1
  exact PySem.W.ki_setBack ho ⋯ (by rw[Xe,<-hl];exact h3) ⋯ (hk▸#[_,I',q])
theorem kzd(lo hi) n:(sliceBounds lo hi none n).1=((HT.sIx n 0 lo:Nat):Int)/\(sliceBounds lo hi none n).2.1=((HT.sIx n n hi:Nat):Int)/\(sliceBounds lo hi none n).2.2=1:=by
 refine#[?_,?_,rfl]
 ·cases lo with
  |none=>simp[sliceBounds,HT.sIx]
  |some i=>
   simp only[sliceBounds,HT.sIx,Option.getD_none,show(1:Int)>0 by decide,if_true]
   by_cases h:i<0
   ·simp only[h,if_true]<;>lia
   ·simp only[h,if_false]<;>lia
 ·cases hi with
  |none=>simp[sliceBounds,HT.sIx]
  |some i=>
   simp only[sliceBounds,HT.sIx,Option.getD_none,show(1:Int)>0 by decide,if_true]
   by_cases h:i<0
   ·simp only[h,if_true]<;>lia
   ·simp only[h,if_false]<;>lia
theorem kwn(aq:List Value)(lo hi):slicePick aq.toArray lo hi none=((aq.drop (HT.sIx aq.length 0 lo)).take (HT.sIx aq.length aq.length hi - HT.sIx aq.length 0 lo)).toArray:=by
 obtain⟨h1,h2,h3⟩:=kzd lo hi aq.toArray.size;unfold slicePick;rw[h1,h2,h3];simp only[sliceRange_one,pick_run]<;>rfl
noncomputable def xq5(K:Frag):V->Option Int->Option Int->Hp->VK->Prop:=λx lo hi H Q=>∃a xs,x=.ref a/\SqL K H a xs/\∀p,H p=none->Q (.ref p) (upd H p (.lst (wq6 xs lo hi)))
theorem sl_list:SlR X (xq5 X.K):=by
 rintro a7 s σ H x v vl vu lo hi sl Q I rx hs pl pu ⟨a,xs,rfl,hx,q⟩;cases rx;obtain⟨aq,r,ht,hz⟩:=I.list hx;have az:=r.length;refine#["list",_,slot_list_getitem.lookup,ht.isList.typeIs,(wpAny_getItem_list_slice ht.isList hs pl pu .none (by simp) ?_ (by simp_all))];rw[kwn,<-az];refine#[.ref s.heap.objs.size,_,I.laid (t':=s.toks) (λb ob q=>X4 _ q) (Xk _) ?_,rfl,q _ (I.hok.fresh (Xk _))];exact#[Xs (kqu xs lo hi) hz,_,0,(r.drop _).take _,Xh _ rfl]
theorem kzy:OpR X (compareOp .NotIn) (λx y H Q=>∃i j,x=.str i/\y=.str j/\Q (.bl (!(!(Builtin.Str.occurrences j i 0 j.length 1).isEmpty))) H):=by
 rintro a7 s σ H x y v u Q I rx ry ⟨i,j,rfl,rfl,q⟩;obtain⟨t,rfl⟩:=rx;obtain⟨t',rfl⟩:=ry;exact notIn_str #[.bl _,H,I,rfl,q]
theorem call_len_seq:CallR X (.builtin "len") (λxs H Q=>∃p ys,xs=[.ref p]/\(SqL X.K H p ys\/SqT X.K H p ys)/\Q (.int ys.length) H):=by
 rintro a7 s σ H xs us Q I r ⟨p,ys,rfl,hq,q⟩;obtain⟨u,rfl,rx⟩:=zQ r;cases rx;have hn:=YJ;rcases hq with hq|hq
 ·obtain⟨aq,r',pl,hz⟩:=I.list hq;have az:=r'.length;exact Calls.call_len_list pl.isList (by simp only[Xe]<;>lia) #[.int ys.length,H,I.tok _,#[s.toks+1,by rw[Xe,az]],q]
 ·obtain⟨aq,r',pl,hz⟩:=I.tuple hq;have az:=r'.length;exact len_tuple pl (by simp only[Xe]<;>lia) #[.int ys.length,H,I.tok _,#[s.toks+1,by rw[Xe,az]],q]
theorem call_len_str:CallR X (.builtin "len") (λxs H Q=>∃z,xs=[.str z]/\z.length<=sizeLine/\Q (.int z.length) H):=by
 rintro a7 s σ H xs us Q I r ⟨z,rfl,hz,q⟩;obtain⟨u,rfl,t,rfl⟩:=zQ r;have hn:=YJ;exact len_str ⋯ #[.int z.length,H,I.tok _,#[_,rfl],q]
theorem CallR.or{f r r'}(h:CallR X f r)(h':CallR X f r'):CallR X f (λxs H Q=>r xs H Q\/r' xs H Q):=by
 intro a7 s σ H xs us Q I rs q;rcases q with q|q
 ·exact h a7 s σ H xs us Q I rs q
 ·exact h' a7 s σ H xs us Q I rs q
theorem kxp:CallR X (.type "tuple") (λxs H Q=>∃p ys,xs=[.ref p]/\((SqL X.K H p ys/\∀l,H l=none->Q (.ref l) (upd H l (.tup ys)))\/(SqT X.K H p ys/\Q (.ref p) H))):=by
 rintro a7 s σ H xs us Q I r ⟨p,ys,rfl,h⟩;obtain⟨u,rfl,rx⟩:=zQ r;cases rx;rcases h with⟨hq,q⟩|⟨hq,q⟩
 ·obtain⟨aq,r',pl,hz⟩:=I.list hq;have az:=r'.length;refine call_tuple_list pl.isList (λh' kp=>?_) (by simp_all);have I1:Inv X a7 σ H {s with heap:=h' }:=I.kept (t':=s.toks) kp;have I2:Inv X a7 σ _ {s with heap:=h'.push {cls:=.type "tuple",data:=.seq aq.toArray}}:=
   I1.laid (t':=s.toks) (λb o e=>X4 _ e) (Xk _) (show ObjOk X.prog X.w _ _ _ (.tup ys)from#[hz,aq,r',IsTupD.new _ _])
  exact#[.ref h'.objs.size,_,I2,rfl,q _ (I1.hok.fresh (Xk _))]
 ·obtain⟨aq,r',pl,hz⟩:=I.tuple hq;exact call_tuple_same pl #[.ref p,H,I,rfl,q]
noncomputable def tyV(K : Frag)(T : String)(x : V)(H : Hp): Prop:= match x with
  |.str _=>T = "str"|.int _=>T = "int"
  |.ref p=>(T = "list" /\ ∃xs,SqL K H p xs) \/ (T = "tuple" /\ ∃o,K.lookup p = some o /\ o.cls = .type "tuple" /\ o.dict = none) \/
      (T = "dict" /\ ((∃bf,H p = some (.dK bf)) \/ ∃bf,H p = some (.dT bf))) \/ (T = "set" /\ ∃S n,H p = some (.set S n))
  |_=>False
theorem wqa{a7}{σ:St}{H s T x v}(I:Inv X a7 σ H s)(r:RelV x v)(ty:tyV X.K T x H):
  s.TypeIs v T/\∀a,v=.ref a->∃ob,s.heap.get? a=some ob/\ob.dict=none:=by
 cases x with
 | str z=>
  obtain⟨t,rfl⟩:=r;cases(ty);exact#[typeIs_str s z t,λ_ e=>nomatch e]
 | int i=>
  obtain⟨t,rfl⟩:=r;cases(ty);exact#[typeIs_int s i t,λ_ e=>nomatch e]
 | ref p=>
  cases r;rcases ty with⟨rfl,xs,hq⟩|⟨rfl,o,hk,hc,hd⟩|⟨rfl,hk⟩|⟨rfl,S,n,hk⟩
  ·obtain⟨aq,_,pl,_⟩:=I.list hq;refine#[pl.isList.typeIs,λa e=>?_];cases e;obtain⟨o,n,e,c,hd,_⟩:=pl;exact#[o,e,hd]
  ·refine#[#[o,I.kIn p o hk,hc],λa e=>?_];cases e;exact#[o,I.kIn _ o hk,hd]
  ·have z:∃o,s.heap.get? p=some o/\o.ExactDict:=by
    rcases hk with⟨bf,hk⟩|⟨bf,hk⟩
    ·obtain⟨_,_,_,_,o,_,_,e,ex,_⟩:=I.hok p _ hk;exact#[o,e,ex]
    ·obtain⟨_,_,_,_,o,_,_,e,ex,_⟩:=I.hok p _ hk;exact#[o,e,ex]
   obtain⟨o,e,ex⟩:=z;refine#[#[o,e,ex.1],λa e2=>?_];cases e2;exact#[o,e,ex.2.1]
  ·obtain⟨o,_,_,_,e,ex,_⟩:=I.hok p _ hk;refine#[#[o,e,ex.1],λa e2=>?_];cases e2;exact#[o,e,ex.2.1]
 |_=>exact False.elim ty
abbrev tBM(K:Frag)(T:String)(r:V->List V->Hp->VK->Prop)(to:TE)(t:TA):TE:=fun σ H Q=>to σ H λx H1=>tyV K T x H1/\t σ H1 λxs H2=>r x xs H2 Q
variable {o e:Expr}{es:List Expr}{to:TE}{t:TA}{name:Str}{bi au:Pos}{T id:String}{r:V->List V->Hp->VK->Prop}
abbrev _root_.Abe(p q:Pos):Prop:=(p.endLine==q.line)=true
theorem vjk(pa:PlainAttrs T)(slot:Slot T name id)(uy:typeOf (.builtin id)=pure (.type "method_descriptor"))(hm:MtR X id r)(ho:PE X o to)(ha:PA X (e::es) t)
  (bq:autoParam (attributeBase o name X.env (eval o X.env)=eval o X.env) Ŕ)
  (cy:autoParam (((backTo au (starEach (e::es) X.env)).all (λx=>!x.1)&&(backToKw au (keywordEach [] X.env)).all (λx=>x.1.isSome)
   && decide ((e::es).length+([]:List Keyword).length+(if([]:List Keyword).isEmpty then 0 else 1)<30))=true) Ŕ)
  (bp:autoParam (Abe bi au) Ŕ) (hs:autoParam (Abs e es X) Ŕ) (bj:autoParam (Abb au es X) Ŕ):
  PE X (.Call (.Attribute o name bi) (e::es) [] au) (tBM X.K T r to t):=by
 intro a7 s σ H Q I h;refine wpAny_Call_method_late bq cy bp rfl (thn (ho a7 s σ H _ I h) λv s1 hz=>?_);obtain⟨x,H1,I1,r1,ty,q1⟩:=hz;obtain⟨h1,h2⟩:=wqa I1 r1 ty;refine#[T,id,pa,slot,uy,h1,h2,?_];have hA:=ha au a7 s1 σ H1 _ I1 q1;rw[hs]at hA ⊢;exact Calls.callWith_builtin (by show(false||(backTo au _).any _)=false;rw[bj]<;>rfl) (Calls.evalArgs_plain (thn hA λus s2 hz=>by obtain⟨vs,H2,I2,r2,q2⟩:=hz;exact hm a7 s2 σ H2 x vs v us Q I2 r1 r2 q2))
end
noncomputable def MtM(X:Cx)(id:String)(r:V->List V->Hp->VK->Prop):Prop:=
 ∀(a7:LA9) (s:Shared) (σ:St) (H:Hp) (x:V) (xs:List V) (v:Value) (us:List Value) (Q:VK),Inv X a7 σ H s->RelV x v->Vals xs us->r x xs H Q ->
  wpAny (model X.prog X.w) X.A (call (.builtin id) (v::us)) (EP X a7 σ Q) X.xe s
theorem Vals.one:∀{x us},Vals [x] us->∃u,us=[u]/\RelV x u:=by
 intro x us h;cases h with|cons r h=>cases h;exact#[_,rfl,r]
theorem Vals.two:∀{x y us},Vals [x,y] us->∃u v,us=[u,v]/\RelV x u/\RelV y v:=by
 intro x y us h;cases h with
 |cons r h=>
  cases h with|cons q h=>cases h;exact#[_,_,rfl,r,q]
theorem Vals.eraseIdx:∀{xs us} (i),Vals xs us->Vals (xs.eraseIdx i) (us.eraseIdx i)
 |_,_,_,.nil=>.nil|_,_,0,.cons _ t=>t|_,_,i+1,.cons r t=>.cons r (Vals.eraseIdx i t)
theorem Vals.rep{xs us}(h:Vals xs us):∀k,Vals (List.replicate k xs).flatten (List.replicate k us).flatten
 |0=>.nil
 |k+1=>by
  exact Vals.append h (Vals.rep h k)
theorem qji{α:Type}:∀(l:List α) (i),(l.eraseIdx i).length<=l.length
 |[],_=>Xk _|_::_,0=>Nat.le_succ _|_::r,i+1=>Nat.succ_le_succ (qji r i)
theorem kqq(aq):∀k (acc:List Value),
  List.foldl (λx1 x2=>x1++x2) acc.toArray (List.replicate k aq.toArray)=(acc++(List.replicate k aq).flatten).toArray
 | 0,acc=>by simp
 | k+1,acc=>by
  have e:acc.toArray++aq.toArray=(acc++aq).toArray:=by simp
  have e2:(acc++aq)++(List.replicate k aq).flatten=acc++(List.replicate (k+1) aq).flatten:=by
   rw[List.replicate_succ,List.flatten_cons,Xn]
  rw[<-e2,<-kqq aq k _,<-e,List.replicate_succ,List.foldl_cons]
section
variable {X:Cx}{a7:LA9}{σ:St}{H:Hp}{s:Shared}{l b:Addr}{xs ys zs:List V}
theorem Inv.lset{aq its':List Value}{n f t'}(I:Inv X a7 σ H s)(hH:H l=some (.lst xs))
  (e:s.heap.get? l=some {cls:=.type "list",data:=.seq aq.toArray n}) (hf:f aq.toArray=its'.toArray) (hv:Vals ys its') (hz:ys.length<=sizeLine):
  Inv X a7 σ (upd H l (.lst ys)) {s with heap:=s.heap.update l (Obj.mapSeq f),toks:=t' }:=by
 have q:=PySem.IsL.update e f;rw[hf]at q;refine I.write (hH▸trivial) (.inl rfl) (λb' u hb hu=>(Heap.get?_update_other s.heap _ (Z9 hb)).trans hu) #[_,q] ?_;exact#[hz,its',_,hv,q]
theorem Inv.lnew{aq t'}(I:Inv X a7 σ H s)(hv:Vals ys aq)(hz:ys.length<=sizeLine):
  Inv X a7 σ (upd H s.heap.objs.size (.lst ys)) {s with heap:=s.heap.push {cls:=.type "list",data:=.seq aq.toArray},toks:=t' }:=
 I.laid (λ_ _ q=>X4 _ q) (Xk _) #[hz,aq,0,hv,Xh _ rfl]
theorem Inv.fresh(I:Inv X a7 σ H s):H s.heap.objs.size=none:=I.hok.fresh (Xk _)
theorem Inv.lstM(I:Inv X a7 σ H s)(hH:H l=some (.lst xs)):xs.length<=sizeLine/\∃(aq:List Value) (n:Nat),Vals xs aq/\xs.length=aq.length/\s.heap.get? l=some {cls:=.type "list",data:=.seq aq.toArray n}:=by
 obtain⟨z,aq,n,r,e⟩:=I.hok l _ hH;exact#[z,aq,n,r,r.length,e]
theorem vw7{n}(h:n<=sizeLine):Builtin.List.listTooLong n=false:=by
 unfold Builtin.List.listTooLong
 simp_all
end
section
variable {X:Cx}
noncomputable def kq5:V->List V->Hp->VK->Prop:=λx vs H Q=>∃l xs y,x=.ref l/\vs=[y]/\H l=some (.lst xs)/\xs.length<sizeLine/\Q .non (upd H l (.lst (xs++[y])))
theorem jx7:MtM X "list.append" kq5:=by
 rintro a7 s σ H x vs v us Q I rx rv ⟨l,xs,y,rfl,rfl,hH,hz,q⟩;cases rx;obtain⟨u,rfl,ru⟩:=rv.one;obtain⟨z,aq,n,r,hl,e⟩:=I.lstM hH;refine call_meets F.slot_list_append #[_,e,rfl] F.entry_list_append (F.args_list_append_2 _ _) (PySem.list_append l aq.toArray n u (by simp_all)) #[e,(#[.non,_,I.lset (its':=aq++[u]) hH e (by simp) (r.append (.cons ru .nil)) ?_,rfl,q])];rw[Xf,List.length_singleton];lia
noncomputable def vxi:V->List V->Hp->VK->Prop:=λx vs H Q=>∃l xs i k y,x=.ref l/\vs=[.int i]/\H l=some (.lst xs)/\-(2 ^ 63)<=i/\i<2 ^ 63/\seqIndex? i xs.length=some k/\xs[k]?=some y/\Q y (upd H l (.lst (xs.eraseIdx k)))
theorem vw9:MtM X "list.pop" vxi:=by
 rintro a7 s σ H x vs v us Q I rx rv ⟨l,xs,i,k,y,rfl,rfl,hH,h1,h2,hk,hy,q⟩;cases rx;obtain⟨u,rfl,ru⟩:=rv.one;obtain⟨t,rfl⟩:=ru;obtain⟨z,aq,n,r,hl,e⟩:=I.lstM hH;obtain⟨w,hw,qd⟩:=r.get hy;refine call_meets F.slot_list_pop #[_,e,rfl] F.entry_list_pop (F.args_list_pop_2 _ _)
  (MeetsSeq.list_pop_at l aq.toArray n i t k w (fitsIndex_both h1 h2) (by rw[Xe,<-hl];exact hk) (Yu▸hw) (by rw[Xe];lia)) #[e,?_]
 refine#[y,_,I.lset (its':=aq.eraseIdx k) hH e ?_ (r.eraseIdx k) ?_,qd,q]
 ·show aq.toArray.eraseIdxIfInBounds k=(aq.eraseIdx k).toArray;rw[List.eraseIdxIfInBounds_toArray]
 ·have:=qji xs k;lia
theorem vk7{α:Type}(xs:List α) k:(List.replicate k xs).flatten.length=k*xs.length:=by
 induction k with|zero=>simp|succ k ih=>simp_all
end
end L2
namespace Att
open PySem PySem.W PySem.Calls PyProof.Rows
theorem kqm{P h}:∀ns vs,WellAll P h vs (ns.map WData.int)->IntsAre vs ns:=by
 intro ns
 induction ns with
 | nil=>
  intro vs w;cases w;exact .nil
 | cons n ns ih=>
  intro vs w;cases w with
  |cons a b=>
   cases a;exact .cons _ _ (ih _ b)
theorem script_of{l:OpenLaw}{n}(hn:l.most=some n){P h args}{du}
  (oq:l.row.toRowW.claim.pre args=true) (qp:WellAll P h du args):
  ∃a vs ns,du=[Value.ref a]/\args=[WData.list (ns.map WData.int)]/\h.get? a=some {cls:=.type "list",data:=.seq vs.toArray}/\IntsAre vs ns/\ns.length<=n:=by
 have hsh:WShape.hasAll [] args [.list .int]=true:=(pre_splitW oq).1;have hc:l.pre.holds [] {args:=args}=true:=(pre_splitW oq).2;obtain⟨d,r,rfl,h1,h2⟩:=hasAllW_cons hsh;obtain rfl:=hasAllW_nil h2;obtain⟨xs,rfl,h3⟩:=hasW_list h1;obtain⟨ns,rfl⟩:=items_int h3;have az:ns.length<=n:=by
  unfold OpenLaw.pre at hc;have h4:(WTm.not (.lt (.lit (.int n)) (.len (.arg 0)))).holds [] {args:=[.list (ns.map .int)]}=true:=by
   have h4:=(holds_andW hc).1;rw[hn]at h4;exact h4
  have h5:=condW_of h4 (w_not (w_lt w_lit (w_len_list (w_arg rfl))))
  grind
 cases qp with
 |cons w1 w2=>
  cases w2;cases w1 with|list ho rn=>exact#[_,_,ns,rfl,rfl,ho,kqm ns _ rn,az]
theorem post_true(l:OpenLaw) args:l.row.toRowW.claim.post args (.bool true) args=true:=
 postW_of
  (show WShape.has [] _ .bool=true by first|rfl|decide|simp[WShape.armsAll])
  (w_eq_bool (w_res rfl) w_lit) rfl
end Att
namespace L2
open PySem PySem.Spec PyProof.Rows
noncomputable def xky(H:Hp):Prop:=∀b,H b=none\/∃o xs,H b=some (.frz o (.lst xs))
noncomputable def VZ(s:Stmt):Arguments:=match s with
 |.FunctionDef _ a _ _ _ _ _ _ _ _=>a|_=>{posonlyargs:=[],args:=[],vararg:=none,kwonlyargs:=[],kw_defaults:=[],kwarg:=none,defaults:=[]}
noncomputable def KQ(s:Stmt):List Stmt:=match s with
 |.FunctionDef _ _ b _ _ _ _ _ _ _=>b|_=>[]
noncomputable def jV(s:Stmt):Scope:=match s with
 |.FunctionDef _ _ _ _ _ _ sc _ _ _=>sc|_=>{kind:=.function,names:=[],isGenerator:=false,isCoroutine:=false}
structure Fun (K:Frag)(x qual:Str)(st:Stmt)(f:Addr)(fd:FuncData):Prop where
 ex:∃(oc:Value) (od:Option Addr) (kV iq pm:Value) (an:Option Addr) (dw ct:Value) (om:Array (Option Value)),
  fd=PySem.W.fnOf x qual (VZ st) (KQ st) (jV st) .none kV iq pm an dw ct/\K.lookup f=some #[oc,od,.func fd,om]/\PySem.W.codeIn K dw qual=true
 kp:PySem.W.keepIn K (.ref f)=true
section
variable {P:Program}{w:World}{K:Frag}{mg:Str->Option Value}{base:Heap}
theorem Fun.binds{x qual st f fd ps}(F:Fun K x qual st f fd)
  (h:∀kV iq pm an (dw ct) us,us.length=ps.length->bindArgs (PySem.W.fnOf x qual (VZ st) (KQ st) (jV st) .none kV iq pm an dw ct) #[us,[]]=pure (ps.zip us)):Binds K fd ps []:=by
 obtain⟨oc,od,kV,iq,pm,an,dw,ct,om,rfl,lk,jm⟩:=F.ex;exact .all (h kV iq pm an dw ct)
theorem vku{x qual st f oc od an om kV iq pm dw ct}(l:K.lookup f=some #[oc,od,.func (PySem.W.fnOf x qual (VZ st) (KQ st) (jV st) .none kV iq pm an dw ct),om])
  (c:PySem.W.codeIn K dw qual=true) (k:PySem.W.keepIn K (.ref f)=true):Fun K x qual st f (PySem.W.fnOf x qual (VZ st) (KQ st) (jV st) .none kV iq pm an dw ct):=#[#[oc,od,kV,iq,pm,an,dw,ct,om,rfl,l,c],k]
end
section
variable {X:Cx}
theorem pv(i:Nat){x:Str}{pos:Pos}(hN:autoParam (X.N[i]?=some x) Ŕ)(hv:autoParam (Vis X.env.scope x) ř)(hd:autoParam (Abd x) ŕ)
  (jm:autoParam ((x==("__classdict__":Str))=false) ŕ):PE X (.Name x pos) (J4 i):=ww1 hN hv hd jm
end
def kJ(H H':Hp):Prop:=∀b o,H b=some o->H' b=some o
section
variable {κ:Type}[DecidableEq κ]
theorem KV.length{bf}{vs:List (κ×Value)}(r:KV bf vs):bf.length=vs.length:=Paired.length r
end
section
variable {P:Program}{w:World}{H:Hp}{h:Heap}{a:Addr}
theorem xj7{u}(ok:HOk P w H h)(e:Rd H a u):ObjOk P w H h a u:=e.ok ok
theorem xkl{bf}(ok:HOk P w H h)(e:Rd H a (.dK bf)):bf.length<=sizeLine/\(a==sysModules)=false/\∃vs,KV bf vs/\h.DictOf (kxa P w) a vs:=
 show ObjOk P w H h a _ from xj7 ok e
end
section
variable {X:Cx}{a7:LA9}{σ:St}{H:Hp}{s:Shared}{a:Addr}{bf:List (Key×V)}{k:Key}{u:Value}{A:Around}{E:VP9}
theorem xko{Q}(I:Inv X a7 σ H s)(e:Rd H a (.dK bf))(h:∀t s',Inv X a7 σ H s'->Q (.int bf.length t) s'):wpAny (model X.prog X.w) A (call (.builtin "len") [.ref a]) Q E s:=by
 obtain⟨z,hd,vs,rel,dd⟩:=xkl I.hok e;refine call_len_dict hd dd (by rw[<-rel.length];rw[sizeLine_eq]at z;lia) ?_;rw[<-rel.length];exact h _ _ (I.tok _)
end
section
variable {X:Cx}
theorem vqa:CallR X (.builtin "len") (λxs H Q=>∃a bf,xs=[V.ref a]/\H a=some (.dK bf)/\Q (.int bf.length) H):=by
 rintro a7 s σ H xs us Q I r ⟨a,bf,rfl,ha,q⟩;obtain⟨u,rfl,ru⟩:=zQ r;cases ru;exact xko I (.inl ha) λt s' I'=>#[.int bf.length,H,I',#[t,rfl],q]
end
end L2
set_option maxHeartbeats 4000000
namespace L3
open PySem PySem.Spec PyProof.Rows L2
abbrev vkb(gb:List Expr)(env:Env):Sem Bool:=
 forIn gb true λc r=>if r=true then do let ok <-isTrue c env (eval c env);pure (ForInStep.yield ok)else pure (ForInStep.yield r)
theorem jxe (env): ∀(l : List (Str × NameKind)) (cs),(∀y ∈ l,y.2 = .free -> ∃c,env.cells.lookup y.1 = some c) ->
    (∀x c,cs.lookup x = some c -> env.cells.lookup x = some c) ->
    ∃ cl,(forIn l cs (λx r=>if(x.2==NameKind.free) = true then do let a <-cellOf env x.1; pure (ForInStep.yield ((x.1,a)::r))else pure (ForInStep.yield r)): Sem (List (Str × Addr))) = pure cl /\
      (∀x c,cl.lookup x = some c -> env.cells.lookup x = some c) /\ (∀x c,cs.lookup x = some c -> ∃c',cl.lookup x = some c') /\ ∀y ∈ l,y.2 = .free -> ∃c,cl.lookup y.1 = some c
  | [],cs,_,hs=>#[cs,rfl,hs,λx c h=>#[c,h],λ_ h=>nomatch h]
  | (n,k)::r,cs,hl,hs=>by
    by_cases hk : k = .free
    · subst hk
      obtain⟨c,hc⟩:= hl _ X2 rfl;have nt : ∀x d,((n,c)::cs).lookup x = some d -> env.cells.lookup x = some d:= λx d h=>by
        rw[Z4]at h;cases hx : x==n with| true=>simp_all| false=>rw[hx]at h; exact hs x d h
      obtain⟨cl,e,a,b,d⟩:= jxe env r _ (λy hy=>hl y (lc9 _ hy)) nt;refine#[cl,?_,a,λx c' h=> ?_,λy hy hf=> ?_]
      · rw[List.forIn_cons]
        have q : cellOf env n = pure c:= by unfold cellOf; rw[hc]
        simp only[q];exact e
      · cases hx : x==n with| true=>exact b x c (by rw[Z4,hx])| false=>exact b x c' (by rw[Z4,hx]; exact h)
      · rcases aD hy with z|z
        · simp_all
        · exact d y z hf
    · obtain⟨cl,e,a,b,d⟩:= jxe env r cs (λy hy=>hl y (lc9 _ hy)) hs
      refine#[cl,?_,a,b,λy hy hf=> ?_]
      · rw[List.forIn_cons]
        have q : (k==NameKind.free) = false:= by simpa using hk
        simp only[q];exact e
      · rcases aD hy with z|z
        · subst z
          exact absurd hf hk
        · exact d y z hf
theorem kwb{scope env}(h:∀y∈scope.names,y.2=.free->∃c,env.cells.lookup y.1=some c):
  ∃cl,closureFor scope env=pure cl/\(∀x c,cl.lookup x=some c->env.cells.lookup x=some c)/\∀y∈scope.names,y.2=.free->∃c,cl.lookup y.1=some c:=by
 obtain⟨cl,e,a,_,d⟩:=jxe env scope.names [] h (λx c h=>nomatch h);refine#[cl,?_,a,d];unfold closureFor
 grind
noncomputable def lcX(X:Cx)(scope:Scope)(N:List Str)(cl:List (Str×Addr))(C:Addr)(s0:Shared)(H0:Hp)(fp:List Addr):Cx:=
 {X with N:=N,s₀:=s0,H₀:=H0,env:=compEnvC scope cl C X.env,outer:=X.stack,ex:=fp,fn:=λ_=>false,pn:=[],xe:=λ_ _=>False}
noncomputable def Kz(k:Nat)(R:List Nat)(σ:L2.St):L2.St:=List.replicate k none++R.map λj=>(σ[j]?).join
structure LcOk (X:Cx)(scope:Scope)(N:List Str)(k:Nat)(R:List Nat):Prop where
 kind:scope.kind=.function
 nocell:∀y∈scope.names,y.2≠.cell
 names:∀y∈scope.names,y.2=.local->scope.names.lookup y.1=some .local
 caps:∀y∈scope.names,y.2=.free->X.env.kindOf y.1=some .cell\/X.env.kindOf y.1=some .free
 len:N.length=k+R.length
 outs:∀i j x,R[i]?=some j->N[k+i]?=some x->X.N[j]?=some x/\scope.names.lookup x=some .free
noncomputable def VX(XN:List Str)(sc scope:Scope)(N:List Str)(k:Nat)(R:List Nat):Bool:=
 scope.names.all (λy=>y.2 != .cell)&&scope.names.all (λy=>y.2 != .local||scope.names.lookup y.1==some .local) &&
 scope.names.all (λy=>y.2 != .free||(sc.names.lookup y.1==some .cell||sc.names.lookup y.1==some .free)) &&
 (N.length==k+R.length)&&(R.zip (N.drop k)).all (λp=>XN[p.1]? == some p.2&&scope.names.lookup p.2==some .free)
theorem qvu{X scope N k R}(hk:scope.kind=.function)(h:VX X.N X.env.scope scope N k R=true):LcOk X scope N k R:=by
 unfold VX at h;simp only[Bool.and_eq_true,Yi,bne_iff_ne,Bool.or_eq_true,beq_iff_eq]at h;obtain⟨⟨⟨⟨h1,h2⟩,h3⟩,h4⟩,h5⟩:=h;refine#[hk,λy hy=>h1 y hy,λy hy e=>(h2 y hy).resolve_left (λz=>z e),λy hy e=>(h3 y hy).resolve_left (λz=>z e),h4,λi j x e1 e2=>?_];have m:(j,x)∈R.zip (N.drop k):=by
  refine Ya (i:=i) ?_;rw[List.getElem?_zip_eq_some]
  simp_all
 exact h5 _ m
theorem jkv {env : Env} {x q}: ∀{names : List (Str × NameKind)},(names.map λ(n,k)=>if(k==NameKind.free&&env.scope.kind == .function&&env.kindOf n==some .cell)then(n,NameKind.cell)else(n,k)).lookup x = some q ->
    (x,q) ∈ names \/ (q = .cell /\ (x,NameKind.free) ∈ names)
  | [],h=>nomatch h
  | (n,k)::r,h=>by
    have h : List.lookup x ((if _ = true then _ else _)::_) = some q:= h
    by_cases hc : (k==NameKind.free&&env.scope.kind == .function&&env.kindOf n==some .cell) = true
    · rw[X8 hc,Z4]at h
      cases hx : x==n with
      | true=>simp_all
      | false=>
        rw[hx]at h;rcases jkv h with z|⟨z,y⟩
        · exact .inl (lc9 _ z)
        · exact .inr #[z,lc9 _ y]
    · rw[Xd hc,Z4]at h
      cases hx : x==n with
      | true=>simp_all
      | false=>
        rw[hx]at h;rcases jkv h with z|⟨z,y⟩
        · exact .inl (lc9 _ z)
        · exact .inr #[z,lc9 _ y]
section
variable {X:Cx}{a7:LA9}{σ:L2.St}{H:Hp}{s:Shared}
theorem www{scope N k R cl C}(sc:LcOk X scope N k R)(cp:∀y∈scope.names,y.2=.free->∃c,cl.lookup y.1=some c)
  {x} (h:(compEnvC scope cl C X.env).kindOf x=some .cell\/(compEnvC scope cl C X.env).kindOf x=some .free):∃c,cl.lookup x=some c:=by
 rcases h with h|h
 ·rcases jkv h with z|⟨_,z⟩
  ·exact absurd rfl (sc.nocell _ z)
  ·exact cp _ z rfl
 ·rcases jkv h with z|⟨z,_⟩
  ·exact cp _ z rfl
  ·cases z
theorem wwx{scope N k R cl}{C:Addr}{fp}(I:Inv X a7 σ H s)(sc:LcOk X scope N k R)(hf:∀b∈fp,zx X a7 H b)(ho:∀b∈fp,∃o,s.heap.get? b=some o)
  (hC:s.heap.objs.size<=C) (ik:∀x c,cl.lookup x=some c->X.env.cells.lookup x=some c) (cp:∀y∈scope.names,y.2=.free->∃c,cl.lookup y.1=some c):(lcX X scope N cl C s H fp).Ok where
 mod:=I.ok.mod
 kind:=sc.kind
 glob:=I.ok.glob
 blt:=I.ok.blt
 above:=hC
 inj:=λx y c h1 h2=>I.ok.inj x y c (ik _ _ h1) (ik _ _ h2)
 has:=λx h=>www sc cp h
 cab:=λx c h=>by cases h
 hd:=I.ok.hd
 frames:=I.ok.frames
 stk:=.inl rfl
 exf:=λb hb=>by
  obtain⟨o,e⟩:=ho b hb;exact#[Xv (Xp (Xl e) hC),λx c h=>(hf b hb).2.2.2.2.1 x c (ik x c h)]
 bs:=λb o e=>I.bs b o e
 bsz:=Xs I.ok.bsz I.sz
 noex:=λb o e hb=>by
  rcases(hf b hb).2.2.2.1 with z|z
  ·exact I.ok.noex b o e z
  ·exact absurd (Xp (Xl e) (Xs I.ok.bsz z)) (Yw _)
 exfs:=λb hb hs=>by
  rcases aD (I.stkSub b hs)with z|z
  ·exact(hf b hb).2.1 z
  ·exact(hf b hb).2.2.1 z
 funs:=I.stack
 frf:=I.stkFree
theorem wqn(I:Inv X a7 σ H s){a:Addr}(h:s.heap.objs.size<=a):a∉frs X.stack:=λz=>by
 rcases aD (I.stkSub a z)with e|e
 ·subst e;exact absurd (Xp I.lt h) (Yw _)
 ·exact I.nofs h e
theorem wk0 {scope N k R cl} {C D:Addr} {fp h1 t m oD} (I:Inv X a7 σ H s) (sc:LcOk X scope N k R)
  (hf:∀ b∈fp,zx X a7 H b) (ho:∀b∈fp,∃o,s.heap.get? b=some o)
  (hC:s.heap.objs.size<=C) (hD:s.heap.objs.size<=D) (su:D≠C) (ik:∀x c,cl.lookup x=some c->X.env.cells.lookup x=some c) (cp:∀y∈scope.names,y.2=.free->∃c,cl.lookup y.1=some c)
  (i4:∀ b o,s.heap.get? b=some o->h1.get? b=some o) (hn:h1.Ns C m) (eD:h1.get? D=some oD) (dD:∀v,oD.data≠.cell v):
  Inv (lcX X scope N cl C s H fp) [(D,oD)] (Kz k R σ) H {s with heap:=h1,toks:=t} where
 ok:=wwx I sc hf ho hC ik cp
 os:=rfl
 bare:=I.bare
 base:=Un.kept i4
 loc:=#[m,hn,λi x v e1 e2 vis=>by
  obtain⟨mX,hnX,hl⟩:=I.loc;unfold Kz at e2
  by_cases hi:i<k
  ·rw [List.getElem?_append_left (by simp_all),List.getElem?_replicate,X8 hi]at e2
   grind
  ·have hk:k<=i:=Nat.le_of_not_lt hi;rw [List.getElem?_append_right (Yt▸hk),Yt,Xi]at e2;cases er:R[i - k]? with
   | none=>simp_all
   | some j=>
    rw [er]at e2;have ej:(σ[j]?).join=some v:=by simpa using e2
    have ej':σ[j]?=some (some v):=by
     cases q:σ[j]? with| none=>rw[q]at ej;cases ej| some z=>simp_all
    obtain⟨o1,o2⟩:=sc.outs _ j x er (by rw[show k+(i - k)=i by lia];exact e1);have cap:=sc.caps (x,.free) (Yr o2) rfl;have visX:Vis X.env.scope x:=cap.elim (λz=>.inr (.inl z)) λz=>.inr (.inr z)
    obtain⟨u,ru,q⟩:=hl j x v o1 ej' visX;refine#[u,ru,?_];rcases q with⟨q,_⟩|⟨_,c,ec,hc⟩
    ·simp_all
    ·obtain⟨c',ec'⟩:=cp (x,.free) (Yr o2) rfl;have e:=oq9 ((ik x c' ec').symm.trans ec);subst e;refine .inr #[?_,c',ec',?_]
     ·rcases vis with z|z|z
      ·rcases jkv (env:=X.env) (names:=scope.names) z with y|⟨y,_⟩
       ·have y':=sc.names _ y rfl
        grind
       ·cases y
      ·exact .inl z
      ·exact .inr z
     ·obtain⟨o,h1,h2⟩:=hc;exact#[o,i4 _ _ h1,h2]]
 cell:=λx c h=>by
  obtain⟨v,o,h1,h2⟩:=I.cell x c (ik x c h);exact#[v,o,i4 _ _ h1,h2]
 free:=I.hok.fresh hC
 freeC:=λx c h=>I.freeC x c (ik x c h)
 pin:=λp hp=>by
  have e:p=(D,oD):=by
   have hp:p∈([]++[(D,oD)]:LA9):=hp
   simpa using hp
  subst e;exact#[eD,I.hok.fresh hD,su,wqn I hD,dD]
 hok:=I.hok.kept i4
 len:=by
  show(Kz k R σ).length=N.length;unfold Kz;rw[sc.len,Xf,Yt,X1]
theorem vkn{a o}(I:Inv X a7 σ H s)(hn:H a=none)(hL:a≠X.env.locals)(h1:a∈X.ex\/X.s₀.heap.objs.size<=a)(h2:∀x c,X.env.cells.lookup x=some c->c≠a)(h3:∀p∈X.pn++a7,p.1≠a)
  (new:ObjOk X.prog X.w (upd H a o) s.heap a o):Inv X a7 σ (upd H a o) s:=by
 have hok:HOk X.prog X.w (upd H a o) s.heap:=λb u e=>by
  by_cases hb:b=a
  ·subst hb;rw[xV]at e;cases e;exact new
  ·rw[kj hb]at e;exact(I.hok b u e).stay (λ_ _ _ q=>q) (λc q=>by rw[kj (xY q hn)];exact q) λc xs q=>by rw[kj (xY q hn)];exact q
 have na:∀b,b∉[a]->b≠a:=λb hb z=>hb (z▸aB rfl)
 exact I.step (h':=s.heap) (H':=upd H a o) (g':=s.gens) (t':=s.toks) (d':=s.drawn)
  (λb hb=>by rw[aC hb];exact#[h1.imp id λz=>Yf z,hL,h2,h3]) (λb o _ _ _ e _=>e) (λb o _ _ _ e _=>#[o.slots,e]) (λb o hb _ q=>by rw[kj (na b hb)];exact q)
  (λb o _ e=>#[o,e]) (λb xs q=>by rw[kj (xY q hn)];exact q) (λb o u q=>by rw[kj (xY q hn)];exact q) (λb ps q=>#[(List.toArray []),by rw[kj (xY q hn),q];simp])
  (λm hm=>hm) hok I.bare
end
noncomputable def PTs(X:Cx)(gb:List Expr)(t:TT):Prop:=
 ∀(a7:LA9) (s:Shared) (σ:L2.St) (H:Hp) (Q:Bool->Hp->Prop),Inv X a7 σ H s->t σ H Q->wpAny (model X.prog X.w) X.A (vkb gb X.env) (TP X a7 σ Q) X.xe s
abbrev tYes:TT:=λ_ H Q=>Q true H
theorem wja{X}:PTs X [] tYes:=λ_ _ _ H _ I h=>wpAny_tests_nil #[H,I,h]
theorem wj9{X c t}(hc:PT X c t):PTs X [c] t:=λa7 s σ H Q I h=>wpAny_tests_one (hc a7 s σ H Q I h)
noncomputable def LcW(g:TG)(tt:TT)(te:TE)(Q:VK)(J:It)(W:Nat->Nat->List V->L2.St->Hp->Prop):Prop:=∀i m ys σ H,W i m ys σ H ->
 (J.stop i H/\ys.length<=sizeLine/\∀p,H p=none->Q (.ref p) (upd H p (.lst ys))) \/
 (J.go i H/\∀x H1,J.yld i H x H1->g x σ H1 fun σ2 H2=>∃(Ny:VK) (Nn:Hp->Prop),(∀y H4,Ny y H4->ys.length<=sizeLine/\∃m',m'<m/\W (i+1) m' (ys++[y]) σ2 H4) /\
  (∀H4,Nn H4->∃m',m'<m/\W (i+1) m' ys σ2 H4)/\tt σ2 H2 λb H3=>if b=true then te σ2 H3 Ny else Nn H3)
abbrev tLC(wi:TI)(g:TG)(tt:TT)(te:TE)(k:Nat)(R:List Nat):TE:=fun σ H Q=>wi σ H λJ H1=>
 ∃W:Nat->Nat->List V->L2.St->Hp->Prop,(∃m,W 0 m [] (Kz k R σ) H1)/\LcW g tt te Q J W
abbrev wq2(aq:List Value)(n:Nat):Obj:={cls:=.type "list",data:=.seq aq.toArray n}
section
variable {X:Cx}
theorem op_mulI:OpR X (binaryOp .Mult) (rI IntMulOk λi j=>.int (i*j)):=opI λ_ _ _ _ _ _ _ hc q=>mul_int q hc
def wzg(_i j:Int):Prop:=0<j/\j.natAbs.log2<9000
theorem vw4:OpR X (binaryOp .FloorDiv) (rI wzg λi j=>.int (i / j)):=opI λi j _ _ _ _ _ hc q=>by
 have h1:=hc.1;exact floordiv_int ⋯ (by rw[Int.fdiv_eq_ediv_of_nonneg i ⋯];exact q) (.inl (PyProof.noPylong_of_log2 hc.2))
noncomputable def kinds:List String:=["NoneType","bool","int","str","list","tuple","dict"]
def wxb(T U:String):Bool:=T==U||(T == "bool" && U == "int")
theorem qq8{K T U}(hT:T∈kinds)(hU:U∈kinds.tail):kitOne K (.type T) (.type U)=some (wxb T U):=by
 simp only[kinds,List.tail_cons,Y5,Y9,or_false]at hT hU;rcases hT with rfl|rfl|rfl|rfl|rfl|rfl|rfl<;>rcases hU with rfl|rfl|rfl|rfl|rfl|rfl<;>ac_rfl
noncomputable def xqa(K:Frag):List V->Hp->VK->Prop:=λxs H Q=>∃x T U,xs=[x,.ty U]/\TyOf K H x (.type T)/\T∈kinds/\U∈kinds.tail/\Q (.bl (wxb T U)) H
theorem vwu:CallR X (.builtin "isinstance") (xqa X.K):=by
 rintro a7 s σ H xs us Q I r ⟨x,T,U,rfl,ty,hT,hU,q⟩;obtain⟨u,w',rfl,r1,r2⟩:=qwn r;cases(r2);exact vkk I r1 ty (qq8 hT hU) λtk=>#[.bl _,H,I.tok _,rfl,q]
theorem vz6:∀{bs:List Bool} {aq} {i:Nat} {v},Vals (bs.map V.bl) aq->aq[i]?=some v->∃b,bs[i]?=some b/\v=.bool b
 |[],_,_,_,.nil,e=>by simp_all
 |b::bs,_,0,v,.cons r _,e=>by
  simp at e;subst e;exact#[b,rfl,r]
 |b::bs,_,i+1,v,.cons _ t,e=>by
  obtain⟨b',e1,e2⟩:=vz6 t (by simpa using e);exact#[b',by simpa using e1,e2]
theorem kzt(bs:List Bool):((List.range bs.length).all λi=>(bs[i]?).getD true)=bs.all id:=by
 rw[Bool.eq_iff_iff,Yi,Yi];constructor
 ·intro h b hb;obtain⟨i,hi,e⟩:=List.getElem_of_mem hb;have:=h i (List.mem_range.mpr hi);rw[X3 hi,e]at this;exact this
 ·intro h i hi;have ph:=List.mem_range.mp hi;rw[X3 ph];exact h _ (Yj ph)
noncomputable def xjd(K:Frag):List V->Hp->VK->Prop:=λxs H Q=>∃(p:Addr) (bs:List Bool),xs=[.ref p]/\SqL K H p (bs.map V.bl)/\Q (.bl (bs.all id)) H
theorem vwx(hc:X.calm=true):CallR X (.builtin "all") (xjd X.K):=by
 rintro a7 s σ H xs us Q I r ⟨p,bs,rfl,hq,q⟩;obtain⟨u,rfl,ru⟩:=zQ r;cases ru;obtain⟨aq,rv,pl,hz⟩:=I.list hq;have hl:=pl.isList;have dl:p<s.heap.objs.size:=by obtain⟨_,e,_⟩:=hl;exact Xl e
 have az:bs.length=aq.length:=by rw[<-rv.length,X1]
 refine call_all_walk (wpAny_pyIter_list hl ?_);refine#[s.heap.objs.size,[s.heap.objs.size,p],[s.heap.objs.size],aq.toArray.size,_,_,λi=>(bs[i]?).getD true,rfl,Walks.list (A:=X.A.in1) (I.ok.hd hc) _ p (Xv dl) aq.toArray,
  #[#[_,Xh _ rfl,rfl,rfl],hl.push _],λi v s' Q' E' hP hQ=>?_,λh' tk hk=>?_]
 ·obtain⟨b,e,rfl⟩:=vz6 rv (by simpa using hP);simp only[e]at hQ;exact Yo hQ
 ·have e:((List.range aq.toArray.size).all λi=>(bs[i]?).getD true)=bs.all id:=by
   rw[Xe,<-az];exact kzt bs
  rw[e];refine#[.bl _,H,I.kept (t':=tk) (h':=h') λb o e=>hk b o (λz=>?_) (X4 _ e),rfl,q];exact absurd (Xl e) (aC z▸Yw _)
noncomputable def Its(x:Str):It:=#[λi _=>i<x.cps.size,λi H v H'=>H'=H/\∃c,x.cps[i]?=some c/\v=.str #[(List.toArray [c])],λi _=>i=x.cps.size]
theorem qqy{P w K tg x t it}{ty}
  (W:∀A',A'.handled=none->Walks P w A' it [it] [it] x.cps.size (SignAt x) (λi h=>h.IsStrIter it ty x t i))
  (ub:∀A (i) (s) (Q) (E),s.heap.IsStrIter it ty x t i->Q (.ref it) s->wpAny (model P w) A (pyIter (.ref it)) Q E s)
  (uy:["enumerate","zip","dict_itemiterator","dict_reverseitemiterator","odict_iterator","itertools.zip_longest","itertools.pairwise"].contains ty=false):
  Turn P w K tg (Its x) [it] it (λi h=>h.IsStrIter it ty x t i) where
 mem:=by simp
 obj:=λi h st b hb=>by
  have e:b=it:=by simpa using hb
  obtain⟨o,e,c,d⟩:=st
  simp_all
 keep:=λi h h' st k=>by
  obtain⟨o,e,r⟩:=st;exact#[o,k it (by simp) o e,r]
 item:=by
  intro X hP hw hK hc i a7 s σ H E I hf st hg;subst hP hw hK;obtain⟨f0,f1,f2,f3,f4,f5⟩:=hf it (by simp);refine(W X.A (I.ok.hd hc)).item i s _ _ hg st λv h' tk hv dq kk=>?_
  obtain⟨c,u,cu,rfl⟩:=hv;have I1:Inv X a7 σ H {s with heap:=h',toks:=tk}:=I.turned (λb o hb e=>kk b o (by simpa using hb) e) f0 f1 f3 f4 f5;obtain⟨o,e,c1,d⟩:=id dq;exact#[_,rfl,vwj e c1 d uy #[.str #[(List.toArray [c])],H,I1,#[u,rfl],#[rfl,c,cu,rfl],dq,λb hb=>(hf b hb).1]]
 done:=by
  intro X hP hw hK hc i a7 s σ H E I hf st hg;subst hP hw hK;obtain⟨f0,f1,f2,f3,f4,f5⟩:=hf it (by simp);subst hg;exact(W X.A (I.ok.hd hc)).done s _ _ st λh' tk kk=>#[rfl,I.turned (λb o hb e=>kk b o (by simpa using hb) e) f0 f1 f3 f4 f5]
 self:=λA i s Q E st hQ=>ub A i s Q E st hQ
noncomputable def xq4:V->Option Int->Option Int->Hp->VK->Prop:=λx lo hi H Q=>∃z,x=.str z/\z.length<=sizeLine/\Q (.str (Txt.slice z lo hi)) H
theorem wqq:SlR X xq4:=by
 rintro a7 s σ H x v vl vu lo hi sl Q I rx hs pl pu ⟨z,rfl,hz,q⟩;obtain⟨t,rfl⟩:=rx;refine#["str",_,F.slot_str_getitem.lookup,typeIs_str _ _ _,?_];have fin:∀t' k,EP X a7 σ Q _ {s with toks:=k}:=λt' k=>#[.str _,H,I.tok k,#[t',rfl],q]
 have jn:(Txt.slice z lo hi).length<=sizeLine:=Xs (Txt.slice_le z _ _) hz;cases pl with
 |none=>cases pu with|none=>exact wpAny_getItem_str_slice (l:=none) (u:=none) (st:=none) hs rfl (post_val_or_str #[jn,fin])|int j tj=>exact wpAny_getItem_str_slice (l:=none) (u:=some (j,tj)) (st:=none) hs rfl (post_val_or_str #[jn,fin])
 |int i ti=>cases pu with|none=>exact wpAny_getItem_str_slice (l:=some (i,ti)) (u:=none) (st:=none) hs rfl (post_val_or_str #[jn,fin])|int j tj=>exact wpAny_getItem_str_slice (l:=some (i,ti)) (u:=some (j,tj)) (st:=none) hs rfl (post_val_or_str #[jn,fin])
noncomputable def wv0:R2:=λx y H Q=>∃z n,x=.str z/\y=.int n/\(z.length<=1024/\n<=1024/\-1024<=n)/\Q (.str (Txt.mul z n)) H
theorem wjn:OpR X (binaryOp .Mult) wv0:=by
 rintro a7 s σ H x y v u Q I rx ry ⟨z,n,rfl,rfl,⟨h1,h2,h3⟩,q⟩;obtain⟨t,rfl⟩:=rx;obtain⟨t',rfl⟩:=ry;exact SB.mul (mulOk_of 1024 1024 h1 h2 ⋯ (by simp) (by simp)) λt' k=>#[.str _,H,I.tok k,#[t',rfl],q]
theorem qv6:∀{ys aq},Vals (ys.map V.str) aq->StrsAre aq ys
 |[],_,.nil=>.nil|_::_,_,.cons #[t,e] r=>by subst e;exact .cons _ t (qv6 r)
noncomputable def xjb(K:Frag):V->List V->Hp->VK->Prop:=λx vs H Q=>∃z p ys,x=.str z/\vs=[.ref p]/\SqL K H p (ys.map V.str)/\(ys.map (·.length)).sum+ys.length*z.length<=16777216/\Q (.str (Txt.join z ys)) H
theorem wjt:MtR X "str.join" (xjb X.K):=by
 rintro a7 s σ H x xs v us Q I rx rv ⟨z,p,ys,rfl,rfl,hq,hok,q⟩;obtain⟨t,rfl⟩:=rx;obtain⟨u,rfl,ru⟩:=rv.one;cases ru;obtain⟨aq,rs,pl,hz⟩:=I.list hq;exact join_list pl.isList (qv6 rs) hok λt' k=>#[.str _,H,I.tok k,#[t',rfl],q]
noncomputable def vxh(K:Frag):V->Option Int->Option Int->Hp->VK->Prop:=λx lo hi H Q=>xq5 K x lo hi H Q\/xq3 K x lo hi H Q\/xq4 x lo hi H Q
theorem xj4 K (hK:autoParam (X.K=K) Ŕ):SlR X (vxh K):=by subst hK;exact sl_list.or (sl_tup.or wqq)
noncomputable def vj0(K:Frag):List V->Hp->VK->Prop:=λxs H Q=>(∃p ys,xs=[.ref p]/\(SqL K H p ys\/SqT K H p ys)/\Q (.int ys.length) H)\/(∃z,xs=[.str z]/\z.length<=sizeLine/\Q (.int z.length) H)\/(∃a bf,xs=[V.ref a]/\H a=some (.dK bf)/\Q (.int bf.length) H)
theorem wkp K (hK:autoParam (X.K=K) Ŕ):CallR X (.builtin "len") (vj0 K):=by subst hK;exact call_len_seq.or (call_len_str.or vqa)
theorem vqe:CallR X (.type "int") (λxs H Q=>(∃i,xs=[.int i]/\Q (.int i) H)\/∃k,xs=[.bl k]/\Q (.int (if k then 1 else 0)) H):=vqc
theorem YW K (hK:autoParam (X.K=K) Ŕ)(hc:autoParam (X.calm=true) Ŕ):CallR X (.builtin "all") (xjd K):=by subst hK;exact vwx hc
def Zq(K){o e es T name id r to t}{bi au}
  (pa:PlainAttrs T) (slot:Slot T name id) (uy:typeOf (.builtin id)=pure (.type "method_descriptor")) (hm:MtR X id r) (ho:PE X o to) (ha:PA X (e::es) t)
  (bq:autoParam (attributeBase o name X.env (eval o X.env)=eval o X.env) Ŕ)
  (cy:autoParam (((backTo au (starEach (e::es) X.env)).all (λx=>!x.1)&&(backToKw au (keywordEach [] X.env)).all (λx=>x.1.isSome)
   && decide ((e::es).length+([]:List Keyword).length+(if([]:List Keyword).isEmpty then 0 else 1)<30))=true) Ŕ)
  (bp:autoParam (Abe bi au) Ŕ) (hs:autoParam (Abs e es X) Ŕ) (bj:autoParam (Abb au es X) Ŕ) (hK:autoParam (X.K=K) Ŕ):
  PE X (.Call (.Attribute o name bi) (e::es) [] au) (tBM K T r to t):=by subst hK;exact vjk pa slot uy hm ho ha bq cy bp hs bj
theorem wxv:bootBuiltins "len"=some (.builtin "len"):=by decide +kernel
theorem jwp:bootBuiltins "isinstance"=some (.builtin "isinstance"):=by decide +kernel
theorem Zv:bootBuiltins "all"=some (.builtin "all"):=by decide +kernel
theorem wxu:bootBuiltins "sum"=some (.builtin "sum"):=by decide +kernel
theorem vqf:bootBuiltins "sorted"=some (.builtin "sorted"):=by decide +kernel
theorem WJ:bootBuiltins "int"=some (.type "int"):=by decide +kernel
theorem ZZ:bootBuiltins "str"=some (.type "str"):=by decide +kernel
theorem vqg:bootBuiltins "bool"=some (.type "bool"):=by decide +kernel
theorem qqj:bootBuiltins "list"=some (.type "list"):=by decide +kernel
theorem qwi:bootBuiltins "tuple"=some (.type "tuple"):=by decide +kernel
end
noncomputable def Cst(mg:Str->Option Value)(x:Str)(v:V):Prop:=∃u,mg x=some u/\RelV v u
section
variable {X:Cx}{x:Str}{p pos:Pos}{e:Expr}{es:List Expr}{t:TA}{ps:List Str}{sp:Sp}{k:Nat}{v:V}
theorem Wj(c:Cst X.mg x v)(hg:autoParam (Gl X x) Ŕ)(hd:autoParam (Abd x) ŕ):PE X (.Name x pos) (tC v):=by
 obtain⟨u,m,r⟩:=c;exact vji hg m r hd
end
theorem qwj:∀{ns:List Int} {m},PySem.W.WData.weightAll (ns.map PySem.W.WData.int)<=m->∀n∈ns,Builtin.Int.intBits n<=m
 | [],_,_,_,h=>nomatch h
 | a::r,m,h,n,hn=>by
  have h':(if a==0 then 0 else a.natAbs.log2+1)+1+PySem.W.WData.weightAll _<=m:=h;rcases aD hn with z|z
  ·subst z;have e:Builtin.Int.intBits n=(if n==0 then 0 else n.natAbs.log2+1):=rfl
   grind
  ·exact qwj ⋯ n z
theorem qql{ns:List Int}(h:PySem.W.WData.layableAll [PySem.W.WData.list (ns.map PySem.W.WData.int)]=true):∀n∈ns,Builtin.Int.intBits n<=1048576:=by
 have h1:=(PySem.W.layW_cons h).1;unfold PySem.W.WData.layable at h1;simp at h1;have h2:PySem.W.WData.weightAll _<=2 ^ 20:=h1.2;exact qwj (by simpa using h2)
section
variable {X:Cx}
noncomputable def vzz:V->List V->Hp->VK->Prop:=λv vs H Q=>∃(x y:Str) (i:Nat) (b6:List Nat),v=.str x/\vs=[.str y]/\Builtin.Str.occurrences x y 0 x.length 1=i::b6/\Q (.int i) H
theorem wjv:MtR X "str.index" vzz:=by
 rintro a7 s σ H x xs v us Q I rx rv ⟨z,y,i,b6,rfl,rfl,ho,q⟩;obtain⟨t,rfl⟩:=rx;obtain⟨u,rfl,t',rfl⟩:=rv.one;exact SC.index ho #[.int i,H,I.tok _,#[_,rfl],q]
end
abbrev LET:Str:="abcdefghijklmnopqrstuvwxyz"
theorem wjz(z:Str):z.length=z.cps.toList.length:=by rw[Xb];rfl
noncomputable def splitL(c:Nat):List Nat->List (List Nat)
 |[]=>[[]]
 |x::r=>if x=c then[]::splitL c r else match splitL c r with
  |[]=>[[x]]|p::ps=>(x::p)::ps
noncomputable def joinL(c:Nat):List (List Nat)->List Nat
 |[]=>[]|[p]=>p|p::q::r=>p++c::joinL c (q::r)
theorem splitL_ne(c:Nat):∀l,splitL c l≠[]
 |[]=>by simp[splitL]
 |x::r=>by
  unfold splitL
  split
  ·simp
  ·split<;>simp
set_option tactic.hygienic true in
theorem splitL_len(c:Nat):∀l,(splitL c l).length<=l.length+1
 | []=>by simp[splitL]
 | x::r=>by
  have ih:=splitL_len c r;unfold splitL
  split
  ·simp;lia
  ·split
   ·simp
   ·rename_i h;rw[h]at ih
    simpa using Nat.le_succ_of_le ih
theorem kkv{c:Nat}:∀{p:List Nat},c∉p->splitL c p=[p]
 |[],_=>rfl
 |x::r,h=>by
  have hx:x≠c:=λe=>h (by rw[e];exact X2)
  unfold splitL;rw[Xd hx,kkv λz=>h (lc9 _ z)]
theorem kvv{c:Nat}{r:List Nat}:∀{p:List Nat},c∉p->splitL c (p++c::r)=p::splitL c r
 |[],_=>by simp[splitL]
 |x::p,h=>by
  have hx:x≠c:=λe=>h (by rw[e];exact X2)
  rw[List.cons_append,splitL.eq_2,Xd hx,kvv λz=>h (lc9 _ z)]
theorem splitL_join{c:Nat}:∀{ps:List (List Nat)},ps≠[]->(∀p∈ps,c∉p)->splitL c (joinL c ps)=ps
 |[],h,_=>absurd rfl h|[p],_,h=>kkv (h p (aB rfl))
 |p::q::r,_,h=>by
  show splitL c (p++c::joinL c (q::r))=_;rw[kvv (h p X2),splitL_join (by simp) λz hz=>h z (lc9 _ hz)]
theorem joinS_cps(c:Nat):∀zs:List Str,(Txt.join #[(List.toArray [c])] zs).cps.toList=joinL c (zs.map λz=>z.cps.toList):=by
 intro zs;show(Builtin.Str.glued #[(List.toArray [c])] zs).cps.toList=_;rw[StrLaws.glued_eq_join]
 induction zs with
 | nil=>rfl
 | cons z zs ih=>
  cases zs with
  |nil=>simp[Str.join,joinL]
  |cons y ys=>
   show(z.cps++((List.toArray [c]):Array Nat)++(Str.join #[(List.toArray [c])] (y::ys)).cps).toList=_;rw[Array.toList_append,Array.toList_append,ih];show _=z.cps.toList++c::joinL c (y.cps.toList::ys.map λz=>z.cps.toList);simp
theorem str_ext{a b:Str}(h:a.cps.toList=b.cps.toList):a=b:=by
 rw[StrLaws.mk_of_toList h]
theorem split_list(x:Str)(c:Nat):(Txt.split x #[(List.toArray [c])]).map (λz=>z.cps.toList)=splitL c x.cps.toList:=by
 have hj:=StrLaws.join_split x #[(List.toArray [c])];have hf:=StrLaws.split_free x c;have cg:Txt.split x #[(List.toArray [c])]≠[]:=by
  intro e;have e0:x.length<(#[(List.toArray [c])]:Str).length:=by
   rw[e]at hj;have:x=Str.empty:=hj.symm;rw[this];show 0<1;lia
  unfold Txt.split at e
  rw[X8 (by rw[X5 e0,Bool.true_or])]at e;cases e
 have q:=joinS_cps c (Txt.split x #[(List.toArray [c])]);rw[show Txt.join #[(List.toArray [c])] (Txt.split x #[(List.toArray [c])])=x from(StrLaws.glued_eq_join _ _).trans hj]at q;rw[q];refine(splitL_join ?_ ?_).symm
 ·simpa using cg
 ·intro p hp;obtain⟨z,hz,rfl⟩:=aE hp;exact hf z hz
theorem qzl(x:Str)(c:Nat):(Txt.split x #[(List.toArray [c])]).length<=x.length+1:=by
 have h:=congrArg List.length (split_list x c);rw[X1]at h;rw[h,wjz];exact splitL_len _ _
theorem starts_list(x:Str)(c:Nat):Txt.startswith x #[(List.toArray [c])]=decide (x.cps.toList.head?=some c):=by
 have h:=StrLaws.subAt_one x c 0;rw[Bool.eq_iff_iff,decide_eq_true_eq,List.head?_eq_getElem?,<-h];unfold Txt.startswith;rw[Bool.and_eq_true,decide_eq_true_eq]
section
variable {X:Cx}
theorem kz9:∀(k:Nat) (zs:List Str),Vals (zs.map V.str) (strsFrom k zs)
 |_,[]=>.nil|k,z::zs=>.cons #[k,rfl] (kz9 (k+1) zs)
noncomputable def qkr:V->List V->Hp->VK->Prop:=λv vs H Q=>∃x y:Str,v=.str x/\vs=[.str y]/\Q (.bl (Txt.startswith x y)) H
theorem vwa:MtR X "str.startswith" qkr:=by
 intro a7 s σ H x xs v us Q I rx rv h;obtain⟨z,y,rfl,rfl,q⟩:=h;obtain⟨t,rfl⟩:=rx;obtain⟨u,rfl,t',rfl⟩:=rv.one;exact SC.startswith #[.bl _,H,I,rfl,q]
noncomputable def qzy:V->List V->Hp->VK->Prop:=λv vs H Q=>∃(x:Str) (c:Nat),v=.str x/\vs=[.str #[(List.toArray [c])]]/\x.length<sizeLine/\∀p,H p=none->Q (.ref p) (upd H p (.lst ((Txt.split x #[(List.toArray [c])]).map V.str)))
theorem wju:MtR X "str.split" qzy:=by
 intro a7 s σ H x xs v us Q I rx rv h;obtain⟨z,c,rfl,rfl,hz,q⟩:=h;obtain⟨t,rfl⟩:=rx;obtain⟨u,rfl,t',rfl⟩:=rv.one;have az:=qzl z c;have hn:H s.heap.objs.size=none:=I.hok.fresh (Xk _);have fin:∀(aq:List Value) (tk:Nat),Vals ((Txt.split z #[(List.toArray [c])]).map V.str) aq->EP X a7 σ Q (.ref s.heap.objs.size) {s with heap:=s.heap.push {cls:=.type "list",data:=.seq aq.toArray},toks:=tk}:=λaq tk r=>
  #[.ref _,_,I.laid (t':=tk) (λb o e=>X4 _ e) (Xk _) (show ObjOk X.prog X.w _ _ _ (.lst _)from#[by rw[X1];lia,aq,0,r,Xh _ rfl]),rfl,q _ hn]
 by_cases h1:(decide (z.length<(#[(List.toArray [c])]:Str).length)||decide (Builtin.Str.strKind z<Builtin.Str.strKind #[(List.toArray [c])]))=true
 ·refine call_meets F.slot_str_split (typeIs_str _ _ _) F.entry_str_split (F.args_str_split_2 _ _) (meets_str_split_cannot_occur z #[(List.toArray [c])] t t' h1) ?_;have e:Txt.split z #[(List.toArray [c])]=[z]:=by unfold Txt.split;rw[X8 h1]
  exact fin [.str z t] s.toks (by rw[e];exact .cons #[_,rfl] .nil)
 ·have oi:=Bool.eq_false_iff.mpr h1
  by_cases h2:(Builtin.Str.occurrences z #[(List.toArray [c])] 0 z.length (z.length+1)).isEmpty=true
  ·refine call_meets F.slot_str_split (typeIs_str _ _ _) F.entry_str_split (F.args_str_split_2 _ _) (meets_str_split_not_found z #[(List.toArray [c])] t t' oi rfl h2) ?_;have e:Txt.split z #[(List.toArray [c])]=[z]:=by unfold Txt.split;rw[Xd h1,X8 h2]
   exact fin [.str z t] s.toks (by rw[e];exact .cons #[_,rfl] .nil)
  ·have e:Txt.split z #[(List.toArray [c])]=Builtin.Str.partsBetween z (Builtin.Str.occurrences z #[(List.toArray [c])] 0 z.length (z.length+1)) (#[(List.toArray [c])]:Str).length:=by unfold Txt.split;rw[Xd h1,Xd h2]
   refine call_meets F.slot_str_split (typeIs_str _ _ _) F.entry_str_split (F.args_str_split_2 _ _) (meets_str_split_sep z #[(List.toArray [c])] t t' oi rfl (Bool.eq_false_iff.mpr h2) (Nat.le_of_lt hz) (by rw[<-e];lia)) ?_;rw[<-e];exact fin _ _ (kz9 _ _)
noncomputable def vj1:List V->Hp->VK->Prop:=λxs H Q=>(∃i,xs=[.int i]/\Q (.int i) H)\/(∃k,xs=[.bl k]/\Q (.int (if k then 1 else 0)) H)\/∃(x:Str) (n:Int),xs=[.str x]/\PySem.intText? x=some n/\x.length<=640/\Q (.int n) H
theorem jwf:CallR X (.type "int") vj1:=by
 intro a7 s σ H xs us Q I r h;rcases h with h|h|⟨x,n,rfl,hx,hl,q⟩
 ·exact vqe a7 s σ H xs us Q I r (.inl h)
 ·exact vqe a7 s σ H xs us Q I r (.inr h)
 ·obtain⟨u,rfl,t,rfl⟩:=zQ r;exact PySem.W.KIN.call_text hx hl #[.int n,H,I.tok _,#[_,rfl],q]
end
abbrev FIG:Str:="0123456789"
def figC(c:Nat):Bool:=decide (c∈FIG.cps.toList)
noncomputable def numL(cs:List Nat):Bool:=!decide (cs=[])&&cs.all figC&&(decide (cs=[48])||!decide (cs.head?=some 48))
noncomputable def valL(cs:List Nat):Int:=if cs.head?=some 45 then -(NumText.digitsVal cs.tail:Int)else NumText.digitsVal cs
theorem fig_iff(c:Nat):figC c=true↔48<=c/\c<=57:=by
 unfold figC;rw[decide_eq_true_eq];have e:FIG.cps.toList=[48,49,50,51,52,53,54,55,56,57]:=⋯
 rw[e];simp only[Y5,Y9,or_false];omega
theorem let_range:∀c∈LET.cps.toList,97<=c/\c<=122:=⋯
theorem joinL_len{c k:Nat}:∀{ps:List (List Nat)},(∀p∈ps,p.length<=k)->(joinL c ps).length<=ps.length*(k+1)
 |[],_=>by simp[joinL]
 |[p],h=>by
  have:=h p (aB rfl);show p.length<=1*(k+1);lia
 |p::q::r,h=>by
  have h1:=h p X2;have ih:=joinL_len (c:=c) (ps:=q::r) λz hz=>h z (lc9 _ hz)
  show(p++c::joinL c (q::r)).length<=_;rw[Xf,Xg,Xg (a:=p),Nat.add_one_mul];lia
end L3
namespace L2
open PySem PySem.Spec PyProof.Rows
section
variable {P:Program}{w:World}{H H':Hp}{h h':Heap}{a:Addr}{o:HO}
theorem ObjOk.obj(x:ObjOk P w H h a o):∃u,h.get? a=some u:=by
 cases o with|lst xs=>obtain⟨_,_,_,_,e⟩:=x;exact#[_,e]|tup xs=>obtain⟨_,_,_,p⟩:=x;obtain⟨u,e,_⟩:=p;exact#[u,e]|dK bf=>obtain⟨_,_,_,_,o,_,_,e,_⟩:=x;exact#[_,e]|dT bf=>obtain⟨_,_,_,_,o,_,_,e,_⟩:=x;exact#[_,e]|set S n=>obtain⟨o,_,_,_,e,_⟩:=x;exact#[_,e]|ins C dx fs=>obtain⟨_,_,_,e,_⟩:=x;exact#[_,e]|own y=>obtain⟨_,e⟩:=x;exact#[_,e]|xd fs=>obtain⟨_,⟨_,_,_,e,_⟩,_⟩:=x;exact#[_,e]|rng lo hi=>obtain⟨_,_,_,e⟩:=x;exact#[_,e]|frz ob u=>obtain⟨e,_⟩:=x;exact#[_,e]|tbl ps=>exact#[_,x]|met f y=>exact#[_,x]|ext φ=>obtain⟨_,⟨_,e⟩,_⟩:=x;exact#[_,e]
end
end L2
namespace L3
open PySem PySem.Spec PyProof.Rows L2
theorem kqi{e env env0}(h:env.frame=env0.frame):noteFrame e env=noteFrame e env0:=by
 unfold noteFrame PySem.frameOf;rw[h]
structure Fl0 (h:Heap)(x:Addr)(C:Value)(vs:Array Value):Prop where
 ob:h.get? x=some {cls:=C,data:=.fields vs}
 sz:1<vs.size
structure FlT (h:Heap)(x T:Addr)(C:Value)(fl:Value):Prop where
 ex:∃vs,h.get? x=some {cls:=C,data:=.fields vs}/\vs[1]?=some (.ref T)
 tb:∃oT ts,h.get? T=some oT/\oT.data=.fields ts/\ts[3]?=some fl
 ne:T≠x
structure Chg (fs ch:List Addr)(h h':Heap):Prop where
 keep:∀b o,h.get? b=some o->b∉fs->b∉ch->h'.get? b=some o
 slot:∀b o,h.get? b=some o->b∉ch->∃sl,h'.get? b=some {cls:=o.cls,dict:=o.dict,data:=o.data,slots:=sl}
 size:h.objs.size<=h'.objs.size
theorem Chg.trans{fs ch ch' h h1 h2}(a:Chg fs ch h h1)(b:Chg fs ch' h1 h2)(hc:∀x∈ch',x∈ch\/h.get? x=none):Chg fs ch h h2 where
 keep:=λx o e h1 h2=>b.keep x o (a.keep x o e h1 h2) h1 λz=>(hc x z).elim h2 λq=>by rw[q]at e;cases e
 slot:=λx o e hn=>by
  obtain⟨sl,e1⟩:=a.slot x o e hn;obtain⟨t7,e2⟩:=b.slot x _ e1 λz=>(hc x z).elim hn λq=>by rw[q]at e;cases e
  exact#[t7,e2]
 size:=Xs a.size b.size
theorem Chg.mono{fs ch ch' h h1}(a:Chg fs ch h h1)(hc:∀x∈ch,x∈ch'):Chg fs ch' h h1:=#[λb o e h1 h2=>a.keep b o e h1 λz=>h2 (hc b z),λb o e h2=>a.slot b o e λz=>h2 (hc b z),a.size]
theorem Chg.of_upd{fs h a f}: Chg fs [a] h (h.update a f):=
  #[λb o e _ hn=>by rw[Z1 _ _ _ _ (λz=>hn (aB z))]; exact e,
   λb o e hn=>#[o.slots,by rw[Z1 _ _ _ _ (λz=>hn (aB z))]; exact e],by rw[Heap.size_update]; exact Xk _]
theorem Chg.of_push{fs h o}:Chg fs [] h (h.push o):=
 #[λb o e _ _=>X4 _ e,λb o e _=>#[o.slots,X4 _ e],by rw[Heap.size_push];lia]
theorem Chg.of_slots{fs h h'}(s:Heap.SlotsOnly fs h h'):Chg fs [] h h':=
 #[λb o e hn _=>(s.2.1 b hn).trans e,λb o e _=>s.2.2 b o e,by rw[s.1];exact Xk _]
theorem Chg.refl{fs ch h}:Chg fs ch h h:=#[λ_ _ e _ _=>e,λb o e _=>#[o.slots,e],Xk _]
section
variable {M:Model}{A:Around}{E:VP9}{s:Shared}{base:Heap}{env:Env}{outer:List Env}{L x T:Addr}{C fl:Value}
theorem qjx{head hadNext vs Q}(hA:A.frames=some (env::outer))(hF:s.heap.FunFrames base (env::outer))(hL:env.frame=some L)(ho:Fl0 s.heap x C vs)
  (h:∀h' T',Chg (frs (env::outer)) [x] s.heap h'->s.heap.objs.size<=T'->FlT h' x T' C (rawInt ↑L)->Q () {s with heap:=h' }):
  wpAny M A (do
   let a <-PySem.frameOf env
   let pl <-entryPlaceOf L hadNext
   let b <-EntryCells.newEntry head a Value.none (rawInt ↑L) Value.none pl
   setField (Value.ref x) 1 b) Q E s:=by
 refine X0 (wpAny_frameOf_fun hA hF hL λh1 s1=>?_);have hx:x∉frs _:=λz=>by
  obtain⟨_,o,e,hn⟩:=hF.mem z;rw[ho.ob]at e;cases e;exact hn _ rfl
 have o1:h1.get? x=some {cls:=C,data:=.fields vs}:=(s1.2.1 x hx).trans ho.ob;have fin:∀pl,IsPlace pl->wpAny M A (do
   let b <-EntryCells.newEntry head _ Value.none _ Value.none pl
   setField _ 1 b) Q E {s with heap:=h1}:=λpl bv=>by
  refine X0 ?_;unfold EntryCells.newEntry newFields;have har:([head,Value.ref L,Value.none,rawInt ↑L,Value.none]++if pl.isEmpty=true then List.replicate 6 Value.none else pl).toArray[3]?=some (rawInt ↑L):=by simp
  have hsz:([head,Value.ref L,Value.none,rawInt ↑L,Value.none]++if pl.isEmpty=true then List.replicate 6 Value.none else pl).toArray.size<=sizeLine+2:=by
   rcases bv with rfl|⟨_,_,_,_,_,_,_,rfl⟩<;>simp<;>decide
  generalize ([head,Value.ref L,Value.none,rawInt ↑L,Value.none]++if pl.isEmpty=true then List.replicate 6 Value.none else pl).toArray=ar at har hsz;refine Yc ?_ hsz;have o2:(h1.push {cls:=.type "traceback",data:=.fields ar}).get? x=some {cls:=C,data:=.fields vs}:=X4 _ o1;refine Yz o2 rfl ho.sz ?_;have cg:h1.objs.size≠x:=λe=>absurd (Xl o1) (e▸Yw _)
  have o3:((h1.push {cls:=.type "traceback",data:=.fields ar}).update x (Obj.mapFields λy=>y.setIfInBounds 1 (.ref h1.objs.size))).get? h1.objs.size=some {cls:=.type "traceback",data:=.fields ar}:=by
   rw[Z1 _ _ _ _ cg];exact Xh _ rfl
  refine h _ h1.objs.size (((Chg.of_slots s1).mono (λ_ z=>nomatch z)).trans ((Chg.of_push.mono λ_ z=>nomatch z).trans Chg.of_upd λy hy=>.inl hy) λy hy=>.inl hy) (s1.1▸Xk _) #[#[vs.setIfInBounds 1 _,?_,Array.getElem?_setIfInBounds_self_of_lt ho.sz],#[_,_,o3,rfl,har],cg];exact Y3 _ o2 rfl
 exact X0 (wpAny_entryPlaceOf λpl bv=>fin pl bv)
theorem xk0{vs Q}(hA:A.frames=some (env::outer))(hF:s.heap.FunFrames base (env::outer))(hL:env.frame=some L)(ho:Fl0 s.heap x C vs)(hv:vs[1]?=some .none)
  (h:∀h' T',Chg (frs (env::outer)) [x] s.heap h'->s.heap.objs.size<=T'->FlT h' x T' C (rawInt ↑L)->Q () {s with heap:=h' }):wpAny M A (noteFrame (.ref x) env) Q E s:=by
 unfold noteFrame;rw[hL];exact X0 (Z8 ho.ob rfl hv (qjx hA hF hL ho h))
theorem upd3{T oT ts v}{h:Heap}(e:h.get? T=some oT)(ed:oT.data=.fields ts)(h3:3<ts.size):
  ∃o' ts',(h.update T (Obj.mapFields λy=>y.setIfInBounds 3 v)).get? T=some o'/\o'.data=.fields ts'/\ts'[3]?=some v:=by
 obtain⟨c,d,dt,sl⟩:=oT;cases(ed);exact#[_,ts.setIfInBounds 3 v,Y3 _ e rfl,rfl,Array.getElem?_setIfInBounds_self_of_lt h3]
theorem xjz{Q}(hA:A.frames=some (env::outer))(hF:s.heap.FunFrames base (env::outer))(hL:env.frame=some L)(f:FlT s.heap x T C fl)
  (h:∀h' T',Chg (frs (env::outer)) [x,T] s.heap h'->(s.heap.objs.size<=T'\/T'=T)->FlT h' x T' C (rawInt ↑L)->Q () {s with heap:=h' }):wpAny M A (noteFrame (.ref x) env) Q E s:=by
 obtain⟨⟨vs,e1,v1⟩,⟨oT,ts,e2,d2,v2⟩,cg⟩:=f;have h3:3<ts.size:=by
  rw[Array.getElem?_eq_some_iff]at v2;exact v2.1
 have h1:1<vs.size:=by
  rw[Array.getElem?_eq_some_iff]at v1;exact v1.1
 unfold noteFrame;rw[hL];refine X0 (Z8 e1 rfl v1 (X0 (Z8 e2 d2 v2 ?_)))
 by_cases hf:(fl==rawInt ↑L)=true
 ·rw[X8 hf];have e:=eq_of_beq hf;subst e;exact X9 (h s.heap T Chg.refl (.inr rfl) #[#[vs,e1,v1],#[oT,ts,e2,d2,v2],cg])
 ·rw[Xd hf];refine X0 (Yz e2 d2 h3 ?_);have c1:Chg (frs (env::outer)) [x,T] s.heap (s.heap.update T (Obj.mapFields λy=>y.setIfInBounds 3 Value.none)):=Chg.of_upd.mono λy hy=>by
   grind
  have e1':(s.heap.update T (Obj.mapFields λy=>y.setIfInBounds 3 Value.none)).get? x=some {cls:=C,data:=.fields vs}:=by
   rw[Z1 _ _ _ _ cg.symm];exact e1
  have hF':(s.heap.update T (Obj.mapFields λy=>y.setIfInBounds 3 Value.none)).FunFrames base (env::outer):=by
   refine hF.of_keeps λb o e hn=>#[o,?_,rfl]
   rw[Z1 _ _ _ _ λz=>?_]
   ·exact e
   ·grind
  refine qjx hA hF' hL #[e1',h1] λh' T' c2 hs f'=>(h h' T' (c1.trans (c2.mono (ch':=[x,T]) λy hy=>by rw[aC hy];simp) λy hy=>.inl hy) (.inl ?_) f')
  rw[Heap.size_update]at hs;exact hs
theorem wxg{Q fr}(f:FlT s.heap x T C fl)(h:∀h',Chg (frs outer) [x,T] s.heap h'->FlT h' x T C (fr.elim Value.none λf=>rawInt ↑f)->Q () {s with heap:=h' }):wpAny M A (setFlight (.ref x) fr) Q E s:=by
 obtain⟨⟨vs,e1,v1⟩,⟨oT,ts,e2,d2,v2⟩,cg⟩:=f;have h3:3<ts.size:=by
  rw[Array.getElem?_eq_some_iff]at v2;exact v2.1
 refine X0 (Z8 e1 rfl v1 (Yz e2 d2 h3 (h _ (Chg.of_upd.mono λy hy=>by rw[aC hy];simp) #[#[vs,?_,v1],upd3 e2 d2 h3,cg])))
 rwa [Z1 _ _ _ _ cg.symm]
end
theorem vx1:plainId "BaseException.__getattribute__"=true:=by decide +kernel
theorem wkr:builtinKind "BaseException.__getattribute__"=some .slot:=by decide +kernel
theorem vx0:splitId "BaseException.__getattribute__"=some ("BaseException","__getattribute__"):=by decide +kernel
structure XCls (K:Frag)(C:Addr):Prop where
 ga:findIn K (.ref C) "__getattribute__"=some (some (.builtin "BaseException.__getattribute__"))
 gt:findIn K (.ref C) "__getattr__"=some none
 fo:PySem.W.findObj K C none "__class__"=some (.bind (.builtin "getset_descriptor.__get__") (.builtin "object.__class__"))
 ob:PySem.W.mroIn K C (.type "object")=some true
 bx:PySem.W.mroIn K C (.type "BaseException")=some true
 cl:(PySem.W.clsIn K C).isSome=true
section
variable {P:Program}{w:World}{A:Around}{E:VP9}{s:Shared}{K:Frag}{x C:Addr}{ox:Obj}
theorem Lk{α:Type}{M:Model}{A:Around}{E:VP9}{s:Shared}{t:Sem α}{r:α}{Q:α->Shared->Prop}(l:PySem.W.Looks M s.heap t r)(q:Q r s):wpAny M A t Q E s:=l A Q E s (λ_ _ e=>e) q
theorem vx3{nm:Value}{Q:Unit->Shared->Prop}(KI:K.In s.heap)(X:XCls K C)(b8:PySem.W.InstAt s.heap x ox C none)(q:Q () s):
  wpAny (model P w) A (checkBuiltinCall "BaseException.__getattribute__" {pos:=[.ref x,nm]}) Q E s:=by
 rw[checkBuiltinCall.eq_1,wkr,vx0];refine X0 ?_;unfold isInstance;refine X0 (Lk b8.type (Lk (PySem.W.looks_mroIn KI X.bx) ?_));rw[Xd ⋯];have h:=F.args_bexc_ga (.ref x) nm;unfold argsOk at h;show wpAny _ A (match Manifest.signature? "BaseException.__getattribute__" with|some sig=>Bind.checkArgs "BaseException.__getattribute__" sig {pos:=[.ref x,nm]}|x=>pure ()) Q E s;cases hs:Manifest.signature? "BaseException.__getattribute__" with
 |none=>exact X9 q
 |some sig=>
  rw[hs]at h;have h:Bind.checkArgs "BaseException.__getattribute__" sig {pos:=[.ref x,nm]}=pure ():=h;show wpAny _ A (Bind.checkArgs "BaseException.__getattribute__" sig {pos:=[.ref x,nm]}) Q E s;rw[h];exact X9 q
theorem xkp:(Value.builtin "BaseException.__getattribute__" == Value.builtin "object.__getattribute__")=false:=⋯
theorem vx2{Q:Option Value->Shared->Prop}(KI:K.In s.heap)(X:XCls K C)(b8:PySem.W.InstAt s.heap x ox C none)(q:Q (some (.ref C)) {s with toks:=s.toks+1}):
  wpAny (model P w) A (getAttr? (.ref x) "__class__") Q E s:=by
 unfold getAttr?;refine X0 (wpAny_mkText ?_);unfold getAttrBy?;refine X0 (wpAny_attempt ?_);unfold getAttrBy;refine Y4 (X0 (Lk (s:={s with toks:=s.toks+1}) b8.type (X0 (Lk (s:={s with toks:=s.toks+1}) (PySem.W.looks_findIn KI X.ga) ?_))));dsimp only;rw[Xd (by rw[xkp,Bool.and_false];decide)];unfold getAttrByItsOwn;refine X0 (Lk (s:={s with toks:=s.toks+1}) (PySem.W.looks_hook (K:=K) KI (r:=none) X.gt) ?_);refine X0 (wpAny_attempt (Y4 ?_));unfold callGetattribute;rw[Xd ⋯];unfold boundAndCalled;rw[F.excAttr_ValueError.ga.bind];refine X0 (X9 ?_);refine wpAny_call (codeAny_call_builtin vx1 F.entry_bexc_ga (vx3 (s:={s with toks:=s.toks+1}) KI X b8 ?_));unfold Builtin.«object.__getattribute__»;have hsl:slotArgs "__getattribute__" 1 {pos:=[.ref x]++[.str "__class__" s.toks]}=pure (.ref x,[.str "__class__" s.toks]):=rfl;rw[hsl];refine X0 (X9 ?_);show wpAny _ A.in1 (Builtin.ObjectAttr.attrName (.str "__class__" s.toks) >>= _) _ _ _;refine X0 (X9 ?_);refine X0 (Lk (s:={s with toks:=s.toks+1}) b8.type ?_);refine X0 (Lk (s:={s with toks:=s.toks+1}) (PySem.W.looks_find KI b8 X.fo) ?_);show wpAny _ A.in1 (Builtin.ObjectAttr.bindTo (.builtin "getset_descriptor.__get__") (.builtin "object.__class__") (.ref x) (.ref C)) _ _ _;unfold Builtin.ObjectAttr.bindTo;refine X0 (Y4 (wpAny_call (PySem.W.class_get (s:={s with toks:=s.toks+1}) KI b8 X.ob ?_)));refine X9 ?_;exact X9 (X9 q)
set_option tactic.hygienic true in
theorem vq5{h:Heap}(KI:K.In h)(X:XCls K C):∃o cd,h.get? C=some o/\o.data=.cls cd:=by
 have c:=X.cl;unfold PySem.W.clsIn at c
 split at c
 ·rename_i e;exact#[_,_,KI _ _ e,rfl]
 ·cases c
theorem kxe(X:XCls K C):PySem.W.KitX K (.ref x) (.ref C) (λh=>∃ox,PySem.W.InstAt h x ox C none) where
 ty:=λM h KI hz=>by obtain⟨ox,a⟩:=hz;exact a.type
 it:=λM h KI _=>by
  obtain⟨o,cd,e,d⟩:=vq5 KI X;intro A Q E s hk q;unfold isType;refine X0 (PySem.W.Looks.ld e A _ _ s hk ?_);rw[d];exact X9 q
 ne:=λh tp dd aq n sl KI e=>by
  obtain⟨o,cd,e',d⟩:=vq5 KI X
  by_cases z:C=tp
  ·subst z;rw[e']at e;cases e;cases d
  ·simpa using z
 ca:=λKI hz q=>by obtain⟨ox,a⟩:=hz;exact vx2 KI X a q
end
noncomputable def FpX(X:Cx)(a7:LA9)(H:Hp)(b:Addr):Prop:=
 H b=none/\b≠X.env.locals/\b∉X.fs/\(b∈X.ex\/X.s₀.heap.get? b=none)/\(∀x c,X.env.cells.lookup x=some c->c≠b)/\∀p∈X.pn++a7,p.1≠b
section
variable {X:Cx}{a7:LA9}{σ:L2.St}{H:Hp}{s:Shared}
theorem vwh{P:Program}{w:World}{H:Hp}{h:Heap}{b:Addr}(k:HOk P w H h)(e:h.get? b=none):H b=none:=by
 cases q:H b with
 |none=>rfl
 |some u=>
  obtain⟨o,z⟩:=(k b u q).obj;rw[e]at z;cases z
theorem fpX{H' b}(I:Inv X a7 σ H s)(hb:s.heap.get? b=none)(hn:H' b=none):FpX X a7 H' b:=by
 refine#[hn,λz=>?_,λz=>?_,?_,λx c e z=>?_,λp hp z=>?_]
 ·obtain⟨m,⟨o,_,_,ho,_⟩,_⟩:=I.loc
  grind
 ·obtain⟨_,o,e,_⟩:=I.ok.funs.mem z
  by_cases hx:b∈X.ex
  ·exact I.ok.exfs b hx z
  ·obtain _:=I.base.there b o e hx
   grind
 ·by_cases hx:b∈X.ex
  ·exact .inl hx
  ·cases e:X.s₀.heap.get? b with
   |none=>exact .inr rfl
   |some o=>
    obtain⟨o',e'⟩:=I.base.there b o e hx
    grind
 ·obtain⟨v,o,ho,_⟩:=I.cell x c e
  grind
 ·have:=(I.pin p hp).1
  grind
theorem FpX.of{b}(h:zx X a7 H b):FpX X a7 H b:=#[h.1,h.2.1,h.2.2.1,h.2.2.2.1.imp id λz=>Yf z,h.2.2.2.2]
theorem qqc{h' ch}(I:Inv X a7 σ H s)(c:Chg (frs X.stack) ch s.heap h')(hf:∀b∈ch,FpX X a7 H b):Inv X a7 σ H {s with heap:=h' }:=by
 refine I.call (g':=s.gens) (t':=s.toks) (d':=s.drawn) #[λb o e _ h1 h2=>c.keep b o e h1 h2,λb o e _ _ h2=>c.slot b o e h2,λ_ _ _ n _=>n,λb o e h2=>?_,λ_ _ e=>e,λ_ _ _ e=>e,λ_ _ e=>#[(List.toArray []),by rw[e];simp]] (λb u e=>?_) I.bare λb hb=>?_
 ·obtain⟨sl,q⟩:=c.slot b o e h2;exact#[_,q]
 ·have no:∀d v,H d=some v->d∉frs X.stack/\d∉ch:=λd v e=>#[λz=>(by rw[I.stkFree d z]at e;cases e),λz=>(by rw[(hf d z).1]at e;cases e)]
  refine(I.hok b u e).stay (λd v hc q=>?_) (λ_ q=>q) λ_ _ q=>q
  rcases hc with z|z
  ·rw[z]at q ⊢;exact c.keep b v q (no b u e).1 (no b u e).2
  ·exact c.keep d v q (no d _ z).1 (no d _ z).2
 ·obtain⟨_,f1,_,f3,f4,f5⟩:=hf b hb;exact#[f3,f1,f4,f5]
end
structure Fx (X:Cx)(a7:LA9)(H:Hp)(h:Heap)(x:Addr)(C:Value):Prop where
 fp:FpX X a7 H x
 st:(∃vs,Fl0 h x C vs/\vs[1]?=some .none)\/∃T fl,FlT h x T C fl/\FpX X a7 H T
structure Xt (X:Cx)(a7:LA9)(σ:L2.St)(H:Hp)(x T:Addr)(C fl:Value)(s:Shared):Prop where
 inv:Inv X a7 σ H s
 fx:FpX X a7 H x
 fT:FpX X a7 H T
 f:FlT s.heap x T C fl
theorem Xt.to{X a7 σ H x T C fl s}(h:Xt X a7 σ H x T C fl s):Fx X a7 H s.heap x C:=#[h.fx,.inr #[T,fl,h.f,h.fT]]
noncomputable def Xo(X:Cx)(E:XK)(e:Value)(s:Shared):Prop:=∃a7 σ H x C,e=.ref x/\Inv X a7 σ H s/\Fx X a7 H s.heap x C/\E C none H
noncomputable def zq(X:Cx)(E:XK):Prop:=∀a7 σ H s x C,Inv X a7 σ H s->Fx X a7 H s.heap x C->E C none H->X.xe (.ref x) s
abbrev Cx.ex'(X:Cx)(E:XK):Cx:=X.wish (Xo X E)
theorem JY{X E}:zq (Cx.ex' X E) E:=λa7 σ H s x C I f q=>#[a7,σ,H,x,C,rfl,I.unwish,#[f.fp,f.st],q]
noncomputable def JW(X:Cx):Prop:=∃env0 out,X.stack=env0::out/\X.env.frame=env0.frame
section
variable {X:Cx}{a7:LA9}{σ:L2.St}{H:Hp}{s:Shared}{M:Model}{E':VP9}{x T:Addr}{C fl:Value}
theorem qvm{A Q}(top:JW X)(hA:A.frames=X.A.frames)(I:Inv X a7 σ H s)(f:Fx X a7 H s.heap x C)(h:∀L T s',X.env.frame=some L->Xt X a7 σ H x T C (rawInt ↑L) s'->Q () s'):
  wpAny M A (noteFrame (.ref x) X.env) Q E' s:=by
 obtain⟨env0,out,e1,e2⟩:=top;have hF:=I.stack;have i':A.frames=some (env0::out):=by rw[hA,I.ok.frames,e1]
 rw[e1]at hF;obtain⟨_,⟨L,o,hL,_⟩,_⟩:=id hF;rw[kqi e2];have hL':=e2.trans hL;rcases f.st with⟨vs,f0,hv⟩|⟨T,fl,fT,pT⟩
 ·refine xk0 i' hF hL f0 hv λh' T' c hs p7=>h L T' _ hL' #[?_,f.fp,fpX I (Yf hs) (I.hok.fresh hs),p7]
  rw[<-e1]at c;exact qqc I c λb hb=>by rw[aC hb];exact f.fp
 ·refine xjz i' hF hL fT λh' T' c hs p7=>?_
  rw[<-e1]at c;refine h L T' _ hL' #[qqc I c λb hb=>?_,f.fp,?_,p7]
  ·simp only[Y5,Y9,or_false]at hb;rcases hb with rfl|rfl
   ·exact f.fp
   ·exact pT
  ·rcases hs with hs|hs
   ·exact fpX I (Yf hs) (I.hok.fresh hs)
   ·rw[hs];exact pT
theorem jzy{A Q fr}(t:Xt X a7 σ H x T C fl s)(h:∀s',Xt X a7 σ H x T C (fr.elim Value.none λf=>rawInt ↑f) s'->Q () s'):wpAny M A (setFlight (.ref x) fr) Q E' s:=by
 refine wxg t.f λh' c p7=>h _ #[qqc t.inv c λb hb=>?_,t.fx,t.fT,p7]
 simp at hb;rcases hb with rfl|rfl
 ·exact t.fx
 ·exact t.fT
theorem ww9{α A what nr Q}(t:Xt X a7 σ H x T C fl s)(h:∀s' p7,Xt X a7 σ H x T C p7 s'->E' (.ref x) s'):wpAny M A (PySem.passOn what (.ref x) nr:Sem α) Q E' s:=by
 obtain⟨vs,e1,v1⟩:=t.f.ex;exact X0 (Z8 e1 rfl v1 (X0 (jzy t λs' t'=>(wpAny_throw (h s' _ t')))))
theorem wwc{E}(top:JW X):PassesOwn M X.A X.env (Xo X E):=by
 rintro e s' ⟨a7,σ,H,x,C,rfl,I,f,q⟩;refine qvm top rfl I f λL T s1 _ t=>?_
 obtain⟨vs,e1,v1⟩:=t.f.ex;exact X0 (Z8 e1 rfl v1 (jzy t λs2 t2=>#[a7,σ,H,x,C,rfl,t2.inv,t2.to,q]))
end
noncomputable def CXE(P:Program)(w:World):CXT:=λouter H s E e s'=>∃x T C fl H',e=.ref x/\s'.os=s.os/\AllBare s'.gens/\Un (frs outer) [] H H' s.heap s'.heap/\HOk P w H' s'.heap /\
 s.heap.get? x=none/\s.heap.get? T=none/\H' x=none/\H' T=none/\FlT s'.heap x T C fl/\E C none H'
theorem xjt{X E}(g:zq X E):vqu (CXE X.prog X.w) X E:=by
 rintro a7 σ H s e s' I ⟨x,T,C,fl,H',rfl,os,bare,un,hok,hx,hT,nx,nT,f,q⟩;refine g a7 σ H' s' x C (I.call' os un hok bare λb hb=>nomatch hb) #[fpX I hx nx,.inr #[T,fl,f,fpX I hT nT]] q
theorem vzi{CX P w K mg base N qual scope f cd A outer s H E}:
  JW (K6 CX P w K mg base N qual scope f cd A outer s H E):=#[_,_,rfl,rfl]
theorem vk8{P w K mg base N qual scope f cd A outer s H E e}{s'}
  (h:Xo (K6 (CXE P w) P w K mg base N qual scope f cd A outer s H E) E e s'):(K6 (CXE P w) P w K mg base N qual scope f cd A outer s H E).xe e s':=by
 obtain⟨a7,σ,H',x,C,rfl,I,fx,q⟩:=h;show wpAny _ _ _ _ _ s';refine X0 (qvm vzi rfl I fx λL T s1 _ t=>(jzy t λs2 t2=>?_));have ge:∀b,FpX (K6 (CXE P w) P w K mg base N qual scope f cd A outer s H E) a7 H' b->s.heap.get? b=none:=λb hb=>hb.2.2.2.1.elim (λz=>nomatch z) λz=>z
 exact#[x,T,C,_,H',rfl,t2.inv.os,t2.inv.bare,t2.inv.base,t2.inv.hok,ge x t2.fx,ge T t2.fT,t2.fx.1,t2.fT.1,t2.f,q]
section
variable {P:Program}{w:World}{K:Frag}{mg:Str->Option Value}{base:Heap}
theorem vqv{x qual st f fd N ps k sp}(F:Fun K x qual st f fd)(S:FnScope N ps (jV st))(len:∀vs H Q E,sp vs H Q E->vs.length=ps.length)
  (n6:∀dw (A) (outer) (s) (H) (vs) (Q) (E),Room k (A.deeper (envOfC qual (jV st) s.heap.objs.size f dw))->sp vs H Q E ->
   ∃t,PSs (Cx.ex' (K6 (CXE P w) P w K mg base N qual (jV st) f dw A outer s H E) E) (KQ st) t/\t {nx:=λ_ H'=>Q .non H',rt:=Q} (L2.start N vs) H):FnOk P w K mg base (CXE P w) (k+1) f fd ps sp:=by
 obtain⟨oc,od,kV,iq,pm,an,dw,ct,om,rfl,lk,jm⟩:=F.ex;refine xkf lk jm S len λA outer s H vs Q E hr iy=>?_
 obtain⟨t,h,q⟩:=n6 dw A outer s H vs Q E hr iy;exact#[t,λa7 s' σ H' D I hw=>wpAny_mono (h a7 s' σ H' D (I.wish _) hw) (λf oh z=>z.unwish) λe oh z=>vk8 z,q]
noncomputable def k8(P:Program)(w:World)(K:Frag)(mg:Str->Option Value)(base:Heap)(k:Nat)(x:Str)(ps:List Str)(sp:Sp):Prop:=
 ∃(f:Addr) (fd:FuncData),FnOk P w K mg base (CXE P w) k f fd ps sp/\Binds K fd ps []/\PySem.W.keepIn K (.ref f)=true/\mg x=some (.ref f)
end
section
variable {X:Cx}{x:Str}{p pos:Pos}{e:Expr}{es:List Expr}{t:TA}{ps:List Str}{sp:Sp}{k:Nat}{v:V}{E:XK}
theorem vxr(D:k8 X.prog X.w X.K X.mg X.base k x ps sp)(hr:Room k X.A)(g:zq X E)(ha:PA X (e::es) t)(hg:autoParam (Gl X x) Ŕ)(eh:autoParam (Abd x) ŕ)
  (he:autoParam (Abs e es X) Ŕ) (bv:autoParam (Abb pos es X) Ŕ):
  PE X (.Call (.Name x p) (e::es) [] pos) (vzl sp [] E t):=by
 obtain⟨f,fd,F,b,kp,m⟩:=D;exact wjj F hr hg m kp b .nil (xjt g) ha eh he bv
end
abbrev lcE(X:Cx)(scope:Scope)(N:List Str)(cl:List (Str×Addr))(C:Addr)(s0:Shared)(H0:Hp)(fp:List Addr)(EX:XK):Cx:=Cx.ex' (lcX X scope N cl C s0 H0 fp) EX
section
variable {prog:Program}{w:World}{A:Around}{R:Result->Shared->Prop}{s:Shared}
set_option tactic.hygienic true in
theorem wk2{gy gp bc gb scope pos it acc env}(Ex)(I:Nat->Shared->Prop)
  (ig:∀n s,I n s->wpAny (model prog w) A (pyNext it) (λr s1=>match r with
   | none=>R (.ok .next) s1
   | some v=>wpAny (model prog w) A (letOwnedTupleGo gp it v) (λ_ s2=>wpAny (model prog w) A (assign gp env v) (λ_ s3=>
     wpAny (model prog w) A (vkb gb env) (λok s4=>
      if ok=true then
       wpAny (model prog w) A (eval gy env) (λx s5=>wpAny (model prog w) A (call (.builtin "list.append") [acc,x]) (λ_ s6=>∃m,m<n/\I m s6) Ex s5) Ex s4
      else ∃m,m<n/\I m s4) Ex s3) Ex s2) Ex s1) Ex s)
  (hx:∀e s,Ex e s->notedBy (model prog w) A env (λe s'=>R (.error e) s') e s) n (h:I n s):codeAny (model prog w) A (.compLoop (.ListComp gy [#[gp,bc,gb,0]] scope pos) 0 it acc env) R s:=by
 refine codeAny_loop rfl I (λn s hI=>(wpAny_noted ?_)) n h;rw[compTurn_list];refine wpAny_mono (X0 (wpAny_standAt (X0 (thn (ig n s hI) λr s1 h1=>?_)))) (λ_ _ q=>q) (λe s q=>?_)
 rotate_left
 ·exact hx e s q
 cases r with
 |none=>exact X9 h1
 |some v=>
  refine X0 (thn h1 λ_ s2 h2=>(X0 (thn h2 λ_ s3 h3=>(X0 (thn h3 λok s4 h4=>?_)))));cases ok with|false=>exact X9 #[rfl,h4]|true=>exact X0 (X0 (thn h4 λx s5 h5=>X0 (thn h5 λ_ s6 h6=>X9 (X9 #[rfl,h6]))))
end
section
variable {X:Cx}{tg bc gy:Expr}{gb:List Expr}{scope:Scope}{N:List Str}{k:Nat}{R:List Nat}{g:TG}{tt:TT}{te:TE}{pos:Pos}
theorem vxv{EX a7 da}{σ σ':L2.St}{H2 H' s2 s' fp cl}{C x T:Addr}{Cc fl Q acc use}(gx:zq X EX)
  (I2:Inv X a7 σ H2 s2) (f2:∀b∈fp,zx X a7 H2 b) (hC:s2.heap.objs.size<=C) (t:Xt (lcX X scope N cl C s2 H2 fp) da σ' H' x T Cc fl s') (q:EX Cc none H'):
  compPost (model X.prog X.w) X.A X.xe use Q acc C (.error (.ref x)) s':=by
 obtain⟨m,hn,_⟩:=t.inv.loc;refine#[m,hn,λh' sb nr _=>?_];have fC:=I2.fpOk hC t.inv.free;have J2:Inv X a7 σ H' {s' with heap:=h',toks:=s'.toks}:=(I2.call' t.inv.os t.inv.base t.inv.hok t.inv.bare λb hb=>#[((f2 b hb).2.2.2.1.imp id λz=>Yf z),(f2 b hb).2.1,(f2 b hb).2.2.2.2.1,(f2 b hb).2.2.2.2.2]).turned (λb o hb e=>(sb.2 b hb).trans e) fC.1 fC.2.1 fC.2.2.2.1 fC.2.2.2.2.1 fC.2.2.2.2.2;have fp':∀b,FpX (lcX X scope N cl C s2 H2 fp) da H' b->FpX X a7 H' b:=λb hb=>by
  rcases hb.2.2.2.1 with z|z
  ·exact#[hb.1,(FpX.of (f2 b z)).2]
  ·exact fpX I2 z hb.1
 have nx:=t.fx.2.1;have nT:=t.fT.2.1;have f:FlT h' x T Cc fl:=by
  obtain⟨⟨vs,e1,v1⟩,⟨oT,ts,e2,d2,v2⟩,cg⟩:=t.f;exact#[#[vs,(sb.2 x nx).trans e1,v1],#[oT,ts,(sb.2 T nT).trans e2,d2,v2],cg]
 refine ww9 #[J2,fp' x t.fx,fp' T t.fT,f] λs3 p7 t3=>gx a7 σ H' s3 x Cc t3.inv t3.to q
set_option tactic.hygienic true in
theorem qjk{EX a7}{σ:L2.St}{H2 s2 it fp tn J Q W cl}{E}
  {RR:Value->Addr->Result->Shared->Prop} (hc:X.calm=true) (top:JW X) (sc:LcOk X scope N k R)
  (ik:∀x c,cl.lookup x=some c->X.env.cells.lookup x=some c) (cp:∀y∈scope.names,y.2=.free->∃c,cl.lookup y.1=some c)
  (hg:∀C s0 H0 fp,PG (lcE X scope N cl C s0 H0 fp EX) tg g) (ht:∀C s0 H0 fp,PTs (lcE X scope N cl C s0 H0 fp EX) gb tt) (he:∀C s0 H0 fp,PE (lcE X scope N cl C s0 H0 fp EX) gy te)
  (I2:Inv X a7 σ H2 s2) (T:Turn X.prog X.w X.K tg J fp it tn) (st2:tn 0 s2.heap) (f2:∀b∈fp,zx X a7 H2 b) (w0:∃m,W 0 m [] (Kz k R σ) H2) (ig:LcW g tt te Q J W)
  (hRR:∀D C oC m ys H' s',Inv X (a7++[(C,oC)]) σ (upd H' D (.lst ys)) s'->s'.heap.get? C=some oC->s'.heap.Ns C m->zx X a7 (upd H' D (.lst ys)) C->Q (.ref D) (upd H' D (.lst ys))->RR (.ref D) C (.ok .next) s')
  (hER:∀D C s' da σ' H' x T Cc fl,s2.heap.objs.size<=C->Xt (lcX X scope N cl C s2 H2 fp) da σ' H' x T Cc fl s'->EX Cc none H'->RR (.ref D) C (.error (.ref x)) s'):
  wpAny (model X.prog X.w) X.A (newList []) (λacc s3=>wpAny (model X.prog X.w) X.A (newFunctionEnv scope X.env.globals cl [] X.env.qual none .none (some X.env)) (λnr s4=>
   codeAny (model X.prog X.w) X.A (.compStart (.ListComp gy [#[tg,bc,gb,0]] scope pos) 0 (.ref it) acc {nr with scope:=relabel scope X.env}) (RR acc nr.locals) s4) E s3) E s2:=by
 have uj:∀b∈fp,∃o,s2.heap.get? b=some o:=λb hb=>let ⟨o,e,_⟩:=T.obj 0 _ st2 b hb;#[o,e]
 refine Yc (wpAny_newFunctionEnv sc.nocell (by intro y hy;simp at hy) (λh1 va sb1=>?_) sc.kind);generalize eH:s2.heap.push {cls:=.type "list",dict:=none,data:=.seq ([]:List Value).toArray}=Hx at va sb1 ⊢;have eC:Hx.objs.size=s2.heap.objs.size+1:=by rw[<-eH,Heap.size_push]
 generalize eD:s2.heap.objs.size=D at eC;generalize eC':Hx.objs.size=C at va sb1 eC ⊢;have su:D≠C:=⋯
 have hC:s2.heap.objs.size<=C:=⋯
 have hD:s2.heap.objs.size<=D:=⋯
 have i4:=λb o e=>by
  exact sb1.extBut b o (Xv (Xp (Xl e) hC)) (X4 _ (eH▸X4 _ e))
 have accD:h1.get? D=some (wq2 [] 0):=by
  refine sb1.extBut _ _ su (X4 _ ?_);rw [<-eH,<-eD];exact Xh _ rfl
 have below:∀b∈fp,b≠D/\b≠C:=λb hb=>by
  obtain⟨o,e⟩:=uj b hb;exact#[Xv (Xp (Xl e) hD),Xv (Xp (Xl e) hC)]
 have jr:∀{H' oD},(∀b∈fp,H' b=none)->∀b∈fp,zx (lcE X scope N cl C s2 H2 fp EX) [(D,oD)] H' b:=fun {H' oD} hn b hb=>by
  obtain⟨_,f1,f3,f4,f5,f6⟩:=f2 b hb;refine#[hn b hb,(below b hb).2,λz=>?_,.inl hb,λx c h=>f5 x c (ik x c h),λp hp=>?_]
  ·rcases aD (I2.stkSub b z)with y|y
   ·exact f1 y
   ·exact f3 y
  ·have e:p=(D,oD):=by
    have hp:p∈([]++[(D,oD)]:LA9):=hp
    simpa using hp
   rw [e];exact(below b hb).1.symm
 have ua:∀s3,s3={s2 with heap:=h1,toks:=s2.toks+([]:List (Str×Value)).length} ->
   codeAny (model X.prog X.w) X.A (.compLoop (.ListComp gy [#[tg,bc,gb,0]] scope pos) 0 (.ref it) (.ref D) (compEnvC scope cl C X.env)) (RR (.ref D) C) s3:=by
  rintro s3 rfl;obtain⟨m0,w0⟩:=w0;have hxx:∀e s,Xo (lcX X scope N cl C s2 H2 fp) EX e s->notedBy (model X.prog X.w) X.A (compEnvC scope cl C X.env) (λe s'=>RR (.ref D) C (.error e) s') e s:=by
   rintro e s ⟨da,σ',H',x,Cc,rfl,I',f',q'⟩;exact qvm (X:=lcX X scope N cl C s2 H2 fp) top rfl I' f' λL T s1 _ t=>hER D C s1 da σ' H' x T Cc _ hC t q'
  refine wk2 (Xo (lcX X scope N cl C s2 H2 fp) EX) (λn s'=>∃i ys aq nn σ' H',Inv (lcE X scope N cl C s2 H2 fp EX) [(D,wq2 aq nn)] σ' H' s'/\Vals ys aq/\tn i s'.heap/\(∀b∈fp,H' b=none)/\W i n ys σ' H') ?_ hxx m0
   #[0,[],[],0,_,H2,(wk0 I2 sc f2 uj hC hD su ik cp i4 va accD (λv z=>by cases z)).wish _,.nil,T.keep _ _ _ st2 (λb hb o e=>i4 b o e),λb hb=>(f2 b hb).1,w0]
  rintro n s3 ⟨i,ys,aq,nn,σ3,H3,I3,rv,dy,rq,w3⟩;rcases ig i n ys σ3 H3 w3 with⟨stop,hz,qn⟩|⟨go,step⟩
  ·refine thn (T.done (lcE X scope N cl C s2 H2 fp EX) rfl rfl rfl hc i _ s3 σ3 H3 _ I3 (jr rq) dy stop) λr s4 hz=>?_
   obtain⟨hr,I4⟩:=hz;subst hr;show RR (.ref D) C (.ok .next) s4;have hD4:=I4.pin (D,wq2 aq nn) (by show _∈([]++[(D,wq2 aq nn)]:LA9);simp);have fD:=I2.fpOk hD hD4.2.1;have fC:=I2.fpOk hC I4.free;have J2:Inv X a7 σ (upd H3 D (.lst ys)) s4:=vkn (I2.call' I4.os I4.base I4.hok I4.bare λb hb=>#[((f2 b hb).2.2.2.1.imp id λz=>Yf z),(f2 b hb).2.1,(f2 b hb).2.2.2.2.1,(f2 b hb).2.2.2.2.2]) hD4.2.1 fD.2.1 fD.2.2.2.1 fD.2.2.2.2.1 fD.2.2.2.2.2 #[hz,aq,nn,rv,hD4.1];obtain⟨mC,nC,_⟩:=I4.loc;obtain⟨oC,es,ep,hoC,hdC,hrest⟩:=id nC;have fC':zx X a7 (upd H3 D (.lst ys)) C:=#[by rw[kj su.symm];exact fC.1,fC.2];refine hRR D C oC mC ys H3 s4 (J2.pins_of λp hp=>?_) hoC nC fC' (qn D hD4.2.1);rcases aA hp with z|z
   ·exact J2.pin p (lr9 _ z)
   ·rw[aC z];exact#[hoC,fC'.1,fC'.2.1,fC'.2.2.1,λv y=>by rw[hdC]at y;cases y]
  ·refine thn (T.item (lcE X scope N cl C s2 H2 fp EX) rfl rfl rfl hc i _ s3 σ3 H3 _ I3 (jr rq) dy go) λr s4 hz=>?_
   obtain⟨u,hr,h4⟩:=hz;subst hr;refine thn h4 λ_ s5 hz=>?_
   obtain⟨x,H5,I5,r5,y5,ka,fr5⟩:=hz;have kd:∀{σ' H' s' pl},Inv (lcE X scope N cl C s2 H2 fp EX) (pl++Vz fp s5.heap) σ' H' s'->tn (i+1) s'.heap/\∀b∈fp,H' b=none:=fun {σ' H' s' pl} I'=>by
    have q:∀b∈fp,∀o,s5.heap.get? b=some o->s'.heap.get? b=some o/\H' b=none:=λb hb o e=>by
     obtain⟨a1,a2,_⟩:=I'.pin (b,o) (lr9 _ (lr9 _ (kjl hb e)));exact#[a1,a2]
    refine#[T.keep _ _ _ ka λb hb o e=>(q b hb o e).1,λb hb=>?_];obtain⟨o,e,_⟩:=T.obj _ _ ka b hb;exact(q b hb o e).2
   refine thn (hg C s2 H2 fp _ s5 σ3 H5 x u _ (I5.pinned (jr fr5) (T.obj _ _ ka)) r5 (step x H5 y5)) λ_ s6 #[σ6,H6,I6,Ny,Nn,hNy,hNn,q6]=>(thn (ht C s2 H2 fp _ s6 σ6 H6 _ I6 q6) λok s7 hz=>?_)
   obtain⟨H7,I7,q7⟩:=hz;cases ok with
   | false=>
    obtain⟨m',hm,w7⟩:=hNn _ q7;exact#[m',hm,i+1,ys,aq,nn,σ6,H7,I7.unpinned,rv,(kd I7).1,(kd I7).2,w7]
   | true=>
    refine thn (he C s2 H2 fp _ s7 σ6 H7 _ I7 q7) λu8 s8 hz=>?_
    obtain⟨y,H8,I8,r8,q8⟩:=hz;obtain⟨hz,m',hm,w8⟩:=hNy _ _ q8;have pD:=I8.pin (D,wq2 aq nn) (lr9 _ (ll9 _ (aB rfl)));have az:=rv.length;refine append_at (hsz:=by rw[Xe];lia) pD.1 λh9 sb9 e9=>?_
    have I9:Inv (lcE X scope N cl C s2 H2 fp EX) ([]++Vz fp s5.heap) σ6 H8 {s8 with heap:=h9,toks:=s8.toks}:=(I8.pins_of λp hp=>I8.pin p (lr9 _ (lr9 _ hp))).turned (it:=D) (λb o hb e=>(sb9.2 b hb).trans e) pD.2.1 su (.inr hD)
     (λx c h z=>by
      obtain⟨v,q⟩:=I2.cell x c (ik x c h);exact absurd (Xp q.lt (z▸hD)) (Yw _))
     (λp hp z=>by
      have hp:p∈([]++([]++Vz fp s5.heap):LA9):=hp;have hp:p∈Vz fp s5.heap:=by simpa using hp
      exact(below p.1 (qja hp).1).1 z)
    have e9':h9.get? D=some (wq2 (aq++[u8]) (nn+1)):=by rw[e9];simp[List.push_toArray]
    refine#[m',hm,i+1,ys++[y],aq++[u8],nn+1,σ6,H8,I9.pins_of λp hp=>?_,rv.append (.cons r8 .nil),(kd I9).1,(kd I9).2,w8];rw[aC hp];exact#[e9',pD.2.1,pD.2.2.1,pD.2.2.2.1,λv z=>by cases z]
 exact codeAny_compStart_list (ua _ rfl) (T.self _ 0 _ _ _ (T.keep _ _ _ st2 λb hb o e=>i4 b o e) (ua _ rfl))
theorem ww6{EX wi}(N)(k)(R)(hi:PI X tg bc wi)
  (hg:∀cl C s0 H0 fp,PG (lcE X scope N cl C s0 H0 fp EX) tg g) (ht:∀cl C s0 H0 fp,PTs (lcE X scope N cl C s0 H0 fp EX) gb tt) (he:∀cl C s0 H0 fp,PE (lcE X scope N cl C s0 H0 fp EX) gy te)
  (gx:zq X EX) (top:JW X) (hc:autoParam (X.calm=true) Ŕ) (hk:autoParam (scope.kind=.function) Ŕ) (mr:autoParam (VX X.N X.env.scope scope N k R=true) Ŕ) (hs:autoParam (∀x,foldedSetIterable bc X.env x=pure x) Ŗ):
  PE X (.ListComp gy [#[tg,bc,gb,0]] scope pos) (tLC wi g tt te k R):=by
 intro a7 s σ H Q I h;have sc:=qvu hk mr;obtain⟨cl,mq,ik,cp⟩:=kwb λy hy e=>I.ok.has y.1 (sc.caps y hy e)
 refine wpAny_comprehension_free rfl hs mq sc.kind sc.names (thn (hi a7 s σ H _ I h) λv s1 h1=>thn h1 λitv s2 h2=>?_);obtain⟨it,fp,tn,J,H2,e,I2,T,st2,f2,W,w0,ig⟩:=h2;subst e;refine qjk hc top sc ik cp (hg cl) (ht cl) (he cl) I2 T st2 f2 w0 ig ?_ ?_
 rotate_left
 ·intro D C s' da σ' H' x T Cc fl hC t q;exact vxv gx I2 f2 hC t q
 intro D C oC m ys H' s' I' _ nC fC q;exact#[m,nC,λh' sb=>#[.ref D,_,I'.unpinned.turned (t':=s'.toks) (λb o hb e=>(sb.2 b hb).trans e) fC.1 fC.2.1 fC.2.2.2.1 fC.2.2.2.2.1 fC.2.2.2.2.2,rfl,q]]
end
abbrev bmV:List Value:=[.type "ValueError",.type "Exception",.type "BaseException",.type "object"]
structure ECls (K:Frag)(mg:Str->Option Value)(x:Str)(C:Addr):Prop where
 bd:mg x=some (.ref C)
 ec:PySem.W.excIn K C bmV "ValueError.__new__"=true
 xc:XCls K C
set_option tactic.hygienic true in
theorem wjl{K:Frag}{h:Heap}{C:Addr}{bmB:List Value}{p9:String}(KI:K.In h)(e:PySem.W.excIn K C bmB p9=true):
  ∃ bm N nm q bs hdct sn sub ab col dd k0 k1 k2 k3 k5 mN,h.get? C=some (excClassObj nm q C N bs bm hdct sn sub ab col dd k0 k1 k2 k3 k5 p9)/\h.Ns N mN/\mN "__init__"=none/\OwnTail h bmB bm:=by
 unfold PySem.W.excIn at e
 split at e
 ·rename_i dict cd sl hl
  split at e
  ·rename_i bm C' k0 k1 k2 k3 n k5 hm hs;simp only[Bool.and_eq_true,beq_iff_eq,Bool.not_eq_true']at e;obtain⟨⟨⟨⟨⟨e1,e2⟩,e3⟩,e4⟩,e5⟩,e6⟩:=e;subst e1 e2;have g:=KI _ _ hl;obtain⟨nm,bs,mro,ns,qn,hd,hdel,sn,sub,ab,col⟩:=cd;dsimp only at hm e3 e5 e6;subst hm e3;have hsl:sl=(List.toArray [k0,k1,k2,k3,some (Value.builtin n),k5]):=by
    apply Array.toList_inj.mp;rw[hs]
   subst hsl;exact#[_,ns,nm,qn,bs,hd,hdel,sn,sub,ab,dict,k0,k1,k2,k3,k5,h.nsMap ns,g,Heap.Ns.of_isNs (PySem.W.isNs_of_in KI e5),PySem.W.nsMap_none_of_in KI e5 e6,PySem.W.tail_of_in KI e4]
  ·cases e
 ·cases e
section
variable {X:Cx}{x:Str}{np au pos:Pos}{e:Expr}{es:List Expr}{ta:TA}{C:Addr}{E:XK}
abbrev wqg(E:XK)(C:Addr)(ta:TA):TS:=λ_ σ H=>ta σ H λvs H1=>vs.length<=sizeLine/\E (.ref C) none H1
theorem vvt(c:ECls X.K X.mg x C)(g:zq X E)(ha:PA X (e::es) ta)(hg:autoParam (Gl X x) Ŕ)(hc:autoParam (X.calm=true) Ŕ)(eh:autoParam (Abd x) ŕ)
  (he:autoParam (Abs e es X) Ŕ) (bv:autoParam (((backTo au (starEach (e::es) X.env)).any (·.1))=false) Ŕ):
  PS X (.Raise (some (.Call (.Name x np) (e::es) [] au)) none pos) (wqg E C ta):=by
 intro a7 s σ H D I h;obtain⟨bm,N,nm,q,bs,hdct,sn,sub,ab,col,dd,k0,k1,k2,k3,k5,mN,o1,o2,o3,o4⟩:=wjl I.ok.mod.kin c.ec;refine wpAny_Raise_call_subT (nm:=nm) (q:=q) (C:=C) (N:=N) (bs:=bs) (bm:=bm) (hdct:=hdct) (sn:=sn) (sub:=sub) (ab:=ab) (col:=col) (dd:=dd) (k0:=k0) (k1:=k1) (k2:=k2) (k3:=k3) (k5:=k5) (bmB:=bmV) F.excBase_ValueError (o4.hasType (X:="BaseException") rfl) (I.ok.hd hc) bv o3 (kql I hg c.bd #[rfl,?_] eh);obtain⟨y0,r0,jl⟩:∃y r,backTo au (starEach (e::es) X.env)=(false,y)::r:=by rw[he];exact#[_,_,rfl]
 have iy:=ha au a7 s σ H _ I h;rw[jl]at iy ⊢;refine Calls.evalArgs_plain (thn iy λus s2 #[vs,H1,I1,r1,q1]=>#[rfl,by rw[<-r1.length];exact q1.1,I1.bk _ _ o1,?_,?_,λh' ea made=>?_])
 ·obtain⟨o,es',ep,ho,r⟩:=o2;exact#[o,es',ep,I1.bk _ _ ho,r]
 ·exact o4.keeps λb o e=>I1.bk b o e
 ·obtain⟨t,m1,m2,m3⟩:=made.there;have J:Inv X a7 σ H1 {s2 with heap:=h',toks:=s2.toks}:=I1.kept made.keeps;exact g a7 σ H1 _ ea (.ref C) J #[fpX I1 made.new (vwh I1.hok made.new),.inl #[_,#[m1,by show(1:Nat)<6;decide],rfl]] q1.2
noncomputable def XX(X:Cx)(a7:LA9)(σ:L2.St)(E:XK)(e:Value)(s:Shared):Prop:=∃H x C,e=.ref x/\Inv X a7 σ H s/\Fx X a7 H s.heap x C/\E C none H
noncomputable def PSX(X:Cx)(st:Stmt)(t:XK->TS):Prop:=∀(E:XK) (a7:LA9) (s:Shared) (σ:L2.St) (H:Hp) (D:Ends),Inv X a7 σ H s->t E D σ H->wpAny (model X.prog X.w) X.A (exec st X.env) (SP X a7 D) (XX X a7 σ E) s
noncomputable def PEX(X:Cx)(ex:Expr)(t:XK->TE):Prop:=∀(E:XK) (a7:LA9) (s:Shared) (σ:L2.St) (H:Hp) (Q:VK),Inv X a7 σ H s->t E σ H Q->wpAny (model X.prog X.w) X.A (eval ex X.env) (EP X a7 σ Q) (XX X a7 σ E) s
set_option tactic.hygienic true in
theorem vvx{k:Nat}{ps:List Str}{sp:Sp}(D:k8 X.prog X.w X.K X.mg X.base k x ps sp)(hr:Room k X.A)(ha:PA X.nox (e::es) ta)(hg:autoParam (Gl X x) Ŕ)(eh:autoParam (Abd x) ŕ)
  (he:autoParam (Abs e es X) Ŕ) (bv:autoParam (Abb pos es X) Ŕ):
  PEX X (.Call (.Name x np) (e::es) [] pos) (λE=>vzl sp [] E ta):=by
 obtain⟨f,fd,F,hb,kp,m⟩:=D;intro E a7 s σ H Q I h;refine Z5 (kql I hg m ?_ eh);refine PySem.W.callWith_K (h₀:=X.base) I.ok.mod.kin kp (wpAny_mono (ha pos a7 s σ H _ (I.wish _) h) (λus s1 #[vs,H1,I1,r,q]=>#[I1.kIn,?_]) λ_ _ z=>z.elim) he bv;have I1:=I1.unwish;have q:sp (vs++[]) H1 Q E:=q;have hl:us.length=ps.length:=by
  rw[<-r.length];have:=F.len _ _ _ _ q
  rwa [Xr]at this
 refine wpAny_call (codeAny_mono (F.run X.A X.stack s1 H1 #[us,[]] us vs Q E hr I1.env0 (by have:=hb s1 us I1.kIn (by rw[Xr];exact hl);rwa [Xr]at this) r (by rwa [Xr]at q)) λrr s' hq=>?_);cases rr with
 |error e=>
  obtain⟨x,T,C,fl,H',rfl,os,bare,un,hok,hx,hT,nx,nT,f,q⟩:=hq;exact#[H',x,C,rfl,I1.call' os un hok bare (λb hb=>nomatch hb),#[fpX I1 hx nx,.inr #[T,fl,f,fpX I1 hT nT]],q]
 |ok fl=>
  cases fl with|ret u=>exact I1.after hq|next=>exact False.elim hq|brk=>exact False.elim hq|cont=>exact False.elim hq
theorem vvs{ex:Expr}{t:XK->TE}(h:PEX X ex t)(hs:autoParam (swapsWith ex none pos.line X.env=pure false) Ŕ):PSX X (.Expr ex pos) (λE=>wqi (t E)):=by
 intro E a7 s σ H D I hw;exact wpAny_Expr_any (thn (h E a7 s σ H _ I hw) λv s1 #[x,H1,I1,r1,q1]=>#[σ,H1,I1,q1]) I.quiet hs
end
section
variable {X:Cx}{a7:LA9}{σ:L2.St}{H:Hp}{s:Shared}{x:Addr}{ox:Obj}
theorem vkm{σ':L2.St}{h':Heap}{t':Nat}{m':Str->Option Value}(I:Inv X a7 σ H s)(hs:Heap.SameBut X.env.locals s.heap h')(ur:h'.Ns X.env.locals m')(hl:σ'.length=X.N.length)
  (hv:∀(j:Nat) (y:Str) (v:V),X.N[j]?=some y->σ'[j]?=some (some v)->Vis X.env.scope y->∃u,RelV v u/\xqw X.env h' m' y u):Inv X a7 σ' H {s with heap:=h',toks:=t' }:=by
 have nL:∀b o,X.s₀.heap.get? b=some o->b≠X.env.locals:=λb o e=>Xv (Xp (Xl e) I.ok.above)
 refine#[I.ok,I.os,I.bare,#[λb o e n hb hx=>?_,λb o e n hb hx=>?_,I.base.free,λb o e hx=>?_,I.base.tups,I.base.frzs,I.base.tbls],#[m',ur,hv],λy c e=>?_,I.free,I.freeC,λp hp=>?_,λb ob e=>?_,hl]
 ·exact(hs.2 b (nL b o e)).trans (I.base.keep b o e n hb hx)
 ·obtain⟨sl,e1⟩:=I.base.slot b o e n hb hx;exact#[sl,(hs.2 b (nL b o e)).trans e1]
 ·obtain⟨o',e1⟩:=I.base.there b o e hx;exact#[o',(hs.2 b (nL b o e)).trans e1]
 ·obtain⟨w',z⟩:=I.cell y c e;exact#[w',z.sameBut hs (I.cne y c e)]
 ·obtain⟨e,n,ne,nf,d⟩:=I.pin p hp;exact#[(hs.2 p.1 ne).trans e,n,ne,nf,d]
 ·refine(I.hok b ob e).stay (λc w' hc q=>(hs.2 c ?_).trans q) (λ_ q=>q) λ_ _ q=>q
  rintro rfl;rcases hc with rfl|hc
  ·rw[I.free]at e;cases e
  ·rw[I.free]at hc;cases hc
theorem jzw{M:Model}{A:Around}{E:VP9}{n:Str}{i:Nat}{pos:Pos}{Q:Unit->Shared->Prop}(I:Inv X a7 σ H s)(hN:X.N.Nodup)(hi:X.N[i]?=some n)(hk:X.env.scope.names.lookup n=some .local)
  (h:∀s',Inv X a7 (σ.set i none) H s'->Q () s'):wpAny M A (do bindName X.env n Value.none;unbindBehindTheSuite X.env n pos) Q E s:=by
 refine X0 (wpAny_bindName (jzl I hN hi (.inl hk) (v:=.non) (u:=.none) rfl (λs1 I1=>?_) (.inr hk)));have tz:i < σ.length:=by rw[I.len];exact(List.getElem?_eq_some_iff.mp hi).1
 obtain⟨m,hn,hl⟩:=id I1.loc;obtain⟨u,ru,lk⟩:=hl i n .non hi (Y0 tz) (.inl hk);have hm:m n=some u:=by
  rcases lk with⟨_,z⟩|⟨z,_⟩
  ·exact z
  ·rcases z with z|z
   ·have z:X.env.scope.names.lookup n=some .cell:=z;rw[hk]at z;cases z
   ·have z:X.env.scope.names.lookup n=some .free:=z;rw[hk]at z;cases z
 have rz:(X.env.scope.kind == .class||(X.env.scope.kind == .module&&X.env.locals != X.env.globals))=false:=by rw[I.ok.kind];rfl
 unfold unbindBehindTheSuite;refine wpAny_onRaise (wpAny_unbindName_local hk hn hm rz λh' u' ur sb=>h _ ?_);refine vkm (t':=s1.toks) I1 sb ur (by rw[Y8];exact I.len) λj y v e1 e2 e3=>?_
 by_cases hj:j=i
 ·subst hj;rw[Y0 tz]at e2;cases e2
 ·rw[Y6 (Z9 hj)]at e2;obtain⟨u2,r2,l2⟩:=hl j y v e1 (by rw[Y6 (Z9 hj)];exact e2) e3;refine#[u2,r2,?_];rcases l2 with⟨k,e⟩|⟨k,c,e,z⟩
  ·refine .inl #[k,?_];have:y≠n:=λe=>hj (kx7 hN e1 (e▸hi))
   simp[this,e]
  ·exact .inr #[k,c,e,z.sameBut sb (I.cne y c e)]
end
structure ExAt (K:Frag)(x:Addr)(ox:Obj)(C:Addr):Prop where
 cls:ox.cls=.ref C
 no:PySem.W.notCls ox=true
 di:ox.dict=none
 xc:XCls K C
theorem Q6{X:Cx}{x:Str}{pos:Pos}{C:Addr}(h:X.mg x=some (.ref C))(hg:autoParam (Gl X x) Ŕ)(hd:autoParam (Abd x) ŕ):PE X (.Name x pos) (tC (.ref C)):=vji hg h (v:=.ref C) rfl hd
section
variable {X:Cx}{e a b o:Expr}{es:List Expr}{te ta tb to:TE}{t:TA}{pos:Pos}
set_option tactic.hygienic true in
theorem jvo{c:Nat}:∀{l p:List Nat},p∈splitL c l->p.length<=l.length
 | [],p,h=>by
  have:p=[]:=by simpa [splitL]using h
  subst this;exact Xk _
 | x :: r,p,h=>by
  rw [splitL.eq_2]at h
  split at h
  ·rcases aD h with e|e
   ·subst e;simp
   ·exact Nat.le_succ_of_le (jvo e)
  ·split at h
   ·have:p=[x]:=by simpa using h
    subst this;simp
   ·rename_i q ps e;rcases aD h with e2|e2
    ·subst e2;exact Nat.succ_le_succ (jvo (by rw[e];exact X2))
    ·exact Nat.le_succ_of_le (jvo (by rw[e];exact lc9 _ e2))
end
end L3
namespace Q
open PySem
inductive D where
 |non|bl (b:Bool)|int (i:Int)|str (z:Str)|tup (xs:List D)|lst (xs:List D)|dct (bf:List (D×D))|obj (c:Str) (fs:List (Str×D))
instance:DecidableEq D:=λa b=>Classical.propDecidable (a=b)
instance:Inhabited D:=#[.non]
mutual
noncomputable def D.pure:D->Bool
 |.tup xs=>D.pures xs|.lst _=>false|.dct _=>false|.obj _ _=>false|_=>true
noncomputable def D.pures:List D->Bool
 |[]=>true|a::x=>D.pure a&&D.pures x
end
theorem D.pures_all:∀xs,D.pures xs=xs.all D.pure
 |[]=>by simp[D.pures]|a::x=>by rw[D.pures,Z3,D.pures_all x]
@[simp] theorem D.pures_map {α:Type} f (xs:List α)(h:∀x∈xs,(f x).pure=true):D.pures (xs.map f)=true:=by
 rw[D.pures_all,Yi];intro d hd;obtain⟨x,hx,rfl⟩:=aE hd;exact h x hx
mutual
noncomputable def peq:D->D->Bool
 |.non,.non=>true|.bl a,.bl b=>a==b|.bl a,.int b=>(if a then 1 else 0)==b|.int a,.bl b=>a==(if b then 1 else 0)|.int a,.int b=>a==b|.str a,.str b=>a==b|.lst as,.lst bs=>peqs as bs|.tup as,.tup bs=>peqs as bs|_,_=>false
noncomputable def peqs:List D->List D->Bool
 |[],[]=>true|a::as,b::bs=>peq a b&&peqs as bs|_,_=>false
end
mutual
noncomputable def D.flat:Nat->D->Bool
 |0,.tup _=>false|0,.lst _=>false|n+1,.tup xs=>D.flats n xs|n+1,.lst xs=>D.flats n xs|_,.dct _=>false|_,.obj _ _=>false|_,_=>true
noncomputable def D.flats:Nat->List D->Bool
 |_,[]=>true|n,a::x=>D.flat n a&&D.flats n x
end
mutual
noncomputable def Q9:Nat->D->Bool
 |_,.non=>true|_,.int _=>true|_,.str _=>true|n+1,.tup xs=>keyDs n xs|_,_=>false
noncomputable def keyDs:Nat->List D->Bool
 |_,[]=>true|n,a::x=>Q9 n a&&keyDs n x
end
inductive Own where
 |no|rt|dp
 deriving DecidableEq
abbrev Sd:=Own×D
abbrev En:=List (Option Sd)
inductive Res (α:Type) where
 |ok (E:En) (a:α)
 |exc (E:En) (c:Str)
abbrev Ev(α:Type):=En->Option (Res α)
abbrev Ex:=Ev Sd
noncomputable def bnd{α β:Type}(m:Option (Res α))(f:En->α->Option (Res β)):Option (Res β):=
 match m with
 |some (.ok E a)=>f E a|some (.exc E c)=>some (.exc E c)|none=>none
@[simp] theorem xqr {α β:Type}(E:En)(a:α)(f:En->α->Option (Res β)):bnd (some (.ok E a)) f=f E a:=rfl
@[simp] theorem xkq {α β:Type}(E:En)(c:Str)(f:En->α->Option (Res β)):bnd (some (.exc E c)) f=some (.exc E c):=rfl
@[simp] theorem wzs {α β:Type}(f:En->α->Option (Res β)):bnd none f=none:=rfl
noncomputable def val{α:Type}(E:En)(x:Option α):Option (Res α):=x.map (Res.ok E)
@[simp] theorem wzh {α:Type}(E:En)(x:α):val E (some x)=some (.ok E x):=rfl
@[simp] theorem wzi {α:Type}(E:En):val E (none:Option α)=none:=rfl
def cC(d:D):Ex:=λE=>some (.ok E (.dp,d))
noncomputable def cV(i:Nat):Ex:=λE=>match E[i]? with
 |some (some (_,d))=>some (.ok (E.set i (some (.no,d))) (.no,d))|_=>none
noncomputable def cMv(i:Nat):Ex:=λE=>match E[i]? with
 |some (some x)=>some (.ok (E.set i none) x)|_=>none
noncomputable def vV(i:Nat):Ex:=λE=>match E[i]? with
 |some (some x)=>some (.ok E x)|_=>none
def vE(c:Ex):Ex:=λE=>bnd (c E) λE x=>some (.ok E (.no,x.2))
abbrev C9(z:Int):Ex:=vE (cC (.int z))
noncomputable def cH(v:Ex):Ex:=λE=>bnd (v E) λE x=>if x.1=.no then some (.ok E (.no,x.2))else if x.2.pure then some (.ok E (.dp,x.2))else none
noncomputable def cF1(f:Sd->Option Sd)(a:Ex):Ex:=λE=>bnd (a E) λE x=>val E (f x)
noncomputable def cF2(f:Sd->Sd->Option Sd)(a b:Ex):Ex:=λE=>bnd (a E) λE x=>bnd (b E) λE y=>val E (f x y)
noncomputable def pu1(f:D->Option D):Sd->Option Sd:=λx=>(f x.2).map λd=>(.dp,d)
noncomputable def pu2(f:D->D->Option D):Sd->Sd->Option Sd:=λx y=>(f x.2 y.2).map λd=>(.dp,d)
noncomputable def xqk:D->List D
 |.lst xs=>xs|.tup xs=>xs|.dct bf=>bf.map (·.2)|_=>[]
def vz(x:Sd):Bool:=x.1 != .dp||D.pures (xqk x.2)
def sub:Own->Own
 |.dp=>.dp|_=>.no
noncomputable def ixN(n:Nat)(i:Int):Option Nat:=if 0<=i then(if i<n then some i.toNat else none)else if -(n:Int)<=i then some (i+n).toNat else none
noncomputable def ixD:D->D->Option D
 |.lst xs,.int i=>(ixN xs.length i).bind λj=>xs[j]?|.tup xs,.int i=>(ixN xs.length i).bind λj=>xs[j]?|.str z,.int i=>(ixN z.cps.size i).bind λj=>(z.cps.toList[j]?).map λc=>.str #[(List.toArray [c])]|.dct bf,k=>(bf.find? λe=>decide (e.1=k)).map (·.2)|_,_=>none
def big:Nat:=16777216
noncomputable def i2(f:Int->Int->Option Int):D->D->Option D
 |.int a,.int b=>(f a b).map .int|_,_=>none
noncomputable def c2(f:Int->Int->Bool):D->D->Option D
 |.int a,.int b=>some (.bl (f a b))|_,_=>none
def qzp(a:Int):Bool:=decide (-(2 ^ 64)<a)&&decide (a<2 ^ 64)
noncomputable def jZ:Sd->Sd->Option Sd:=λx y=>match x.2,y.2 with
 |.int a,.int b=>some (.dp,.int (a+b))|.str a,.str b=>if a.cps.size+b.cps.size<=big then some (.dp,.str (a++b))else none|.lst a,.lst b=>if a.length+b.length<=big/\vz x/\vz y then some (.rt,.lst (a++b))else none|.tup a,.tup b=>if a.length+b.length<=big/\vz x/\vz y then some (.no,.tup (a++b))else none|_,_=>none
noncomputable def qxa(a b:Int):Bool:=qzp a||qzp b||(decide (a.natAbs.log2<2000000)&&decide (b.natAbs.log2<2000000))
noncomputable def wxi:Sd->Sd->Option Sd:=λx y=>match x.2,y.2 with
 |.int a,.int b=>if qxa a b then some (.dp,.int (a*b))else none|.lst a,.int k=>if -(2 ^ 63)<=k/\k<2 ^ 63/\a.length*k.toNat<=big/\vz x then some (.rt,.lst (List.replicate k.toNat a).flatten)else none|.str z,.int n=>if(z.cps.size<=1024/\n<=1024/\-1024<=n)/\(Txt.mul z n).cps.size<=big then some (.dp,.str (Txt.mul z n))else none|_,_=>none
noncomputable def vX:D->D->Option D:=i2 λa b=>if 0<b/\b.natAbs.log2<9000 then some (a / b)else none
noncomputable def jQ:D->D->Option D:=i2 λa b=>if 0<b then some (a % b)else none
noncomputable def xkg:D->D->Option D:=i2 λa b=>if 0<=b/\b<=1000000/\a.natAbs<2 ^ 64 then some (a*2 ^ b.toNat)else none
noncomputable def fEq:D->D->Option D:=λa b=>if a.flat 40&&b.flat 40 then some (.bl (peq a b))else none
noncomputable def fNe:D->D->Option D:=λa b=>if a.flat 40&&b.flat 40 then some (.bl (!peq a b))else none
def isNon:D->Bool
 |.non=>true|_=>false
def fLt:D->D->Option D:=c2 λa b=>decide (a<b)
def fLe:D->D->Option D:=c2 λa b=>decide (a<=b)
def fGt:D->D->Option D:=c2 λa b=>decide (b<a)
def fGe:D->D->Option D:=c2 λa b=>decide (b<=a)
def xJ:D->Option D
 |.int a=>some (.int (-a))|_=>none
noncomputable def Jq(a b:Str):Bool:=!(Builtin.Str.occurrences b a 0 b.length 1).isEmpty
noncomputable def fIn:D->D->Option D:=λx y=>match y with
 |.lst ys=>if x.flat 30&&D.flats 30 ys then some (.bl (ys.any λz=>peq z x))else none|.tup ys=>if x.flat 30&&D.flats 30 ys then some (.bl (ys.any λz=>peq z x))else none
 |.str b=>(match x with
  |.str a=>some (.bl (Jq a b))
  |_=>none)
 |.dct bf=>some (.bl (bf.any λe=>decide (e.1=x)))|_=>none
noncomputable def qjs:D->D->Option D:=λx y=>(fIn x y).bind λd=>match d with
 |.bl k=>some (.bl (!k))|_=>none
noncomputable def jx:D->Option D
 |.lst xs=>some (.int xs.length)|.tup xs=>some (.int xs.length)|.str z=>some (.int z.length)|_=>none
noncomputable def kind:D->String
 |.non=>"NoneType"|.bl _=>"bool"|.int _=>"int"|.str _=>"str"|.tup _=>"tuple"|.lst _=>"list"|.dct _=>"dict"|.obj _ _=>""
def xqm(t u:String):Bool:=t==u||(t == "bool" && u == "int")
noncomputable def jX(u:String):D->Option D:=λd=>match d with
 |.obj _ _=>none|.dct _=>none|_=>some (.bl (xqm (kind d) u))
def fIsNon:D->Option D:=λd=>some (.bl (isNon d))
def fNotNon:D->Option D:=λd=>some (.bl (!isNon d))
abbrev Ts:=Ev Bool
noncomputable def truth:D->Option Bool
 |.bl b=>some b|.non=>some false|.int i=>some (i != 0)|.str z=>some (z.cps.size != 0)|.lst xs=>some (!xs.isEmpty)|.tup xs=>some (!xs.isEmpty)|.dct xs=>some (!xs.isEmpty)|.obj _ _=>none
def tE(c:Ex):Ts:=λE=>bnd (c E) λE x=>val E (truth x.2)
noncomputable def tAnd(a b:Ts):Ts:=λE=>bnd (a E) λE x=>if x then b E else some (.ok E false)
noncomputable def tOr(a b:Ts):Ts:=λE=>bnd (a E) λE x=>if x then some (.ok E true)else b E
def tNot(a:Ts):Ts:=λE=>bnd (a E) λE x=>some (.ok E (!x))
def tYes:Ts:=λE=>some (.ok E true)
noncomputable def cIf(t:Ts)(a b:Ex):Ex:=λE=>bnd (t E) λE x=>if x then a E else b E
noncomputable def x6(a b:Ex):Ex:=λE=>bnd (a E) λE x=>match x.2 with
 |.bl true=>b E|.bl false=>some (.ok E (.dp,.bl false))|_=>none
noncomputable def cOr(a b:Ex):Ex:=λE=>bnd (a E) λE x=>match x.2 with
 |.bl true=>some (.ok E (.dp,.bl true))|.bl false=>b E|_=>none
noncomputable def wj:D->D->Option D:=λx y=>match y with
 |.dct _=>none|_=>fIn x y
noncomputable def K0:D->D->Option D:=λx y=>match y with
 |.dct _=>none|_=>qjs x y
noncomputable def f2First(f:D->Option D):Sd->Sd->Option Sd:=λx y=>if isNon y.2 then(f x.2).map λd=>(.dp,d)else none
noncomputable def jw:D->D->Option D:=λx y=>match x with
 |.dct _=>none|_=>ixD x y
noncomputable def j8(a b:Ex):Ex:=λE=>bnd (a E) λE x=>bnd (b E) λE y=>val E ((jw x.2 y.2).map λd=>(sub x.1,d))
noncomputable def truthQ:D->Option Bool:=λd=>match d with
 |.dct _=>none|_=>truth d
def tEQ(c:Ex):Ts:=λE=>bnd (c E) λE x=>val E (truthQ x.2)
noncomputable def Zw(c:Ex):Ex:=λE=>bnd (c E) λE x=>val E ((truthQ x.2).map λk=>(.dp,.bl (!k)))
noncomputable def vJ:List Ex->Ev (List Sd)
 |[],E=>some (.ok E [])|c::cs,E=>bnd (c E) λE x=>bnd (vJ cs E) λE xs=>some (.ok E (x::xs))
def vK(x:Sd):Bool:=x.1 == .dp||x.2.pure
noncomputable def qw(o:Own)(cs:List Ex):Ex:=λE=>bnd (vJ cs E) λE xs=>if o=.dp then(if xs.all vK then some (.ok E (.dp,.lst (xs.map (·.2))))else none)else some (.ok E (.rt,.lst (xs.map (·.2))))
noncomputable def vj(o:Own)(cs:List Ex):Ex:=λE=>bnd (vJ cs E) λE xs=>if o=.dp then(if xs.all vK then some (.ok E (.dp,.tup (xs.map (·.2))))else none)else some (.ok E (.no,.tup (xs.map (·.2))))
inductive Fl where
 |nx (E:En)|rt (E:En) (x:Sd)|ct (E:En)|bk (E:En)|xc (E:En) (c:Str)
abbrev Sm:=En->Option Fl
noncomputable def ofE{α:Type}(m:Option (Res α))(f:En->α->Option Fl):Option Fl:=
 match m with
 |some (.ok E a)=>f E a|some (.exc E c)=>some (.xc E c)|none=>none
@[simp] theorem xqi {α:Type}(E:En)(a:α)(f:En->α->Option Fl):ofE (some (.ok E a)) f=f E a:=rfl
@[simp] theorem xjy {α:Type}(E:En)(c:Str)(f:En->α->Option Fl):ofE (some (.exc E c)) f=some (.xc E c):=rfl
@[simp] theorem wzo {α:Type}(f:En->α->Option Fl):ofE none f=none:=rfl
noncomputable def j6(a b:Sm):Sm:=λE=>match a E with
 |some (.nx E)=>b E|r=>r
def k7:Sm:=λE=>some (.nx E)
noncomputable def jz(i:Nat)(c:Ex):Sm:=λE=>ofE (c E) λE x=>some (.nx (E.set i (some x)))
def W0(c:Ex):Sm:=λE=>ofE (c E) λE _=>some (.nx E)
def jv(c:Ex):Sm:=λE=>ofE (c E) λE x=>some (.rt E x)
noncomputable def sIf(t:Ts)(a b:Sm):Sm:=λE=>ofE (t E) λE x=>if x then a E else b E
inductive Tg where
 |n (i:Nat)|t (ts:List Nat)
noncomputable def setAll:List Nat->List D->En->Option En
 |[],[],E=>some E|i::is,d::ds,E=>setAll is ds (E.set i (some (.no,d)))|_,_,_=>none
noncomputable def Tg.put:Tg->D->En->Option En
 |.n i,d,E=>some (E.set i (some (.no,d)))|.t is,.tup ds,E=>setAll is ds E|.t is,.lst ds,E=>setAll is ds E|.t _,_,_=>none
noncomputable def QZ(tg:Tg)(b:Sm):List D->En->Option Fl
 | [],E=>some (.nx E)
 | d::ds,E=>match tg.put d E with
  |none=>none
  |some E=>match b E with
   |some (.nx E)=>QZ tg b ds E|some (.ct E)=>QZ tg b ds E|some (.bk E)=>some (.nx E)|r=>r
noncomputable def z7(it:Ev (List D))(tg:Tg)(b:Sm):Sm:=λE=>ofE (it E) λE ds=>QZ tg b ds E
noncomputable def at'{α:Type}(L:List (Option α))(j:Nat):Option α:=(L[j]?).join
noncomputable def clr{α:Type}:List Nat->List (Option α)->List (Option α)
 |[],L=>L|j::R,L=>clr R (L.set j none)
noncomputable def back{α:Type}:List Nat->List (Option α)->List (Option α)->List (Option α)
 |j::R,q::B,L=>back R B (L.set j q)|_,_,L=>L
noncomputable def wq3(k:Nat)(R:List Nat)(E:En):En:=List.replicate k none++R.map (at' E)
noncomputable def XJ(k:Nat)(R:List Nat)(B E:En):En:=back R (B.drop k) (clr R E)
noncomputable def lcL(tg:Tg)(t:Ts)(c:Ex):List D->En->List Sd->Option (Res (List Sd))
 |[],B,acc=>some (.ok B acc)
 |d::ds,B,acc=>match tg.put d B with
  |none=>none|some B=>bnd (t B) λB x=>if x then bnd (c B) λB y=>lcL tg t c ds B (acc++[y])else lcL tg t c ds B acc
noncomputable def mkL(o:Own)(E:En)(xs:List Sd):Option (Res Sd):=
 if o=.dp then(if xs.all vK then some (.ok E (.dp,.lst (xs.map (·.2))))else none)else some (.ok E (.rt,.lst (xs.map (·.2))))
noncomputable def cLC(o:Own)(k:Nat)(R:List Nat)(it:Ev (List D))(tg:Tg)(t:Ts)(c:Ex):Ex:=λE=>bnd (it E) λE ds=>
 match lcL tg t c ds (wq3 k R E) []with
 |some (.ok B xs)=>mkL o (XJ k R B E) xs|some (.exc B e)=>some (.exc (XJ k R B E) e)|none=>none
noncomputable def isLst:Option (Option Sd)->Bool
 |some (some (_,.lst _))=>true|_=>false
noncomputable def wzm(g0:Option (Option Sd)->Bool)(g:Sd->D->D->Option D)(i:Nat)(kc vc:Ex):Sm:=λE=>ofE (vc E) λE v=>if g0 E[i]?=true then ofE (kc E) λE k=>(match E[i]? with
 |some (some s)=>(g s k.2 v.2).map λd=>.nx (E.set i (some (.rt,d)))
 |_=>none)else none
noncomputable def wq(f:List D->D->Option (List D))(i:Nat)(c:Ex):Sm:=λE=>if isLst E[i]? then ofE (c E) λE x=>match E[i]? with
 |some (some (o,.lst xs))=>if o=.no then none else(match f xs x.2 with
  |some ys=>some (.nx (E.set i (some (if o=.dp/\vK x then .dp else .rt,.lst ys))))
  |none=>none)
 |_=>none
 else none
noncomputable def xj:List D->D->Option (List D):=λxs d=>if xs.length<big then some (xs++[d])else none
noncomputable def xv:D->Option D
 |.int i=>some (.int i)|.bl k=>some (.int (if k then 1 else 0))|.str z=>if z.length<=640 then(PySem.intText? z).map .int else none|_=>none
noncomputable def Vv:Sd->Option Sd:=λx=>match x.2 with
 |.lst xs=>if vz x then some (.no,.tup xs)else none|.tup xs=>if vz x then some (.no,.tup xs)else none|_=>none
noncomputable def bls:List D->Option (List Bool)
 |[]=>some []|.bl b::ds=>(bls ds).map (b :: ·)|_=>none
noncomputable def K1:D->Option D
 |.lst ds=>(bls ds).map λbs=>.bl (bs.all id)|_=>none
noncomputable def seqOf:D->Option (List D)
 |.lst xs=>some xs|.tup xs=>some xs|.str z=>if z.cps.size<=big then some (z.cps.toList.map λc=>.str #[(List.toArray [c])])else none|_=>none
noncomputable def itS(c:Ex):Ev (List D):=λE=>bnd (c E) λE x=>val E (seqOf x.2)
def Jk(i:Int):Bool:=decide (-(2 ^ 62)<=i)&&decide (i<2 ^ 62)
noncomputable def qv(lo hi:Int):List D:=(List.range (hi - lo).toNat).map λ(k:Nat)=>.int (lo+(k:Int))
noncomputable def wx(c:Ex):Ev (List D):=λE=>bnd (c E) λE x=>match x.2 with
 |.int j=>if Jk j/\j.toNat<=big then some (.ok E (qv 0 j))else none|_=>none
abbrev Fn:=List Sd->Option (Res Sd)
noncomputable def fn(n:Nat)(b:Sm):Fn:=λxs=>match b (xs.map some++List.replicate (n - xs.length) none)with
 |some (.rt E x)=>some (.ok E x)|some (.nx E)=>some (.ok E (.dp,.non))|some (.xc E c)=>some (.exc E c)|_=>none
def letAll(xs:List Sd):List Sd:=xs.map λx=>(.no,x.2)
noncomputable def jq(f:Fn)(cs:List Ex):Ex:=λE=>bnd (vJ cs E) λE xs=>match f (letAll xs)with
 |some (.ok _ y)=>some (.ok E y)|some (.exc _ c)=>some (.exc E c)|none=>none
end Q
namespace Q
open PySem PySem.Spec PyProof.Rows L2 L3
mutual
noncomputable def wxd(w:PySem.World):D->Int
 |.int i=>hashInt i|.str z=>hashStr w z|.tup xs=>reduceHash (Builtin.Tuple.tupleHashOf (hashDs w xs))|_=>4238894112
noncomputable def hashDs(w:PySem.World):List D->List Int
 |[]=>[]|a::x=>wxd w a::hashDs w x
end
def Kd:Type:={d:D // Q9 6 d=true}
instance:DecidableEq Kd:=λa b=>Classical.propDecidable (a=b)
abbrev Ent:=Kd×Addr×Value
noncomputable def DicO(a:Addr)(es:List Ent)(ep:Nat):HO:=.ext λw h=>∃o ds,h.get? a=some o/\o.ExactDict/\o.data=.dict ds ep/\ds.toList=es.map λx=>(#[wxd w x.1.1,.ref x.2.1,x.2.2]:DictEntry)
mutual
noncomputable def PuR(K:Frag)(H:Hp):D->V->Prop
 |.non,v=>v=.non|.int i,v=>v=.int i|.str z,v=>v=.str z/\z.length<=sizeLine|.tup ds,v=>∃a xs,v=.ref a/\SqT K H a xs/\PuRs K H ds xs|_,_=>False
noncomputable def PuRs(K:Frag)(H:Hp):List D->List V->Prop
 |[],xs=>xs=[]|d::ds,xs=>∃x r,xs=x::r/\PuR K H d x/\PuRs K H ds r
end
noncomputable def DcN(K:Frag)(H:Hp)(a:Addr)(ks:List D)(vs:List V):Prop:=∃(es:List Ent) (ep:Nat),H a=some (DicO a es ep)/\(a==sysModules)=false/\es.length<=sizeLine/\(es.map (·.1)).Nodup/\ks=es.map (·.1.1)/\(∀x∈es,PuR K H x.1.1 (.ref x.2.1))/\Vals vs (es.map (·.2.2))
noncomputable def DcI(H:Hp)(a:Addr)(ks:List D)(vs:List V):Prop:=∃(kv:List (Int×V)) (m:Str),H a=some (.dK (kv.map λp=>(Sum.inl p.1,p.2)))/\ks=.str m::kv.map (λp=>D.int p.1)/\vs=.non::kv.map (·.2)
noncomputable def DcA(K:Frag)(H:Hp)(a:Addr)(ks:List D)(vs:List V):Prop:=DcN K H a ks vs\/DcI H a ks vs
noncomputable def xqv(K:Frag)(a:Addr)(xs:List V):Prop:=∃(aq:Array Value) (n:Nat),K.lookup a=some {cls:=.type "list",data:=.seq aq n}/\aq.size<=sizeLine/\Vals xs aq.toList
noncomputable def wzw(K:Frag)(H:Hp)(a:Addr)(xs:List V):Prop:=(∃o,H a=some (.frz o (.lst xs)))\/xqv K a xs
noncomputable def LsR(K:Frag)(H:Hp)(a:Addr)(xs:List V):Prop:=Rd H a (.lst xs)\/xqv K a xs
theorem LsR.of{K H a xs}(h:wzw K H a xs):LsR K H a xs:=h.imp .inr id
theorem LsR.sq{K H a xs}(h:LsR K H a xs):SqL K H a xs:=by
 rcases h with h|⟨aq,n,h1,h2,h3⟩
 ·exact .inl h
 ·exact .inr #[_,aq,n,h1,rfl,rfl,rfl,h2,h3]
theorem LsR.is{X a7}{σ:L2.St}{H s a xs}(I:L2.Inv X a7 σ H s)(h:LsR X.K H a xs):xs.length<=sizeLine/\∃(aq:List Value) (n:Nat),Vals xs aq/\s.heap.get? a=some {cls:=.type "list",data:=.seq aq.toArray n}:=by
 rcases h with h|⟨aq,n,h1,h2,h3⟩
 ·obtain⟨z,aq,n,r,e⟩:=h.ok I.hok;exact#[z,aq,n,r,e]
 ·have hl:=h3.length;simp at hl;exact#[⋯,aq.toList,n,h3,by simpa using I.kIn a _ h1]
noncomputable def ExD(K:Frag)(H:Hp)(c:Str)(v:V):Prop:=∃x o C,v=.ref x/\H x=some (.frz o (.ext λ_ _=>True))/\ExAt K x o C/\nsIn K mainGlobals c=some (some (.ref C))
mutual
noncomputable def RepL(K:Frag)(H:Hp)(g:Bool):D->V->List Addr->Prop
 |.non,v,as=>v=.non/\as=[]|.bl b,v,as=>v=.bl b/\as=[]|.int i,v,as=>v=.int i/\as=[]|.str z,v,as=>v=.str z/\as=[]/\z.length<=sizeLine|.tup ds,v,as=>∃a xs,v=.ref a/\SqT K H a xs/\RepA K H g ds xs as|.lst ds,v,as=>∃a xs bs,v=.ref a/\RepA K H g ds xs bs/\((H a=some (.lst xs)/\as=a::bs)\/(g=true/\wzw K H a xs/\as=bs))|.dct bf,v,as=>∃a xs bs,v=.ref a/\RepP K H g bf xs bs/\DcA K H a (bf.map (·.1)) xs/\as=a::bs|.obj c _,v,as=>as=[]/\ExD K H c v
noncomputable def RepA(K:Frag)(H:Hp)(g:Bool):List D->List V->List Addr->Prop
 |[],xs,as=>xs=[]/\as=[]|d::ds,xs,as=>∃x r bs cs,xs=x::r/\as=bs++cs/\RepL K H g d x bs/\RepA K H g ds r cs
noncomputable def RepP(K:Frag)(H:Hp)(g:Bool):List (D×D)->List V->List Addr->Prop
 |[],xs,as=>xs=[]/\as=[]|(_,d)::ds,xs,as=>∃x r bs cs,xs=x::r/\as=bs++cs/\RepL K H g d x bs/\RepP K H g ds r cs
end
noncomputable def RepR(K:Frag)(H:Hp):D->V->List Addr->Prop
 |.lst ds,v,as=>∃a xs bs,v=.ref a/\RepA K H true ds xs bs/\H a=some (.lst xs)/\as=a::bs|.dct bf,v,as=>∃a xs bs,v=.ref a/\RepP K H true bf xs bs/\DcA K H a (bf.map (·.1)) xs/\as=a::bs|_,_,_=>False
noncomputable def RepO(K:Frag)(H:Hp):Own->D->V->List Addr->Prop
 |.no=>RepL K H true|.rt=>RepR K H|.dp=>RepL K H false
section
variable {K:Frag}{H H':Hp}
noncomputable def Kp(H H':Hp)(as:List Addr):Prop:=(∀a xs,H a=some (.tup xs)->H' a=some (.tup xs))/\(∀a o u,H a=some (.frz o u)->H' a=some (.frz o u))/\∀a∈as,∀ob,H a=some ob->H' a=some ob
theorem Kp.left{as bs}(k:Kp H H' (as++bs)):Kp H H' as:=#[k.1,k.2.1,λa ha=>k.2.2 a (ll9 _ ha)]
theorem Kp.right{as bs}(k:Kp H H' (as++bs)):Kp H H' bs:=#[k.1,k.2.1,λa ha=>k.2.2 a (lr9 _ ha)]
theorem Kp.tail{a bs}(k:Kp H H' (a::bs)):Kp H H' bs:=#[k.1,k.2.1,λb hb=>k.2.2 b (lc9 _ hb)]
theorem Kp.tupT{as a xs}(k:Kp H H' as)(h:SqT K H a xs):SqT K H' a xs:=by
 rcases h with(h|⟨o,h⟩)|h
 ·exact .inl (.inl (k.1 a xs h))
 ·exact .inl (.inr #[o,k.2.1 a o _ h])
 ·exact .inr h
theorem Kp.frzL{as a xs}(k:Kp H H' as)(h:wzw K H a xs):wzw K H' a xs:=by
 rcases h with⟨o,h⟩|h
 ·exact .inl #[o,k.2.1 a o _ h]
 ·exact .inr h
mutual
theorem PuR.kp{as}(k:Kp H H' as):∀{d v},PuR K H d v->PuR K H' d v
 |.non,_,h=>h|.int _,_,h=>h
 |.tup ds,_,h=>by
  obtain⟨a,xs,e,s,r⟩:=h;exact#[a,xs,e,k.tupT s,PuRs.kp k r]
 |.bl _,_,h=>h.elim|.str _,_,h=>by unfold PuR at h ⊢;exact h|.lst _,_,h=>h.elim|.dct _,_,h=>h.elim|.obj _ _,_,h=>h.elim
theorem PuRs.kp{as}(k:Kp H H' as):∀{ds xs},PuRs K H ds xs->PuRs K H' ds xs
 |[],_,h=>by unfold PuRs at h ⊢;exact h
 |d::ds,_,h=>by
  obtain⟨x,r,e,h1,h2⟩:=h;exact#[x,r,e,PuR.kp k h1,PuRs.kp k h2]
end
theorem Kp.dcn{a bs ks vs}(k:Kp H H' (a::bs))(h:DcN K H a ks vs):DcN K H' a ks vs:=by
 obtain⟨es,ep,e,h1,h2,h3,h4,h5,h6⟩:=h;exact#[es,ep,k.2.2 a X2 _ e,h1,h2,h3,h4,λx hx=>PuR.kp k (h5 x hx),h6]
theorem Kp.dca{a bs ks vs}(k:Kp H H' (a::bs))(h:DcA K H a ks vs):DcA K H' a ks vs:=by
 rcases h with h|⟨kv,m,e,h⟩
 ·exact .inl (k.dcn h)
 ·exact .inr #[kv,m,k.2.2 a X2 _ e,h]
theorem Kp.of_same{as}(s:kJ H H'):Kp H H' as:=#[λa xs h=>s a _ h,λa o u h=>s a _ h,λa _ ob h=>s a ob h]
mutual
theorem RepL.kp{g}:∀{d v as},RepL K H g d v as->Kp H H' as->RepL K H' g d v as
 | .non,_,_,h,_=>h| .bl _,_,_,h,_=>h| .int _,_,_,h,_=>h| .str _,_,_,h,_=>by unfold RepL at h ⊢;exact h
 | .tup ds,_,_,h,k=>by
  obtain⟨a,xs,e,s,r⟩:=h;exact#[a,xs,e,k.tupT s,RepA.kp r k]
 | .lst ds,_,_,h,k=>by
  obtain⟨a,xs,bs,e,r,q⟩:=h;refine#[a,xs,bs,e,?_,?_]
  ·rcases q with⟨_,rfl⟩|⟨_,_,rfl⟩
   ·exact RepA.kp r k.tail
   ·exact RepA.kp r k
  ·rcases q with⟨h1,rfl⟩|⟨hg,h1,rfl⟩
   ·exact .inl #[k.2.2 a X2 _ h1,rfl]
   ·exact .inr #[hg,k.frzL h1,rfl]
 |.dct bf,_,_,h,k=>by
  obtain⟨a,xs,bs,e,r,q,rfl⟩:=h;exact#[a,xs,bs,e,RepP.kp r k.tail,k.dca q,rfl]
 |.obj _ _,_,_,h,k=>by
  obtain⟨e,x,o,C,h1,h2,h3⟩:=h;exact#[e,x,o,C,h1,k.2.1 _ _ _ h2,h3]
theorem RepA.kp{g}:∀{ds xs as},RepA K H g ds xs as->Kp H H' as->RepA K H' g ds xs as
 |[],_,_,h,_=>by unfold RepA at h ⊢;exact h
 |d::ds,_,_,h,k=>by
  obtain⟨x,r,bs,cs,e1,rfl,h1,h2⟩:=h;exact#[x,r,bs,cs,e1,rfl,RepL.kp h1 k.left,RepA.kp h2 k.right]
theorem RepP.kp{g}:∀{ds xs as},RepP K H g ds xs as->Kp H H' as->RepP K H' g ds xs as
 |[],_,_,h,_=>by unfold RepP at h ⊢;exact h
 |_::ds,_,_,h,k=>by
  obtain⟨x,r,bs,cs,e1,rfl,h1,h2⟩:=h;exact#[x,r,bs,cs,e1,rfl,RepL.kp h1 k.left,RepP.kp h2 k.right]
end
mutual
theorem RepL.wk:∀{d v as},RepL K H false d v as->RepL K H true d v as
 |.non,_,_,h=>h|.bl _,_,_,h=>h|.int _,_,_,h=>h|.str _,_,_,h=>by unfold RepL at h ⊢;exact h
 |.tup ds,_,_,h=>by
  obtain⟨a,xs,e,s,r⟩:=h;exact#[a,xs,e,s,RepA.wk r]
 |.lst ds,_,_,h=>by
  obtain⟨a,xs,bs,e,r,q⟩:=h;refine#[a,xs,bs,e,RepA.wk r,?_];rcases q with q|⟨z,_⟩
  ·exact .inl q
  ·grind
 |.dct bf,_,_,h=>by
  obtain⟨a,xs,bs,e,r,q,z⟩:=h;exact#[a,xs,bs,e,RepP.wk r,q,z]
 |.obj _ _,_,_,h=>h
theorem RepA.wk:∀{ds xs as},RepA K H false ds xs as->RepA K H true ds xs as
 |[],_,_,h=>h
 |d::ds,_,_,h=>by
  obtain⟨x,r,bs,cs,e1,e2,h1,h2⟩:=h;exact#[x,r,bs,cs,e1,e2,RepL.wk h1,RepA.wk h2]
theorem RepP.wk:∀{ds xs as},RepP K H false ds xs as->RepP K H true ds xs as
 |[],_,_,h=>h
 |_::ds,_,_,h=>by
  obtain⟨x,r,bs,cs,e1,e2,h1,h2⟩:=h;exact#[x,r,bs,cs,e1,e2,RepL.wk h1,RepP.wk h2]
end
mutual
theorem RepL.al{g}:∀{d v as},RepL K H g d v as->∀a∈as,(∃xs,H a=some (.lst xs))\/(∃ φ,H a=some (.ext φ))\/∃bf,H a=some (.dK bf)
 | .non,_,_,h=>by rw[h.2];exact λ_ z=>nomatch z| .bl _,_,_,h=>by rw[h.2];exact λ_ z=>nomatch z| .int _,_,_,h=>by rw[h.2];exact λ_ z=>nomatch z| .str _,_,_,h=>by rw[h.2.1];exact λ_ z=>nomatch z
 | .tup ds,_,_,h=>by
  obtain⟨a,xs,e,s,r⟩:=h;exact RepA.al r
 | .lst ds,_,_,h=>by
  obtain⟨a,xs,bs,e,r,q⟩:=h;rcases q with⟨h1,rfl⟩|⟨_,_,rfl⟩
  ·intro b hb;rcases aD hb with rfl|hb
   ·exact .inl #[_,h1]
   ·exact RepA.al r b hb
  ·exact RepA.al r
 | .dct bf,_,_,h=>by
  obtain⟨a,xs,bs,e,r,q,rfl⟩:=h;intro b hb;rcases aD hb with rfl|hb
  ·rcases q with⟨es,ep,q,_⟩|⟨kv,m,q,_⟩
   ·exact .inr (.inl #[_,q])
   ·exact .inr (.inr #[_,q])
  ·exact RepP.al r b hb
 |.obj _ _,_,_,h=>by rw[h.1];exact λ_ z=>nomatch z
theorem RepA.al{g}:∀{ds xs as},RepA K H g ds xs as->∀a∈as,(∃xs,H a=some (.lst xs))\/(∃ φ,H a=some (.ext φ))\/∃bf,H a=some (.dK bf)
 |[],_,_,h=>by rw[h.2];exact λ_ z=>nomatch z
 |d::ds,_,_,h=>by
  obtain⟨x,r,bs,cs,e1,rfl,h1,h2⟩:=h;intro a ha;rcases aA ha with ha|ha
  ·exact RepL.al h1 a ha
  ·exact RepA.al h2 a ha
theorem RepP.al{g}:∀{ds xs as},RepP K H g ds xs as->∀a∈as,(∃xs,H a=some (.lst xs))\/(∃ φ,H a=some (.ext φ))\/∃bf,H a=some (.dK bf)
 |[],_,_,h=>by rw[h.2];exact λ_ z=>nomatch z
 |_::ds,_,_,h=>by
  obtain⟨x,r,bs,cs,e1,rfl,h1,h2⟩:=h;intro a ha;rcases aA ha with ha|ha
  ·exact RepL.al h1 a ha
  ·exact RepP.al h2 a ha
end
mutual
theorem RepL.pu{g g'}:∀{d v as},RepL K H g d v as->d.pure=true->as=[]/\RepL K H g' d v []
 |.non,_,_,h,_=>#[h.2,h.1,rfl]|.bl _,_,_,h,_=>#[h.2,h.1,rfl]|.int _,_,_,h,_=>#[h.2,h.1,rfl]|.str _,_,_,h,_=>#[h.2.1,h.1,rfl,h.2.2]
 |.tup ds,_,_,h,p=>by
  obtain⟨a,xs,e,s,r⟩:=h;obtain⟨z,r'⟩:=RepA.pu (g':=g') r (p);exact#[z,a,xs,e,s,r']
 |.lst ds,_,_,h,p=>by cases p|.dct ds,_,_,h,p=>by cases p|.obj _ _,_,_,h,p=>by unfold D.pure at p;cases p
theorem RepA.pu{g g'}:∀{ds xs as},RepA K H g ds xs as->D.pures ds=true->as=[]/\RepA K H g' ds xs []
 |[],_,_,h,_=>#[h.2,h.1,rfl]
 |d::ds,_,_,h,p=>by
  unfold D.pures at p;rw[Bool.and_eq_true]at p;obtain⟨x,r,bs,cs,e1,rfl,h1,h2⟩:=h;obtain⟨rfl,q1⟩:=RepL.pu (g':=g') h1 p.1;obtain⟨rfl,q2⟩:=RepA.pu (g':=g') h2 p.2;exact#[rfl,x,r,[],[],e1,rfl,q1,q2]
end
theorem RepR.wk{d v as}(h:RepR K H d v as):RepL K H true d v as:=by
 cases d<;>first|exact False.elim h|skip
 all_goals
  obtain⟨a,xs,bs,e,r,q,z⟩:=h
  first|exact#[a,xs,bs,e,r,.inl #[q,z]]|exact#[a,xs,bs,e,r,q,z]
theorem RepR.kp{d v as}(h:RepR K H d v as)(k:Kp H H' as):RepR K H' d v as:=by
 cases d<;>first|exact False.elim h|skip
 all_goals
  obtain⟨a,xs,bs,e,r,q,rfl⟩:=h
  first|exact#[a,xs,bs,e,r.kp k.tail,k.2.2 a X2 _ q,rfl]|exact#[a,xs,bs,e,r.kp k.tail,k.dca q,rfl]
theorem RepO.wk:∀{o d v as},RepO K H o d v as->RepL K H true d v as
 |.no,_,_,_,h=>h|.rt,_,_,_,h=>RepR.wk h|.dp,_,_,_,h=>RepL.wk h
theorem RepO.kp:∀{o d v as},RepO K H o d v as->Kp H H' as->RepO K H' o d v as
 |.no,_,_,_,h,k=>RepL.kp h k|.rt,_,_,_,h,k=>RepR.kp h k|.dp,_,_,_,h,k=>RepL.kp h k
end
structure Sl where
 o:Own
 d:D
 v:V
 as:List Addr
noncomputable def Sl.own(x:Sl):List Addr:=match x.o with
 |.no=>[]|.rt=>x.as.take 1|.dp=>x.as
noncomputable def Sl.frz(x:Sl):List Addr:=match x.o with
 |.no=>x.as|.rt=>x.as.drop 1|.dp=>[]
theorem Sl.parts(x:Sl):x.own++x.frz=x.as:=by
 unfold Sl.own Sl.frz;cases x.o with|no=>rfl|rt=>exact List.take_append_drop 1 x.as|dp=>exact Xr _
theorem Sl.own_as{x:Sl}{a}(h:a∈x.own):a∈x.as:=by rw[<-x.parts];exact ll9 _ h
theorem Sl.frz_as{x:Sl}{a}(h:a∈x.frz):a∈x.as:=by rw[<-x.parts];exact lr9 _ h
theorem Sl.as_of{x:Sl}{a}(h:a∈x.as):a∈x.own\/a∈x.frz:=by rw[<-x.parts]at h;exact aA h
def Sl.let(x:Sl):Sl:={x with o:=.no}
abbrev Ls:=List (Option Sl)
def j7(L:Ls):List Addr:=L.flatMap λx=>x.elim [] Sl.own
def jK(L:Ls):List Addr:=L.flatMap λx=>x.elim [] Sl.frz
@[simp] theorem wwa:j7 []=[]:=rfl
@[simp] theorem wq5:jK []=[]:=rfl
@[simp] theorem jW x (L:Ls):j7 (some x::L)=x.own++j7 L:=by simp[j7]
@[simp] theorem ww x (L:Ls):jK (some x::L)=x.frz++jK L:=by simp[jK]
@[simp] theorem qx4 (L:Ls):j7 (none::L)=j7 L:=by simp[j7]
@[simp] theorem qqd (L:Ls):jK (none::L)=jK L:=by simp[jK]
@[simp] theorem k9 (L T):j7 (L++T)=j7 L++j7 T:=by simp[j7]
@[simp] theorem qQ (L T):jK (L++T)=jK L++jK T:=by simp[jK]
theorem mem_owned{L a}:a∈j7 L↔∃x,some x∈L/\a∈x.own:=by
 unfold j7;rw[List.mem_flatMap];constructor
 ·rintro ⟨y,hy,h⟩;cases y with|none=>simp_all|some x=>exact#[x,hy,h]
 ·rintro ⟨x,hx,h⟩;exact#[some x,hx,h]
theorem mem_frozen{L a}:a∈jK L↔∃x,some x∈L/\a∈x.frz:=by
 unfold jK;rw[List.mem_flatMap];constructor
 ·rintro ⟨y,hy,h⟩;cases y with|none=>simp_all|some x=>exact#[x,hy,h]
 ·rintro ⟨x,hx,h⟩;exact#[some x,hx,h]
noncomputable def Sl.ok(K:Frag)(H:Hp)(x:Sl):Prop:=RepO K H x.o x.d x.v x.as
theorem Sl.ok.al{K H}{x:Sl}(h:x.ok K H):∀a∈x.as,(∃xs,H a=some (.lst xs))\/(∃ φ,H a=some (.ext φ))\/∃bf,H a=some (.dK bf):=(RepO.wk h).al
theorem Sl.ok.some{K H}{x:Sl}(h:x.ok K H){a}(ha:a∈x.as):H a≠none:=λz=>by
 rcases h.al a ha with⟨xs,e⟩|⟨xs,e⟩|⟨xs,e⟩<;>(rw[z]at e;cases e)
structure World (K:Frag)(H:Hp)(L:Ls):Prop where
 ok:∀x,some x∈L->x.ok K H
 nd:(j7 L).Nodup
 ds:∀a∈j7 L,a∉jK L
structure Step (H:Hp)(L:Ls)(H':Hp)(L':Ls):Prop where
 keep:∀a ob,H a=some ob->a∉j7 L->H' a=some ob
 own:∀a∈j7 L',a∈j7 L\/H a=none
 frz:∀a∈jK L',a∈jK L\/a∈j7 L\/H a=none
section
variable {K:Frag}{H H1 H2 H':Hp}{L L1 L2' L' T:Ls}{x y:Sl}
theorem World.own_al(w:World K H L){a}(h:a∈j7 L):(∃xs,H a=some (.lst xs))\/(∃ φ,H a=some (.ext φ))\/∃bf,H a=some (.dK bf):=by
 obtain⟨x,hx,ha⟩:=mem_owned.mp h;exact(w.ok x hx).al a (Sl.own_as ha)
theorem World.own_some(w:World K H L){a}(h:a∈j7 L):H a≠none:=by
 obtain⟨x,hx,ha⟩:=mem_owned.mp h;exact(w.ok x hx).some (Sl.own_as ha)
theorem World.frz_some(w:World K H L){a}(h:a∈jK L):H a≠none:=by
 obtain⟨x,hx,ha⟩:=mem_frozen.mp h;exact(w.ok x hx).some (Sl.frz_as ha)
theorem Step.refl:Step H L H L:=#[λ_ _ h _=>h,λ_ h=>.inl h,λ_ h=>.inl h]
theorem Step.trans(a:Step H L H1 L1)(b:Step H1 L1 H2 L2'):Step H L H2 L2' where
 keep:=λc ob h hn=>b.keep c ob (a.keep c ob h hn) λz=>(a.own c z).elim hn λe=>by rw[h]at e;cases e
 own:=λc hc=>by
  rcases b.own c hc with z|z
  ·exact a.own c z
  ·by_cases h:c∈j7 L
   ·exact .inl h
   ·refine .inr ?_;cases e:H c with|none=>rfl|some ob=>rw[a.keep c ob e h]at z;cases z
 frz:=λc hc=>by
  rcases b.frz c hc with z|z|z
  ·exact a.frz c z
  ·exact .inr (a.own c z)
  ·by_cases h:c∈j7 L
   ·exact .inr (.inl h)
   ·refine .inr (.inr ?_);cases e:H c with|none=>rfl|some ob=>rw[a.keep c ob e h]at z;cases z
theorem Step.kp(a:Step H L H' L')(w:World K H L){as}(h:∀b∈as,b∉j7 L):Kp H H' as:=by
 have no:∀b ob,H b=some ob->(∀xs,ob≠.lst xs)->(∀ φ,ob≠.ext φ)->(∀bf,ob≠.dK bf)->H' b=some ob:=λb ob e h1 h2 h3=>a.keep b ob e λz=>by
  rcases w.own_al z with _|_|_
  ·grind
  ·grind
  ·grind
 exact#[λb xs e=>no b _ e (λ_ z=>(nomatch z)) (λ_ z=>(nomatch z)) (λ_ z=>(nomatch z)),λb o u e=>no b _ e (λ_ z=>(nomatch z)) (λ_ z=>(nomatch z)) (λ_ z=>(nomatch z)),λb hb ob e=>a.keep b ob e (h b hb)]
theorem Step.frame(a:Step H L H' L')(w:World K H (L++T))(w':World K H' L')(wL:World K H L):World K H' (L'++T):=by
 have nd:=w.nd;rw [k9,X7]at nd;have ny:=λb hb hT=>nd.2.2 b hb b hT rfl
 have ji:=λx hx=>w.ok x (lr9 _ hx)
 have nT:∀x,some x∈T->∀b∈x.as,b∉j7 L:=λx hx b hb hL=>by
  rcases Sl.as_of hb with z|z
  ·exact ny b hL (mem_owned.mpr #[x,hx,z])
  ·refine w.ds b (by rw[k9];exact ll9 _ hL) ?_;rw[qQ];exact lr9 _ (mem_frozen.mpr #[x,hx,z])
 refine#[λx hx=>?_,?_,λb hb=>?_]
 ·rcases aA hx with hx|hx
  ·exact w'.ok x hx
  ·exact(ji x hx).kp (a.kp wL (nT x hx))
 ·rw[k9,X7];refine#[w'.nd,nd.2.1,λb hb c hc e=>?_];subst e;obtain⟨x,hx,mo⟩:=mem_owned.mp hc;rcases a.own b hb with z|z
  ·exact ny b z hc
  ·exact(ji x hx).some (Sl.own_as mo) z
 ·rw[k9]at hb;rw[qQ];intro hf;rcases aA hb with hb|hb
  ·rcases aA hf with hf|hf
   ·exact w'.ds b hb hf
   ·obtain⟨x,hx,mo⟩:=mem_frozen.mp hf;rcases a.own b hb with z|z
    ·exact nT x hx b (Sl.frz_as mo) z
    ·exact(ji x hx).some (Sl.frz_as mo) z
  ·rcases aA hf with hf|hf
   ·obtain⟨x,hx,mo⟩:=mem_owned.mp hb;rcases a.frz b hf with z|z|z
    ·exact w.ds b (by rw[k9];exact lr9 _ hb) (by rw[qQ];exact ll9 _ z)
    ·exact ny b z hb
    ·exact(ji x hx).some (Sl.own_as mo) z
   ·exact w.ds b (by rw[k9];exact lr9 _ hb) (by rw[qQ];exact lr9 _ hf)
theorem World.left(w:World K H (L++T)):World K H L:=by
 have nd:=w.nd;rw[k9,X7]at nd;exact#[λx hx=>w.ok x (ll9 _ hx),nd.1,λa ha hf=>w.ds a (by rw[k9];exact ll9 _ ha) (by rw[qQ];exact ll9 _ hf)]
theorem World.right(w:World K H (L++T)):World K H T:=by
 have nd:=w.nd;rw[k9,X7]at nd;exact#[λx hx=>w.ok x (lr9 _ hx),nd.2.1,λa ha hf=>w.ds a (by rw[k9];exact lr9 _ ha) (by rw[qQ];exact lr9 _ hf)]
theorem World.comm(w:World K H (L++T)):World K H (T++L):=by
 refine#[λx hx=>w.ok x ?_,?_,λa ha hf=>w.ds a ?_ ?_]
 ·grind
 ·have nd:=w.nd;rw[k9,X7]at nd ⊢;exact#[nd.2.1,nd.1,λa ha b hb e=>nd.2.2 b hb a ha e.symm]
 ·rw[k9]at ha ⊢;rcases aA ha with h|h
  ·exact lr9 _ h
  ·exact ll9 _ h
 ·rw[qQ]at hf ⊢;rcases aA hf with h|h
  ·exact lr9 _ h
  ·exact ll9 _ h
theorem World.tail{q}(w:World K H (q::L)):World K H L:=World.right (L:=[q]) w
theorem World.head(w:World K H (some x::L)):x.ok K H:=w.ok x X2
theorem World.apart(w:World K H (some x::L)):∀a∈x.as,a∉j7 L:=λa ha hL=>by
 rcases Sl.as_of ha with z|z
 ·have nd:=w.nd;rw[jW,X7]at nd;exact nd.2.2 a z a hL rfl
 ·exact w.ds a (lr9 _ hL) (ll9 _ z)
theorem World.cons(w:World K H L)(h:x.ok K H)(n:x.own.Nodup)(h1:∀a∈x.own,a∉j7 L)(h2:∀a∈x.own,a∉jK L)(h3:∀a∈x.frz,a∉j7 L)(h4:∀a∈x.own,a∉x.frz):World K H (some x::L):=by
 refine#[λy hy=>?_,?_,λa ha hf=>?_]
 ·rcases aD hy with z|z
  ·grind
  ·exact w.ok y z
 ·rw[jW,X7];exact#[n,w.nd,λa ha b hb e=>by subst e;exact h1 a ha hb]
 ·rcases aA ha with ha|ha
  ·simp_all
  ·rcases aA hf with hf|hf
   ·exact h3 a hf ha
   ·exact w.ds a ha hf
theorem World.consNo(w:World K H L)(h:x.ok K H)(ho:x.o=.no)(h3:∀a∈x.as,a∉j7 L):World K H (some x::L):=by
 have e1:x.own=[]:=by unfold Sl.own;rw[ho]
 have e2:x.frz=x.as:=by unfold Sl.frz;rw[ho]
 exact w.cons h (by simp_all) (e1▸λ_ z=>nomatch z) (by simp_all) (e2▸h3) (by simp_all)
theorem World.consPu(w:World K H L)(h:x.ok K H)(e:x.as=[]):World K H (some x::L):=by
 have e1:∀a,a∉x.own:=λa ha=>by have:=Sl.own_as ha;rw[e]at this;exact nomatch this
 have e2:∀a,a∉x.frz:=λa ha=>by have:=Sl.frz_as ha;rw[e]at this;exact nomatch this
 have e3:=List.eq_nil_iff_forall_not_mem.mpr e1;exact w.cons h (by simp_all) (λa z=>absurd z (e1 a)) (λa z=>absurd z (e1 a)) (λa z=>absurd z (e2 a)) (λa z=>absurd z (e1 a))
theorem jvt{L:Ls}{i q}(h:some y∈L.set i q):q=some y\/some y∈L:=by
 rcases List.mem_or_eq_of_mem_set h with z|z
 ·exact .inr z
 ·exact .inl z.symm
theorem jkn{i a}(h:a∈j7 (L.set i (some x))):a∈x.own\/a∈j7 L:=by
 obtain⟨y,hy,ha⟩:=mem_owned.mp h;rcases jvt hy with z|z
 ·grind
 ·exact .inr (mem_owned.mpr #[y,z,ha])
theorem jkw{i a}(h:a∈jK (L.set i (some x))):a∈x.frz\/a∈jK L:=by
 obtain⟨y,hy,ha⟩:=mem_frozen.mp h;rcases jvt hy with z|z
 ·grind
 ·exact .inr (mem_frozen.mpr #[y,z,ha])
theorem jv8:∀{L i},(x.own++j7 L).Nodup->(j7 (L.set i (some x))).Nodup
 |[],_,h=>by simp
 |q::L,0,h=>by
  rw[List.set_cons_zero,jW];have e:j7 (q::L)=q.elim [] Sl.own++j7 L:=by simp[j7]
  rw[e,X7]at h;obtain⟨h1,h2,h3⟩:=h;rw[X7]at h2 ⊢;exact#[h1,h2.2.1,λa ha b hb=>h3 a ha b (lr9 _ hb)]
 |q::L,i+1,h=>by
  rw[List.set_cons_succ];have e:∀M,j7 (q::M)=q.elim [] Sl.own++j7 M:=λM=>by simp[j7]
  rw[e]at h ⊢;rw[X7]at h;obtain⟨h1,h2,h3⟩:=h;rw[X7]at h2;rw[X7];refine#[h2.1,jv8 (by rw[X7];exact#[h1,h2.2.1,λa ha b hb=>h3 a ha b (lr9 _ hb)]),λa ha b hb e=>?_];subst e;rcases jkn hb with z|z
  ·exact h3 a z a (ll9 _ ha) rfl
  ·exact h2.2.2 a ha a z rfl
theorem World.set{i}(w:World K H (some x::L)):World K H (L.set i (some x)):=by
 refine#[λy hy=>?_,jv8 (by have:=w.nd;rwa [jW]at this),λa ha hf=>?_]
 ·rcases jvt hy with z|z
  ·cases z;exact w.head
  ·exact w.ok y (lc9 _ z)
 ·refine w.ds a ?_ ?_
  ·rw[jW];exact List.mem_append.mpr (jkn ha)
  ·rw[ww];exact List.mem_append.mpr (jkw hf)
theorem Step.set{i}:Step H (some x::L) H (L.set i (some x)) where
 keep:=λ_ _ h _=>h
 own:=λa ha=>.inl (List.mem_append.mpr (jkn ha))
 frz:=λa ha=>.inl (List.mem_append.mpr (jkw ha))
theorem Step.drop{q}:Step H (q::L) H L where
 keep:=λ_ _ h _=>h
 own:=λa ha=>.inl (by rw[show(q::L:Ls)=[q]++L from rfl];exact lr9 _ ha)
 frz:=λa ha=>.inl (by rw[show(q::L:Ls)=[q]++L from rfl];exact lr9 _ ha)
theorem vZ{i:Nat}(h:L[i]?=some (some x)):some x∈L:=Ya h
theorem qvr(x:Sl):x.let.own=[]/\x.let.frz=x.as/\x.let.as=x.as:=#[rfl,rfl,rfl]
theorem kzw{i a}(h:a∈j7 (L.set i (some x.let))):a∈j7 L:=by
 rcases jkn h with z|z
 ·exact nomatch z
 ·exact z
theorem qq6:∀{L i},(j7 L).Nodup->(∀a∈j7 L,a∉jK L)->L[i]?=some (some x)->∀a∈x.as,a∉j7 (L.set i (some x.let))
 | [],_,_,_,h,_,_=>by simp_all
 | q::L,0,nd,ds,h,a,ha=>by
  have e:q=some x:=by simpa using h
  subst e;intro hm;rcases Sl.as_of ha with z|z
  ·rw[jW,X7]at nd;exact nd.2.2 a z a hm rfl
  ·exact ds a (lr9 _ hm) (ll9 _ z)
 | q::L,i+1,nd,ds,h,a,ha=>by
  have e:∀M,j7 (q::M)=q.elim [] Sl.own++j7 M:=λM=>by simp[j7]
  have f:jK (q::L)=q.elim [] Sl.frz++jK L:=by simp[jK]
  intro hm;rw[e,X7]at nd;rcases aA hm with hm|hm
  ·rcases Sl.as_of ha with z|z
   ·exact nd.2.2 a hm a (mem_owned.mpr #[x,vZ h,z]) rfl
   ·exact ds a (ll9 _ hm) (by rw[f];exact lr9 _ (mem_frozen.mpr #[x,vZ h,z]))
  ·exact qq6 nd.2.1 (λb hb hf=>ds b (lr9 _ hb) (f▸lr9 _ hf)) h a ha hm
theorem W7(h:x.ok K H):x.let.ok K H:=RepO.wk h
theorem World.let{i}(w:World K H L)(h:L[i]?=some (some x)):World K H (L.set i (some x.let)):=by
 refine#[λy hy=>?_,jv8 ((qvr x).1▸w.nd),λa ha hf=>?_]
 ·rcases jvt hy with z|z
  ·cases z;exact W7 (w.ok x (vZ h))
  ·exact w.ok y z
 ·rcases jkw hf with z|z
  ·exact(qq6 w.nd w.ds h) a z ha
  ·exact w.ds a (kzw ha) z
theorem World.read{i}(w:World K H L)(h:L[i]?=some (some x)):World K H (some x.let::L.set i (some x.let)):=
 (w.let h).consNo (W7 (w.ok x (vZ h))) rfl (qq6 (x:=x) w.nd w.ds h)
theorem Step.read{i}(h:L[i]?=some (some x)):Step H L H (some x.let::L.set i (some x.let)) where
 keep:=λ_ _ h _=>h
 own:=λa ha=>.inl (kzw ha)
 frz:=λa ha=>by
  have hx:=vZ h;have q:∀a∈x.as,a∈jK L\/a∈j7 L\/H a=none:=λa ha=>by
   rcases Sl.as_of ha with z|z
   ·exact .inr (.inl (mem_owned.mpr #[x,hx,z]))
   ·exact .inl (mem_frozen.mpr #[x,hx,z])
  rcases aA ha with z|z
  ·exact q a z
  ·rcases jkw z with z|z
   ·exact q a z
   ·exact .inl z
end
inductive Mt:En->L2.St->Ls->Prop
 |nil:Mt [] [] []
 |un {E:En} {σ:L2.St} {L:Ls} {y:Option V}:Mt E σ L->Mt (none::E) (y :: σ) (none::L)
 |cons {E:En} {σ:L2.St} {L:Ls} {x:Sl}:Mt E σ L->Mt (some (x.o,x.d)::E) (some x.v :: σ) (some x::L)
theorem Mt.get:∀{E σ L} {i:Nat} {o d},Mt E σ L->E[i]?=some (some (o,d))->∃x,L[i]?=some (some x)/\x.o=o/\x.d=d/\σ[i]?=some (some x.v)
 |_,_,_,_,_,_,.nil,h=>by simp_all|_,_,_,0,_,_,.un _,h=>by simp_all|_,_,_,i+1,_,_,.un m,h=>by simpa using m.get (by simpa using h)
 |_,_,_,0,_,_,.cons (x:=x) m,h=>by
  simp at h;exact#[x,by simp,h.1,h.2,by simp]
 |_,_,_,i+1,_,_,.cons m,h=>by simpa using m.get (by simpa using h)
theorem Mt.set{x}:∀{E σ L} (i),Mt E σ L->Mt (E.set i (some (x.o,x.d))) (σ.set i (some x.v)) (L.set i (some x))
 |_,_,_,_,.nil=>.nil|_,_,_,0,.un m=>.cons m|_,_,_,i+1,.un m=>.un (m.set i)|_,_,_,0,.cons m=>.cons m|_,_,_,i+1,.cons m=>.cons (m.set i)
theorem Mt.let{x}:∀{E σ L i},Mt E σ L->L[i]?=some (some x)->Mt (E.set i (some (.no,x.d))) σ (L.set i (some x.let))
 |_,_,_,_,.nil,h=>by simp_all|_,_,_,i+1,.un m,h=>.un (m.let (by simpa using h))
 |_,_,_,0,.cons (x:=y) m,h=>by
  have e:y=x:=by simpa using h
  subst e;exact .cons (x:=y.let) m
 |_,_,_,i+1,.cons m,h=>.cons (m.let (by simpa using h))
theorem Mt.len:∀{E σ L},Mt E σ L->E.length=σ.length/\L.length=σ.length
 |_,_,_,.nil=>#[rfl,rfl]|_,_,_,.un m=>by simp[m.len]|_,_,_,.cons m=>by simp[m.len]
def sls(L:Ls):List Sl:=L.filterMap id
theorem V5 L:j7 L=(sls L).flatMap Sl.own:=by
 induction L with
 |nil=>rfl
 |cons q L ih=>
  cases q with|none=>rw[qx4,ih];rfl|some x=>rw[jW,ih];rfl
theorem W3 L:jK L=(sls L).flatMap Sl.frz:=by
 induction L with
 |nil=>rfl
 |cons q L ih=>
  cases q with|none=>rw[qqd,ih];rfl|some x=>rw[ww,ih];rfl
theorem mem_sls{L x}:x∈sls L↔some x∈L:=by simp[sls]
@[simp] theorem Ww (L T):sls (L++T)=sls L++sls T:=by simp[sls]
@[simp] theorem vvb (L:Ls):sls (none::L)=sls L:=rfl
@[simp] theorem wzk (x:Sl)(L:Ls):sls (some x::L)=x::sls L:=rfl
@[simp] theorem xj2:sls []=[]:=rfl
@[simp] theorem xj3 T:sls (T.map some)=T:=by simp[sls]
@[simp] theorem xj1 k:sls (List.replicate k none)=[]:=by
 induction k with|zero=>rfl|succ k ih=>rw[List.replicate_succ,vvb,ih]
theorem jv3{α β:Type}(f:α->List β){l l':List α}(h:l.Sublist l'):(l.flatMap f).Sublist (l'.flatMap f):=by
 induction h with|slnil=>exact Yp _|cons a _ ih=>rw[List.flatMap_cons];exact List.Sublist.trans ih (List.sublist_append_right _ _)|cons_cons a _ ih=>rw[List.flatMap_cons];exact List.Sublist.append (Yp _) ih
section
variable {K:Frag}{H H':Hp}{L L' M M':Ls}
theorem World.same(w:World K H L)(p:(sls L).Perm (sls L')):World K H L':=by
 have po:(j7 L).Perm (j7 L'):=by rw[V5,V5];exact p.flatMap_right _
 have pf:(jK L).Perm (jK L'):=by rw[W3,W3];exact p.flatMap_right _
 exact#[λx hx=>w.ok x (mem_sls.mp (p.mem_iff.mpr (mem_sls.mpr hx))),po.nodup_iff.mp w.nd,λa ha hf=>w.ds a (po.mem_iff.mpr ha) (pf.mem_iff.mpr hf)]
theorem Step.same(s:Step H L H' L')(p:(sls L).Perm (sls M))(p':(sls L').Perm (sls M')):Step H M H' M':=by
 have po:(j7 L).Perm (j7 M):=by rw[V5,V5];exact p.flatMap_right _
 have pf:(jK L).Perm (jK M):=by rw[W3,W3];exact p.flatMap_right _
 have po':(j7 L').Perm (j7 M'):=by rw[V5,V5];exact p'.flatMap_right _
 have pf':(jK L').Perm (jK M'):=by rw[W3,W3];exact p'.flatMap_right _
 exact#[λa ob h hn=>s.keep a ob h λz=>hn (po.mem_iff.mp z),λa ha=>(s.own a (po'.mem_iff.mpr ha)).imp (λz=>po.mem_iff.mp z) id,
  λa ha=>(s.frz a (pf'.mem_iff.mpr ha)).imp (λz=>pf.mem_iff.mp z) λz=>z.imp (λz=>po.mem_iff.mp z) id]
theorem World.sub(w:World K H L)(p:(sls L').Sublist (sls L)):World K H L':=by
 refine#[λx hx=>w.ok x (mem_sls.mp (p.subset (mem_sls.mpr hx))),?_,λa ha hf=>w.ds a ?_ ?_]
 ·have:=w.nd;rw[V5]at this ⊢;exact(jv3 _ p).nodup this
 ·rw[V5]at ha ⊢;exact(jv3 _ p).subset ha
 ·rw[W3]at hf ⊢;exact(jv3 _ p).subset hf
theorem Step.sub(s:Step H L H' L')(p:(sls M).Sublist (sls L')):Step H L H' M:=by
 refine#[s.keep,λa ha=>s.own a ?_,λa ha=>s.frz a ?_]
 ·rw[V5]at ha ⊢;exact(jv3 _ p).subset ha
 ·rw[W3]at ha ⊢;exact(jv3 _ p).subset ha
end
theorem jzp:∀{L:Ls} {j},(sls (at' L j::L.set j none)).Perm (sls L)
 | [],j=>by simp[at']
 | q::L,0=>by
  cases q with|none=>simp[at']|some x=>simp[at']
 | q::L,j+1=>by
  have ih:=jzp (L:=L) (j:=j);have e:at' (q::L) (j+1)=at' L j:=by simp[at']
  rw[e];have e2:∀a b M,(sls (a::b::M)).Perm (sls (b::a::M)):=λa b M=>by
   cases a<;>cases b<;>simp[sls]
   exact List.Perm.swap ..
  refine(e2 _ _ _).trans ?_;cases q with|none=>simpa [sls]using ih|some y=>simpa [sls]using ih
theorem qwg:∀{R} {L:Ls},R.Nodup->(sls (R.map (at' L)++clr R L)).Perm (sls L)
 | [],L,_=>by simp[clr]
 | j::R,L,h=>by
  rw[Z6]at h;have e:R.map (at' L)=R.map (at' (L.set j none)):=by
   apply Z2;intro i hi;have:j≠i:=λe=>h.1 (e▸hi)
   unfold at';rw[Y6 this]
  rw[List.map_cons,clr,e];have ih:=qwg (L:=L.set j none) h.2;refine List.Perm.trans ?_ (jzp (j:=j));cases hq:at' L j with|none=>simpa [sls]using ih|some x=>simpa [sls]using ih
theorem vq6{α}:∀{R} {L:List (Option α)},(clr R L).length=L.length
 |[],_=>rfl|j::R,L=>by rw[clr,vq6,Y8]
theorem vq7{α}:∀{R} {L:List (Option α)} {j},j∈R->at' (clr R L) j=none
 | [],_,_,h=>by grind
 | i :: R,L,j,h=>by
  rw [clr]
  by_cases hR:j∈R
  ·exact vq7 hR
  ·have e:j=i:=by simpa [hR]using h
   subst e;have gen:∀{R} {M:List (Option α)},j∉R->at' (clr R M) j=at' M j:=by
    intro R
    induction R with
    |nil=>intro M _;rfl
    |cons r R ih=>
     intro M h;rw[Y5,not_or]at h;rw[clr,ih h.2];unfold at';rw[Y6 (Z9 h.1)]
   rw[gen hR];unfold at'
   by_cases hl:j<L.length
   ·rw[Y0 hl];rfl
   ·rw[List.set_eq_of_length_le ⋯,Yl ⋯];rfl
theorem qk8:∀{R} {B L:Ls},R.Nodup->(∀j∈R,at' L j=none)->(∀j∈R,j<L.length)->B.length=R.length->(sls (back R B L)).Perm (sls (B++L))
 | [],B,L,_,_,_,hl=>by
  have:B=[]:=by simpa using hl
  subst this;simp [back]
 | j :: R,q::B,L,hn,hz,hr,hl=>by
  rw [Z6]at hn;have ih:=qk8 (L:=L.set j q) hn.2 (λi hi=>by
   have:j≠i:=λe=>hn.1 (e▸hi)
   unfold at';rw [Y6 this];exact hz i (lc9 _ hi)) (λi hi=>by rw[Y8];exact hr i (lc9 _ hi)) (by simpa using hl)
  refine ih.trans ?_;have sp:∀{M i},at' M i=none->i<M.length->(sls (M.set i q)).Perm (sls (q::M)):=by
   intro M
   induction M with
   | nil=>intro i _ h;simp at h
   | cons r M ihM=>
    intro i h1 h2;cases i with
    | zero=>
     have:r=none:=by simpa [at']using h1
     subst this;cases q<;>simp[sls]
    | succ i=>
     have:=ihM (by simpa [at']using h1) (by simpa using h2);cases r with
     | none=>cases q<;>simpa [sls]using this
     | some y=>
      cases q with
      |none=>simpa [sls]using this
      |some x=>
       exact(this.cons y).trans (List.Perm.swap ..)
  rw[Ww];have h2:(sls B++sls _).Perm _:=(sp (hz j X2) (hr j X2)).append_left _;refine h2.trans ?_;cases q with
  |none=>simp
  |some x=>
   simp only[Ww];exact List.perm_middle
section
variable {K:Frag}{H H1 H2 H':Hp}{L L1 L' T:Ls}{x y:Sl}
theorem jv1(p:L.Perm L'):(j7 L).Perm (j7 L'):=p.flatMap_right _
theorem jze(p:L.Perm L'):(jK L).Perm (jK L'):=p.flatMap_right _
theorem World.perm(w:World K H L)(p:L.Perm L'):World K H L':=
 #[λx hx=>w.ok x (p.mem_iff.mpr hx),(jv1 p).nodup_iff.mp w.nd,λa ha hf=>w.ds a ((jv1 p).mem_iff.mpr ha) ((jze p).mem_iff.mpr hf)]
theorem Step.perm(s : Step H L H' L'){M M' : Ls}(p : L.Perm M)(p' : L'.Perm M'): Step H M H' M':=
  #[λa ob h hn=>s.keep a ob h λz=>hn ((jv1 p).mem_iff.mp z),
   λa ha=>(s.own a ((jv1 p').mem_iff.mpr ha)).imp (λz=>(jv1 p).mem_iff.mp z) id,
   λa ha=>(s.frz a ((jze p').mem_iff.mpr ha)).imp (λz=>(jze p).mem_iff.mp z) λz=>z.imp (λz=>(jv1 p).mem_iff.mp z) id]
theorem Step.frm(s:Step H L H' L'):Step H (L++T) H' (L'++T) where
 keep:=λa ob h hn=>s.keep a ob h λz=>hn (by rw[k9];exact ll9 _ z)
 own:=λa ha=>by
  rw[k9]at ha ⊢;rcases aA ha with z|z
  ·exact(s.own a z).imp (ll9 _) id
  ·exact .inl (lr9 _ z)
 frz:=λa ha=>by
  rw[qQ]at ha ⊢;rw[k9];rcases aA ha with z|z
  ·exact(s.frz a z).imp (ll9 _) λz=>z.imp (ll9 _) id
  ·exact .inl (lr9 _ z)
theorem xkb(w:World K H (T++L))(s:Step H L H' L')(w':World K H' L'):World K H' (T++L')/\Step H (T++L) H' (T++L'):=by
 have w1:=w.comm;exact#[(s.frame w1 w' w1.left).comm,s.frm.perm Yv Yv]
end
theorem ex8{α β γ:Type}{P:Prop}{a b c d e:α->β->γ->Prop}(h:∃x y z,a x y z/\b x y z/\c x y z/\d x y z/\e x y z)(f:∀x y z,a x y z->b x y z->c x y z->d x y z->e x y z->P):P:=
 h.elim λx h=>h.elim λy h=>h.elim λz h=>f x y z h.1 h.2.1 h.2.2.1 h.2.2.2.1 h.2.2.2.2
theorem ex7{α β γ:Type}{P:Prop}{a b c d:α->β->γ->Prop}(h:∃x y z,a x y z/\b x y z/\c x y z/\d x y z)(f:∀x y z,a x y z->b x y z->c x y z->d x y z->P):P:=
 h.elim λx h=>h.elim λy h=>h.elim λz h=>f x y z h.1 h.2.1 h.2.2.1 h.2.2.2
theorem kW{X e t t'}(h:PE X e t)(w:∀ σ H Q,t' σ H Q->t σ H Q):PE X e t':=λa7 s σ H Q I q=>h a7 s σ H Q I (w σ H Q q)
theorem qvj{X e t t'}(h:PT X e t)(w:∀ σ H Q,t' σ H Q->t σ H Q):PT X e t':=λa7 s σ H Q I q=>h a7 s σ H Q I (w σ H Q q)
theorem zJ{X e t t'}(h:PS X e t)(w:∀D σ H,t' D σ H->t D σ H):PS X e t':=λa7 s σ H D I q=>h a7 s σ H D I (w D σ H q)
theorem vj8{X e t t'}(h:PSs X e t)(w:∀D σ H,t' D σ H->t D σ H):PSs X e t':=λa7 s σ H D I q=>h a7 s σ H D I (w D σ H q)
structure Fx0 where
 K:Frag
 mg:Str->Option Value
 EX:XK
noncomputable def Xc{α:Type}(Z:Fx0)(σ:L2.St)(H:Hp)(L:Ls)(r:Res α):Prop:=∀E' c,r=.exc E' c->∀C L' H',Z.mg c=some (.ref C)->Mt E' σ L'->World Z.K H' L'->Step H L H' L'->Z.EX (.ref C) none H'
theorem Xc.step{α Z σ H H1 L L1}{r:Res α}(x:Xc Z σ H L r)(s:Step H L H1 L1):Xc Z σ H1 L1 r:=λE' c e C L' H' hm m w s'=>x E' c e C L' H' hm m w (s.trans s')
theorem Xc.map{α β Z σ H L}{r:Res α}{E' c}(x:Xc Z σ H L r)(e:r=.exc E' c):Xc Z σ H L (.exc E' c:Res β):=λE1 c1 e1=>by
 injection e1 with h1 h2;subst h1 h2;exact x _ _ e
noncomputable def tQ(Z:Fx0)(q:Bool)(c:Ex):TE:=fun σ H Q=>∃E L r,Mt E σ L/\World Z.K H L/\c E=some r/\Xc Z σ H L r /\
 ∀E' a,r=.ok E' a->∀(x:Sl) L' H',x.o=a.1->x.d=a.2->Mt E' σ L'->World Z.K H' (some x::L')->Step H L H' (some x::L')->(q=true->kJ H H'/\∀b∈x.own,H b=none)->Q x.v H'
noncomputable def Src(H:Hp)(L:Ls)(as:List Addr):Prop:=∀b∈as,b∈jK L\/b∈j7 L\/H b=none
theorem Src.back{H H1 L L1 as}(h:Src H1 L1 as)(s:Step H L H1 L1):Src H L as:=λb hb=>by
 rcases h b hb with z|z|z
 ·exact s.frz b z
 ·exact .inr (s.own b z)
 ·by_cases ho:b∈j7 L
  ·exact .inr (.inl ho)
  ·refine .inr (.inr ?_);cases e:H b with|none=>rfl|some ob=>rw[s.keep b ob e ho]at z;cases z
noncomputable def tV(Z:Fx0)(q:Bool)(c:Ex):TE:=fun σ H Q=>∃E L r,Mt E σ L/\World Z.K H L/\c E=some r/\Xc Z σ H L r /\
 ∀E' a,r=.ok E' a->∀(x:Sl) L' H',x.o=a.1->x.d=a.2->Mt E' σ L'->World Z.K H' L'->x.ok Z.K H'->(∀b∈x.frz,b∉j7 L')->Src H L x.as->Step H L H' L'->(q=true->kJ H H')->Q x.v H'
noncomputable def QE(X:Cx)(Z:Fx0)(q:Bool)(c:Ex)(e:Expr):Prop:=PE X e (tQ Z q c)
noncomputable def QV(X:Cx)(Z:Fx0)(q:Bool)(c:Ex)(e:Expr):Prop:=PE X e (tV Z q c)
section
variable {X:Cx}{Z:Fx0}{q qa qb:Bool}{a b c:Ex}{e ea eb:Expr}{pos:Pos}{α:Type}{σ:L2.St}{H:Hp}{L:Ls}{E:En}
theorem wJ{β m}{F:En->α->Option _}{r:Res β}(h:bnd m F=some r):(∃E1 x,m=some (.ok E1 x)/\F E1 x=some r)\/∃E1 c,m=some (.exc E1 c)/\r=.exc E1 c:=by
 cases m with
 |none=>cases h
 |some q=>
  cases q with|ok E1 x=>exact .inl #[E1,x,rfl,h]|exc E1 c=>exact .inr #[E1,c,rfl,(oq9 h).symm]
theorem wj0{F}{r:Res α}{G}(m:Mt E σ L)(w:World Z.K H L)(h:bnd (a E) F=some r)(xc:Xc Z σ H L r)
  (k:∀E1 s,F E1 s=some r->∀x L1 H1,x.o=s.1->x.d=s.2->Mt E1 σ L1->World Z.K H1 (some x::L1)->Step H L H1 (some x::L1)->(q=true->kJ H H1/\∀b∈x.own,H b=none)->G x.v H1):tQ Z q a σ H G:=by
 rcases wJ h with⟨E1,s,h1,h2⟩|⟨E1,c,h1,h2⟩
 ·exact#[E,L,_,m,w,h1,(λ_ _ z=>by cases z),λE' s' z x L' H' e1 e2 m' w' st sm=>by
   injection z with z1 z2;subst z1 z2;exact k _ _ h2 x L' H' e1 e2 m' w' st sm]
 ·exact#[E,L,_,m,w,h1,xc.map h2,λE' s' z=>by cases z]
theorem vY{F}{r:Res α}{G}(m:Mt E σ L)(w:World Z.K H L)(h:bnd (a E) F=some r)(xc:Xc Z σ H L r)
  (k:∀E1 s,F E1 s=some r->∀(x:Sl) L1 H1,x.o=s.1->x.d=s.2->Mt E1 σ L1->World Z.K H1 L1->x.ok Z.K H1->(∀b∈x.frz,b∉j7 L1)->Src H L x.as->Step H L H1 L1->(q=true->kJ H H1)->G x.v H1):tV Z q a σ H G:=by
 rcases wJ h with⟨E1,s,h1,h2⟩|⟨E1,c,h1,h2⟩
 ·exact#[E,L,_,m,w,h1,(λ_ _ z=>by cases z),λE' s' z x L' H' e1 e2 m' w' ok fr sr st sm=>by
   injection z with z1 z2;subst z1 z2;exact k _ _ h2 x L' H' e1 e2 m' w' ok fr sr st sm]
 ·exact#[E,L,_,m,w,h1,xc.map h2,λE' s' z=>by cases z]
theorem WK{x:Sl}{K H1 H2 L1 L2'}(ok:x.ok K H1)(fr:∀b∈x.frz,b∉j7 L1)(st:Step H1 L1 H2 L2')(sm:kJ H1 H2):x.ok K H2/\∀b∈x.frz,b∉j7 L2':=
 #[RepO.kp ok (Kp.of_same sm),λb hb ho=>(st.own b ho).elim (fr b hb) λz=>ok.some (Sl.frz_as hb) z]
theorem JJ{x}{r:Res α}(h:val E x=some r):∃y,x=some y/\r=.ok E y:=by
 cases x with|none=>cases h|some y=>exact#[y,rfl,(oq9 h).symm]
theorem QE.weak(h:QE X Z true c e):QE X Z q c e:=kW h fun σ H Q bb=>ex8 bb λE L r m w hc xc k=>#[E,L,r,m,w,hc,xc,λE' s z x L' H' e1 e2 m' w' st sm=>k E' s z x L' H' e1 e2 m' w' st λ_=>sm rfl]
theorem qv8{x H1}{L1:Ls}(st:Step H L H1 (some x::L1)):Src H L x.as:=λb hb=>by
 rcases Sl.as_of hb with z|z
 ·exact .inr (st.own b (ll9 _ z))
 ·exact st.frz b (ll9 _ z)
theorem j4(h:QE X Z q c e):QV X Z q (vE c) e:=kW h fun σ H Q bb=>ex8 bb λE L r m w hc xc k=>
 wj0 m w hc xc λE1 s h1 x L1 H1 e1 e2 m1 w1 st sm=>by
  cases oq9 h1;exact k _ _ rfl x.let L1 H1 rfl e2 m1 w1.tail (W7 w1.head) (λb hb=>w1.apart b hb) (qv8 (x:=x) st) (st.trans Step.drop) λhq=>(sm hq).1
theorem QJ{x H1 L1}(st:Step H L H1 L1)(sr:Src H L x.as)(ho:x.own=[]):Step H L H1 (some x::L1) where
 keep:=st.keep
 own:=λb hb=>by rw[jW,ho]at hb;exact st.own b hb
 frz:=λb hb=>by
  rcases aA hb with z|z
  ·exact sr b (Sl.frz_as z)
  ·exact st.frz b z
theorem vjo{x:Sl}(h:x.o=.no):x.own=[]:=by unfold Sl.own;rw[h]
theorem qjo{x:Sl}(h:x.o=.no):x.frz=x.as:=by unfold Sl.frz;rw[h]
theorem wjm{x:Sl}(h:x.as=[]):x.own=[]:=List.eq_nil_iff_forall_not_mem.mpr λa ha=>by have:=Sl.own_as ha;rw[h]at this;exact nomatch this
theorem jY(h:QV X Z q c e):QE X Z q (cH c) e:=kW h fun σ H Q bb=>ex8 bb λE L r m w hc xc k=>
 vY m w hc xc λE1 s h1 x L1 H1 e1 e2 m1 w1 ok fr sr st sm=>by
  by_cases ho:s.1=.no
  ·rw[X8 ho]at h1;cases oq9 h1;have eo:=e1.trans ho;exact k _ _ rfl x L1 H1 eo e2 m1 (w1.consNo ok eo λb hb=>fr b (qjo eo▸hb)) (QJ st sr (vjo eo)) λhq=>#[sm hq,by rw[vjo eo];exact λ_ z=>(nomatch z)]
  ·rw[Xd ho]at h1
   by_cases hp:s.2.pure=true
   ·rw[X8 hp]at h1;cases oq9 h1;obtain⟨z,rp⟩:=RepL.pu (g':=false) (RepO.wk ok) (by simp_all);exact k _ _ rfl #[.dp,x.d,x.v,[]] L1 H1 rfl e2 m1 (w1.consPu rp rfl) (QJ st (λb hb=>nomatch hb) rfl) λhq=>#[sm hq,λ_ z=>(nomatch z)]
   ·simp_all
theorem q_C{d v}(h:PE X e (tC v))(hr:∀H,RepL Z.K H false d v []):QE X Z true (cC d) e:=kW h fun σ H Q bb=>ex8 bb λE L r m w hc xc k=>by
 cases oq9 hc;exact k _ _ rfl #[.dp,d,v,[]] L H rfl rfl m (w.consPu (hr H) rfl) (QJ Step.refl (λb hb=>nomatch hb) rfl) λ_=>#[λ_ _ z=>z,λ_ z=>(nomatch z)]
set_option tactic.hygienic true in
theorem q_V{i}(h:PE X e (J4 i)):QE X Z true (cV i) e:=kW h fun σ H Q bb=>ex8 bb λE L r m w hc xc k=>by
 unfold cV at hc
 split at hc
 ·rename_i o d hE;cases oq9 hc;obtain⟨x,h1,h2,h3,h4⟩:=m.get hE;refine#[x.v,h4,k _ _ rfl x.let _ H rfl h3 ?_ (w.read h1) (Step.read h1) λ_=>#[λ_ _ z=>z,λ_ z=>(nomatch z)]];have:=m.let h1
  rwa [h3]at this
 ·cases hc
theorem kx9:∀{E σ} {L} j,Mt E σ L->Mt (E.set j none) σ (L.set j none):=by
 intro E σ L j m
 induction m generalizing j with
 |nil=>exact .nil
 |un m ih=>cases j with|zero=>exact .un m|succ j=>exact .un (ih j)
 |cons m ih=>cases j with|zero=>exact .un m|succ j=>exact .cons (ih j)
theorem jx5{x}:∀{L:Ls} {i},L[i]?=some (some x)->(none::L).Perm (some x::L.set i none)
 |[],_,h=>by simp_all
 |q::L,0,h=>by
  have e:q=some x:=by simpa using h
  subst e;exact List.Perm.swap ..
 |q::L,i+1,h=>by
  have:=jx5 (by simpa using h);exact(List.Perm.swap ..).trans ((this.cons q).trans (List.Perm.swap ..))
set_option tactic.hygienic true in
theorem wvf{i}(h:PE X e (J4 i)):QE X Z false (cMv i) e:=kW h fun σ H Q bb=>ex8 bb λE L r m w hc xc k=>by
 unfold cMv at hc
 split at hc
 ·rename_i s hE;cases oq9 hc;obtain⟨x,h1,h2,h3,h4⟩:=m.get hE;have wn:World Z.K H (none::L):=#[λy hy=>w.ok y (by simp_all),by simpa using w.nd,by simpa using w.ds];have sn:Step H L H (none::L):=#[λ_ _ z _=>z,λa z=>.inl (by simp_all),λa z=>.inl (by simp_all)];exact#[x.v,h4,k _ _ rfl x _ H h2 h3 (kx9 i m) (wn.perm (jx5 h1)) (sn.trans (Step.refl.perm (List.Perm.refl _) (jx5 h1))) λz=>(nomatch z)]
 ·cases hc
set_option tactic.hygienic true in
theorem q_vV{i}(h:PE X e (J4 i)):QV X Z true (vV i) e:=kW h fun σ H Q bb=>ex8 bb λE L r m w hc xc k=>by
 unfold vV at hc
 split at hc
 ·rename_i s hE;cases oq9 hc;obtain⟨x,h1,h2,h3,h4⟩:=m.get hE;have hx:=vZ h1;refine#[x.v,h4,k _ _ rfl x L H h2 h3 m w (w.ok x hx) (λb hb ho=>w.ds b ho (mem_frozen.mpr #[x,hx,hb])) (λb hb=>?_) Step.refl λ_=>λ_ _ z=>z];rcases Sl.as_of hb with z|z
  ·exact .inr (.inl (mem_owned.mpr #[x,hx,z]))
  ·exact .inl (mem_frozen.mpr #[x,hx,z])
 ·cases hc
structure Out (K:Frag)(H H':Hp)(z:Sl)(fr:List Addr):Prop where
 same:kJ H H'
 ok:z.ok K H'
 new:∀b∈z.own,H b=none
 nd:z.own.Nodup
 fr:∀b∈z.frz,b∈fr
noncomputable def Ad1(K:Frag)(r:V->Hp->VK->Prop)(f:Sd->Option Sd):Prop:=∀(H:Hp) (x:Sl) (s:Sd) (Q:VK),x.ok K H->f (x.o,x.d)=some s->(∀(z:Sl) H',z.o=s.1->z.d=s.2->Out K H H' z x.frz->Q z.v H')->r x.v H Q
noncomputable def Ad2(K:Frag)(r:R2)(f:Sd->Sd->Option Sd):Prop:=∀(H:Hp) (x y:Sl) (s:Sd) (Q:VK),x.ok K H->y.ok K H->f (x.o,x.d) (y.o,y.d)=some s->(∀(z:Sl) H',z.o=s.1->z.d=s.2->Out K H H' z (x.frz++y.frz)->Q z.v H')->r x.v y.v H Q
theorem kkn{K H H' d v fr}(s:kJ H H')(r:RepL K H' false d v []):Out K H H' #[.dp,d,v,[]] fr:=#[s,r,λ_ h=>(nomatch h),Yg,λ_ h=>(nomatch h)]
theorem Jj{H}:kJ H H:=λ_ _ z=>z
theorem qk{H H1 H2}(a:kJ H H1)(b:kJ H1 H2):kJ H H2:=λc ob h=>b c ob (a c ob h)
theorem VQ{z fr H1 H2 L1}(w:World Z.K H1 L1)(st:Step H L H1 L1)(o:Out Z.K H1 H2 z fr)(ap:∀b∈fr,b∉j7 L1)(al:∀b∈fr,H1 b≠none)(sr:Src H L fr):
  World Z.K H2 (some z::L1)/\Step H L H2 (some z::L1):=by
 have w2:World Z.K H2 L1:=#[λx hx=>RepO.kp (w.ok x hx) (Kp.of_same o.same),w.nd,w.ds];refine#[w2.cons o.ok o.nd (λb hb ho=>w.own_some ho (o.new b hb)) (λb hb hf=>w.frz_some hf (o.new b hb)) (λb hb=>ap b (o.fr b hb)) (λb hb hf=>al b (o.fr b hf) (o.new b hb)),(#[λb ob h hn=>o.same b ob (st.keep b ob h hn),λb hb=>?_,λb hb=>?_])]
 ·rcases aA hb with z|z
  ·by_cases ho:b∈j7 L
   ·exact .inl ho
   ·refine .inr ?_;cases e:H b with|none=>rfl|some ob=>have:=o.new b z;rw[st.keep b ob e ho]at this;cases this
  ·exact st.own b z
 ·rcases aA hb with z|z
  ·exact sr b (o.fr b z)
  ·exact st.frz b z
theorem XW{as bs}(h:Src H L as)(hb:∀b∈bs,b∈as):Src H L bs:=λb z=>h b (hb b z)
theorem qzk{as bs}(h:Src H L as)(h':Src H L bs):Src H L (as++bs):=λb z=>(aA z).elim (h b) (h' b)
theorem K2{H H1 b}(s:kJ H H1)(h:H1 b=none):H b=none:=by
 cases e:H b with|none=>rfl|some ob=>rw[s b ob e]at h;cases h
theorem V7{r f}(ad:Ad1 Z.K r f){Q}(h:tQ Z q (cF1 f a) σ H Q):tUn r (tV Z q a) σ H Q:=by
 obtain⟨E,L,R,m,w,hc,xc,k⟩:=h;refine vY m w hc xc λE1 s h1 x L1 H1 e1 e2 m1 w1 ok fr sr st sm=>?_
 obtain⟨z,hz,rfl⟩:=JJ h1;refine ad H1 x z Q ok (by simp_all) λy H' ho hd o=>?_
 obtain⟨w3,dy⟩:=VQ w1 st o fr (λb hb=>ok.some (Sl.frz_as hb)) (XW sr λb hb=>Sl.frz_as hb);exact k _ _ rfl y L1 H' ho hd m1 w3 dy λhq=>#[qk (sm hq) o.same,λb hb=>K2 (sm hq) (o.new b hb)]
theorem kxw{r f}(ad:Ad2 Z.K r f){Q}(h:tQ Z qa (cF2 f a b) σ H Q):tOp r (tV Z qa a) (tV Z true b) σ H Q:=by
 obtain⟨E,L,R,m,w,hc,xc,k⟩:=h;refine vY m w hc xc λE1 s h1 x L1 H1 e1 e2 m1 w1 ok fr sr st sm=>(vY m1 w1 h1 (xc.step st) λE2 s2 h2 y L2 H2 e3 e4 m2 w2 mx uo uk st2 gz=>?_)
 obtain⟨z,hz,rfl⟩:=JJ h2;have kx:=WK ok fr st2 (gz rfl);refine ad H2 x y z Q kx.1 mx (by simp_all) λy' H' ho hd o=>?_
 obtain⟨w3,dy⟩:=VQ w2 (st.trans st2) o (λb hb=>(aA hb).elim (kx.2 b) (uo b)) (λb hb=>(aA hb).elim (λz=>kx.1.some (Sl.frz_as z)) λz=>mx.some (Sl.frz_as z))
  (qzk (XW sr λb hb=>Sl.frz_as hb) (XW (uk.back st) λb hb=>Sl.frz_as hb))
 exact k _ _ rfl y' L2 H' ho hd m2 w3 dy λhq=>#[qk (sm hq) (qk (gz rfl) o.same),λb hb=>K2 (qk (sm hq) (gz rfl)) (o.new b hb)]
theorem wve{op r f}(ho:OpR X (binaryOp op) r)(ad:Ad2 Z.K r f)(ha:QV X Z qa a ea)(hb:QV X Z true b eb):QE X Z qa (cF2 f a b) (.BinOp ea op eb pos):=
 kW (xjq ho ha hb) fun σ H Q h=>kxw ad h
theorem qx2{op r f}(ho:OpR X (compareOp op) r)(ad:Ad2 Z.K r f)(ha:QV X Z qa a ea)(hb:QV X Z true b eb)(hm:behindInMarks op eb=false):QE X Z qa (cF2 f a b) (.Compare ea [op] [eb] pos):=
 kW (wji ho ha hb hm) fun σ H Q h=>kxw ad h
theorem q_un{op r f}(ho:UnR X (unaryOp op) r)(ad:Ad1 Z.K r f)(ha:QV X Z q a ea):QE X Z q (cF1 f a) (.UnaryOp op ea pos):=
 kW (ww2 ho ha) fun σ H Q h=>V7 ad h
theorem RepA.get{K H g}:∀{ds xs as} {i:Nat} {d},RepA K H g ds xs as->ds[i]?=some d->∃v bs,xs[i]?=some v/\RepL K H g d v bs/\∀b∈bs,b∈as
 | [],_,_,_,_,_,e=>by simp_all
 | d::ds,_,_,i,d',h,e=>by
  obtain⟨x,r,bs,cs,rfl,rfl,h1,h2⟩:=h;cases i with
  |zero=>
   have e:d=d':=by simpa using e
   subst e;exact#[x,bs,by simp,h1,λb hb=>ll9 _ hb]
  |succ i=>
   obtain⟨v,br,e1,e2,e3⟩:=RepA.get h2 (by simpa using e);exact#[v,br,by simpa using e1,e2,λb hb=>lr9 _ (e3 b hb)]
theorem RepA.len{K H g}:∀{ds xs as},RepA K H g ds xs as->ds.length=xs.length
 |[],_,_,h=>by rw[h.1];rfl
 |d::ds,_,_,h=>by
  obtain⟨x,r,bs,cs,rfl,rfl,h1,h2⟩:=h;simp[RepA.len h2]
theorem items{K H}{x:Sl}{ds}(ok:x.ok K H)(h:x.d=.lst ds\/x.d=.tup ds):∃a xs bs,x.v=.ref a/\((x.d=.lst ds/\LsR K H a xs)\/(x.d=.tup ds/\SqT K H a xs))/\RepA K H (x.o != .dp) ds xs bs/\(∀b∈bs,b∈x.as)/\(x.o≠.dp->∀b∈bs,b∈x.frz):=by
 obtain⟨o,d,v,as⟩:=x;rcases h with rfl|rfl
 ·cases o with
  |no=>
   have ok:RepL K H true _ v as:=ok;obtain⟨a,xs,bs,rfl,r,q⟩:=ok;rcases q with⟨q,rfl⟩|⟨_,q,rfl⟩
   ·exact#[a,xs,bs,rfl,.inl #[rfl,.inl (.inl q)],r,λb hb=>lc9 _ hb,λ_ b hb=>lc9 _ hb]
   ·exact#[a,xs,as,rfl,.inl #[rfl,.of q],r,λb hb=>hb,λ_ b hb=>hb]
  |rt=>
   obtain⟨a,xs,bs,rfl,r,q,rfl⟩:=(ok);exact#[a,xs,bs,rfl,.inl #[rfl,.inl (.inl q)],r,λb hb=>lc9 _ hb,λ_ b hb=>by simpa [Sl.frz]using hb]
  |dp=>
   have ok:RepL K H false _ v as:=ok;obtain⟨a,xs,bs,rfl,r,q⟩:=ok;rcases q with⟨q,rfl⟩|⟨z,_⟩
   ·exact#[a,xs,bs,rfl,.inl #[rfl,.inl (.inl q)],r,λb hb=>lc9 _ hb,λz=>absurd rfl z]
   ·grind
 ·cases o with
  |no=>
   obtain⟨a,xs,rfl,q,r⟩:=ok;exact#[a,xs,as,rfl,.inr #[rfl,q],r,λb hb=>hb,λ_ b hb=>hb]
  |rt=>exact(ok).elim
  |dp=>
   obtain⟨a,xs,rfl,q,r⟩:=ok;exact#[a,xs,as,rfl,.inr #[rfl,q],r,λb hb=>hb,λz=>absurd rfl z]
theorem KW{K H}{x:Sl}{ds}(ok:x.ok K H)(h:x.d=.lst ds\/x.d=.tup ds)(hl:vz (x.o,x.d)=true):∃a xs bs,x.v=.ref a/\((x.d=.lst ds/\LsR K H a xs)\/(x.d=.tup ds/\SqT K H a xs))/\RepA K H true ds xs bs/\(∀b∈bs,b∈x.frz):=by
 obtain⟨a,xs,bs,e,q,r,h1,h2⟩:=items ok h
 by_cases ho:x.o=.dp
 ·have hp:D.pures ds=true:=by
   unfold vz at hl;rw[show(x.o,x.d).1=Own.dp from ho]at hl;have:xqk x.d=ds:=by rcases h with h|h<;>rw[h]<;>rfl
   simpa [this]using hl
  obtain⟨rfl,r'⟩:=RepA.pu (g':=true) r hp;exact#[a,xs,[],e,q,r',λ_ z=>nomatch z]
 ·have:(x.o != Own.dp)=true:=by simpa using ho
  rw[this]at r;exact#[a,xs,bs,e,q,r,h2 ho]
end
section
variable {K:Frag}{H:Hp}{x y:Sl}
theorem v7{i}(ok:x.ok K H)(h:x.d=.int i):x.v=.int i:=by
 have:=RepO.wk ok;rw[h]at this;exact this.1
theorem QY{i}(ok:x.ok K H)(h:x.d=.bl i):x.v=.bl i:=by
 have:=RepO.wk ok;rw[h]at this;exact this.1
theorem vjv(ok:x.ok K H)(h:x.d=.non):x.v=.non:=by
 have:=RepO.wk ok;rw[h]at this;exact this.1
theorem wZ{z}(ok:x.ok K H)(h:x.d=.str z):x.v=.str z/\z.length<=sizeLine:=by
 have:=RepO.wk ok;rw[h]at this;exact#[this.1,this.2.2]
theorem JK{i g}:RepL K H g (.int i) (.int i) []:=#[rfl,rfl]
theorem qvf{i g}:RepL K H g (.bl i) (.bl i) []:=#[rfl,rfl]
theorem qzu{g}:RepL K H g .non .non []:=#[rfl,rfl]
theorem Wk{z g}(h:z.length<=sizeLine):RepL K H g (.str z) (.str z) []:=#[rfl,rfl,h]
theorem V4{i fr}:Out K H H #[.dp,.int i,.int i,[]] fr:=kkn Jj JK
theorem x9{i fr}:Out K H H #[.dp,.bl i,.bl i,[]] fr:=kkn Jj qvf
theorem ZK{z fr}(h:z.length<=sizeLine):Out K H H #[.dp,.str z,.str z,[]] fr:=kkn Jj (Wk h)
set_option tactic.hygienic true in
theorem wkw{C}{g:Int->Int->Int}{f}(h:∀i j k,f i j=some k->C i j/\k=g i j):Ad2 K (rI C λi j=>.int (g i j)) (pu2 (i2 f)):=by
 intro H x y s Q ox oy hf k;unfold pu2 i2 at hf;dsimp only at hf
 split at hf
 ·rename_i i j e1 e2;cases hk:f i j with
  |none=>rw[hk]at hf;cases hf
  |some n=>
   rw[hk]at hf;cases oq9 hf;obtain⟨hc,rfl⟩:=h i j n hk;exact#[i,j,v7 ox e1,v7 oy e2,hc,k _ H rfl rfl V4]
 ·cases hf
set_option tactic.hygienic true in
theorem Kk{g}:Ad2 K (rI0 λi j=>.bl (g i j)) (pu2 (c2 g)):=by
 intro H x y s Q ox oy hf k;unfold pu2 c2 at hf;dsimp only at hf
 split at hf
 ·rename_i i j e1 e2;cases oq9 hf;exact#[i,j,v7 ox e1,v7 oy e2,k _ H rfl rfl x9]
 ·cases hf
set_option tactic.hygienic true in
theorem wzd:Ad2 K (rI wzg λi j=>.int (i / j)) (pu2 vX):=wkw λi j k h=>by
 split at h
 ·rename_i c;exact#[c,(oq9 h).symm]
 ·grind
set_option tactic.hygienic true in
theorem wz7:Ad2 K (rI (λ_ j=>0<j) λi j=>.int (i % j)) (pu2 jQ):=wkw λi j k h=>by
 split at h
 ·rename_i c;exact#[c,(oq9 h).symm]
 ·grind
set_option tactic.hygienic true in
theorem wz5:Ad2 K (rI xqx λi j=>.int (i*2 ^ j.toNat)) (pu2 xkg):=wkw λi j k h=>by
 split at h
 ·rename_i c;exact#[c,(oq9 h).symm]
 ·grind
end
noncomputable def wv7(K:Frag):R2:=λx y H Q=>∃l b xs zs,x=.ref l/\y=.ref b/\LsR K H l xs/\LsR K H b zs/\xs.length+zs.length<=sizeLine/\∀p,H p=none->Q (.ref p) (upd H p (.lst (xs++zs)))
theorem op_catL{X}:OpR X (binaryOp .Add) (wv7 X.K):=by
 rintro a7 s σ H x y v u Q I rx ry ⟨l,b,xs,zs,rfl,rfl,hH,hB,hz,q⟩;cases rx;cases ry;obtain⟨z,aq,n,r,e⟩:=hH.is I;obtain⟨z2,n9,n2,r2,e2⟩:=hB.is I;have hl:=r.length;have p6:=r2.length;refine PySem.P.add_list e e2 ?_ (by rw[Xe,Xe];lia);have ea:aq.toArray++n9.toArray=(aq++n9).toArray:=by simp
 rw[ea];exact#[.ref _,_,I.lnew (t':=s.toks) (r.append r2) (by rw[Xf];lia),rfl,q _ I.fresh]
noncomputable def wv8(K:Frag):R2:=λx y H Q=>∃a b ys,x=.ref a/\y=.ref b/\SqT K H a []/\SqT K H b ys/\Q (.ref b) H
theorem op_catE{X}:OpR X (binaryOp .Add) (wv8 X.K):=by
 rintro a7 s σ H x y v u Q I rx ry ⟨a,b,ys,rfl,rfl,ha,hb,q⟩;cases rx;cases ry;obtain⟨aq,r1,p1,_⟩:=I.tuple ha;obtain⟨n9,r2,p2,_⟩:=I.tuple hb;obtain⟨⟨cls,dd,data,sl⟩,ho,hc,n,hd⟩:=id p1;obtain⟨⟨cls2,dd2,data2,t7⟩,ho2,hc2,n2,mn⟩:=id p2;subst hc hd hc2 mn;have e:=r1.nil_iff.mpr rfl;subst e;exact concat_meets #[_,ho,rfl] #[_,ho2,rfl] noFill_tuple_add seq_tuple_add PySem.F.slot_tuple_add PySem.F.entry_tuple_add (PySem.F.args_tuple_add_2 _ _)
   (tuple_addW0 a b [].toArray n9.toArray n n2 dd dd2 sl t7 (by simp)) #[ho,ho2,#[.ref b,H,I,rfl,q]]
noncomputable def wv9(K:Frag):R2:=λx y H Q=>rI0 (λi j=>.int (i+j)) x y H Q\/(∃i j,x=.str i/\y=.str j/\i.length+j.length<=sizeLine/\Q (.str (i++j)) H)\/wv7 K x y H Q\/wv8 K x y H Q\/wv6 K x y H Q
theorem wwk{X K}(hK:X.K=K):OpR X (binaryOp .Add) (wv9 K):=by subst hK;exact op_add.or (op_add_str.or (op_catL.or (op_catE.or wjo)))
theorem RepA.app{K H g ds' xs' br}(h':RepA K H g ds' xs' br):∀{ds xs as},RepA K H g ds xs as->RepA K H g (ds++ds') (xs++xs') (as++br)
 |[],_,_,h=>by rw[h.1,h.2];exact h'
 |d::ds,_,_,h=>by
  obtain⟨x,r,bs,cs,rfl,rfl,h1,h2⟩:=h;rw[List.cons_append];exact#[x,r++xs',bs,cs++br,rfl,by rw[Xn],h1,RepA.app h' h2]
theorem zw{H p o}(h:H p=none):kJ H (upd H p o):=λb u q=>by rw[kj (xY q h)];exact q
theorem W9{K H p ds xs bs fr}(hp:H p=none)(r:RepA K H true ds xs bs)(hb:∀b∈bs,b∈fr):Out K H (upd H p (.lst xs)) #[.rt,.lst ds,.ref p,p::bs] fr:=by
 refine#[zw hp,#[p,xs,bs,rfl,r.kp (Kp.of_same (zw hp)),xV,rfl],λb hb=>?_,?_,λb fm=>hb b (by simpa [Sl.frz]using fm)]
 ·have:b=p:=by simpa [Sl.own]using hb
  rw[this];exact hp
 ·simp[Sl.own]
theorem kq9{K H p ds xs bs fr}(hp:H p=none)(r:RepA K H true ds xs bs)(hb:∀b∈bs,b∈fr):Out K H (upd H p (.tup xs)) #[.no,.tup ds,.ref p,bs] fr:=by
 refine#[zw hp,?_,λb hb=>(nomatch hb),Yg,λb fm=>hb b fm];show RepL K _ true _ _ bs;exact#[p,xs,rfl,SqT.of xV,r.kp (Kp.of_same (zw hp))]
set_option tactic.hygienic true in
theorem wze{K}:Ad2 K (wv9 K) jZ:=by
 intro H x y s Q ox oy hf k;unfold jZ at hf;dsimp only at hf
 split at hf
 ·rename_i i j e1 e2;cases oq9 hf;exact .inl #[i,j,v7 ox e1,v7 oy e2,k _ H rfl rfl V4]
 ·rename_i i j e1 e2
  split at hf
  ·rename_i hl;cases oq9 hf;have ou:(i++j).length<=sizeLine:=by rw[strLen_append];exact hl
   exact .inr (.inl #[i,j,(wZ ox e1).1,(wZ oy e2).1,hl,k _ H rfl rfl (ZK ou)])
  ·cases hf
 ·rename_i i j e1 e2
  split at hf
  ·rename_i hl;cases oq9 hf;obtain⟨a,xs,bs,e3,q3,r3,h3⟩:=KW ox (.inl e1) hl.2.1;obtain⟨b,ys,cs,e4,q4,r4,h4⟩:=KW oy (.inl e2) hl.2.2;have q3:LsR K H a xs:=by rcases q3 with⟨_,z⟩|⟨z,_⟩;exact z;rw[e1]at z;cases z
   have q4:LsR K H b ys:=by rcases q4 with⟨_,z⟩|⟨z,_⟩;exact z;rw[e2]at z;cases z
   exact .inr (.inr (.inl #[a,b,xs,ys,e3,e4,q3,q4,by rw[<-r3.len,<-r4.len];exact hl.1,λp hp=>(k _ _ rfl rfl (W9 hp (r4.app r3) λb hb=>(aA hb).elim (λz=>ll9 _ (h3 b z)) λz=>lr9 _ (h4 b z)))]))
  ·cases hf
 ·rename_i i j e1 e2
  split at hf
  ·rename_i hl;cases oq9 hf;obtain⟨a,xs,bs,e3,q3,r3,h3⟩:=KW ox (.inr e1) hl.2.1;obtain⟨b,ys,cs,e4,q4,r4,h4⟩:=KW oy (.inr e2) hl.2.2;have q3:SqT K H a xs:=by rcases q3 with⟨z,_⟩|⟨_,z⟩;rw[e1]at z;cases z;exact z
   have q4:SqT K H b ys:=by rcases q4 with⟨z,_⟩|⟨_,z⟩;rw[e2]at z;cases z;exact z
   have ap:=r4.app r3;have i':=λb hb=>(aA hb).elim (λz=>ll9 _ (h3 b z)) λz=>lr9 _ (h4 b z)
   have same:∀c zs,zs=xs++ys->SqT K H c zs->Q (.ref c) H:=λc zs e hq=>by
    refine k #[.no,.tup _,.ref c,bs++cs] H rfl rfl #[Jj,?_,λb hb=>(nomatch hb),Yg,i'];show RepL K H true _ _ _;exact#[c,zs,rfl,hq,by rw[e];exact ap]
   by_cases hx:xs=[]
   ·subst hx;exact .inr (.inr (.inr (.inl #[a,b,ys,e3,e4,q3,q4,same b ys rfl q4])))
   ·refine .inr (.inr (.inr (.inr #[a,b,xs,ys,e3,e4,q3,q4,hx,by rw[<-r3.len,<-r4.len];exact hl.1,λhy=>?_,λhy p hp=>?_])))
    ·exact same a xs (by rw[hy,Xr]) q3
    ·exact k _ _ rfl rfl (kq9 hp ap i')
  ·cases hf
 ·cases hf
noncomputable def tT(Z:Fx0)(q:Bool)(c:Ts):TT:=fun σ H Q=>∃E L r,Mt E σ L/\World Z.K H L/\c E=some r/\Xc Z σ H L r /\
 ∀E' k,r=.ok E' k->∀L' H',Mt E' σ L'->World Z.K H' L'->Step H L H' L'->(q=true->kJ H H')->Q k H'
noncomputable def QT(X:Cx)(Z:Fx0)(q:Bool)(c:Ts)(e:Expr):Prop:=PT X e (tT Z q c)
noncomputable def QW(X:Cx)(Z:Fx0)(q:Bool)(c:Ts)(e:Expr):Prop:=PW X e (tT Z q c)
section
variable {X:Cx}{Z:Fx0}{q qa qb:Bool}{a b c:Ex}{u v:Ts}{e ea eb:Expr}{es:List Expr}{pos:Pos}{α β:Type}{σ:L2.St}{H:Hp}{L:Ls}{E:En}
theorem vxm{e t t'}(h:PW X e t)(w:∀ σ H Q,t' σ H Q->t σ H Q):PW X e t':=λwh a7 s σ H Q I q=>h wh a7 s σ H Q I (w σ H Q q)
theorem vv4{F}{r:Res α}{G}(m:Mt E σ L)(w:World Z.K H L)(h:bnd (u E) F=some r)(xc:Xc Z σ H L r)
  (k:∀E1 s,F E1 s=some r->∀L1 H1,Mt E1 σ L1->World Z.K H1 L1->Step H L H1 L1->(q=true->kJ H H1)->G s H1):tT Z q u σ H G:=by
 rcases wJ h with⟨E1,s,h1,h2⟩|⟨E1,c,h1,h2⟩
 ·exact#[E,L,_,m,w,h1,(λ_ _ z=>by cases z),λE' s' z L' H' m' w' st sm=>by
   injection z with z1 z2;subst z1 z2;exact k _ _ h2 L' H' m' w' st sm]
 ·exact#[E,L,_,m,w,h1,xc.map h2,λE' s' z=>by cases z]
theorem V0(ha:QT X Z q u ea):QW X Z q u (.BoolOp .And [ea] pos):=wj7 ha
theorem xX(ha:QT X Z q u ea):QW X Z q u (.BoolOp .Or [ea] pos):=wvp ha
theorem V6(ha:QT X Z q u ea)(hb:QW X Z q v (.BoolOp .And (eb::es) pos)):QW X Z q (Q.tAnd u v) (.BoolOp .And (ea::eb::es) pos):=
 vxm (wvq ha hb) fun σ H Q bb=>ex8 bb λE L r m w hc xc k=>vv4 m w hc xc λE1 s h1 L1 H1 m1 w1 st sm=>by
  cases s with
  |true=>
   exact#[E1,L1,r,m1,w1,h1,xc.step st,λE' k' z L' H' m' w' dq jt=>k E' k' z L' H' m' w' (st.trans dq) λhq=>qk (sm hq) (jt hq)]
  |false=>grind
def vq(ha:QT X Z q u ea)(hb:QW X Z q v (.BoolOp .Or (eb::es) pos)):QW X Z q (Q.tOr u v) (.BoolOp .Or (ea::eb::es) pos):=
 vxm (xjo ha hb) fun σ H Q bb=>ex8 bb λE L r m w hc xc k=>vv4 m w hc xc λE1 s h1 L1 H1 m1 w1 st sm=>by
  cases s with
  |false=>
   exact#[E1,L1,r,m1,w1,h1,xc.step st,λE' k' z L' H' m' w' dq jt=>k E' k' z L' H' m' w' (st.trans dq) λhq=>qk (sm hq) (jt hq)]
  |true=>grind
theorem QW.pt(h:QW X Z q u e):QT X Z q u e:=PW.pt h
theorem xz(ha:QT X Z q u ea):QT X Z q (Q.tNot u) (.UnaryOp .Not ea pos):=
 qvj (wvr ha) fun σ H Q bb=>ex8 bb λE L r m w hc xc k=>vv4 m w hc xc λE1 s h1 L1 H1 m1 w1 st sm=>by
  cases oq9 h1;exact k _ _ rfl L1 H1 m1 w1 st sm
theorem JQ{op r f}(ho:OpR X (compareOp op) r)(ad:Ad2 Z.K r f)(ha:QV X Z qa a ea)(hb:QV X Z true b eb)(hm:behindInMarks op eb=false)(hf:∀x y s,f x y=some s->∃k,s.2=.bl k):QT X Z qa (Q.tE (cF2 f a b)) (.Compare ea [op] [eb] pos):=
 qvj (wjb ho ha hb hm) fun σ H Q bb=>ex8 bb λE L r m w hc xc k=>by
  refine kxw ad ?_;rcases wJ hc with⟨E1,s,h1,h2⟩|⟨E1,c,h1,h2⟩
  ·refine#[E,L,_,m,w,h1,(λ_ _ z=>by cases z),λE' s' z x L' H' e1 e2 m' w' st sm=>?_];injection z with z1 z2;subst z1 z2;obtain⟨kk,hk⟩:∃k,s.2=.bl k:=by
    rcases wJ h1 with⟨E2,s2,h3,h4⟩|⟨_,_,_,z⟩
    ·rcases wJ h4 with⟨E3,s3,h5,h6⟩|⟨_,_,_,z⟩
     ·obtain⟨y,hy,z⟩:=JJ h6;cases z;exact hf _ _ _ hy
     ·cases z
    ·cases z
   rw[hk]at h2;cases oq9 h2;exact#[kk,QY w'.head (e2.trans hk),k _ _ rfl L' H' m' w'.tail (st.trans Step.drop) λhq=>(sm hq).1]
  ·exact#[E,L,_,m,w,h1,xc.map h2,λE' s' z=>by cases z]
end
def Pn(pn:List Nat)(σ σ':L2.St):Prop:=∀p∈pn,σ'[p]?=σ[p]?
theorem Pn.refl{pn σ}:Pn pn σ σ:=λ_ _=>rfl
theorem Pn.trans{pn σ σ1 σ2}(a:Pn pn σ σ1)(b:Pn pn σ1 σ2):Pn pn σ σ2:=λp hp=>(b p hp).trans (a p hp)
theorem Pn.set{pn σ σ1 i y}(a:Pn pn σ σ1)(h:i∉pn):Pn pn σ (σ1.set i y):=λp hp=>by
 have:i≠p:=λe=>h (e▸hp)
 rw[Y6 this];exact a p hp
noncomputable def FlP(Z:Fx0)(pn:List Nat)(D:Ends)(σ:L2.St)(H:Hp)(L:Ls):Fl->Prop
 |.nx E'=>∀ σ' L' H',Pn pn σ σ'->Mt E' σ' L'->World Z.K H' L'->Step H L H' L'->D.nx σ' H'|.ct E'=>∀ σ' L' H',Pn pn σ σ'->Mt E' σ' L'->World Z.K H' L'->Step H L H' L'->D.ct σ' H'|.bk E'=>∀ σ' L' H',Pn pn σ σ'->Mt E' σ' L'->World Z.K H' L'->Step H L H' L'->D.bk σ' H'|.rt E' a=>∀(x:Sl) σ' L' H',x.o=a.1->x.d=a.2->Pn pn σ σ'->Mt E' σ' L'->World Z.K H' (some x::L')->Step H L H' (some x::L')->D.rt x.v H'|.xc E' c=>∀C σ' L' H',Z.mg c=some (.ref C)->Pn pn σ σ'->Mt E' σ' L'->World Z.K H' L'->Step H L H' L'->Z.EX (.ref C) none H'
theorem FlP.step{Z pn D σ σ1 H H1 L L1 r}(k:FlP Z pn D σ H L r)(s:Step H L H1 L1)(p:Pn pn σ σ1):FlP Z pn D σ1 H1 L1 r:=by
 cases r with|nx E'=>exact fun σ' L' H' p' m w s'=>k σ' L' H' (p.trans p') m w (s.trans s')|ct E'=>exact fun σ' L' H' p' m w s'=>k σ' L' H' (p.trans p') m w (s.trans s')|bk E'=>exact fun σ' L' H' p' m w s'=>k σ' L' H' (p.trans p') m w (s.trans s')|rt E' a=>exact λx σ' L' H' e1 e2 p' m w s'=>k x σ' L' H' e1 e2 (p.trans p') m w (s.trans s')|xc E' c=>exact λC σ' L' H' hm p' m w s'=>k C σ' L' H' hm (p.trans p') m w (s.trans s')
theorem FlP.xc{α Z pn D σ H L E' c}(k:FlP Z pn D σ H L (.xc E' c)):Xc Z σ H L (.exc E' c:Res α):=λE1 c1 e C L' H' hm m w s=>by
 injection e with h1 h2;subst h1 h2;exact k C σ L' H' hm Pn.refl m w s
noncomputable def tS(Z:Fx0)(pn:List Nat)(c:Sm):TS:=λD σ H=>∃E L r,Mt E σ L/\World Z.K H L/\c E=some r/\FlP Z pn D σ H L r
noncomputable def QS(X:Cx)(Z:Fx0)(pn:List Nat)(c:Sm)(st:Stmt):Prop:=PS X st (tS Z pn c)
noncomputable def QSs(X:Cx)(Z:Fx0)(pn:List Nat)(c:Sm)(st:List Stmt):Prop:=PSs X st (tS Z pn c)
section
variable {X:Cx}{Z:Fx0}{pn:List Nat}{q qa qb:Bool}{a b c:Ex}{u v:Ts}{A B:Sm}{e ea eb:Expr}{st:Stmt}{ss tt:List Stmt}{pos:Pos}{α:Type}{σ:L2.St}{H:Hp}{L:Ls}{E:En}{D:Ends}
theorem XY{m}{F:En->α->Option Fl}{r}(h:ofE m F=some r):(∃E1 x,m=some (.ok E1 x)/\F E1 x=some r)\/∃E1 c,m=some (.exc E1 c)/\r=.xc E1 c:=by
 cases m with
 |none=>cases h
 |some q=>
  cases q with|ok E1 x=>exact .inl #[E1,x,rfl,h]|exc E1 c=>exact .inr #[E1,c,rfl,(oq9 h).symm]
theorem Qz{F r G}(m:Mt E σ L)(w:World Z.K H L)(h:ofE (a E) F=some r)(k:FlP Z pn D σ H L r)
  (g:∀E1 s,F E1 s=some r->∀x L1 H1,x.o=s.1->x.d=s.2->Mt E1 σ L1->World Z.K H1 (some x::L1)->Step H L H1 (some x::L1)->(q=true->kJ H H1/\∀b∈x.own,H b=none)->G x.v H1):tQ Z q a σ H G:=by
 rcases XY h with⟨E1,s,h1,h2⟩|⟨E1,c,h1,rfl⟩
 ·exact#[E,L,_,m,w,h1,(λ_ _ z=>by cases z),λE' s' z x L' H' e1 e2 m' w' st sm=>by
   injection z with z1 z2;subst z1 z2;exact g _ _ h2 x L' H' e1 e2 m' w' st sm]
 ·exact#[E,L,_,m,w,h1,k.xc,λE' s' z=>by cases z]
theorem wqo{F r G}(m:Mt E σ L)(w:World Z.K H L)(h:ofE (u E) F=some r)(k:FlP Z pn D σ H L r)
  (g:∀E1 s,F E1 s=some r->∀L1 H1,Mt E1 σ L1->World Z.K H1 L1->Step H L H1 L1->G s H1):tT Z q u σ H G:=by
 rcases XY h with⟨E1,s,h1,h2⟩|⟨E1,c,h1,rfl⟩
 ·exact#[E,L,_,m,w,h1,(λ_ _ z=>by cases z),λE' s' z L' H' m' w' st sm=>by
   injection z with z1 z2;subst z1 z2;exact g _ _ h2 L' H' m' w' st]
 ·exact#[E,L,_,m,w,h1,k.xc,λE' s' z=>by cases z]
theorem xjh:QSs X Z pn k7 []:=vj8 vj7 λD σ H bb=>ex7 bb λE L r m w hc k=>by
 cases oq9 hc;exact k σ L H Pn.refl m w Step.refl
theorem j9(h1:QS X Z pn A st)(h2:QSs X Z pn B ss):QSs X Z pn (j6 A B) (st::ss):=vj8 (qvk h1 h2) λD σ H bb=>ex7 bb λE L r m w hc k=>by
 unfold j6 at hc;cases ha:A E with
 |none=>rw[ha]at hc;cases hc
 |some f=>
  rw[ha]at hc;cases f with|nx E1=>exact#[E,L,_,m,w,ha,fun σ' L' H' p m' w' s=>#[E1,L',r,m',w',hc,k.step s p]]|ct E1=>cases oq9 hc;exact#[E,L,_,m,w,ha,k]|bk E1=>cases oq9 hc;exact#[E,L,_,m,w,ha,k]|rt E1 x=>cases oq9 hc;exact#[E,L,_,m,w,ha,k]|xc E1 x=>cases oq9 hc;exact#[E,L,_,m,w,ha,k]
theorem qj(h1:QS X Z pn A st):QSs X Z pn A [st]:=YZ h1
theorem wvc(h:QE X Z q a ea):QS X Z pn (jv a) (.Return (some ea) pos):=zJ (vja h) λD σ H bb=>ex7 bb λE L r m w hc k=>
 Qz m w hc k λE1 s h1 x L1 H1 e1 e2 m1 w1 st _=>by
  cases oq9 h1;exact k x σ L1 H1 e1 e2 Pn.refl m1 w1 st
theorem wvl(h:QE X Z q a ea)(hs:autoParam (swapsWith ea none pos.line X.env=pure false) Ŕ):QS X Z pn (W0 a) (.Expr ea pos):=zJ (WV h hs) λD σ H bb=>ex7 bb λE L r m w hc k=>
 Qz m w hc k λE1 s h1 x L1 H1 e1 e2 m1 w1 st _=>by
  cases oq9 h1;exact k σ L1 H1 Pn.refl m1 w1.tail (st.trans Step.drop)
theorem W1(hc:QT X Z q u e)(ha:QSs X Z pn A ss)(hb:QSs X Z pn B tt):QS X Z pn (sIf u A B) (.If e ss tt pos):=zJ (vvu hc ha hb) λD σ H bb=>ex7 bb λE L r m w hc k=>
 wqo m w hc k λE1 s h1 L1 H1 m1 w1 st=>by
  cases s with|true=>rw[X8 rfl]at h1 ⊢;exact#[E1,L1,r,m1,w1,h1,k.step st Pn.refl]|false=>rw[Xd ⋯]at h1 ⊢;exact#[E1,L1,r,m1,w1,h1,k.step st Pn.refl]
theorem W8{x i s}(m:Mt E σ L)(e1:x.o=s.1)(e2:x.d=s.2):Mt (E.set i (some s)) (σ.set i (some x.v)) (L.set i (some x)):=by
 have:=m.set (x:=x) i;rw[e1,e2]at this;exact this
theorem xjm{i y cm}(hN:X.N.Nodup)(hi:X.N[i]?=some y)(hx:Loc X.env.scope y)(h:QE X Z q a ea)(hp:autoParam (i∉pn) ŕ)(hs:autoParam (swapsWith ea (some (.Name y cm)) pos.line X.env=pure false) Ŕ)(hf:autoParam (X.fn y=true\/X.env.scope.names.lookup y=some .local) Ř):
  QS X Z pn (jz i a) (.Assign [.Name y cm] ea pos):=zJ (wvs hN hi hx h hs hf) λD σ H bb=>ex7 bb λE L r m w hc k=>
 Qz m w hc k λE1 s h1 x L1 H1 e1 e2 m1 w1 st _=>by
  cases oq9 h1;exact k _ _ H1 (Pn.refl.set hp) (W8 m1 e1 e2) w1.set (st.trans Step.set)
theorem wvo{i y cm}(hp:i∉pn)(h:PS X (.Assign [.Name y cm] ea pos) (λD σ H=>tQ Z q a σ H λv H1=>D.nx (σ.set i (some v)) H1)):
  QS X Z pn (jz i a) (.Assign [.Name y cm] ea pos):=zJ h λD σ H bb=>ex7 bb λE L r m w hc k=>
 Qz m w hc k λE1 s h1 x L1 H1 e1 e2 m1 w1 st _=>by
  cases oq9 h1;exact k _ _ H1 (Pn.refl.set hp) (W8 m1 e1 e2) w1.set (st.trans Step.set)
end
structure Walks (K:Frag)(J:It)(T:List Sl)(ds:List D):Prop where
 no:∀t∈T,t.o=.no
 go:∀i H,(∀t∈T,t.ok K H)->i<ds.length->J.go i H
 stop:∀H,(∀t∈T,t.ok K H)->J.stop ds.length H
 yld:∀i H v H' d,(∀t∈T,t.ok K H)->J.yld i H v H'->ds[i]?=some d->∃z:Sl,z.o=.no/\z.d=d/\z.v=v/\kJ H H'/\z.ok K H'/\∀b∈z.as,∃t∈T,b∈t.as
noncomputable def tI(Z:Fx0)(q:Bool)(it:Ev (List D)):TI:=fun σ H R=>∃E L r,Mt E σ L/\World Z.K H L/\it E=some r/\Xc Z σ H L r /\
 ∀E' ds,r=.ok E' ds->∀J T L' H',Mt E' σ L'->World Z.K H' (L'++T.map some)->Step H L H' (L'++T.map some)->ds.length<=sizeLine->(q=true->kJ H H')->Walks Z.K J T ds->R J H'
noncomputable def QI(X:Cx)(Z:Fx0)(q:Bool)(tg:Expr)(it:Ev (List D))(e:Expr):Prop:=PI X tg e (tI Z q it)
noncomputable def xkz(K:Frag)(H0:Hp)(T:List Sl)(H:Hp):Prop:=(∀t∈T,t.ok K H)/\∀t∈T,Kp H0 H t.as
structure WalksD (K:Frag)(H0:Hp)(J:It)(T:List Sl)(ds:List D):Prop where
 no:∀t∈T,t.o=.no
 go:∀i H,xkz K H0 T H->i<ds.length->J.go i H
 stop:∀H,xkz K H0 T H->J.stop ds.length H
 yld:∀i H v H' d,xkz K H0 T H->J.yld i H v H'->ds[i]?=some d->∃z:Sl,z.o=.no/\z.d=d/\z.v=v/\kJ H H'/\z.ok K H'/\∀b∈z.as,∃t∈T,b∈t.as
theorem Walks.D{K H0 J T ds}(h:Walks K J T ds):WalksD K H0 J T ds:=#[h.no,λi H o=>h.go i H o.1,λH o=>h.stop H o.1,λi H v H' d o=>h.yld i H v H' d o.1]
noncomputable def tID(Z:Fx0)(q:Bool)(it:Ev (List D)):TI:=fun σ H R=>∃E L r,Mt E σ L/\World Z.K H L/\it E=some r/\Xc Z σ H L r /\
 ∀E' ds,r=.ok E' ds->∀J T L' H',Mt E' σ L'->World Z.K H' (L'++T.map some)->Step H L H' (L'++T.map some)->ds.length<=sizeLine->(q=true->kJ H H')->WalksD Z.K H' J T ds->R J H'
noncomputable def QID(X:Cx)(Z:Fx0)(q:Bool)(tg:Expr)(it:Ev (List D))(e:Expr):Prop:=PI X tg e (tID Z q it)
theorem QI.D{X Z q tg it e}(h:QI X Z q tg it e):QID X Z q tg it e:=λa7 s σ H R I hz=>h a7 s σ H R I (by
 obtain⟨E,L,r,m,w,e,x,k⟩:=hz;exact#[E,L,r,m,w,e,x,λE' ds z J T L' H' m' w' st hl sm wk=>k E' ds z J T L' H' m' w' st hl sm wk.D])
structure WalksS (K:Frag)(q:Bool)(H0:Hp)(J:It)(T:List Sl)(ds:List D):Prop where
 no:∀t∈T,t.o=.no
 go:∀i H,(∀t∈T,t.ok K H)->(q=true->kJ H0 H)->i<ds.length->J.go i H
 stop:∀H,(∀t∈T,t.ok K H)->(q=true->kJ H0 H)->J.stop ds.length H
 yld:∀i H v H' d,(∀t∈T,t.ok K H)->(q=true->kJ H0 H)->J.yld i H v H'->ds[i]?=some d->∃z:Sl,z.o=.no/\z.d=d/\z.v=v/\kJ H H'/\z.ok K H'/\∀b∈z.as,∃t∈T,b∈t.as
theorem vzf{K q H0 J T ds}(h:Walks K J T ds):WalksS K q H0 J T ds:=#[h.no,λi H o _=>h.go i H o,λH o _=>h.stop H o,λi H v H' d o _=>h.yld i H v H' d o]
noncomputable def tIS(Z:Fx0)(q:Bool)(it:Ev (List D)):TI:=fun σ H R=>∃E L r,Mt E σ L/\World Z.K H L/\it E=some r/\Xc Z σ H L r /\
 ∀E' ds,r=.ok E' ds->∀J T L' H',Mt E' σ L'->World Z.K H' (L'++T.map some)->Step H L H' (L'++T.map some)->ds.length<=sizeLine->(q=true->kJ H H')->WalksS Z.K q H J T ds->R J H'
noncomputable def QIS(X:Cx)(Z:Fx0)(q:Bool)(tg:Expr)(it:Ev (List D))(e:Expr):Prop:=PI X tg e (tIS Z q it)
theorem xqd{X Z q tg it e}(h:QI X Z q tg it e):QIS X Z q tg it e:=λa7 s σ H R I hz=>h a7 s σ H R I (by
 obtain⟨E,L,r,m,w,e,x,k⟩:=hz;exact#[E,L,r,m,w,e,x,λE' ds z J T L' H' m' w' st hl sm wk=>k E' ds z J T L' H' m' w' st hl sm (vzf wk)])
noncomputable def tG(Z:Fx0)(pn:List Nat)(tg:Tg):TG:=λv σ H Q=>∃(E:En) (L:Ls) (z:Sl) (E':En),Mt E σ L/\World Z.K H (some z::L)/\z.o=.no/\z.v=v/\tg.put z.d E=some E' /\
 ∀ σ' L',Pn pn σ σ'->Mt E' σ' L'->World Z.K H L'->Step H (some z::L) H L'->Q σ' H
noncomputable def QG(X:Cx)(Z:Fx0)(pn:List Nat)(tg:Tg)(e:Expr):Prop:=PG X e (tG Z pn tg)
section
variable {X:Cx}{Z:Fx0}{pn:List Nat}{e:Expr}{σ:L2.St}{H:Hp}{L:Ls}{E:En}
theorem vxp{t t'}(h:PG X e t)(w:∀v σ H Q,t' v σ H Q->t v σ H Q):PG X e t':=λa7 s σ H x v Q I r q=>h a7 s σ H x v Q I r (w x σ H Q q)
theorem XQ{i}(h:PG X e (vkt i))(hp:autoParam (i∉pn) ŕ):QG X Z pn (.n i) e:=vxp h λv σ H Q hz=>by
 obtain⟨E,L,z,E',m,w,ho,hv,cq,k⟩:=hz;cases oq9 cq;rw[<-hv];exact k _ _ (Pn.refl.set hp) (W8 m ho rfl) w.set Step.set
def gNs:List Nat->TGs
 |[]=>xqo|i::is=>wxf (vkt i) (gNs is)
theorem vks{Q M σ0}:∀{is ds xs bs E L σ E'},Mt E σ L->World Z.K H L->RepA Z.K H true ds xs bs->(∀b∈bs,b∉j7 L)->(∀b∈bs,b∈jK M)->Step H M H L->Pn pn σ0 σ ->
  setAll is ds E=some E'->(∀i∈is,i∉pn)->(∀ σ' L',Pn pn σ0 σ'->Mt E' σ' L'->World Z.K H L'->Step H M H L'->Q σ' H)->gNs is xs σ H Q
 | [],[],xs,bs,E,L,σ,E',m,w,r,_,_,st,p,e,_,k=>by
  cases oq9 e;exact#[r.1,k σ L p m w st]
 | [],_::_,_,_,_,_,_,_,_,_,_,_,_,_,_,e,_,_=>by cases e| _::_,[],_,_,_,_,_,_,_,_,_,_,_,_,_,e,_,_=>by cases e
 | i::is,d::ds,xs,bs,E,L,σ,E',m,w,r,hb,hf,st,p,e,hi,k=>by
  obtain⟨x,rr,cs,es,rfl,rfl,h1,h2⟩:=r;have s1:Step H M H (L.set i (some #[.no,d,x,cs])):=by
   refine#[λ_ _ h _=>h,λa ha=>?_,λa ha=>?_]
   ·rcases jkn ha with z|z
    ·exact nomatch z
    ·exact st.own a z
   ·rcases jkw ha with z|z
    ·exact .inl (hf a (ll9 _ z))
    ·exact st.frz a z
  exact#[x,rr,rfl,vks (W8 (x:=#[.no,d,x,cs]) m rfl rfl) (w.consNo (x:=#[.no,d,x,cs]) h1 rfl λb fm=>hb b (ll9 _ fm)).set h2 (λb fm ho=>by
   rcases jkn ho with z|z
   ·exact nomatch z
   ·exact hb b (lr9 _ fm) z) (λb fm=>hf b (lr9 _ fm)) s1 (p.set (hi i X2)) e (λj hj=>hi j (lc9 _ hj)) k]
theorem kvz:∀{is ds E E'},setAll is ds E=some E'->is.length=ds.length
 |[],[],_,_,_=>rfl|i::is,d::ds,E,E',e=>by rw[Xg,Xg,kvz (E:=E.set i _) e]
noncomputable def xkc(K:Frag)(n:Nat)(t:TGs):TG:=λv σ H Q=>∃a xs,v=.ref a/\(SqT K H a xs\/SqL K H a xs)/\xs.length=n/\t xs σ H Q
section
variable {prog:Program}{w:PySem.World}{A:Around}{E':VP9}
theorem qjz{it t items}(cg:t≠it):∀n i (s) (Q),s.heap.IsListIter it t i->s.heap.IsList t items->i+n<=items.size ->
  (∀h',h'.IsListIter it t (i+n)->Heap.SameBut it s.heap h'->Q ((items.toList.drop i).take n) {s with heap:=h' })->wpAny (model prog w) A (draw (.ref it) n) Q E' s
 | 0,i,s,Q,jo,_,_,hQ=>by
  exact X9 (by simpa using hQ s.heap jo (Heap.SameBut.refl ..))
 | n+1,i,s,Q,jo,ht,jn,hQ=>by
  have dl:i<items.size:=by omega
  refine X0 (wpAny_pyNext_list_item jo ht (x:=items[i]) (by simp) λh₁ qi uv=>?_);have ht₁:h₁.IsList t items:=by
   obtain⟨o,ho,r⟩:=ht;exact#[o,(uv.2 t cg).trans ho,r]
  refine X0 (Y4 (qjz cg n _ _ _ qi ht₁ (by omega) λh₂ hit₂ hs₂=>X9 ?_));have hd:items.toList.drop i=items[i]::items.toList.drop (i+1):=by simp[List.drop_eq_getElem_cons,dl]
  have:=hQ h₂ ⋯ (uv.trans hs₂)
  simp_all
theorem kk7{s t items Q}(hh:A.handled=none)(ht:s.heap.IsList t items)
  (hQ:∀h',Heap.ExtBut s.heap.objs.size s.heap h'->Q items.toList {s with heap:=h' }):wpAny (model prog w) A (unpackItems (.ref t) items.size none) Q E' s:=by
 have dl:t≠s.heap.objs.size:=by obtain⟨o,ho,_⟩:=ht;exact Xv (Xl ho)
 refine X0 (X0 (wpAny_specialOf ht.typeIs slot_list_iter.lookup (X9 (X0 (Y4 (wpAny_pyIter_list ht ?_))))));have ht0:∀o,(s.heap.push o).IsList t items:=λo=>by
  obtain⟨ob,ho,r⟩:=ht;exact#[ob,X4 _ ho,r]
 refine X0 (Y4 (qjz dl items.size 0 _ _ #[_,Xh _ rfl,rfl,rfl] (ht0 _) (by simp) λh₁ qi uv=>?_));have rn:List.take items.size (List.drop 0 items.toList)=items.toList:=by
  rw[List.drop_zero];exact Yq (by simp)
 rw[rn,Xd (by simp)];have ht₁:h₁.IsList t items:=by
  obtain⟨o,ho,r⟩:=ht0 _;exact#[o,(uv.2 t dl).trans ho,r]
 exact X0 (Y4 (wpAny_pyNext_list_end hh qi ht₁ (by simp) λh₂ he₂=>(X9 (hQ h₂ λb o hb e=>he₂ b o hb (uv.extBut b o hb (X4 _ e))))))
theorem kjw{s env lp x1 pos t items Q}(hh:A.handled=none)(ht:s.heap.IsList t items)
  (hn:(assignEach lp env).length=items.size) (vt:(assignEach lp env).findIdx? (·.1)=none)
  (h:∀h',Heap.ExtBut s.heap.objs.size s.heap h'->wpAny (model prog w) A (assignInOrder ((assignEach lp env).map (·.2)) items.toList) Q E' {s with heap:=h' }):
  wpAny (model prog w) A (assign (.Tuple lp x1 pos) env (.ref t)) Q E' s:=by
 refine X0 (wpAny_standAt ?_);unfold unpack;rw[hn,vt];exact X0 (Y4 (kk7 hh ht h))
end
theorem vxo K {es k t n pos}(h:PGs X es t)(hc:autoParam (X.calm=true) Ŕ)(hK:autoParam (X.K=K) Ŕ)
  (hn:autoParam ((assignEach es X.env).length=n) Ŕ) (ck:autoParam ((assignEach es X.env).findIdx? (·.1)=none) Ŕ):PG X (.Tuple es k pos) (xkc K n t):=by
 subst hK;rintro a7 s σ H v u Q I r ⟨a,xs,e1,hq,hl,hw⟩;subst e1;cases r;rcases hq with hq|hq
 ·obtain⟨aq,rv,ht,hz⟩:=I.tuple hq;refine assign_Tuple_tuple (I.ok.hd hc) ht (by simp[hn,<-hl,rv.length]) ck λh' hx=>?_
  have I1:L2.Inv X a7 σ H {s with heap:=h' }:=I.kept (t':=s.toks) λb o e=>hx b o (Xv (Xl e)) e
  exact h a7 _ σ H xs _ Q I1 (by simp_all) hw
 ·obtain⟨aq,rv,ht,hz⟩:=I.list hq;refine kjw (I.ok.hd hc) ht.isList (by simp[hn,<-hl,rv.length]) ck λh' hx=>?_
  have I1:L2.Inv X a7 σ H {s with heap:=h' }:=I.kept (t':=s.toks) λb o e=>hx b o (Xv (Xl e)) e
  exact h a7 _ σ H xs _ Q I1 (by simpa using rv) hw
theorem xqf{is}(h:PG X e (xkc Z.K is.length (gNs is)))(hp:autoParam (∀i∈is,i∉pn) ŕ):QG X Z pn (.t is) e:=vxp h λv σ H Q hz=>by
 obtain⟨E,L,z,E',m,w,ho,hv,cq,k⟩:=hz;have fin:∀ds,_->setAll is ds E=some E'->xkc Z.K is.length (gNs is) v σ H Q:=λds hd cq=>by
  obtain⟨a,xs,bs,e1,q1,r,h1,h2⟩:=items w.head hd;rw[ho]at r;refine#[a,xs,hv.symm.trans e1,?_,by rw[kvz cq,r.len],vks m w.tail r (λb hb=>w.apart b (h1 b hb)) (λb hb=>?_) Step.drop Pn.refl cq hp k]
  ·rcases q1 with⟨_,z'⟩|⟨_,z'⟩
   ·exact .inr z'.sq
   ·exact .inl z'
  ·rw[ww,qjo ho];exact ll9 _ (h1 b hb)
 cases hd:z.d with|tup ds=>rw[hd]at cq;exact fin ds (.inr hd) cq|lst ds=>rw[hd]at cq;exact fin ds (.inl hd) cq|_=>rw[hd]at cq;cases cq
end
section
variable {X:Cx}{Z:Fx0}{pn:List Nat}{q:Bool}{tg bc:Expr}{it:Ev (List D)}{t:Tg}{B:Sm}{ss:List Stmt}{pos:Pos}{σ:L2.St}{H:Hp}{L:Ls}{E:En}
theorem kjo{K}{T:List Sl}{H1 H2 L1 z}(w:World K H1 (L1++T.map some))(hT:∀t∈T,t.o=.no)(sm:kJ H1 H2)(ok:z.ok K H2)(ho:z.o=.no)(hz:∀b∈z.as,∃t∈T,b∈t.as):
  World K H2 ((some z::L1)++T.map some)/\Step H1 (L1++T.map some) H2 ((some z::L1)++T.map some):=by
 have w2:World K H2 _:=#[λx hx=>RepO.kp (w.ok x hx) (Kp.of_same sm),w.nd,w.ds];have hf:∀b∈z.as,b∈jK (L1++T.map some):=λb hb=>by
  obtain⟨t,ht,hbt⟩:=hz b hb;rw[qQ];exact lr9 _ (mem_frozen.mpr #[t,Xw ht,by rw[qjo (hT t ht)];exact hbt])
 refine#[w2.consNo ok ho λb hb hL=>w2.ds b hL (hf b hb),λa ob h _=>sm a ob h,λa ha=>?_,λa ha=>?_]
 ·rw[List.cons_append,jW,vjo ho]at ha;exact .inl ha
 ·rw[List.cons_append,ww,qjo ho]at ha;rcases aA ha with q|q
  ·exact .inl (hf a q)
  ·exact .inl q
theorem stay{K T L1 L2 H1 H2}(w:World K H1 (L1++T))(s:Step H1 L1 H2 L2)(w2:World K H2 L2):World K H2 (L2++T)/\Step H1 (L1++T) H2 (L2++T):=#[s.frame w w2 w.left,s.frm]
theorem Step.dropT{T H1 L1}:Step H1 (L1++T) H1 L1:=#[λ_ _ h _=>h,λa ha=>.inl (by rw[k9];exact ll9 _ ha),λa ha=>.inl (by rw[qQ];exact ll9 _ ha)]
theorem Kp.trans{H H1 H2 as}(a:Kp H H1 as)(b:Kp H1 H2 as):Kp H H2 as:=#[λc xs e=>b.1 c xs (a.1 c xs e),λc o u e=>b.2.1 c o u (a.2.1 c o u e),λc hc ob e=>b.2.2 c hc ob (a.2.2 c hc ob e)]
theorem qvl{K H2 H3 L2 L3}{T:List Sl}(w:World K H2 (L2++T.map some))(hT:∀t∈T,t.o=.no)(s:Step H2 L2 H3 L3){H0}(h:∀t∈T,Kp H0 H2 t.as):∀t∈T,Kp H0 H3 t.as:=λt ht=>
 (h t ht).trans (s.kp w.left λb hb z=>w.ds b (by rw[k9];exact ll9 _ z) (by
  rw[qQ];exact lr9 _ (mem_frozen.mpr #[t,Xw ht,by rw[qjo (hT t ht)];exact hb])))
theorem wvk(hp:PassesOwn (model X.prog X.w) X.A X.env X.xe)(hc:X.calm=true)(hi:QID X Z q tg it bc)(hg:QG X Z pn t tg)(hb:QSs X Z pn B ss)(hs:autoParam (∀x,foldedSetIterable bc X.env x=pure x) Ŗ):QS X Z pn (z7 it t B) (.For tg bc ss [] pos):=zJ (vxn hp hc hi hg hb hs) λD σ H bb=>ex7 bb λE L r m w hr k=>by
 rcases XY hr with⟨E1,ds,h1,h2⟩|⟨E1,c,h1,rfl⟩
 rotate_left
 ·exact#[E,L,_,m,w,h1,k.xc,λE' s' z=>by cases z]
 refine#[E,L,_,m,w,h1,(λ_ _ z=>by cases z),λE' ds' z J T L' H' m' w' st hz _ wk=>?_];injection z with z1 z2;subst z1 z2;have ji:∀{H2 L2},World Z.K H2 (L2++T.map some)->∀t∈T,t.ok Z.K H2:=λw2 t ht=>w2.ok t (lr9 _ (Xw ht))
 refine#[λi n σ1 H1=>∃E1 L1,Mt E1 σ1 L1/\World Z.K H1 (L1++T.map some)/\Step H L H1 (L1++T.map some)/\Pn pn σ σ1/\QZ t B (ds.drop i) E1=some r/\i<=ds.length/\n=ds.length - i/\∀t∈T,Kp H' H1 t.as,#[_,E1,L',m',w',st,Pn.refl,h2,Ys _,rfl,λ_ _=>Kp.of_same Jj],?_];rintro i n σ1 H1 ⟨E1,L1,m1,w1,st1,p1,f1,hi,rfl,a7⟩
 by_cases dl:i<ds.length
 ·have hd:ds.drop i=ds[i]::ds.drop _:=List.drop_eq_getElem_cons dl;rw [hd]at f1;unfold QZ at f1;cases cq:t.put ds[i] E1 with
  | none=>rw[cq]at f1;cases f1
  | some E2=>
   rw[cq]at f1;dsimp only at f1;refine .inr #[wk.go i H1 #[ji w1,a7] dl,fun σ2 H2=>∃E2 L2,Mt E2 σ2 L2/\World Z.K H2 _/\Step H L H2 _/\Pn pn σ σ2/\QZ t B _ E2=some r/\∀t∈T,Kp H' H2 t.as,fun σ2 H2 hz=>by obtain⟨E2,L2,a1,a2,a3,a4,a5,a6⟩:=hz;exact#[ds.length - _,by omega,E2,L2,a1,a2,a3,a4,a5,dl,rfl,a6],λv H2 hy=>?_];obtain⟨z,zo,zd,zv,sm,qo,ui⟩:=wk.yld i H1 v H2 ds[i] #[ji w1,a7] hy (X3 dl);obtain⟨wz,sz⟩:=kjo w1 wk.no sm qo zo ui;refine#[E1,L1,z,E2,m1,wz.left,zo,zv,by rw[zd];exact cq,fun σ2 L2 p2 m2 w2 st2=>?_];obtain⟨w3,dy⟩:=stay wz st2 w2;have iz:=st1.trans (sz.trans dy);have p8:=λt ht=>(a7 t ht).trans (Kp.of_same sm)
   cases hB:B E2 with
   | none=>rw[hB]at f1;cases f1
   | some g=>
    rw[hB]at f1;refine#[E2,L2,g,m2,w2,hB,?_];cases g with
    |nx E3=>
     intro σ3 L3 H3 p3 m3 w4 s3;obtain⟨w5,s5⟩:=stay w3 s3 w4;exact#[E3,L3,m3,w5,iz.trans s5,(p1.trans p2).trans p3,f1,qvl w3 wk.no s3 p8]
    |ct E3=>
     intro σ3 L3 H3 p3 m3 w4 s3;obtain⟨w5,s5⟩:=stay w3 s3 w4;exact#[E3,L3,m3,w5,iz.trans s5,(p1.trans p2).trans p3,f1,qvl w3 wk.no s3 p8]
    |bk E3=>
     have e:=oq9 f1;subst e;intro σ3 L3 H3 p3 m3 w4 s3;exact k σ3 L3 H3 ((p1.trans p2).trans p3) m3 w4 ((iz.trans Step.dropT).trans s3)
    |rt E3 x=>
     have e:=oq9 f1;subst e;intro y σ3 L3 H3 e1 e2 p3 m3 w4 s3;exact k y σ3 L3 H3 e1 e2 ((p1.trans p2).trans p3) m3 w4 ((iz.trans Step.dropT).trans s3)
    |xc E3 c=>
     have e:=oq9 f1;subst e;intro C σ3 L3 H3 hm p3 m3 w4 s3;exact k C σ3 L3 H3 hm ((p1.trans p2).trans p3) m3 w4 ((iz.trans Step.dropT).trans s3)
 ·have e:i=ds.length:=by omega
  subst e;rw[List.drop_length]at f1;cases oq9 f1;exact .inl #[wk.stop H1 #[ji w1,a7],k σ1 L1 H1 p1 m1 w1.left (st1.trans Step.dropT)]
theorem xji(hp:PassesOwn (model X.prog X.w) X.A X.env X.xe)(hc:X.calm=true)(hi:QI X Z q tg it bc)(hg:QG X Z pn t tg)(hb:QSs X Z pn B ss)(hs:autoParam (∀x,foldedSetIterable bc X.env x=pure x) Ŗ):QS X Z pn (z7 it t B) (.For tg bc ss [] pos):=wvk hp hc hi.D hg hb hs
end
mutual
noncomputable def vW(h:Heap):D->Value->Prop
 |.non,u=>u=.none|.bl b,u=>u=.bool b|.int i,u=>∃t,u=.int i t|.str z,u=>∃t,u=.str z t|.tup ds,u=>∃a us,u=.ref a/\h.IsTuple a us.toArray/\CReps h ds us|.lst ds,u=>∃a us,u=.ref a/\h.IsList a us.toArray/\CReps h ds us|.dct _,_=>False|.obj _ _,_=>False
noncomputable def CReps(h:Heap):List D->List Value->Prop
 |[],us=>us=[]|d::ds,us=>∃u r,us=u::r/\vW h d u/\CReps h ds r
end
theorem qw5{n k}:D.flat n (.dct k)=false:=by cases n<;>simp[D.flat]
theorem qw4{n c k}:D.flat n (.obj c k)=false:=by cases n<;>simp[D.flat]
section
variable {X:Cx}{a7:LA9}{σ:L2.St}{H:Hp}{s:Shared}
mutual
theorem YX(I:Inv X a7 σ H s){g}:∀{n d v as u},RepL X.K H g d v as->d.flat n=true->RelV v u->vW s.heap d u
 | _,.non,_,_,_,h,_,r=>by
  unfold RepL at h;rw[h.1]at r;exact r
 | _,.bl _,_,_,_,h,_,r=>by
  unfold RepL at h;rw[h.1]at r;exact r
 | _,.int _,_,_,_,h,_,r=>by
  unfold RepL at h;rw[h.1]at r;exact r
 | _,.str _,_,_,_,h,_,r=>by
  unfold RepL at h;rw[h.1]at r;unfold vW;exact r
 | 0,.tup ds,_,_,_,h,f,r=>by cases f
 | n+1,.tup ds,_,_,_,h,f,r=>by
  obtain⟨a,xs,rfl,q,ra⟩:=h;cases r;obtain⟨aq,rv,p,_⟩:=I.tuple q;exact#[a,aq,rfl,p,creps_of I ra f rv]
 | 0,.lst ds,_,_,_,h,f,r=>by cases f
 | n+1,.lst ds,_,_,_,h,f,r=>by
  obtain⟨a,xs,bs,rfl,ra,q⟩:=h;cases r;have q':SqL X.K H a xs:=by
   rcases q with⟨q,_⟩|⟨_,q,_⟩
   ·exact SqL.of q
   ·exact(LsR.of q).sq
  obtain⟨aq,rv,p,_⟩:=I.list q';exact#[a,aq,rfl,p.isList,creps_of I ra f rv]
 |_,.dct _,_,_,_,h,f,r=>by rw[qw5]at f;cases f|_,.obj _ _,_,_,_,h,f,r=>by rw[qw4]at f;cases f
theorem creps_of(I:Inv X a7 σ H s){g}:∀{n ds xs as us},RepA X.K H g ds xs as->D.flats n ds=true->Vals xs us->CReps s.heap ds us
 | _,[],_,_,_,h,_,r=>by
  rw[h.1]at r;cases r;unfold CReps;rfl
 | n,d::ds,_,_,_,h,f,r=>by
  unfold D.flats at f;rw[Bool.and_eq_true]at f;obtain⟨x,rr,bs,cs,rfl,rfl,h1,h2⟩:=h;cases r with
  |cons r1 r2=>
   exact#[_,_,rfl,YX I h1 f.1 r1,creps_of I h2 f.2 r2]
end
end
theorem CReps.len{h}:∀{ds us},CReps h ds us->ds.length=us.length
 |[],_,r=>by rw[r];rfl
 |d::ds,_,r=>by
  obtain⟨u,rr,rfl,_,h2⟩:=r;simp[CReps.len h2]
theorem CReps.get{h}:∀{ds us} {j:Nat} {d},CReps h ds us->ds[j]?=some d->∃u,us[j]?=some u/\vW h d u
 | [],_,_,_,_,e=>by simp_all
 | d::ds,_,j,d',r,e=>by
  obtain⟨u,rr,rfl,h1,h2⟩:=r;cases j with
  |zero=>simp_all
  |succ j=>
   obtain _:=CReps.get h2 (by simpa using e)
   simp_all
theorem vzh{h:Heap}{a x y}(p:h.IsTuple a x)(q:h.IsTuple a y):x=y:=by
 obtain⟨o,h1,_,n,h2⟩:=p;obtain⟨o',h3,_,n',h4⟩:=q
 grind
theorem wjy{h:Heap}{a x y}(p:h.IsList a x)(q:h.IsList a y):x=y:=by
 obtain⟨o,h1,_,n,h2⟩:=p;obtain⟨o',h3,_,n',h4⟩:=q
 grind
theorem vk4{h:Heap}{a x y}(p:h.IsList a x)(q:h.IsTuple a y):False:=by
 obtain⟨o,h1,h2,_⟩:=p;obtain⟨o',h3,h4,_⟩:=q
 grind
inductive Cv (h:Heap):D->Value->Prop
 |non:Cv h .non .none
 |bl (b:Bool):Cv h (.bl b) (.bool b)
 |int (i:Int) (t:_):Cv h (.int i) (.int i t)
 |str (z:Str) (t:_):Cv h (.str z) (.str z t)
 |lst {ds:List D} {a:Addr} {us:List Value} (p:h.IsList a us.toArray) (q:CReps h ds us):Cv h (.lst ds) (.ref a)
 |tup {ds:List D} {a:Addr} {us:List Value} (p:h.IsTuple a us.toArray) (q:CReps h ds us):Cv h (.tup ds) (.ref a)
theorem crv{h d u}(r:vW h d u):Cv h d u:=by
 cases d<;>unfold vW at r
 all_goals first|exact r.elim|(subst r;constructor)|(obtain⟨_,rfl⟩:=r;constructor)|(obtain⟨_,_,rfl,p,q⟩:=r;first|exact .lst p q|exact .tup p q)
set_option tactic.hygienic true in
mutual
theorem kxo{h d d' u}(a:vW h d u)(b:vW h d' u):d=d':=by
 cases d<;>cases crv a<;>cases crv b<;>try rfl
 ·exact(vk4 ‹_› ‹_›).elim
 ·rename_i p r _ _ r' p';cases Array.mk.inj (vzh p p');rw[creps_inj r r']
 ·rename_i p r _ _ r' p';cases Array.mk.inj (wjy p p');rw[creps_inj r r']
 ·exact(vk4 ‹_› ‹_›).elim
theorem creps_inj{h}:∀{ds ds' us},CReps h ds us->CReps h ds' us->ds=ds'
 | [],ds',us,a,b=>by
  unfold CReps at a;subst a;cases ds' with|nil=>rfl|cons d ds=>unfold CReps at b;obtain⟨_,_,e,_⟩:=b;cases e
 | d::ds,ds',us,a,b=>by
  unfold CReps at a;obtain⟨u,r,rfl,h1,h2⟩:=a;cases ds' with
  |nil=>unfold CReps at b;cases b
  |cons d' ds'=>
   obtain⟨u',r',e,h3,h4⟩:=b;cases e;rw[kxo h1 h3,creps_inj h2 h4]
end
mutual
theorem ZW:∀{n d},d.flat n=true->peq d d=true
 |_,.non,_=>by rfl|_,.bl b,_=>by unfold peq;simp|_,.int b,_=>by unfold peq;simp|_,.str b,_=>by unfold peq;simp|n+1,.tup ds,f=>peqs_refl f|n+1,.lst ds,f=>peqs_refl f|_,.dct _,f=>by rw[qw5]at f;cases f|_,.obj _ _,f=>by rw[qw4]at f;cases f
theorem peqs_refl:∀{n d},D.flats n d=true->peqs d d=true
 |_,[],_=>by rfl
 |n,d::ds,f=>by
  unfold D.flats at f;rw[Bool.and_eq_true]at f;unfold peqs;rw[ZW f.1,peqs_refl f.2];rfl
end
theorem jzz:∀{n ds} {j:Nat} {d},D.flats n ds=true->ds[j]?=some d->d.flat n=true
 |_,[],_,_,_,e=>by simp_all
 |n,d::ds,j,d',f,e=>by
  unfold D.flats at f;rw[Bool.and_eq_true]at f;cases j with|zero=>simp_all|succ j=>exact jzz f.2 (by simpa using e)
noncomputable def pAt(as bs:List D)(j:Nat):Bool:=match as[j]?,bs[j]? with
 |some a,some b=>peq a b|_,_=>true
theorem jxg:∀as bs,as.length=bs.length->(List.range as.length).all (pAt as bs)=peqs as bs
 |[],[],_=>by rfl
 |a::as,b::bs,h=>by
  rw[Xg,List.range_succ_eq_map,Z3,List.all_map];unfold peqs;rw[<-(jxg as bs (by simpa using h))];rfl
theorem kkl:∀as bs,as.length≠bs.length->peqs as bs=false
 |[],[],h=>by simp_all
 |a::as,b::bs,h=>by
  unfold peqs;rw[kkl as bs (by simpa using h),Bool.and_false]
 |[],_::_,_=>by rfl|_::_,[],_=>by rfl
theorem qqz(as bs):((List.range (min as.length bs.length)).all (pAt as bs)&&as.length==bs.length)=peqs as bs:=by
 by_cases e:as.length=bs.length
 ·rw[<-e,Nat.min_self,jxg as bs e];simp[e]
 ·rw[kkl as bs e]
  grind
section
variable {s:Shared}
theorem qky{as bs us ws A}(ra:CReps s.heap as us)(rb:CReps s.heap bs ws)
  (h:∀(j:Nat) (d d') (u w),as[j]?=some d->bs[j]?=some d'->vW s.heap d u->vW s.heap d' w->SeqAt.EqAt A s u w (peq d d')):
  ∀j h1 (h2:j<ws.toArray.size),SeqAt.EqAt A s us.toArray[j] ws.toArray[j] (pAt as bs j):=λj h1 h2=>by
 have l1:=ra.len;have l2:=rb.len;simp at h1 h2;have ha:j<as.length:=⋯
 have hb:j<bs.length:=⋯
 obtain⟨u,eu,ru⟩:=ra.get (X3 ha);obtain⟨w,ew,qd⟩:=rb.get (X3 hb);have e1:us.toArray[j]=u:=by
  simp_all
 have e2:ws.toArray[j]=w:=by
  simp_all
 have e3:pAt as bs j=peq as[j] bs[j]:=by
  unfold pAt;rw[X3 ha,X3 hb]
 rw[e1,e2,e3];exact h j _ _ u w (X3 ha) (X3 hb) ru qd
set_option tactic.hygienic true in
theorem wqx{A d d' u w}(hu:A.units<cLine)(r:vW s.heap d u)(r':vW s.heap d' w)
  (el:∀as bs (us ws),(d=.lst as\/d=.tup as)->(d'=.lst bs\/d'=.tup bs)->CReps s.heap as us->CReps s.heap bs ws->∀j (h1) (h2:j<ws.toArray.size),SeqAt.EqAt A.in1 s us.toArray[j] ws.toArray[j] (pAt as bs j)):
  SeqAt.RcAt A s u w (peq d d'):=by
 cases crv r<;>cases crv r'<;>unfold peq
 ·exact SeqAt.RcAt.none_none
 ·exact SeqAt.RcAt.none_bool _
 ·exact SeqAt.RcAt.none_int _ _
 ·exact SeqAt.RcAt.none_str _ _
 ·exact SeqAt.RcAt.none_list ‹_› hu
 ·exact SeqAt.RcAt.none_tuple ‹_› hu
 ·exact SeqAt.RcAt.bool_none _
 ·exact SeqAt.RcAt.bool_bool _ _
 ·exact SeqAt.RcAt.bool_int _ _ _
 ·exact SeqAt.RcAt.bool_str _ _ _
 ·exact SeqAt.RcAt.bool_list _ ‹_› hu
 ·exact SeqAt.RcAt.bool_tuple _ ‹_› hu
 ·exact SeqAt.RcAt.int_none _ _
 ·exact SeqAt.RcAt.int_bool _ _ _
 ·exact SeqAt.RcAt.int_int _ _ _ _
 ·exact SeqAt.RcAt.int_str _ _ _ _
 ·exact SeqAt.RcAt.int_list _ _ ‹_› hu
 ·exact SeqAt.RcAt.int_tuple _ _ ‹_› hu
 ·exact SeqAt.RcAt.str_none _ _
 ·exact SeqAt.RcAt.str_bool _ _ _
 ·exact SeqAt.RcAt.str_int _ _ _ _
 ·exact SeqAt.RcAt.str_str _ _ _ _
 ·exact SeqAt.RcAt.str_list _ _ ‹_› hu
 ·exact SeqAt.RcAt.str_tuple _ _ ‹_› hu
 ·exact SeqAt.RcAt.list_none ‹_› hu
 ·exact SeqAt.RcAt.list_bool _ ‹_› hu
 ·exact SeqAt.RcAt.list_int _ _ ‹_› hu
 ·exact SeqAt.RcAt.list_str _ _ ‹_› hu
 ·rename_i as a us p ra bs b ws p' rb;have l1:=ra.len;have l2:=rb.len
  by_cases hl:as.length=bs.length
  ·rw[<-jxg as bs hl];have z:=SeqAt.RcAt.lists (A:=A) (s:=s) (e:=pAt as bs) p p' (by simp only[Xe];lia) hu (el as bs us ws (.inl rfl) (.inl rfl) ra rb);rw[Xe,<-l1]at z;exact z
  ·rw[kkl as bs hl];exact SeqAt.RcAt.lists_lengths p p' (by simp only[Xe,bne_iff_ne];lia) hu
 ·exact SeqAt.RcAt.list_tuple ‹_› ‹_› hu
 ·exact SeqAt.RcAt.tuple_none ‹_› hu
 ·exact SeqAt.RcAt.tuple_bool _ ‹_› hu
 ·exact SeqAt.RcAt.tuple_int _ _ ‹_› hu
 ·exact SeqAt.RcAt.tuple_str _ _ ‹_› hu
 ·exact SeqAt.RcAt.tuple_list ‹_› ‹_› hu
 ·rename_i as a us p ra bs b ws p' rb;rw[<-qqz as bs];have z:=SeqAt.RcAt.tuples (A:=A) (s:=s) (e:=pAt as bs) p p' hu (el as bs us ws (.inr rfl) (.inr rfl) ra rb);rw[Xe,Xe,<-ra.len,<-rb.len]at z;exact z
set_option tactic.hygienic true in
theorem xj8{A d d' u w}(hu:A.units<cLine)(r:vW s.heap d u)(r':vW s.heap d' w)
  (el:∀as bs (us ws),(d=.lst as\/d=.tup as)->(d'=.lst bs\/d'=.tup bs)->CReps s.heap as us->CReps s.heap bs ws->∀j (h1) (h2:j<ws.toArray.size),SeqAt.EqAt A.in1 s us.toArray[j] ws.toArray[j] (pAt as bs j)):
  SeqAt.RcNeAt A s u w (!peq d d'):=by
 cases crv r<;>cases crv r'<;>unfold peq
 ·exact SeqAt.RcNeAt.none_none
 ·exact SeqAt.RcNeAt.none_bool _
 ·exact SeqAt.RcNeAt.none_int _ _
 ·exact SeqAt.RcNeAt.none_str _ _
 ·exact SeqAt.RcNeAt.none_list ‹_› hu
 ·exact SeqAt.RcNeAt.none_tuple ‹_› hu
 ·exact SeqAt.RcNeAt.bool_none _
 ·exact SeqAt.RcNeAt.bool_bool _ _
 ·exact SeqAt.RcNeAt.bool_int _ _ _
 ·exact SeqAt.RcNeAt.bool_str _ _ _
 ·exact SeqAt.RcNeAt.bool_list _ ‹_› hu
 ·exact SeqAt.RcNeAt.bool_tuple _ ‹_› hu
 ·exact SeqAt.RcNeAt.int_none _ _
 ·exact SeqAt.RcNeAt.int_bool _ _ _
 ·exact SeqAt.RcNeAt.int_int _ _ _ _
 ·exact SeqAt.RcNeAt.int_str _ _ _ _
 ·exact SeqAt.RcNeAt.int_list _ _ ‹_› hu
 ·exact SeqAt.RcNeAt.int_tuple _ _ ‹_› hu
 ·exact SeqAt.RcNeAt.str_none _ _
 ·exact SeqAt.RcNeAt.str_bool _ _ _
 ·exact SeqAt.RcNeAt.str_int _ _ _ _
 ·exact SeqAt.RcNeAt.str_str _ _ _ _
 ·exact SeqAt.RcNeAt.str_list _ _ ‹_› hu
 ·exact SeqAt.RcNeAt.str_tuple _ _ ‹_› hu
 ·exact SeqAt.RcNeAt.list_none ‹_› hu
 ·exact SeqAt.RcNeAt.list_bool _ ‹_› hu
 ·exact SeqAt.RcNeAt.list_int _ _ ‹_› hu
 ·exact SeqAt.RcNeAt.list_str _ _ ‹_› hu
 ·rename_i as a us p ra bs b ws p' rb;have l1:=ra.len;have l2:=rb.len
  by_cases hl:as.length=bs.length
  ·rw[<-jxg as bs hl];have z:=SeqAt.RcNeAt.lists (A:=A) (s:=s) (e:=pAt as bs) p p' (by simp only[Xe];lia) hu (el as bs us ws (.inl rfl) (.inl rfl) ra rb);rw[Xe,<-l1]at z;exact z
  ·rw[kkl as bs hl];exact SeqAt.RcNeAt.lists_lengths p p' (by simp only[Xe,bne_iff_ne];lia) hu
 ·exact SeqAt.RcNeAt.list_tuple ‹_› ‹_› hu
 ·exact SeqAt.RcNeAt.tuple_none ‹_› hu
 ·exact SeqAt.RcNeAt.tuple_bool _ ‹_› hu
 ·exact SeqAt.RcNeAt.tuple_int _ _ ‹_› hu
 ·exact SeqAt.RcNeAt.tuple_str _ _ ‹_› hu
 ·exact SeqAt.RcNeAt.tuple_list ‹_› ‹_› hu
 ·rename_i as a us p ra bs b ws p' rb;rw[<-qqz as bs];have z:=SeqAt.RcNeAt.tuples (A:=A) (s:=s) (e:=pAt as bs) p p' hu (el as bs us ws (.inr rfl) (.inr rfl) ra rb);rw[Xe,Xe,<-ra.len,<-rb.len]at z;exact z
theorem kxl{A a a' b}(pj:Value.ref a=Value.ref a'->b=true)(rc:SeqAt.RcAt A s (.ref a) (.ref a') b):SeqAt.EqAt A s (.ref a) (.ref a') b:=by
 by_cases e:a=a'
 ·subst e;rw[pj rfl];exact SeqAt.EqAt.same _
 ·exact SeqAt.EqAt.of_refs e rc
theorem xkh{A d d' u w}(hu:A.units<cLine)(r:vW s.heap d u)(r':vW s.heap d' w)(pj:u=w->peq d d'=true)(rc:SeqAt.RcAt A s u w (peq d d')):SeqAt.EqAt A s u w (peq d d'):=by
 cases crv r<;>cases crv r'<;>try unfold peq
 ·exact SeqAt.EqAt.same _
 ·exact SeqAt.EqAt.none_bool _
 ·exact SeqAt.EqAt.none_int _ _
 ·exact SeqAt.EqAt.none_str _ _
 ·exact SeqAt.EqAt.none_list ‹_› hu
 ·exact SeqAt.EqAt.none_tuple ‹_› hu
 ·exact SeqAt.EqAt.bool_none _
 ·exact SeqAt.EqAt.bool_bool _ _
 ·exact SeqAt.EqAt.bool_int _ _ _
 ·exact SeqAt.EqAt.bool_str _ _ _
 ·exact SeqAt.EqAt.bool_list _ ‹_› hu
 ·exact SeqAt.EqAt.bool_tuple _ ‹_› hu
 ·exact SeqAt.EqAt.int_none _ _
 ·exact SeqAt.EqAt.int_bool _ _ _
 ·exact SeqAt.EqAt.int_int _ _ _ _
 ·exact SeqAt.EqAt.int_str _ _ _ _
 ·exact SeqAt.EqAt.int_list _ _ ‹_› hu
 ·exact SeqAt.EqAt.int_tuple _ _ ‹_› hu
 ·exact SeqAt.EqAt.str_none _ _
 ·exact SeqAt.EqAt.str_bool _ _ _
 ·exact SeqAt.EqAt.str_int _ _ _ _
 ·exact SeqAt.EqAt.str_str _ _ _ _
 ·exact SeqAt.EqAt.str_list _ _ ‹_› hu
 ·exact SeqAt.EqAt.str_tuple _ _ ‹_› hu
 ·exact SeqAt.EqAt.list_none ‹_› hu
 ·exact SeqAt.EqAt.list_bool _ ‹_› hu
 ·exact SeqAt.EqAt.list_int _ _ ‹_› hu
 ·exact SeqAt.EqAt.list_str _ _ ‹_› hu
 ·exact kxl pj rc
 ·exact kxl pj rc
 ·exact SeqAt.EqAt.tuple_none ‹_› hu
 ·exact SeqAt.EqAt.tuple_bool _ ‹_› hu
 ·exact SeqAt.EqAt.tuple_int _ _ ‹_› hu
 ·exact SeqAt.EqAt.tuple_str _ _ ‹_› hu
 ·exact kxl pj rc
 ·exact kxl pj rc
theorem qjv:∀n {d d' u w A},d.flat n=true->vW s.heap d u->vW s.heap d' w->A.units+n<cLine->SeqAt.EqAt A s u w (peq d d')
 | n,d,d',u,w,A,f,r,r',hu=>by
  refine xkh ⋯ r r' (λe=>?_) (wqx ⋯ r r' λas bs us ws h1 h2 ra rb=>?_)
  rotate_left
  ·cases n with
   |zero=>rcases h1 with rfl|rfl<;>(unfold D.flat at f;cases f)
   |succ n=>
    have fs:D.flats n as=true:=by rcases h1 with rfl|rfl<;>(unfold D.flat at f;exact f)
    exact qky ra rb λj d d' u w e1 e2 q1 q2=>qjv n (jzz fs e1) q1 q2 ⋯
  ·subst e;rw[kxo r' r];exact ZW f
end
section
variable {X:Cx}{Z:Fx0}{K:Frag}
noncomputable def xqc(K:Frag):R2:=λx y H Q=>∃d d' as bs,RepL K H true d x as/\RepL K H true d' y bs/\d.flat 40=true/\d'.flat 40=true/\Q (.bl (peq d d')) H
noncomputable def xq6(K:Frag):R2:=λx y H Q=>∃d d' as bs,RepL K H true d x as/\RepL K H true d' y bs/\d.flat 40=true/\d'.flat 40=true/\Q (.bl (!peq d d')) H
theorem wwj(hu:X.A.units+64<cLine)(hK:autoParam (X.K=K) Ŕ):OpR X (compareOp .Eq) (xqc K):=by
 subst hK;rintro a7 s σ H x y v u Q I rx ry ⟨d,d',as,bs,h1,h2,f1,f2,q⟩;refine wqx ⋯ (YX I h1 f1 rx) (YX I h2 f2 ry) (λas bs us ws e1 e2 ra rb=>qky ra rb λj d d' u w e3 e4 q1 q2=>?_) _ _ _ _ #[.bl _,H,I,rfl,q];have fs:D.flats 39 as=true:=by rcases e1 with rfl|rfl<;>(unfold D.flat at f1;exact f1)
 exact qjv 39 (jzz fs e3) q1 q2 ⋯
theorem xjx(hu:X.A.units+64<cLine)(hK:autoParam (X.K=K) Ŕ):OpR X (compareOp .NotEq) (xq6 K):=by
 subst hK;rintro a7 s σ H x y v u Q I rx ry ⟨d,d',as,bs,h1,h2,f1,f2,q⟩;refine xj8 ⋯ (YX I h1 f1 rx) (YX I h2 f2 ry) (λas bs us ws e1 e2 ra rb=>qky ra rb λj d d' u w e3 e4 q1 q2=>?_) _ _ _ _ #[.bl _,H,I,rfl,q];have fs:D.flats 39 as=true:=by rcases e1 with rfl|rfl<;>(unfold D.flat at f1;exact f1)
 exact qjv 39 (jzz fs e3) q1 q2 ⋯
theorem wzc:Ad2 K (xqc K) (pu2 fEq):=by
 intro H x y s Q ox oy hf k;unfold pu2 fEq at hf
 by_cases hc:(x.d.flat 40&&y.d.flat 40)=true
 ·rw[X8 hc]at hf;rw[Bool.and_eq_true]at hc;cases oq9 hf;exact#[x.d,y.d,x.as,y.as,RepO.wk ox,RepO.wk oy,hc.1,hc.2,k _ H rfl rfl x9]
 ·simp_all
theorem xkv:Ad2 K (xq6 K) (pu2 fNe):=by
 intro H x y s Q ox oy hf k;unfold pu2 fNe at hf
 by_cases hc:(x.d.flat 40&&y.d.flat 40)=true
 ·rw[X8 hc]at hf;rw[Bool.and_eq_true]at hc;cases oq9 hf;exact#[x.d,y.d,x.as,y.as,RepO.wk ox,RepO.wk oy,hc.1,hc.2,k _ H rfl rfl x9]
 ·simp_all
end
abbrev Sl.sd(x:Sl):Sd:=(x.o,x.d)
noncomputable def tA(Z:Fx0)(q:Bool)(cs:List Ex):TA:=fun σ H Q=>∃E L r,Mt E σ L/\World Z.K H L/\vJ cs E=some r/\Xc Z σ H L r /\
 ∀E' ys,r=.ok E' ys->∀(xs:List Sl) L' H',xs.map Sl.sd=ys->Mt E' σ L'->World Z.K H' (xs.map some++L')->Step H L H' (xs.map some++L')->(q=true->kJ H H'/\∀b∈j7 (xs.map some),H b=none)->Q (xs.map Sl.v) H'
noncomputable def QA(X:Cx)(Z:Fx0)(q:Bool)(cs:List Ex)(es:List Expr):Prop:=PA X es (tA Z q cs)
theorem kzv{X es t t'}(h:PA X es t)(w:∀ σ H Q,t' σ H Q->t σ H Q):PA X es t':=λpos a7 s σ H Q I q=>h pos a7 s σ H Q I (w σ H Q q)
section
variable {X:Cx}{Z:Fx0}{pn:List Nat}{q:Bool}{c:Ex}{cs:List Ex}{e:Expr}{es:List Expr}{pos:Pos}{σ:L2.St}{H:Hp}{L:Ls}{E:En}
theorem jk:QA X Z true [] []:=kzv v6 fun σ H Q bb=>ex8 bb λE L r m w hc xc k=>by
 cases oq9 hc;exact k _ _ rfl [] L H rfl m w Step.refl λ_=>#[λ_ _ z=>z,λ_ z=>(nomatch z)]
theorem j5(h:QE X Z q c e)(hs:QA X Z q cs es)(ck:autoParam (Abs e es X) Ŕ):QA X Z q (c::cs) (e::es):=
 kzv (kX h hs ck) fun σ H Q bb=>ex8 bb λE L r m w hc xc k=>by
  refine wj0 m w (hc) xc λE1 s h1 x L1 H1 e1 e2 m1 w1 st sm=>?_
  rcases wJ h1 with⟨E2,ys,h2,h3⟩|⟨E2,cc,h2,h3⟩
  ·cases oq9 h3;refine#[E1,L1,_,m1,w1.tail,h2,(λ_ _ z=>by cases z),λE' ys' z xs L2 H2 e3 m2 w2 st2 gz=>?_];injection z with z1 z2;subst z1 z2;obtain⟨w3,dy⟩:=xkb (T:=[some x]) w1 st2 w2;refine k _ _ rfl (x::xs) L2 H2 (by rw[List.map_cons,e3];simp[Sl.sd,e1,e2]) m2 w3 (st.trans dy) λhq=>?_
   obtain⟨a1,a2⟩:=sm hq;obtain⟨b1,b2⟩:=gz hq;refine#[qk a1 b1,λb hb=>?_];rcases aA hb with z|z
   ·exact a2 b z
   ·exact K2 a1 (b2 b z)
  ·exact#[E1,L1,_,m1,w1.tail,h2,(xc.step (st.trans Step.drop)).map h3,λE' s' z=>by cases z]
end
section
variable {X:Cx}{Z:Fx0}{q:Bool}{cs:List Ex}{es:List Expr}{pos:Pos}{σ:L2.St}{H:Hp}{L:Ls}{E:En}{α:Type}
theorem kj3:∀{cs E E' ys},vJ cs E=some (.ok E' ys)->ys.length=cs.length
 | [],E,E',ys,h=>by cases oq9 h;rfl
 | c::cs,E,E',ys,h=>by
  rcases wJ (h)with⟨E1,x,h1,h2⟩|⟨_,_,_,z⟩
  ·rcases wJ h2 with⟨E2,xs,h3,h4⟩|⟨_,_,_,z⟩
   ·cases oq9 h4;rw[Xg,Xg,kj3 h3]
   ·cases z
  ·cases z
theorem wkx{F}{r:Res α}{G}(m:Mt E σ L)(w:World Z.K H L)(h:bnd (vJ cs E) F=some r)(xc:Xc Z σ H L r)
  (k:∀E1 ys,F E1 ys=some r->ys.length=cs.length->∀(xs:List Sl) L1 H1,xs.map Sl.sd=ys->Mt E1 σ L1->World Z.K H1 (xs.map some++L1)->Step H L H1 (xs.map some++L1)->(q=true->kJ H H1/\∀b∈j7 (xs.map some),H b=none)->G (xs.map Sl.v) H1):tA Z q cs σ H G:=by
 rcases wJ h with⟨E1,s,h1,h2⟩|⟨E1,c,h1,h2⟩
 ·exact#[E,L,_,m,w,h1,(λ_ _ z=>by cases z),λE' s' z xs L' H' e1 m' w' st sm=>by
   injection z with z1 z2;subst z1 z2;exact k _ _ h2 (kj3 h1) xs L' H' e1 m' w' st sm]
 ·exact#[E,L,_,m,w,h1,xc.map h2,λE' s' z=>by cases z]
theorem kjp{K H}(g):∀{xs:List Sl},(∀x∈xs,x.ok K H)->(g=false->∀x∈xs,vK x.sd=true)->∃bs,RepA K H g (xs.map Sl.d) (xs.map Sl.v) bs/\(∀b∈bs,∃x∈xs,b∈x.as)/\(g=false->bs=j7 (xs.map some))/\(g=true->bs=xs.flatMap Sl.as)
 | [],_,_=>#[[],#[rfl,rfl],λ_ h=>(nomatch h),λ_=>rfl,λ_=>rfl]
 | x :: xs,h,ht=>by
  obtain⟨bs,r,hb,ho,hg⟩:=kjp g (λy hy=>h y (lc9 _ hy)) λhg y hy=>ht hg y (lc9 _ hy)
  have hx:=h x X2;have qr:∃cs,RepL K H g x.d x.v cs/\(∀b∈cs,b∈x.as)/\(g=false->cs=x.own)/\(g=true->cs=x.as):=by
   cases g with
   | true=>exact#[x.as,RepO.wk hx,λb hb=>hb,(λz=>by cases z),λ_=>rfl]
   | false=>
    by_cases ho:x.o=.dp
    ·refine#[x.as,?_,λb hb=>hb,λ_=>?_,λz=>by cases z]
     ·have:=hx;unfold Sl.ok at this;rw[ho]at this;exact this
     ·unfold Sl.own;rw[ho]
    ·have hp:x.d.pure=true:=by
      rcases Bool.or_eq_true_iff.mp (ht rfl x X2)with z|z
      ·simp_all
      ·exact z
     obtain⟨z,rp⟩:=RepL.pu (g':=false) (RepO.wk hx) hp;exact#[[],rp,λ_ h=>(nomatch h),λ_=>(wjm z).symm,λz=>by cases z]
  obtain⟨cs,r1,h1,h2,h3⟩:=qr;refine#[cs++bs,?_,λb fm=>?_,λue=>?_,λue=>?_]
  ·exact#[x.v,xs.map Sl.v,cs,bs,rfl,rfl,r1,r]
  ·rcases aA fm with z|z
   ·exact#[x,X2,h1 b z]
   ·simp_all
  ·rw[List.map_cons,jW,h2 ue,ho ue]
  ·rw[List.flatMap_cons,h3 ue,hg ue]
theorem vk0{K H H' d}{o:Own}{v ps}{xs:List Sl}{L}(w:World K H (xs.map some++L))(out:∀bs,RepA K H true (xs.map Sl.d) (xs.map Sl.v) bs->Out K H H' #[o,d,v,ps++bs] bs):
  ∃bs,World K H' (some #[o,d,v,ps++bs]::L)/\Step H (xs.map some++L) H' (some #[o,d,v,ps++bs]::L):=by
 obtain⟨bs,r,hb,_,_⟩:=kjp true (λx hx=>w.ok x (ll9 _ (Xw hx))) (λz=>by cases z);have ap:∀b∈bs,b∉j7 L:=λb fm hL=>by
  obtain⟨x,hx,mo⟩:=hb b fm;rcases Sl.as_of mo with z|z
  ·have nd:=w.nd;rw[k9,X7]at nd;exact nd.2.2 b (mem_owned.mpr #[x,Xw hx,z]) b hL rfl
  ·exact w.ds b (by rw[k9];exact lr9 _ hL) (by rw[qQ];exact ll9 _ (mem_frozen.mpr #[x,Xw hx,z]))
 have al:∀b∈bs,H b≠none:=λb fm=>by
  obtain⟨x,hx,mo⟩:=hb b fm;exact(w.ok x (ll9 _ (Xw hx))).some mo
 have sr:Src H (xs.map some++L) bs:=λb fm=>by
  obtain⟨x,hx,mo⟩:=hb b fm;rcases Sl.as_of mo with z|z
  ·exact .inr (.inl (by rw[k9];exact ll9 _ (mem_owned.mpr #[x,Xw hx,z])))
  ·exact .inl (by rw[qQ];exact ll9 _ (mem_frozen.mpr #[x,Xw hx,z]))
 have st:Step H (xs.map some++L) H L:=#[λ_ _ h _=>h,λa ha=>.inl (by rw[k9];exact lr9 _ ha),λa ha=>.inl (by rw[qQ];exact lr9 _ ha)];exact#[bs,VQ (Z:=#[K,λ_=>none,λ_ _ _=>True]) w.right st (out bs r) ap al sr]
theorem vwc{K H p}{xs:List Sl}{L}(w:World K H (xs.map some++L))(hp:H p=none):
  ∃bs,World K (upd H p (.lst (xs.map Sl.v))) (some #[.rt,.lst (xs.map Sl.d),.ref p,p::bs]::L)/\Step H (xs.map some++L) (upd H p (.lst (xs.map Sl.v))) (some #[.rt,.lst (xs.map Sl.d),.ref p,p::bs]::L):=
 vk0 (ps:=[p]) w λ_ r=>W9 hp r λ_ h=>h
theorem vwb{K H p}{xs:List Sl}{L}(w:World K H (xs.map some++L))(hp:H p=none):
  ∃bs,World K (upd H p (.tup (xs.map Sl.v))) (some #[.no,.tup (xs.map Sl.d),.ref p,bs]::L)/\Step H (xs.map some++L) (upd H p (.tup (xs.map Sl.v))) (some #[.no,.tup (xs.map Sl.d),.ref p,bs]::L):=
 vk0 (ps:=[]) w λ_ r=>kq9 hp r λ_ h=>h
theorem vjz{K H H'}{xs:List Sl}{L d v ps}(w:World K H (xs.map some++L))(ht:∀x∈xs,vK x.sd=true)(hp:∀b∈ps,H b=none)(nd:ps.Nodup)(sm:kJ H H')
  (rep:∀bs,RepA K H false (xs.map Sl.d) (xs.map Sl.v) bs->RepL K H' false d v (ps++bs)):
  World K H' (some #[.dp,d,v,ps++j7 (xs.map some)]::L)/\Step H (xs.map some++L) H' (some #[.dp,d,v,ps++j7 (xs.map some)]::L):=by
 obtain⟨bs,r,hb,ho,_⟩:=kjp false (λx hx=>w.ok x (ll9 _ (Xw hx))) (λ_=>ht);have e:=ho rfl;subst e;have w2:World K H' _:=#[λx hx=>RepO.kp (w.ok x hx) (Kp.of_same sm),w.nd,w.ds];have ndx:=w.nd;rw[k9,X7]at ndx;have al:∀b∈j7 _,H b≠none:=λb hb=>w.own_some (by rw[k9];exact ll9 _ hb)
 refine#[w2.right.cons (rep _ r) ?_ (λa ha hL=>?_) (λa ha hf=>?_) (λa ha=>(nomatch ha)) (λa ha=>λz=>(nomatch z)),#[λa ob h _=>sm a ob h,λa ha=>?_,λa ha=>?_]]
 ·show(ps++j7 _).Nodup;rw[X7];exact#[nd,ndx.1,λa ha b hb e=>by subst e;exact al a hb (hp a ha)]
 ·rcases aA (ha)with z|z
  ·exact w.own_some (by rw[k9];exact lr9 _ hL) (hp a z)
  ·exact ndx.2.2 a z a hL rfl
 ·rcases aA (ha)with z|z
  ·exact w.frz_some (by rw[qQ];exact lr9 _ hf) (hp a z)
  ·exact w.ds a (by rw[k9];exact ll9 _ z) (by rw[qQ];exact lr9 _ hf)
 ·rw[jW]at ha;rcases aA ha with z|z
  ·rcases aA (z)with y|y
   ·exact .inr (hp a y)
   ·exact .inl (by rw[k9];exact ll9 _ y)
  ·simp_all
 ·exact .inl (by rw[qQ];exact lr9 _ ha)
theorem wzl{xs:List Sl}{ys}(h:xs.map Sl.sd=ys):xs.map Sl.d=ys.map (·.2):=by rw[<-h,Xu];rfl
theorem qvb{xs:List Sl}{ys}(h:xs.map Sl.sd=ys)(ht:ys.all vK=true):∀x∈xs,vK x.sd=true:=λx hx=>by
 rw[<-h,List.all_map,Yi]at ht;exact ht x hx
theorem qvn{o}{xs:List Sl}{ys E' r L' H1}{Q:VK}{Hq Lq}(h:mkL o E' ys=some r)(e:xs.map Sl.sd=ys)(w:World Z.K H1 (xs.map some++L'))(st:Step Hq Lq H1 (xs.map some++L'))(sm:q=true->kJ Hq H1/\∀b∈j7 (xs.map some),Hq b=none)
  (k:∀E'' a,r=.ok E'' a->∀x L'' H',x.o=a.1->x.d=a.2->Mt E'' σ L''->World Z.K H' (some x::L'')->Step Hq Lq H' (some x::L'')->(q=true->kJ Hq H'/\∀b∈x.own,Hq b=none)->Q x.v H') (m:Mt E' σ L'):
  ∀ p,H1 p=none->Q (.ref p) (upd H1 p (.lst (xs.map Sl.v))):=by
 intro p hp;unfold mkL at h
 by_cases ho:o=.dp
 ·rw[X8 ho]at h
  by_cases ht:ys.all vK=true
  ·rw[X8 ht]at h;cases oq9 h;obtain⟨w2,s2⟩:=vjz (d:=.lst _) w (qvb e ht) (λb hb=>by rw[aC hb];exact hp) (by simp) (zw hp) (λbs r=>by
    exact#[p,_,bs,rfl,r.kp (Kp.of_same (zw hp)),.inl #[xV,rfl]])
   refine k _ _ rfl _ L' _ rfl (by rw[wzl e]) m w2 (st.trans s2) λhq=>#[qk (sm hq).1 (zw hp),λb hb=>?_]
   rcases aA (hb)with z|z
   ·rw[aC z];exact K2 (sm hq).1 hp
   ·exact(sm hq).2 b z
  ·simp_all
 ·rw[Xd ho]at h;cases oq9 h;obtain⟨bs,w2,s2⟩:=vwc w hp;refine k _ _ rfl _ L' _ rfl (by rw[wzl e]) m w2 (st.trans s2) λhq=>#[qk (sm hq).1 (zw hp),λb hb=>?_]
  have:b=p:=by simpa [Sl.own]using hb
  rw[this];exact K2 (sm hq).1 hp
theorem wqj{xs:List Sl}{ys n}(h:xs.map Sl.sd=ys)(hl:ys.length=n)(hz:n<=1000):(xs.map Sl.v).length<=sizeLine:=by
 have:xs.length=n:=by rw[<-hl,<-h,X1]
 rw[X1,this];exact Xs hz ⋯
theorem xQ{o}(h:QA X Z q cs es)(hz:autoParam (cs.length<=1000) ŕ):QE X Z q (qw o cs) (.List es pos):=kW (ww5 h) fun σ H Q bb=>ex8 bb λE L r m w hc xc k=>
 wkx m w (hc) xc λE1 ys h1 hl xs L1 H1 e1 m1 w1 st sm=>#[wqj e1 hl hz,qvn (E':=E1) (h1) e1 w1 st sm k m1]
theorem Jz{o x1}(h:QA X Z q cs es)(hz:autoParam (cs.length<=1000) ŕ):QE X Z q (vj o cs) (.Tuple es x1 pos):=kW (vxq h) fun σ H Q bb=>ex8 bb λE L r m w hc xc k=>
 wkx m w (hc) xc λE1 ys h1 hl xs L1 H1 e1 m1 w1 st sm=>#[wqj e1 hl hz,λp hp=>by
  by_cases ho:o=.dp
  ·rw[X8 ho]at h1
   by_cases ht:ys.all vK=true
   ·rw[X8 ht]at h1;cases oq9 h1;obtain⟨w2,s2⟩:=vjz (d:=.tup _) (ps:=[]) w1 (qvb e1 ht) (λb hb=>(nomatch hb)) (by simp) (zw hp) (λbs r=>by
     exact#[p,_,rfl,SqT.of xV,r.kp (Kp.of_same (zw hp))])
    exact k _ _ rfl _ L1 _ rfl (by rw[wzl e1]) m1 w2 (st.trans s2) λhq=>#[qk (sm hq).1 (zw hp),λb hb=>(sm hq).2 b hb]
   ·simp_all
  ·rw[Xd ho]at h1;cases oq9 h1;obtain⟨bs,w2,s2⟩:=vwb w1 hp;exact k _ _ rfl _ L1 _ rfl (by rw[wzl e1]) m1 w2 (st.trans s2) λhq=>#[qk (sm hq).1 (zw hp),λb hb=>(nomatch hb)]]
end
noncomputable def spF(K:Frag)(mg:Str->Option Value)(n:Nat)(f:Fn):Sp:=λvs H Q E=>∃(xs:List Sl) (r:Res Sd),vs=xs.map Sl.v/\xs.length=n/\World K H (xs.map some)/\f (xs.map Sl.sd)=some r /\
 (∀E' c,r=.exc E' c->∀C H',mg c=some (.ref C)->Step H (xs.map some) H' []->E (.ref C) none H') /\
 ∀E' a,r=.ok E' a->∀(x:Sl) H',x.o=a.1->x.d=a.2->World K H' [some x]->Step H (xs.map some) H' [some x]->Q x.v H'
theorem qzm{K mg n f}{ps:List Str}(hn:ps.length=n):∀vs H Q E,spF K mg n f vs H Q E->vs.length=ps.length:=λvs H Q E hz=>by obtain⟨xs,r,e,hl,_⟩:=hz;rw[e,X1,hl,hn]
theorem kx8:∀(xs:List Sl) (k),Mt (xs.map (λx=>some x.sd)++List.replicate k none) (xs.map (λx=>some x.v)++List.replicate k none) (xs.map some++List.replicate k none)
 |[],0=>.nil
 |[],k+1=>by
  exact .un (kx8 [] k)
 |x::xs,k=>.cons (kx8 xs k)
theorem vz2{X K mg N n nn B body H vs Q E}(hN:N.length=nn)(t:QSs X #[K,mg,E] [] B body)(h:spF K mg n (fn nn B) vs H Q E):
  ∃t,PSs X body t/\t {nx:=λ_ H'=>Q .non H',rt:=Q} (L2.start N vs) H:=by
 refine#[_,t,?_];obtain⟨xs,r,rfl,hl,w,hf,hx,hk⟩:=h;unfold fn at hf;rw[X1,Xu]at hf;have e1:L2.start N (xs.map Sl.v)=xs.map (λx=>some x.v)++List.replicate (nn - xs.length) none:=by
  unfold L2.start;rw[Xu,X1,hN];rfl
 have wL:World K H (xs.map some++List.replicate (nn - xs.length) none):=w.same (by simp);have sL:Step H (xs.map some) H (xs.map some++List.replicate (nn - xs.length) none):=Step.refl.same (List.Perm.refl _) (by simp);cases hB:B _ with
 | none=>rw[show(some∘Sl.sd)=(λx:Sl=>some x.sd)from rfl,hB]at hf;cases hf
 | some g=>
  rw[show(some∘Sl.sd)=(λx:Sl=>some x.sd)from rfl,hB]at hf;refine#[_,_,g,e1▸(kx8 xs _),wL,hB,?_];cases g with
  |nx E1=>
   cases oq9 hf;intro σ' L' H' _ m' w' s';exact hk _ _ rfl _ H' rfl rfl (World.consPu (x:=#[.dp,.non,.non,[]]) #[λ_ z=>(nomatch z),Yg,λ_ z=>(nomatch z)] (show RepL K H' false .non .non []from qzu) rfl) (QJ ((sL.trans s').sub (by simp)) (λb hb=>(nomatch hb)) rfl)
  |rt E1 a=>
   cases oq9 hf;intro x σ' L' H' e2 e3 _ m' w' s';exact hk _ _ rfl x H' e2 e3 (w'.sub (by simp)) ((sL.trans s').sub (by simp))
  |xc E1 c=>
   cases oq9 hf;intro C σ' L' H' hm _ m' w' s';exact hx _ _ rfl C H' hm ((sL.trans s').sub (by simp))
  |ct E1=>cases hf|bk E1=>cases hf
section
variable {X:Cx}{Z:Fx0}{q:Bool}{cs:List Ex}{e:Expr}{es:List Expr}{pos p:Pos}{x:Str}{ps:List Str}{k n:Nat}{f:Fn}
theorem KJ:∀xs:List Sl,j7 ((xs.map Sl.let).map some)=[]
 |[]=>rfl|x::xs=>by rw[List.map_cons,List.map_cons,jW,KJ xs];rfl
theorem jzf:∀xs:List Sl,jK ((xs.map Sl.let).map some)=xs.flatMap Sl.as
 |[]=>rfl|x::xs=>by rw[List.map_cons,List.map_cons,ww,jzf xs];rfl
theorem qq5(xs:List Sl):(xs.map Sl.let).map Sl.sd=letAll (xs.map Sl.sd):=by
 unfold letAll;rw[Xu,Xu];rfl
theorem kvn{K H}{xs:List Sl}{L}(w:World K H (xs.map some++L)):World K H ((xs.map Sl.let).map some++L)/\Step H (xs.map some++L) H ((xs.map Sl.let).map some++L):=by
 have nd:=w.nd;rw[k9,X7]at nd;have cl:∀a∈xs.flatMap Sl.as,a∈j7 _\/a∈jK _:=λa ha=>by
  obtain⟨x,hx,hax⟩:=List.mem_flatMap.mp ha;exact(Sl.as_of hax).imp (λz=>mem_owned.mpr #[x,Xw hx,z]) λz=>mem_frozen.mpr #[x,Xw hx,z]
 refine#[#[λx hx=>?_,by rw[k9,KJ];exact nd.2.1,λa ha hf=>?_],λ_ _ h _=>h,λa ha=>?_,λa ha=>?_]
 ·rcases aA hx with hx|hx
  ·obtain⟨y,hy,e⟩:=aE hx;cases e;obtain⟨z,hz,rfl⟩:=aE hy;exact W7 (w.ok z (ll9 _ (Xw hz)))
  ·exact w.ok x (lr9 _ hx)
 ·rw[k9,KJ]at ha;rw[qQ,jzf]at hf;rcases aA hf with z|z
  ·rcases cl a z with z|z
   ·exact nd.2.2 a z a ha rfl
   ·exact w.ds a (by simp_all) (by simp_all)
  ·exact w.ds a (by simp_all) (by simp_all)
 ·rw[k9,KJ]at ha
  simp_all
 ·rw[qQ,jzf]at ha;rw[qQ,k9];rcases aA ha with z|z
  ·rcases cl a z with z|z
   ·exact .inr (.inl (ll9 _ z))
   ·exact .inl (ll9 _ z)
  ·exact .inl (lr9 _ z)
theorem wvm(D:k8 X.prog X.w X.K X.mg X.base k x ps (spF Z.K Z.mg n f))(hr:Room k X.A)(g:zq X Z.EX)(ha:QA X Z q cs (e::es))(hn:autoParam (cs.length=n) Ŕ)(hg:autoParam (Gl X x) Ŕ)(eh:autoParam (Abd x) ŕ)
  (he:autoParam (Abs e es X) Ŕ) (bv:autoParam (Abb pos es X) Ŕ):
  QE X Z q (jq f cs) (.Call (.Name x p) (e::es) [] pos):=kW (vxr D hr g ha hg eh he bv) fun σ H Q bb=>ex8 bb λE L r m w hc xc kk=>
 wkx m w (hc) xc λE1 ys h1 hl xs L1 H1 e1 m1 w1 st sm=>by
  rw [Xr];have az:xs.length=n:=by rw[<-hn,<-hl,<-e1,X1]
  cases hf:f (letAll ys)with
  | none=>simp_all
  | some fr=>
   rw[hf]at h1;obtain⟨wl,sl⟩:=kvn w1;have ev:xs.map Sl.v=(xs.map Sl.let).map Sl.v:=by rw[Xu];rfl
   rw[ev];refine#[xs.map Sl.let,fr,rfl,by rw[X1];exact az,wl.left,by rw[<-e1]at hf;rw[qq5];exact hf,λE' c ee C H' hm s'=>?_,λE' a ee y H' e2 e3 w' s'=>?_]
   ·subst ee;cases oq9 h1;obtain⟨w2,s2⟩:=stay wl s' #[λ_ z=>(nomatch z),Yg,λ_ z=>(nomatch z)];exact xc _ _ rfl C L1 H' hm m1 w2 ((st.trans sl).trans s2)
   ·subst ee;cases oq9 h1;obtain⟨w2,s2⟩:=stay wl s' w';refine kk _ _ rfl y L1 H' e2 e3 m1 w2 ((st.trans sl).trans s2) λhq=>?_
    obtain⟨a1,a2⟩:=sm hq;refine#[λb ob hb=>s'.keep b ob (a1 b ob hb) λz=>?_,λb hb=>?_]
    ·rw[KJ]at z;exact nomatch z
    ·rcases s'.own b (ll9 _ hb)with z|z
     ·rw[KJ]at z;exact nomatch z
     ·exact K2 a1 z
end
noncomputable def wv1(K:Frag):R2:=λx y H Q=>∃l k xs,x=.ref l/\y=.int k/\LsR K H l xs/\-(2 ^ 63)<=k/\k<2 ^ 63/\xs.length*k.toNat<=sizeLine /\
 ∀p,H p=none->Q (.ref p) (upd H p (.lst (List.replicate k.toNat xs).flatten))
theorem op_repR{X}:OpR X (binaryOp .Mult) (wv1 X.K):=by
 rintro a7 s σ H x y v u Q I rx ry ⟨l,k,xs,rfl,rfl,hH,h1,h2,hz,q⟩;cases rx;obtain⟨t,rfl⟩:=ry;obtain⟨z,aq,n,r,e⟩:=hH.is I;have az:aq.toArray.size*k.toNat<=sizeLine:=by rw[Xe,<-r.length];exact hz
 have hcap:¬aq.toArray.size*k.toNat>(2 ^ 63 - 1) / 8:=by
  have:sizeLine<=(2 ^ 63 - 1) / 8:=⋯
  lia
 have ul:¬(!Builtin.List.listFitsIndex k)=true:=by
  rw[fitsIndex_both h1 h2];exact Bool.false_ne_true
 have u6:¬Builtin.List.listTooLong (aq.toArray.size*k.toNat)=true:=by
  rw[vw7 az];exact Bool.false_ne_true
 have mz:List.foldl (λx1 x2=>x1++x2) (List.toArray []) (List.replicate (if aq.toArray.isEmpty=true then 0 else k.toNat) aq.toArray)=(List.replicate k.toNat aq).flatten.toArray:=by
  have f0:∀m,List.foldl (λx1 x2=>x1++x2) (List.toArray []) (List.replicate m aq.toArray)=(List.replicate m aq).flatten.toArray:=λm=>by
   have:=kqq aq m []
   simp_all
  cases aq with|nil=>simp|cons a r'=>simp_all
 refine wpAny_binaryOp_repeat_ref ⋯ #[_,e,rfl] (λs'=>typeIs_int s' k t) noFill_list_mul F.fills_int_mul F.slot_int_rmul repeat_list F.slot_int_index.lookup
  (call_meets F.slot_int_rmul (typeIs_int s k t) F.entry_int_rmul (F.args_int_rmul_2 _ _) (int___rmul___int_list k t l aq.toArray n)
   #[e,rfl,#[_,e,rfl],call_meets F.slot_list_mul #[_,e,rfl] F.entry_list_mul (F.args_list_mul_2 _ _) (AutoListH.list___mul___list_int_3 l aq.toArray n k t ul hcap u6) #[e,?_]])
 rw[mz];exact#[.ref _,_,I.lnew (t':=s.toks) (r.rep k.toNat) (by rw[vk7,Nat.mul_comm];exact hz),rfl,q _ I.fresh]
noncomputable def vzy(K:Frag):R2:=λx y H Q=>rI IntMulOk (λi j=>.int (i*j)) x y H Q\/wv1 K x y H Q\/wv0 x y H Q
theorem wwi{X K}(hK:autoParam (X.K=K) Ŕ):OpR X (binaryOp .Mult) (vzy K):=by subst hK;exact op_mulI.or (op_repR.or wjn)
theorem qvp{a}(h:a.natAbs.log2<2000000):Builtin.Int.intBits a<=2000000:=by
 unfold Builtin.Int.intBits
 split
 ·simp_all
 ·omega
theorem mulOk_of{a b}(h:qxa a b=true):IntMulOk a b:=by
 unfold qxa qzp at h;simp at h;rcases h with(h|h)|h
 ·exact .of_left (intBits_le_64 h.1 h.2)
 ·exact .of_right (intBits_le_64 h.1 h.2)
 ·have h1:=qvp h.1;have h2:=qvp h.2;unfold IntMulOk Builtin.Int.intTooBig;have e:2 ^ 27=134217728:=⋯
  have hb:bitsLine=134217728:=e
  grind
theorem RepA.reps{K H ds xs bs}(h:RepA K H true ds xs bs):∀k,∃cs,RepA K H true (List.replicate k ds).flatten (List.replicate k xs).flatten cs/\∀b∈cs,b∈bs
 |0=>#[[],by simp only[List.replicate_zero,List.flatten_nil];unfold RepA;exact#[rfl,rfl],λ_ z=>(nomatch z)]
 |k+1=>by
  obtain⟨cs,r,hc⟩:=RepA.reps h k;exact#[bs++cs,r.app h,λb hb=>(aA hb).elim id (hc b)]
set_option tactic.hygienic true in
theorem vz9{K}:Ad2 K (vzy K) wxi:=by
 intro H x y s Q ox oy hf k;unfold wxi at hf;dsimp only at hf
 split at hf
 ·rename_i i j e1 e2
  split at hf
  ·rename_i hm;cases oq9 hf;exact .inl #[i,j,v7 ox e1,v7 oy e2,mulOk_of hm,k _ H rfl rfl V4]
  ·cases hf
 ·rename_i a n e1 e2
  split at hf
  ·rename_i hc;cases oq9 hf;obtain⟨l,xs,bs,e3,q3,r3,h3⟩:=KW ox (.inl e1) hc.2.2.2;have q3:LsR K H l xs:=by rcases q3 with⟨_,z⟩|⟨z,_⟩;exact z;rw[e1]at z;cases z
   obtain⟨cs,r4,h4⟩:=r3.reps n.toNat;exact .inr (.inl #[l,n,xs,e3,v7 oy e2,q3,hc.1,hc.2.1,by rw[<-r3.len];exact hc.2.2.1,λp hp=>(k _ _ rfl rfl (W9 hp r4 λb hb=>ll9 _ (h3 b (h4 b hb))))])
  ·cases hf
 ·rename_i z n e1 e2
  split at hf
  ·rename_i hc;cases oq9 hf;exact .inr (.inr #[z,n,(wZ ox e1).1,v7 oy e2,hc.1,k _ H rfl rfl (ZK hc.2)])
  ·cases hf
 ·cases hf
noncomputable def dec(h:Heap)(u:Value):D:=open Classical in if e:∃d,vW h d u then e.choose else .non
theorem vq1{h u d}(r:vW h d u):dec h u=d:=by
 unfold dec;have e:∃d,vW h d u:=#[d,r];rw[dif_pos e];exact kxo e.choose_spec r
theorem kv2{h d}:∀{ds us},CReps h ds us->us.any (λu=>peq (dec h u) d)=ds.any λz=>peq z d
 |[],_,r=>by rw[r];rfl
 |z::ds,_,r=>by
  obtain⟨u,rr,rfl,h1,h2⟩:=r;rw[List.any_cons,List.any_cons,vq1 h1,kv2 h2]
theorem kxb{h}:∀{ds us u},CReps h ds us->u∈us->∃d∈ds,vW h d u
 | [],_,_,r,hu=>by rw[r]at hu;cases hu
 | z::ds,_,u,r,hu=>by
  obtain⟨u',rr,rfl,h1,h2⟩:=r;rcases aD hu with rfl|hu
  ·exact#[z,X2,h1]
  ·obtain⟨d,hd,c⟩:=kxb h2 hu;exact#[d,lc9 _ hd,c]
theorem kqr:∀{n ds d},D.flats n ds=true->d∈ds->d.flat n=true
 |_,[],_,_,h=>by grind
 |n,z::ds,d,f,h=>by
  unfold D.flats at f;rw[Bool.and_eq_true]at f;rcases aD h with rfl|h
  ·exact f.1
  ·exact kqr f.2 h
section
variable {X:Cx}{Z:Fx0}{K:Frag}{q qa qb:Bool}{a b c:Ex}{u v:Ts}{e ea eb:Expr}{es:List Expr}{pos p:Pos}{σ:L2.St}{H:Hp}{L:Ls}{E:En}
noncomputable def vj3(K:Frag)(p0:Bool):R2:=λx y H Q=>∃d ds as bs p xs,RepL K H true d x as/\y=.ref p/\(SqL K H p xs\/SqT K H p xs)/\RepA K H true ds xs bs/\d.flat 30=true/\D.flats 30 ds=true/\Q (.bl (if p0 then !(ds.any λz=>peq z d)else ds.any λz=>peq z d)) H
theorem wjp(hu:X.A.units+64<cLine):OpR X (compareOp .In) (vj3 X.K false):=by
 rintro a7 s σ H x y v u Q I rx ry ⟨d,ds,as,bs,p,xs,h1,rfl,hq,ra,f1,f2,q⟩;cases ry;have he:∀{us},CReps s.heap ds us->∀w,w∈us.toArray->SeqAt.EqAt X.A.in1 s w v (peq (dec s.heap w) d):=fun {us} cr w hw=>by
  obtain⟨d',hd,c⟩:=kxb cr (by simpa using hw);rw[vq1 c];exact qjv 30 (kqr f2 hd) c (YX I h1 f1 rx) (by grind)
 rcases hq with hq|hq
 ·obtain⟨aq,r,pl,hz⟩:=I.list hq;have cr:=creps_of I ra f2 r;refine SeqAt.in_listAt _ pl.isList (he cr) #[.bl _,H,I,rfl,?_]
  rwa [List.any_toArray,kv2 cr]
 ·obtain⟨aq,r,pl,hz⟩:=I.tuple hq;have cr:=creps_of I ra f2 r;refine SeqAt.in_tupleAt _ pl (he cr) #[.bl _,H,I,rfl,?_]
  rwa [List.any_toArray,kv2 cr]
theorem qx5(hu:X.A.units+64<cLine):OpR X (compareOp .NotIn) (vj3 X.K true):=by
 rintro a7 s σ H x y v u Q I rx ry ⟨d,ds,as,bs,p,xs,h1,rfl,hq,ra,f1,f2,q⟩;cases ry;have he:∀{us},CReps s.heap ds us->∀w,w∈us.toArray->SeqAt.EqAt X.A.in1 s w v (peq (dec s.heap w) d):=fun {us} cr w hw=>by
  obtain⟨d',hd,c⟩:=kxb cr (by simpa using hw);rw[vq1 c];exact qjv 30 (kqr f2 hd) c (YX I h1 f1 rx) (by grind)
 rcases hq with hq|hq
 ·obtain⟨aq,r,pl,hz⟩:=I.list hq;have cr:=creps_of I ra f2 r;refine SeqAt.notIn_listAt _ pl.isList (he cr) #[.bl _,H,I,rfl,?_]
  rwa [List.any_toArray,kv2 cr]
 ·obtain⟨aq,r,pl,hz⟩:=I.tuple hq;have cr:=creps_of I ra f2 r;refine SeqAt.notIn_tupleAt _ pl (he cr) #[.bl _,H,I,rfl,?_]
  rwa [List.any_toArray,kv2 cr]
noncomputable def vj2(p0:Bool):R2:=λx y H Q=>∃i j,x=.str i/\y=.str j/\Q (.bl (if p0 then !Jq i j else Jq i j)) H
theorem opInStr:OpR X (compareOp .In) (vj2 false):=λa7 s σ H x y v u Q I rx ry hz=>by obtain⟨i,j,e1,e2,q⟩:=hz;exact vjq a7 s σ H x y v u Q I rx ry #[i,j,e1,e2,q]
theorem opNotInStr:OpR X (compareOp .NotIn) (vj2 true):=λa7 s σ H x y v u Q I rx ry hz=>by obtain⟨i,j,e1,e2,q⟩:=hz;exact kzy a7 s σ H x y v u Q I rx ry #[i,j,e1,e2,q]
noncomputable def wv5(K:Frag)(p0:Bool):R2:=λx y H Q=>vj2 p0 x y H Q\/vj3 K p0 x y H Q
theorem vjr(hu:X.A.units+64<cLine)(hK:autoParam (X.K=K) Ŕ):OpR X (compareOp .In) (wv5 K false):=by subst hK;exact opInStr.or (wjp hu)
theorem kwz(hu:X.A.units+64<cLine)(hK:autoParam (X.K=K) Ŕ):OpR X (compareOp .NotIn) (wv5 K true):=by subst hK;exact opNotInStr.or (qx5 hu)
theorem Kq{H l xs}(h:LsR K H l xs):SqL K H l xs:=h.sq
theorem kxh{x y:Sl}{ys}{p0:Bool}{Q}(ox:x.ok K H)(oy:y.ok K H)(hy:y.d=.lst ys\/y.d=.tup ys)(hc:(x.d.flat 30&&D.flats 30 ys)=true)
  (k:Q (.bl (if p0 then !(ys.any λz=>peq z x.d)else ys.any λz=>peq z x.d)) H):wv5 K p0 x.v y.v H Q:=by
 rw[Bool.and_eq_true]at hc;obtain⟨l,xs,bs,e3,q3,r3,_⟩:=items oy hy;have r3':RepA K H true ys xs bs:=by
  cases ho:(y.o != .dp)with|true=>rw[ho]at r3;exact r3|false=>rw[ho]at r3;exact r3.wk
 refine .inr #[x.d,ys,x.as,bs,l,xs,RepO.wk ox,e3,?_,r3',hc.1,hc.2,k];rcases q3 with⟨_,z⟩|⟨_,z⟩
 ·exact .inl (Kq z)
 ·exact .inr z
set_option tactic.hygienic true in
theorem vqr:Ad2 K (wv5 K false) (pu2 wj):=by
 intro H x y s Q ox oy hf k;unfold pu2 wj fIn at hf;dsimp only at hf;cases hy:y.d with
 | lst ys=>
  rw[hy]at hf;dsimp only at hf
  split at hf
  ·rename_i hc;cases oq9 hf;exact kxh ox oy (.inl hy) hc (k _ H rfl rfl x9)
  ·cases hf
 | tup ys=>
  rw[hy]at hf;dsimp only at hf
  split at hf
  ·rename_i hc;cases oq9 hf;exact kxh ox oy (.inr hy) hc (k _ H rfl rfl x9)
  ·cases hf
 | str b=>
  rw[hy]at hf;dsimp only at hf
  split at hf
  ·rename_i a hx;cases oq9 hf;exact .inl #[a,b,(wZ ox hx).1,(wZ oy hy).1,k _ H rfl rfl x9]
  ·cases hf
 |_=>simp_all
set_option tactic.hygienic true in
theorem kxv:Ad2 K (wv5 K true) (pu2 K0):=by
 intro H x y s Q ox oy hf k;unfold pu2 K0 qjs fIn at hf;dsimp only at hf;cases hy:y.d with
 | lst ys=>
  rw[hy]at hf;dsimp only at hf
  split at hf
  ·rename_i hc;cases oq9 hf;exact kxh ox oy (.inl hy) hc (k _ H rfl rfl x9)
  ·cases hf
 | tup ys=>
  rw[hy]at hf;dsimp only at hf
  split at hf
  ·rename_i hc;cases oq9 hf;exact kxh ox oy (.inr hy) hc (k _ H rfl rfl x9)
  ·cases hf
 | str b=>
  rw[hy]at hf;dsimp only at hf
  split at hf
  ·rename_i a hx;cases oq9 hf;exact .inl #[a,b,(wZ ox hx).1,(wZ oy hy).1,k _ H rfl rfl x9]
  ·cases hf
 |_=>rw[hy]at hf;cases hf
theorem kkj{g d v as}(h:RepL K H g d v as):decide (v=.non)=isNon d:=by
 cases d with|non=>unfold RepL at h;rw[h.1];rfl|bl _=>unfold RepL at h;rw[h.1];rfl|int _=>unfold RepL at h;rw[h.1];rfl|str _=>unfold RepL at h;rw[h.1];rfl|tup _=>unfold RepL at h;obtain⟨a,xs,e,_⟩:=h;rw[e];rfl|lst _=>unfold RepL at h;obtain⟨a,xs,bs,e,_⟩:=h;rw[e];rfl|dct _=>unfold RepL at h;obtain⟨a,xs,bs,e,_⟩:=h;rw[e];rfl|obj _ _=>unfold RepL at h;obtain⟨_,x,o,C,e,_⟩:=h;rw[e];rfl
set_option tactic.hygienic true in
theorem vza:Ad2 K (λx y H Q=>y=.non/\Q (.bl (decide (x=.non))) H) (f2First fIsNon):=by
 intro H x y s Q ox oy hf k;unfold f2First fIsNon at hf
 split at hf
 ·rename_i hy;cases oq9 hf;have e:=kkj (RepO.wk oy);rw[hy]at e;refine#[Y7 e,?_];rw[kkj (RepO.wk ox)];exact k _ H rfl rfl x9
 ·grind
set_option tactic.hygienic true in
theorem vqq:Ad2 K (λx y H Q=>y=.non/\Q (.bl (!decide (x=.non))) H) (f2First fNotNon):=by
 intro H x y s Q ox oy hf k;unfold f2First fNotNon at hf
 split at hf
 ·rename_i hy;cases oq9 hf;have e:=kkj (RepO.wk oy);rw[hy]at e;refine#[Y7 e,?_];rw[kkj (RepO.wk ox)];exact k _ H rfl rfl x9
 ·grind
set_option tactic.hygienic true in
theorem wz6:Ad1 K (rU λi=>.int (-i)) (pu1 xJ):=by
 intro H x s Q ox hf k;unfold pu1 xJ at hf
 split at hf
 ·rename_i i e;cases oq9 hf;exact#[i,v7 ox e,k _ H rfl rfl V4]
 ·cases hf
theorem vkg n i:_root_.Q.ixN n i=L2.ixN n i:=rfl
theorem wk4{x y:Sl}{d Q}(ox:x.ok K H)(oy:y.ok K H)(hf:jw x.d y.d=some d)(k:∀z:Sl,z.o=sub x.o->z.d=d->z.ok K H->(∀b∈z.frz,b∈x.frz)->(∀b∈z.as,b∈x.as)->Q z.v H):rIx K x.v y.v H Q:=by
 have seq:∀ds,(x.d=.lst ds\/x.d=.tup ds)->∀i,y.d=.int i->((_root_.Q.ixN ds.length i).bind λj=>ds[j]?)=some d->rIx K x.v y.v H Q:=by
  intro ds hx i hy hd;obtain⟨l,xs,bs,e3,q3,r3,h3,h4⟩:=items ox hx;cases hj:_root_.Q.ixN ds.length i with
  | none=>grind
  | some j=>
   rw [hj]at hd;obtain⟨v,cs,e4,r4,h5⟩:=r3.get (hd);have nu:atI xs i=some v:=by
    unfold atI
    rwa [<-r3.len,<-vkg,hj]
   have fin:Q v H:=by
    cases ho:x.o with
    | dp=>
     rw[ho]at r4;exact k #[.dp,d,v,cs] (by rw[ho];rfl) rfl r4 (λb hb=>(nomatch hb)) λb hb=>h3 b (h5 b hb)
    | no=>
     rw[ho]at r4;exact k #[.no,d,v,cs] (by rw[ho];rfl) rfl r4 (λb hb=>h4 ⋯ b (h5 b hb)) λb hb=>h3 b (h5 b hb)
    | rt=>
     rw[ho]at r4;exact k #[.no,d,v,cs] (by rw[ho];rfl) rfl r4 (λb hb=>h4 ⋯ b (h5 b hb)) λb hb=>h3 b (h5 b hb)
   rcases q3 with⟨_,z⟩|⟨_,z⟩
   ·exact .inl #[l,xs,i,v,e3,v7 oy hy,Kq z,nu,fin]
   ·exact .inr (.inl #[l,xs,i,v,e3,v7 oy hy,z,nu,fin])
 unfold jw at hf;cases hx:x.d with
 | lst ds=>
  rw [hx]at hf;cases hy:y.d with| int i=>rw[hy]at hf;exact seq ds (.inl hx) i hy hf| _=>rw[hy]at hf;cases hf
 | tup ds=>
  rw [hx]at hf;cases hy:y.d with| int i=>rw[hy]at hf;exact seq ds (.inr hx) i hy hf| _=>rw[hy]at hf;cases hf
 | str z=>
  rw [hx]at hf;cases hy:y.d with
  | int i=>
   rw [hy]at hf;have hf:((_root_.Q.ixN z.cps.size i).bind λj=>(z.cps.toList[j]?).map λc=>D.str #[(List.toArray [c])])=some d:=hf;cases hj:_root_.Q.ixN z.cps.size i with
   | none=>grind
   | some j=>
    rw[hj]at hf;cases hc:z.cps.toList[j]? with
    | none=>rw[Option.bind_some,hc]at hf;cases hf
    | some c=>
     rw[Option.bind_some,hc]at hf;cases oq9 hf;have nu:atI z.cps.toList i=some c:=by
      unfold atI
      rwa [Xb,<-vkg,hj]
     obtain⟨e1,hz⟩:=wZ ox hx;refine .inr (.inr #[z,i,c,e1,v7 oy hy,hz,nu,?_]);have rp:∀g,RepL K H g _ (.str #[(List.toArray [c])]) []:=λg=>Wk (show 1<=sizeLine by decide)
     cases ho:x.o with|dp=>exact k #[.dp,.str #[(List.toArray [c])],.str #[(List.toArray [c])],[]] (by rw[ho];rfl) rfl (rp false) (λb hb=>(nomatch hb)) λb hb=>(nomatch hb)|no=>exact k #[.no,.str #[(List.toArray [c])],.str #[(List.toArray [c])],[]] (by rw[ho];rfl) rfl (rp true) (λb hb=>(nomatch hb)) λb hb=>(nomatch hb)|rt=>exact k #[.no,.str #[(List.toArray [c])],.str #[(List.toArray [c])],[]] (by rw[ho];rfl) rfl (rp true) (λb hb=>(nomatch hb)) λb hb=>(nomatch hb)
  |_=>rw[hy]at hf;cases hf
 |non=>rw[hx]at hf;cases hf|bl _=>rw[hx]at hf;cases hf|int _=>rw[hx]at hf;cases hf|dct _=>simp_all|obj _ _=>rw[hx]at hf;cases hf
theorem q_ix(ha:QV X Z qa a ea)(hb:QV X Z true b eb)(hs:kjy eb)(hK:autoParam (X.K=Z.K) Ŕ):QV X Z qa (j8 a b) (.Subscript ea eb pos):=
 kW (vvz (hK▸qvw) ha hb hs) fun σ H Q bb=>ex8 bb λE L r m w hc xc k=>by
  refine vY m w (hc) xc λE1 s h1 x L1 H1 e1 e2 m1 w1 ok fr sr st sm=>(vY m1 w1 h1 (xc.step st) λE2 s2 h2 y L2 H2 e3 e4 m2 w2 mx uo uk st2 gz=>?_)
  obtain⟨z,hz,rfl⟩:=JJ h2;cases hf:jw s.2 s2.2 with
  |none=>simp_all
  |some d=>
   rw[hf]at hz;cases oq9 hz;have kx:=WK ok fr st2 (gz rfl);exact wk4 kx.1 mx (by rw[e2,e4];exact hf) λz zo zd qo zf za=>k _ _ rfl z L2 H2 (by simp_all) zd m2 w2 qo (λb hb=>kx.2 b (zf b hb)) (XW sr za) (st.trans st2) λhq=>qk (sm hq) (gz rfl)
theorem wvn(ht:QT X Z q u e)(ha:QE X Z q a ea)(hb:QE X Z q b eb):QE X Z q (cIf u a b) (.IfExp e ea eb pos):=kW (vw0 ht ha hb) fun σ H Q bb=>ex8 bb λE L r m w hc xc k=>
 vv4 m w (hc) xc λE1 s h1 L1 H1 m1 w1 st sm=>by
  have fin:∀{c},c E1=some r->tQ Z q c σ H1 Q:=λhc=>#[E1,L1,r,m1,w1,hc,xc.step st,λE' a z x L' H' e1 e2 m' w' dq jt=>k E' a z x L' H' e1 e2 m' w' (st.trans dq) λhq=>#[qk (sm hq) (jt hq).1,λb hb=>K2 (sm hq) ((jt hq).2 b hb)]]
  cases s with|true=>simp_all|false=>rw[Xd (by simp)]at h1 ⊢;exact fin h1
theorem z9{op}(h:QE X Z q a ea):QE X Z q a (.BoolOp op [ea] pos):=ww3 h
theorem J5(ha:QV X Z q a ea)(hb:QE X Z q b (.BoolOp .And (eb::es) pos)):QE X Z q (x6 a b) (.BoolOp .And (ea::eb::es) pos):=kW (ww7 ha hb) fun σ H Q bb=>ex8 bb λE L r m w hc xc k=>
 vY m w (hc) xc λE1 s h1 x L1 H1 e1 e2 m1 w1 ok fr sr st sm=>by
  cases hs:s.2 with
  | bl kk=>
   rw[hs]at h1;refine#[kk,QY ok (e2.trans hs),?_];cases kk with
   |true=>
    exact#[E1,L1,r,m1,w1,h1,xc.step st,λE' a z x L' H' e1 e2 m' w' dq jt=>k E' a z x L' H' e1 e2 m' w' (st.trans dq) λhq=>#[qk (sm hq) (jt hq).1,λb hb=>K2 (sm hq) ((jt hq).2 b hb)]]
   |false=>
    cases oq9 h1;obtain⟨w3,dy⟩:=VQ w1 st (x9 (fr:=[])) (λ_ z=>(nomatch z)) (λ_ z=>(nomatch z)) (λ_ z=>(nomatch z));exact k _ _ rfl _ L1 H1 rfl rfl m1 w3 dy λhq=>#[sm hq,λ_ z=>(nomatch z)]
  |_=>rw[hs]at h1;cases h1
theorem wvd(ha:QV X Z q a ea)(hb:QE X Z q b (.BoolOp .Or (eb::es) pos)):QE X Z q (cOr a b) (.BoolOp .Or (ea::eb::es) pos):=kW (xjp ha hb) fun σ H Q bb=>ex8 bb λE L r m w hc xc k=>
 vY m w (hc) xc λE1 s h1 x L1 H1 e1 e2 m1 w1 ok fr sr st sm=>by
  cases hs:s.2 with
  | bl kk=>
   rw[hs]at h1;refine#[kk,QY ok (e2.trans hs),?_];cases kk with
   |false=>
    exact#[E1,L1,r,m1,w1,h1,xc.step st,λE' a z x L' H' e1 e2 m' w' dq jt=>k E' a z x L' H' e1 e2 m' w' (st.trans dq) λhq=>#[qk (sm hq) (jt hq).1,λb hb=>K2 (sm hq) ((jt hq).2 b hb)]]
   |true=>
    cases oq9 h1;obtain⟨w3,dy⟩:=VQ w1 st (x9 (fr:=[])) (λ_ z=>(nomatch z)) (λ_ z=>(nomatch z)) (λ_ z=>(nomatch z));exact k _ _ rfl _ L1 H1 rfl rfl m1 w3 dy λhq=>#[sm hq,λ_ z=>(nomatch z)]
  |_=>rw[hs]at h1;cases h1
theorem xq0{x:Sl}{k}(ok:x.ok K H)(h:truth x.d=some k)(hd:∀bf,x.d≠.dct bf):wzv K x.v H k:=by
 cases hx:x.d with
 |non=>rw[hx]at h;rw[vjv ok hx];exact(oq9 h).symm|bl b=>rw[hx]at h;rw[QY ok hx];exact(oq9 h).symm|int i=>rw[hx]at h;rw[v7 ok hx];exact(oq9 h).symm
 |str z=>
  rw[hx]at h;obtain⟨e,hz⟩:=wZ ok hx;rw[e];refine#[hz,?_];rw[<-oq9 h];show _=(((z.cps.size:Nat):Int) != 0);rw[Bool.eq_iff_iff];simp
 |lst ds=>
  rw[hx]at h;obtain⟨a,xs,bs,e,q,r,_⟩:=items ok (.inl hx);rw[e];have q':LsR K H a xs:=by rcases q with⟨_,z⟩|⟨z,_⟩;exact z;rw[hx]at z;cases z
  refine .inl #[xs,Kq q',?_];rw[<-oq9 h];have:=r.len;cases ds<;>cases xs<;>simp_all
 |tup ds=>
  rw[hx]at h;obtain⟨a,xs,bs,e,q,r,_⟩:=items ok (.inr hx);rw[e];have q':SqT K H a xs:=by rcases q with⟨z,_⟩|⟨_,z⟩;rw[hx]at z;cases z;exact z
  refine .inr (.inl #[xs,q',?_]);rw[<-oq9 h];have:=r.len;cases ds<;>cases xs<;>simp_all
 |dct bf=>exact absurd hx (hd bf)|obj c f=>rw[hx]at h;cases h
theorem kz7{d k}(h:truthQ d=some k):truth d=some k/\∀bf,d≠.dct bf:=by
 cases d<;>first|exact#[h,λ_ z=>nomatch z]|cases h
theorem zV(h:QV X Z q a ea)(he:autoParam (∀gr,isTrue ea X.env gr=(do let v <-gr;standAt ea.pos;holding [v] (truthy v))) Ŗ)(hK:autoParam (X.K=Z.K) Ŕ):QT X Z q (tEQ a) ea:=qvj (vvq h he) fun σ H Q bb=>ex8 bb λE L r m w hc xc k=>
 vY m w (show bnd (a E) _=some r from hc) xc λE1 s h1 x L1 H1 e1 e2 m1 w1 ok fr sr st sm=>by
  obtain⟨kk,hk,rfl⟩:=JJ h1;obtain⟨h2,h3⟩:=kz7 hk;exact#[kk,hK▸xq0 ok (by rw[e2];exact h2) (by rw[e2];exact h3),k _ _ rfl L1 H1 m1 w1 st sm]
theorem vvp(h:QV X Z q a ea)(hK:autoParam (X.K=Z.K) Ŕ):QE X Z q (Zw a) (.UnaryOp .Not ea pos):=by
 intro a7 s σ H Q I ⟨E,L,r,m,w,hc,xc,k⟩;refine UnaryOp_ (thn (h a7 s σ H _ I (vY (G:=λv H1=>∃kk,wzv X.K v H1 kk/\Q (.bl (!kk)) H1) m w (hc) xc λE1 s h1 x L1 H1 e1 e2 m1 w1 ok fr sr st sm=>?_)) λv s1 #[x,H1,I1,r1,kk,t1,q1]=>?_)
 ·obtain⟨y,hy,rfl⟩:=JJ h1;cases hk:truthQ s.2 with
  |none=>simp_all
  |some kk=>
   rw[hk]at hy;cases oq9 hy;obtain⟨h2,h3⟩:=kz7 hk;refine#[kk,hK▸xq0 ok (by rw[e2];exact h2) (by rw[e2];exact h3),?_];obtain⟨w3,dy⟩:=VQ w1 st (x9 (fr:=[])) (λ_ z=>(nomatch z)) (λ_ z=>(nomatch z)) (λ_ z=>(nomatch z));exact k _ _ rfl _ L1 H1 rfl rfl m1 w3 dy λhq=>#[sm hq,λ_ z=>(nomatch z)]
 ·exact not_of (thn (vxd a7 s1 σ H1 x v _ I1 r1 #[kk,t1,q1]) λc s2 hz=>by obtain⟨H2,I2,q2⟩:=hz;exact#[.bl _,H2,I2,rfl,q2])
end
theorem jxk{α:Type}:∀{L i} {q:α},L[i]?=some q->∃A B,L=A++q::B/\∀q',L.set i q'=A++q'::B
 |[],_,_,h=>by simp at h
 |a::L,0,q,h=>by
  have e:a=q:=by simpa using h
  subst e;exact#[[],L,rfl,λ_=>rfl]
 |a::L,i+1,q,h=>by
  obtain⟨A,B,e,f⟩:=jxk (by simpa using h);exact#[a::A,B,by rw[e];rfl,λq'=>by rw[List.set_cons_succ,f];rfl]
section
variable {K:Frag}{H:Hp}{M T L:Ls}{y y':Sl}{l:Addr}{ob:HO}
theorem World.write(w:World K H (some y::(T++M)))(hl:l∈y.own)(ok':y'.ok K (upd H l ob))(nd:y'.own.Nodup)(h1:∀a∈y'.own,a∈y.own\/a∈j7 T)(h2:∀a∈y'.frz,a∈y.as\/a∈j7 T\/a∈jK T)(h3:∀a∈y'.own,a∉y'.frz):
  World K (upd H l ob) (some y'::M)/\Step H (some y::(T++M)) (upd H l ob) (some y'::M):=by
 have wn:=w.nd;rw [jW,k9,X7,X7]at wn;obtain⟨n1,⟨n2,n3,n4⟩,n5⟩:=wn;have oy:l∈j7 (some y::(T++M)):=ll9 _ hl;have ml:=w.own_al oy;have ds:∀a,(a∈y.own\/a∈j7 T\/a∈j7 M)->¬(a∈y.frz\/a∈jK T\/a∈jK M):=λa ha hf=>by
  refine w.ds a ?_ ?_
  ·rw[jW,k9];rcases ha with z|z|z
   ·exact ll9 _ z
   ·exact lr9 _ (ll9 _ z)
   ·exact lr9 _ (lr9 _ z)
  ·rw[ww,qQ];rcases hf with z|z|z
   ·exact ll9 _ z
   ·exact lr9 _ (ll9 _ z)
   ·exact lr9 _ (lr9 _ z)
 have noM:∀z,some z∈M->l∉z.as:=λz hz ha=>by
  rcases Sl.as_of ha with q|q
  ·exact n5 l hl l (lr9 _ (mem_owned.mpr #[z,hz,q])) rfl
  ·exact ds l (.inl hl) (.inr (.inr (mem_frozen.mpr #[z,hz,q])))
 have ke:∀a o,H a=some o->a≠l->upd H l ob a=some o:=λa o e ne=>by rw[kj ne];exact e
 have kp:∀as,l∉as->Kp H _ as:=λas hn=>by
  refine#[λa xs e=>ke a _ e λz=>?_,λa o u e=>ke a _ e λz=>?_,λa ha o e=>ke a o e λz=>hn (z▸ha)]
  ·grind
  ·subst z;rcases ml with⟨_,q⟩|⟨_,q⟩|⟨_,q⟩<;>(rw[e]at q;cases q)
 have wM:World K (upd H l ob) M:=by
  have w1:=w.tail.right;exact#[λz hz=>RepO.kp (w1.ok z hz) (kp _ (noM z hz)),w1.nd,w1.ds]
 refine#[wM.cons ok' nd (λa ha hM=>?_) (λa ha hM=>?_) (λa ha hM=>?_) h3,λa o e hn=>ke a o e λz=>hn (z▸oy),λa ha=>?_,λa ha=>?_]
 ·rcases h1 a ha with z|z
  ·exact n5 a z a (lr9 _ hM) rfl
  ·exact n4 a z a hM rfl
 ·rcases h1 a ha with z|z
  ·exact ds a (.inl z) (.inr (.inr hM))
  ·exact ds a (.inr (.inl z)) (.inr (.inr hM))
 ·rcases h2 a ha with z|z|z
  ·rcases Sl.as_of z with z|z
   ·exact n5 a z a (lr9 _ hM) rfl
   ·exact ds a (.inr (.inr hM)) (.inl z)
  ·exact n4 a z a hM rfl
  ·exact ds a (.inr (.inr hM)) (.inr (.inl z))
 ·rw[jW,k9];rcases aA ha with z|z
  ·rcases h1 a z with z|z
   ·exact .inl (ll9 _ z)
   ·exact .inl (lr9 _ (ll9 _ z))
  ·exact .inl (lr9 _ (lr9 _ z))
 ·rw[jW,k9,ww,qQ];rcases aA ha with z|z
  ·rcases h2 a z with z|z|z
   ·rcases Sl.as_of z with z|z
    ·exact .inr (.inl (ll9 _ z))
    ·exact .inl (ll9 _ z)
   ·exact .inr (.inl (lr9 _ (ll9 _ z)))
   ·exact .inl (lr9 _ (ll9 _ z))
  ·exact .inl (lr9 _ (lr9 _ z))
theorem World.writeAt{i}(w:World K H (T++L))(hy:L[i]?=some (some y))(hl:l∈y.own)(ok':y'.ok K (upd H l ob))(nd:y'.own.Nodup)(h1:∀a∈y'.own,a∈y.own\/a∈j7 T)(h2:∀a∈y'.frz,a∈y.as\/a∈j7 T\/a∈jK T)(h3:∀a∈y'.own,a∉y'.frz):
  World K (upd H l ob) (L.set i (some y'))/\Step H (T++L) (upd H l ob) (L.set i (some y')):=by
 obtain⟨A,B,e,f⟩:=jxk hy;rw[f];subst e;have p:(T++(A++some y::B)).Perm (some y::(T++(A++B))):=by
  refine(List.Perm.append_left T (List.perm_middle)).trans List.perm_middle
 obtain⟨w2,s2⟩:=World.write (w.perm p) hl ok' nd h1 h2 h3;exact#[w2.perm List.perm_middle.symm,s2.perm p.symm List.perm_middle.symm]
end
theorem RepA.snoc{K H g d x cs}(h:RepL K H g d x cs){ds xs bs}(r:RepA K H g ds xs bs):RepA K H g (ds++[d]) (xs++[x]) (bs++cs):=by
 refine RepA.app ?_ r;exact#[x,[],cs,[],rfl,by simp,h,by unfold RepA;exact#[rfl,rfl]]
theorem kwx{K H}{y:Sl}{ds}(ok:y.ok K H)(hd:y.d=.lst ds)(ho:y.o≠.no):∃l xs bs,y.v=.ref l/\H l=some (.lst xs)/\y.as=l::bs/\l∈y.own/\RepA K H (y.o != .dp) ds xs bs:=by
 obtain⟨o,d,v,as⟩:=y;dsimp only at hd ho;subst hd;cases o with
 |no=>exact absurd rfl ho
 |rt=>
  obtain⟨a,xs,bs,rfl,r,q,rfl⟩:=(ok);exact#[a,xs,bs,rfl,q,rfl,by simp[Sl.own],r]
 |dp=>
  have ok:RepL K H false _ v as:=ok;obtain⟨a,xs,bs,rfl,r,q⟩:=ok;rcases q with⟨q,rfl⟩|⟨z,_⟩
  ·exact#[a,xs,bs,rfl,q,rfl,by simp[Sl.own],r]
  ·grind
theorem kwv{K H T L i y l xs xs' bs cs o' ds'}(w:World K H (T++L))(hy:L[i]?=some (some y))(hH:H l=some (.lst xs))(ha:y.as=l::bs)(hl:l∈y.own)(hv:y.v=.ref l)
  (r:RepA K H (o' != .dp) ds' xs' cs) (hc:(o'=.rt/\∀a∈cs,a∈bs\/a∈j7 T\/a∈jK T)\/(o'=.dp/\y.o=.dp/\cs.Nodup/\∀a∈cs,a∈bs\/a∈j7 T)):
  World K (upd H l (.lst xs')) (L.set i (some #[o',.lst ds',y.v,l::cs]))/\Step H (T++L) (upd H l (.lst xs')) (L.set i (some #[o',.lst ds',y.v,l::cs])):=by
 have oL:=mem_owned.mpr #[y,vZ hy,hl];have oy:l∈j7 (T++L):=by rw[k9];exact lr9 _ oL
 have nd:=w.nd;rw [k9,X7]at nd;have nT:=λz=>nd.2.2 l z l oL rfl
 have yn:y.own.Nodup:=by
  obtain⟨A,B,e,_⟩:=jxk hy;have:=nd.2.1;rw[e,k9,X7]at this;exact(List.nodup_append.mp this.2.1).1
 have nb:l∉bs:=λz=>by
  cases ho:y.o with
  | no=>unfold Sl.own at hl;rw[ho]at hl;exact nomatch hl
  | rt=>
   have:l∈y.frz:=by unfold Sl.frz;rw[ho,ha];exact z
   exact w.ds l oy (by rw[qQ];exact lr9 _ (mem_frozen.mpr #[y,vZ hy,this]))
  | dp=>
   unfold Sl.own at yn;rw[ho,ha]at yn;exact(List.nodup_cons.mp yn).1 z
 have nc:l∉cs:=λz=>by
  rcases hc with⟨_,hc⟩|⟨_,_,_,hc⟩
  ·rcases hc l z with q|q|q
   ·exact nb q
   ·exact nT q
   ·exact(λz=>w.ds l oy (by rw[qQ];exact ll9 _ z)) q
  ·rcases hc l z with q|q
   ·exact nb q
   ·exact nT q
 have kp:Kp H (upd H l (.lst xs')) cs:=by
  have k2:∀a o,H a=some o->a≠l->upd H l (.lst xs') a=some o:=λa o e ne=>by rw[kj ne];exact e
  refine#[λa zs e=>k2 a _ e λz=>?_,λa o u e=>k2 a _ e λz=>?_,λa ha o e=>k2 a o e λz=>nc (z▸ha)]
  ·grind
  ·grind
 have r':=r.kp kp;rcases hc with⟨rfl,hc⟩|⟨rfl,hdp,sk,hc⟩
 ·refine World.writeAt w hy hl (y':=_) #[l,xs',cs,hv,r',xV,rfl] (by simp[Sl.own]) (λa h=>?_) (λa h=>?_) (λa h z=>?_)
  ·have:a=l:=by simpa [Sl.own]using h
   grind
  ·rcases hc a (by simpa [Sl.frz]using h)with q|q
   ·exact .inl (ha▸lc9 _ q)
   ·exact .inr q
  ·have:a=l:=by simpa [Sl.own]using h
   subst this;exact nc (by simpa [Sl.frz]using z)
 ·have oa:y.own=y.as:=by unfold Sl.own;rw[hdp]
  refine World.writeAt w hy hl (y':=_) ?_ (List.nodup_cons.mpr #[nc,sk]) (λa h=>?_) (λa h=>(nomatch h)) (λa h z=>(nomatch z))
  ·show RepL K _ false _ y.v _;exact#[l,xs',cs,hv,r',.inl #[xV,rfl]]
  ·rcases aD (h)with q|q
   ·grind
   ·rcases hc a q with q|q
    ·exact .inl (by rw[oa,ha];exact lc9 _ q)
    ·exact .inr q
section
variable {X:Cx}{Z:Fx0}{pn:List Nat}{q:Bool}{c:Ex}{e:Expr}{σ:L2.St}{H:Hp}{L:Ls}{E:En}
theorem vk3{K}{x:Sl}{ds}(ok:x.ok K H)(hd:x.d=.lst ds):tyV K "list" x.v H:=by
 obtain⟨a,xs,bs,e1,q1,_⟩:=items ok (.inl hd);rw[e1];rcases q1 with⟨_,z⟩|⟨z,_⟩
 ·exact .inl #[rfl,xs,z.sq]
 ·grind
theorem wxe{K}{x:Sl}(ok:x.ok K H) b (hb:b=false->vK x.sd=true):∃cs,RepL K H b x.d x.v cs/\(∀a∈cs,a∈x.as)/\(b=false->∀a∈cs,a∈x.own)/\(b=false->x.own.Nodup->cs.Nodup):=by
 cases b with
 | true=>exact#[x.as,RepO.wk ok,λ_ h=>h,(λz=>by cases z),(λz=>by cases z)]
 | false=>
  by_cases ho:x.o=.dp
  ·have e:x.own=x.as:=by unfold Sl.own;rw[ho]
   refine#[x.as,?_,λ_ h=>h,λ_ a h=>by rw[e];exact h,λ_ n=>by rw[e]at n;exact n];have:=ok;unfold Sl.ok at this;rw[ho]at this;exact this
  ·have hp:x.d.pure=true:=by
    rcases Bool.or_eq_true_iff.mp (hb rfl)with z|z
    ·exact absurd (by simpa using z) ho
    ·exact z
   obtain⟨z,rp⟩:=RepL.pu (g':=false) (RepO.wk ok) hp;exact#[[],rp,λ_ h=>(nomatch h),λ_ _ h=>(nomatch h),λ_ _=>Yg]
theorem V1{α:Type}{l:List α}{i x}(h:l[i]?=some x):l.set i x=l:=by
 obtain⟨h1,h2⟩:=List.getElem?_eq_some_iff.mp h;rw[<-h2];simp
theorem xqj {D' f i r} {G:V->V->Hp->Prop} (m:Mt E σ L) (w:World Z.K H L) (hc:wq f i c E=some r) (k:FlP Z pn D' σ H L r)
  (g:∀ l (x) (xs) (ds ds') (d) (bs cs) (H1) (gg),f ds d=some ds'->H1 l=some (.lst xs)->RepA Z.K H1 gg ds xs bs->RepL Z.K H1 gg d x cs ->
   (∀ xs' es,RepA Z.K H1 gg ds' xs' es->(∀a∈es,a∈bs\/a∈cs)->((bs++cs).Nodup->es.Nodup)->D'.nx σ (upd H1 l (.lst xs')))->G (.ref l) x H1):
  ∃ v,σ[i]?=some (some v)/\tyV Z.K "list" v H/\tQ Z q c σ H (G v):=by
 unfold wq at hc;cases h0:E[i]? with
 | none=>rw[h0]at hc;cases hc
 | some s0 =>
  cases s0 with
  | none=>rw[h0]at hc;cases hc
  | some s0=>
   obtain ⟨o0,d0⟩:=s0;cases d0 with
   | lst qs=>
    rw [h0]at hc;obtain ⟨x0,a1,a2,a3,a4⟩:=m.get h0;refine #[x0.v,a4,vk3 (w.ok x0 (vZ a1)) a3,(Qz m w hc k λE1 s h1 x L1 H1 e1 e2 m1 w1 st _=>?_)];cases hE:E1[i]? with
    | none=>rw[hE]at h1;cases h1
    | some s1=>
     cases s1 with
     | none=>rw[hE]at h1;cases h1
     | some s1=>
      obtain⟨oo,dd⟩:=s1;rw [hE]at h1;cases dd with
      | lst ds=>
       dsimp only at h1
       by_cases me:oo=.no
       ·rw [X8 me]at h1;cases h1
       ·rw [Xd me]at h1;cases hfd:f ds s.2 with
        | none=>rw[hfd]at h1;cases h1
        | some ds'=>
         rw[hfd]at h1;obtain⟨y,b1,b2,b3,b4⟩:=m1.get hE;have hv:y.v=x0.v:=by rw[a4]at b4;exact(oq9 (oq9 b4)).symm
         obtain⟨l,xs,bs,c1,c2,c3,c4,c5⟩:=kwx (w1.ok y (lc9 _ (vZ b1))) b3 (b2▸me);have ex0:=hv▸c1;rw[ex0];have wT:=w1;have sj:=w1.head;have nd:=w1.nd;rw[jW,X7]at nd;have oT:j7 [some x]=x.own:=by simp
         have fT:jK [some x]=x.frz:=by simp
         by_cases hd:oo=.dp/\vK s=true
         ·rw[X8 hd]at h1;cases oq9 h1;have hyo:=b2.trans hd.1;rw[hyo]at c5;obtain⟨cs,r1,h3,h4,h5⟩:=wxe sj false λ_=>by rw[show x.sd=s from by simp[Sl.sd,e1,e2]];exact hd.2
          refine g l x.v xs ds ds' s.2 bs cs H1 false hfd c2 c5 (e2▸r1) λxs' es re he hn=>?_
          have ynd:(bs++cs).Nodup:=by
           have yo:y.own=l::bs:=by unfold Sl.own;rw[hyo,c3]
           obtain⟨A,B,e,_⟩:=jxk b1;have q:=nd.2.1;rw[e,k9,jW,X7]at q;have q2:=(List.nodup_append.mp q.2.1).1;rw[yo]at q2;rw[X7];refine#[(List.nodup_cons.mp q2).2,h5 rfl nd.1,λa ha b hb jf=>?_];subst jf;exact nd.2.2 a (h4 rfl a hb) a (mem_owned.mpr #[y,vZ b1,by rw[yo];exact lc9 _ ha]) rfl
          obtain⟨w3,s3⟩:=kwv (o':=.dp) (ds':=ds') (xs':=xs') wT b1 c2 c3 c4 c1 re (.inr #[rfl,hyo,hn ynd,λa ha=>(he a ha).imp id λz=>by rw[oT];exact h4 rfl a z]);refine k σ _ _ Pn.refl ?_ w3 (st.trans s3);have:=m1.set (x:=#[.dp,.lst ds',y.v,l::es]) i;rw[V1 b4]at this;exact this
         ·rw[Xd hd]at h1;cases oq9 h1;have c6:RepA Z.K H1 true ds xs bs:=by
           cases hb:(y.o != .dp)with|true=>rw[hb]at c5;exact c5|false=>rw[hb]at c5;exact c5.wk
          refine g l x.v xs ds ds' s.2 bs x.as H1 true hfd c2 c6 (e2▸RepO.wk sj) λxs' es re he hn=>?_
          obtain⟨w3,s3⟩:=kwv (o':=.rt) (ds':=ds') (xs':=xs') wT b1 c2 c3 c4 c1 re (.inl #[rfl,λa ha=>(he a ha).imp id λz=>by rw[oT,fT];exact Sl.as_of z]);refine k σ _ _ Pn.refl ?_ w3 (st.trans s3);have:=m1.set (x:=#[.rt,.lst ds',y.v,l::es]) i;rw[V1 b4]at this;exact this
      |_=>cases h1
   |_=>rw[h0]at hc;cases hc
theorem xjn{i o bi au pos}(hb:PE X (.Call (.Attribute o "append" bi) [e] [] au) (tBM Z.K "list" kq5 (J4 i) (vv7 (tQ Z q c) wzj)))(hs:autoParam (swapsWith (.Call (.Attribute o "append" bi) [e] [] au) none pos.line X.env=pure false) Ŕ):
  QS X Z pn (wq xj i c) (.Expr (.Call (.Attribute o "append" bi) [e] [] au) pos):=zJ (WV hb hs) λD σ H bb=>ex7 bb λE L r m w hc k=>
 xqj m w hc k λl x xs ds ds' d bs cs H1 gg hf hH ra rx fin=>by
  unfold xj at hf
  by_cases hl:ds.length<big
  ·rw[X8 hl]at hf;cases oq9 hf;exact#[l,xs,x,rfl,rfl,hH,by rw[<-ra.len];exact hl,fin _ _ (RepA.snoc rx ra) (λa ha=>aA ha) λh=>h]
  ·rw[Xd hl]at hf;cases hf
end
section
variable {X:Cx}{Z:Fx0}{pn:List Nat}{q:Bool}{kc vc:Ex}{e ke ve:Expr}{st:Stmt}
set_option tactic.hygienic true in
theorem xje{g0 g}{i:Nat}{W:V->V->V->Hp->(Hp->Prop)->Prop}(hp:PS X st λD σ H=>tQ Z q vc σ H λv H1=>J4 i σ H1 λo H2=>tV Z true kc σ H2 λy H3=>W o y v H3 λH4=>D.nx σ H4)(hg:g0 none=false/\g0 (some none)=false)
  (spec:∀{H L} {y x z:Sl} {d} {C:Hp->Prop},L[i]?=some (some y)->World Z.K H (some x::L)->z.ok Z.K H->g (y.o,y.d) z.d x.d=some d->(∀H' as,World Z.K H' (L.set i (some #[.rt,d,y.v,as]))->Step H (some x::L) H' (L.set i (some #[.rt,d,y.v,as]))->C H')->W y.v z.v x.v H C):
  QS X Z pn (wzm g0 g i kc vc) st:=zJ hp λD σ H bb=>ex7 bb λE L r m w hr k=>
 Qz m w hr k λE1 s1 h1 x L1 H1 e1 e2 m1 w1 st1 _=>by
  split at h1
  ·rename_i hd
   match h0:E1[i]? with
   |none=>rw[h0,hg.1]at hd;cases hd|some none=>rw[h0,hg.2]at hd;cases hd
   |some (some s0)=>
   obtain⟨y0,a1,a2,a3,a4⟩:=m1.get h0;refine#[y0.v,a4,?_];rcases XY h1 with⟨E2,ky,hk1,hk2⟩|⟨E2,c,hk1,rfl⟩
   ·refine#[E1,L1,_,m1,w1.tail,hk1,(λ_ _ z=>by cases z),λE' s' z zk L2 H2 f1 f2 m2 w2 vy frz _ st2 sm=>?_];injection z with z1 z2;subst z1 z2
    match hE:E2[i]? with
    |none=>rw[hE]at hk2;cases hk2|some none=>rw[hE]at hk2;cases hk2
    |some (some s2)=>
    rw[hE]at hk2;obtain⟨d,nz,rfl⟩:=Option.map_eq_some_iff.mp hk2;obtain⟨y,b1,b2,b3,b4⟩:=m2.get hE;have hyv:y.v=y0.v:=by rw[a4]at b4;exact(oq9 (oq9 b4)).symm
    obtain⟨w3,dy⟩:=xkb (T:=[some x]) w1 st2 w2;rw[<-hyv];refine spec (d:=d) b1 w3 vy (by rw[b2,b3,f2,e2];exact nz) λH' as w4 iz=>k σ _ _ Pn.refl ?_ w4 ((st1.trans dy).trans iz)
    have:=m2.set (x:=#[.rt,d,y.v,as]) i;rw[V1 b4]at this;exact this
   ·exact#[E1,L1,_,m1,w1.tail,hk1,(λE' c' e C L' H' hm m' w' st=>by injection e with z1 z2;subst z1 z2;exact k C σ L' H' hm Pn.refl m' w' ((st1.trans Step.drop).trans st)),λE' s' z=>by cases z]
  ·cases h1
end
section
variable {X:Cx}{Z:Fx0}{pn:List Nat}{q:Bool}{a b c:Ex}{tg e ea eb:Expr}{σ:L2.St}{H:Hp}{L:Ls}{E:En}{pos p:Pos}
theorem wql{a7 H1 s1 x t R}(I1:L2.Inv X a7 σ H1 s1)(q:R (Its x) H1):wpAny (model X.prog X.w) X.A (pyIter (.str x t)) (PIE X a7 σ tg R) X.xe s1:=by
 have fp:∀b∈[s1.heap.objs.size],zx X a7 H1 b:=λb hb=>by
  have e:b=s1.heap.objs.size:=by simpa using hb
  subst e;exact I1.fpOk (Xk _) (I1.hok.fresh (Xk _))
 cases ha:x.cps.all _
 ·exact wpAny_pyIter_wide ha #[s1.heap.objs.size,[s1.heap.objs.size],_,_,H1,rfl,I1.kept (t':=s1.toks) λb o e=>X4 _ e,qqy (λA' hA=>PySem.Walks.strWide hA _ x t) (λ_ _ _ _ _ st h=>wpAny_pyIter_striter_wide st h) ⋯,#[_,Xh _ rfl,rfl,rfl],fp,q]
 ·exact wpAny_pyIter_ascii ha #[s1.heap.objs.size,[s1.heap.objs.size],_,_,H1,rfl,I1.kept (t':=s1.toks) λb o e=>X4 _ e,qqy (λA' hA=>PySem.Walks.strAscii hA _ x t) (λ_ _ _ _ _ st h=>wpAny_pyIter_striter_ascii st h) ⋯,#[_,Xh _ rfl,rfl,rfl],fp,q]
theorem wwn{K}{H} c:Sl.ok K H #[.no,.str #[(List.toArray [c])],.str #[(List.toArray [c])],[]]:=by
 show RepL K H true _ _ _;exact Wk (show 1<=sizeLine by decide)
theorem wwm{K}{H} i:Sl.ok K H #[.no,.int i,.int i,[]]:=by
 show RepL K H true _ _ _;exact JK
noncomputable def iAny(K:Frag)(tl:TE):TI:=fun σ H R=>tl σ H λx H1=>(∃a xs,x=.ref a/\SqL K H1 a xs/\(xs.length<=sizeLine->R (Itl K a) H1))\/(∃a xs,x=.ref a/\SqT K H1 a xs/\(xs.length<=sizeLine->R (Itt K a) H1))\/∃z,x=.str z/\R (Its z) H1
theorem wvz{l tl}(hl:PE X l tl):PI X tg l (iAny X.K tl):=by
 intro a7 s σ H R I h;refine thn (hl a7 s σ H _ I h) λv s1 hz=>?_
 obtain⟨x,H1,I1,r1,q1⟩:=hz;rcases q1 with⟨a,xs,rfl,hq,q⟩|⟨a,xs,rfl,hq,q⟩|⟨z,rfl,q⟩
 ·cases r1;obtain⟨aq,rv,p,hz⟩:=I1.list hq;refine wpAny_pyIter_list p.isList (#[s1.heap.objs.size,[s1.heap.objs.size],_,_,H1,rfl,I1.kept (t':=s1.toks) λb o e=>X4 _ e,qz7 a _,#[_,Xh _ rfl,rfl,rfl],λb hb=>?_,q hz]);have e:b=s1.heap.objs.size:=by simpa using hb
  subst e;exact I1.fpOk (Xk _) (I1.hok.fresh (Xk _))
 ·cases r1;obtain⟨aq,rv,p,hz⟩:=I1.tuple hq;refine wpAny_pyIter_tuple (p) (#[s1.heap.objs.size,[s1.heap.objs.size],_,_,H1,rfl,I1.kept (t':=s1.toks) λb o e=>X4 _ e,qwo a _,#[_,Xh _ rfl,rfl,rfl],λb hb=>?_,q hz]);have e:b=s1.heap.objs.size:=by simpa using hb
  subst e;exact I1.fpOk (Xk _) (I1.hok.fresh (Xk _))
 ·obtain⟨t,rfl⟩:=r1;exact wql I1 q
theorem vk5{K}{x:Sl}{es l}(hx:x.d=.lst es)(ev:x.v=.ref l):∀H2,x.let.ok K H2->∃ys cs,SqL K H2 l ys/\RepA K H2 true es ys cs/\∀b∈cs,b∈x.as:=λH2 hok=>by
 obtain⟨a',ys,cs,ev',q4,r4,h4,_⟩:=items hok (.inl hx);cases V.ref.inj (ev'.symm.trans ev);rcases q4 with⟨_,z⟩|⟨z,_⟩
 ·exact#[ys,cs,z.sq,r4,h4]
 ·rw[show x.let.d=D.lst es from hx]at z;cases z
theorem qz8{K}{x:Sl}{es l}(hx:x.d=.tup es)(ev:x.v=.ref l):∀H2,x.let.ok K H2->∃ys cs,SqT K H2 l ys/\RepA K H2 true es ys cs/\∀b∈cs,b∈x.as:=λH2 hok=>by
 obtain⟨a',ys,cs,ev',q4,r4,h4,_⟩:=items hok (.inr hx);cases V.ref.inj (ev'.symm.trans ev);rcases q4 with⟨z,_⟩|⟨_,z⟩
 ·rw[show x.let.d=D.tup es from hx]at z;cases z
 ·exact#[ys,cs,z,r4,h4]
theorem vv2{K H1 x L1}(w1:World K H1 (some x::L1))(st:Step H L H1 (some x::L1)):World K H1 (L1++[x.let].map some)/\Step H L H1 (L1++[x.let].map some):=by
 refine#[World.comm (w1.tail.consNo (W7 w1.head) rfl λb hb=>w1.apart b hb),st.keep,λb hb=>?_,λb hb=>?_]
 ·have:b∈j7 L1:=by simpa [qvr]using hb
  exact st.own b (lr9 _ this)
 ·have:b∈jK L1\/b∈x.as:=by simpa [qvr]using hb
  rcases this with z|z
  ·exact st.frz b (lr9 _ z)
  ·exact qv8 st b z
abbrev ItS(S:Hp->List V->Prop):It:=#[λi H=>∃xs x,S H xs/\xs[i]?=some x,λi H x H'=>H'=H/\∀xs,S H xs->xs[i]?=some x,λi H=>∃xs,S H xs/\xs.length<=i]
theorem qqx{K S}{x:Sl}{es}(ag:∀H2,x.let.ok K H2->∃ys cs,S H2 ys/\RepA K H2 true es ys cs/\∀b∈cs,b∈x.as):Walks K (ItS S) [x.let] es:=by
 refine#[λt ht=>by rw[aC ht];rfl,λi H2 hok hi=>?_,λH2 hok=>?_,λi H2 v H3 d hok hy hdi=>?_]
 all_goals obtain⟨ys,cs,s1,s2,s3⟩:=ag H2 (hok _ (aB rfl))
 ·have hl:=s2.len;exact#[ys,ys[i]'_,s1,X3 ⋯]
 ·exact#[ys,s1,by rw[s2.len];exact Xk _]
 ·obtain⟨rfl,hy⟩:=hy;obtain⟨v',br,f1,f2,f3⟩:=s2.get hdi;have:=hy ys s1;rw[f1]at this;cases oq9 this;exact#[#[.no,d,v,br],rfl,rfl,rfl,Jj,f2,λb hb=>#[x.let,aB rfl,s3 b (f3 b hb)]]
set_option tactic.hygienic true in
theorem qY(h:QE X Z q c e)(hK:autoParam (X.K=Z.K) Ŕ):QI X Z q tg (itS c) e:=λa7 s σ H R I bb=>ex8 bb λE L r m w hc xc k=>by
 refine(hK▸wvz h) a7 s σ H R I (wj0 m w (hc) xc λE1 s h1 x L1 H1 e1 e2 m1 w1 st sm=>?_);obtain⟨ds,hd,rfl⟩:=JJ h1;have ok:=w1.head;obtain⟨wT,sT⟩:=vv2 w1 st;cases hx:x.d with
 | lst es=>
  rw[<-e2,hx]at hd;cases oq9 hd;obtain⟨a,_,_,ev,_⟩:=items ok (.inl hx);have ag:=vk5 (K:=Z.K) hx ev;obtain⟨xs,bs,q3,r3,_⟩:=ag H1 (W7 ok);exact .inl #[a,xs,ev,q3,λaz=>k _ _ rfl _ [x.let] L1 H1 m1 wT sT (r3.len▸az) (λhq=>(sm hq).1) (qqx ag)]
 | tup es=>
  rw[<-e2,hx]at hd;cases oq9 hd;obtain⟨a,_,_,ev,_⟩:=items ok (.inr hx);have ag:=qz8 (K:=Z.K) hx ev;obtain⟨xs,bs,q3,r3,_⟩:=ag H1 (W7 ok);exact .inr (.inl #[a,xs,ev,q3,λaz=>k _ _ rfl _ [x.let] L1 H1 m1 wT sT (r3.len▸az) (λhq=>(sm hq).1) (qqx ag)])
 | str z=>
  rw[<-e2,hx]at hd;have hd:(if z.cps.size<=big then some _ else none)=some ds:=hd
  split at hd
  ·rename_i hz;cases oq9 hd;refine .inr (.inr #[z,(wZ ok hx).1,k _ _ rfl _ [] L1 H1 m1 (by simpa using w1.tail) (by simpa using (st.trans Step.drop)) (by rw[X1];exact hz) (λhq=>(sm hq).1) #[λt ht=>(nomatch ht),λi H2 _ hi=>?_,λH2 _=>?_,λi H2 v H3 d _ hy hdi=>?_]])
   ·show i<z.cps.size
    simp_all
   ·show(z.cps.toList.map λc=>D.str #[(List.toArray [c])]).length=z.cps.size;simp
   ·obtain⟨e3,cc,hc,rfl⟩:=hy;subst e3;rw[Xi,Yu,hc]at hdi;cases oq9 hdi;exact#[_,rfl,rfl,rfl,Jj,wwn cc,λb hb=>(nomatch hb)]
  ·cases hd
 |_=>rw[<-e2,hx]at hd;cases hd
theorem qwm{K}(lo hi):Walks K (Itr lo (hi - lo).toNat) [] (qv lo hi):=by
 have hl:(qv lo hi).length=(hi - lo).toNat:=by simp[qv]
 refine#[λt ht=>(nomatch ht),λi H _ ph=>by rw[hl]at ph;exact ph,λH _=>by rw[hl];exact Xk _,λi H v H' d _ hy hd=>?_];obtain⟨e,rfl⟩:=hy;subst e;unfold qv at hd;rw[Xi]at hd;cases hr:(List.range (hi - lo).toNat)[i]? with
 | none=>simp_all
 | some j=>
  rw[hr]at hd;have:j=i:=by
   obtain⟨_,h2⟩:=List.getElem?_eq_some_iff.mp hr
   simpa using h2.symm
  subst this;cases oq9 hd;exact#[_,rfl,rfl,rfl,Jj,wwm _,λb hb=>(nomatch hb)]
theorem kvx{i}(h:Jk i=true):-(2 ^ 62)<=i/\i<2 ^ 62:=by
 unfold Jk at h
 simpa using h
set_option tactic.hygienic true in
theorem KY(ha:QV X Z q a ea)(hg:Gl X "range")(hm:X.mg "range"=none)(ck:autoParam (starEach [ea] X.env=[(false,eval ea X.env)]) Ŕ):QI X Z q tg (wx a) (.Call (.Name "range" p) [ea] [] pos):=λa7 s σ H R I bb=>ex8 bb λE L r m w hc xc k=>by
 refine(vjf hg hm (kX ha v6 ck) ck) a7 s σ H R I (vY m w (hc) xc λE1 s h1 x L1 H1 e1 e2 m1 w1 ok fr sr st sm=>?_);cases hx:s.2 with
 | int j=>
  rw[hx]at h1;dsimp only at h1
  split at h1
  ·rename_i hj;cases oq9 h1;obtain⟨j1,j2⟩:=kvx hj.1;refine#[j,by rw[(v7 ok (e2.trans hx))],j1,j2,?_];have wk:=qwm (K:=Z.K) 0 j;rw[Int.sub_zero]at wk;exact k _ _ rfl _ [] L1 H1 m1 (by simp_all) (by simp_all) (by simp only[qv,X1,Yd,Int.sub_zero];exact hj.2) sm wk
  ·grind
 |_=>simp_all
theorem Mt.clr:∀{R E L},Mt E σ L->Mt (Q.clr R E) σ (Q.clr R L)
 | [],_,_,m=>m
 | j::R,E,L,m=>by
  have un:∀{E σ} {L} j,Mt E σ L->Mt (E.set j none) σ (L.set j none):=by
   intro E σ L j m
   induction m generalizing j with
   |nil=>exact .nil
   |un m ih=>cases j with|zero=>exact .un m|succ j=>exact .un (ih j)
   |cons m ih=>cases j with|zero=>exact .un m|succ j=>exact .cons (ih j)
  show Mt (Q.clr R _) σ _;exact Mt.clr (un j m)
theorem Mt.drop:∀{E σ L} (k),Mt E σ L->Mt (E.drop k) (σ.drop k) (L.drop k)
 |_,_,_,0,m=>m|_,_,_,k+1,.nil=>.nil|_,_,_,k+1,.un m=>m.drop k|_,_,_,k+1,.cons m=>m.drop k
theorem Mt.none_at:∀{E σ L} {j:Nat},Mt E σ L->E[j]?=some none->L[j]?=some none
 |_,_,_,_,.nil,h=>by simp_all|_,_,_,0,.un _,_=>by simp|_,_,_,j+1,.un m,h=>by simpa using m.none_at (by simpa using h)|_,_,_,j+1,.cons m,h=>by simpa using m.none_at (by simpa using h)
theorem Mt.pick:∀{R:List Nat},Mt E σ L->Mt (R.map (at' E)) (R.map (at' σ)) (R.map (at' L))
 | [],_=>.nil
 | j::R,m=>by
  rw[List.map_cons,List.map_cons,List.map_cons];cases hE:E[j]? with
  | none=>
   have hl:=m.len;have:L[j]?=none:=by rw[List.getElem?_eq_none_iff]at hE ⊢;lia
   rw[show at' E j=none from by unfold at';rw[hE];rfl,show at' L j=none from by unfold at';rw[this];rfl];exact .un m.pick
  | some s=>
   cases s with
   |none=>
    have:L[j]?=some none:=m.none_at hE;rw[show at' E j=none from by unfold at';rw[hE];rfl,show at' L j=none from by unfold at';rw[this];rfl];exact .un m.pick
   |some s=>
    obtain⟨x,h1,h2,h3,h4⟩:=m.get hE;rw[show at' E j=some (x.o,x.d)from by unfold at';rw[hE,h2,h3];rfl,show at' L j=some x from by unfold at';rw[h1];rfl,show at' σ j=some x.v from by unfold at';rw[h4];rfl];exact .cons m.pick
theorem Mt.rep:∀{k},Mt E σ L->Mt (List.replicate k none++E) (List.replicate k none++σ) (List.replicate k none++L)
 |0,m=>by simp_all
 |k+1,m=>by
  exact .un m.rep
theorem Mt.back:∀{R B τ M E L},Mt E σ L->Mt B τ M->(∀(i j:Nat) (v),R[i]?=some j->τ[i]?=some (some v)->σ[j]?=some (some v))->Mt (Q.back R B E) σ (Q.back R M L)
 | [],B,τ,M,E,L,m,_,_=>by simpa [Q.back]using m| j::R,_,_,_,E,L,m,.nil,_=>by simpa [Q.back]using m
 | j::R,_,_,_,E,L,m,.un mB,h=>by
  have un:∀{E σ} {L} j,Mt E σ L->Mt (E.set j none) σ (L.set j none):=by
   intro E σ L j m
   induction m generalizing j with
   |nil=>exact .nil
   |un m ih=>cases j with|zero=>exact .un m|succ j=>exact .un (ih j)
   |cons m ih=>cases j with|zero=>exact .un m|succ j=>exact .cons (ih j)
  show Mt _ σ (Q.back R _ _);exact Mt.back (un j m) mB λi jj v e1 e2=>h (i+1) jj v (by simpa using e1) (by simpa using e2)
 |j::R,_,_,_,E,L,m,.cons (x:=x) mB,h=>by
  have m1:=m.set (x:=x) j;rw[V1 (h 0 j x.v (by simp) (by simp))]at m1;show Mt _ σ (Q.back R _ _);exact Mt.back m1 mB λi jj v e1 e2=>h (i+1) jj v (by simpa using e1) (by simpa using e2)
section
variable {bc gy:Expr}{gb:List Expr}{scope:Scope}{N:List Str}{k:Nat}{R:List Nat}{it:Ev (List D)}{tt:Tg}{u:Ts}{o:Own}{q1 q2:Bool}
theorem wk1:Kz k R σ=List.replicate k none++R.map (at' σ):=rfl
theorem xk5{K M}(hR:R.Nodup)(w:World K H (L++M)):World K H ((List.replicate k none++R.map (at' L))++(Q.clr R L++M))/\Step H (L++M) H ((List.replicate k none++R.map (at' L))++(Q.clr R L++M)):=by
 have p:(sls (L++M)).Perm (sls ((List.replicate k none++R.map (at' L))++(Q.clr R L++M))):=by
  have:=qwg (L:=L) hR;rw[Ww]at this;simp;rw[<-Xn];exact(this.append_right _).symm
 exact#[w.same p,Step.refl.same (List.Perm.refl _) p]
theorem wwv{K B M H2}(hR:R.Nodup)(hr:∀j∈R,j<L.length)(hB:B.length=k+R.length)(w:World K H2 (B++(Q.clr R L++M))):World K H2 (Q.back R (B.drop k) (Q.clr R L)++M)/\Step H2 (B++(Q.clr R L++M)) H2 (Q.back R (B.drop k) (Q.clr R L)++M):=by
 have p2:(sls (Q.back R (B.drop k) (Q.clr R L)++M)).Perm (sls (B.drop k++(Q.clr R L++M))):=by
  rw[Ww,<-Xn,Ww _];exact(qk8 hR (λj hj=>vq7 hj) (λj hj=>by rw[vq6];exact hr j hj) (by simp_all)).append_right _
 have sub:(sls (B.drop k++(Q.clr R L++M))).Sublist (sls (B++(Q.clr R L++M))):=by
  rw[Ww,Ww B];exact List.Sublist.append ((List.drop_sublist k B).filterMap _) (Yp _)
 exact#[(w.sub sub).same p2.symm,(Step.refl.sub sub).same (List.Perm.refl _) p2.symm]
theorem kkw:∀{is es E E'},setAll is es E=some E'->E'.length=E.length
 |[],[],_,_,h=>by cases oq9 h;rfl|i::is,d::es,E,E',h=>by rw[kkw (E:=E.set i _) h,Y8]
theorem wj8{t:Tg}{d E E'}(h:t.put d E=some E'):E'.length=E.length:=by
 cases t with
 |n i=>cases oq9 h;rw[Y8]
 |t is=>
  cases d with|tup es=>exact kkw (h)|lst es=>exact kkw (h)|_=>cases h
theorem vka{nN Q}(hσ:σ.length=nN)(hR:R.Nodup)(hr:∀j∈R,j<nN)(h:tQ Z q (cLC o k R it tt u c) σ H Q):tLC (tIS Z q it) (tG Z ((List.range R.length).map (k + ·)) tt) (tT Z q u) (tQ Z q c) k R σ H Q:=by
 obtain⟨E,L,r,m,w,cu,xc,kk⟩:=h;have cu:bnd (it E) (λE ds=>match lcL tt u c ds (wq3 k R E) []with
  | some (.ok B xs)=>mkL o (XJ k R B E) xs| some (.exc B e)=>some (.exc (XJ k R B E) e)
  | none=>none)=some r:=cu
 rcases wJ cu with⟨E1,ds,h1,h2⟩|⟨E1,cc,h1,h2⟩
 rotate_left
 ·exact#[E,L,_,m,w,h1,xc.map h2,λE' s' z=>by cases z]
 refine#[E,L,_,m,w,h1,(λ_ _ z=>by cases z),λE' ds' z J T L1 H1 m1 w1 st hz sm wk=>?_];injection z with z1 z2;subst z1 z2;have hL1:∀j∈R,j<L1.length:=λj hj=>by have:=m1.len;have:=hr j hj;lia
 obtain⟨wB,sB⟩:=xk5 (k:=k) hR w1;cases hrB:lcL tt u c ds (wq3 k R E1) []with
 | none=>simp_all
 | some rB=>
  rw [hrB]at h2;have ji:∀{H2 A B},World Z.K H2 (A++(B++(_root_.Q.clr R L1++T.map some)))->∀t∈T,t.ok Z.K H2:=λw2 t ht=>w2.ok t (lr9 _ (lr9 _ (lr9 _ (Xw ht))))
  have mB0:Mt (wq3 k R E1) (Kz k R σ) (List.replicate k none++R.map (at' L1)):=(m1.pick (R:=R)).rep;have uu:∀{B LB τ H2 A},Mt B τ LB->τ.length=k+R.length->Pn ((List.range R.length).map (k + ·)) (Kz k R σ) τ->World Z.K H2 (LB++(A++(_root_.Q.clr R L1++T.map some))) ->
    Mt (XJ k R B E1) σ (_root_.Q.back R (LB.drop k) (_root_.Q.clr R L1))/\World Z.K H2 (A++_root_.Q.back R (LB.drop k) (_root_.Q.clr R L1))/\Step H2 (LB++(A++(_root_.Q.clr R L1++T.map some))) H2 (A++_root_.Q.back R (LB.drop k) (_root_.Q.clr R L1)):=fun {B LB τ H2 A} mB lB pB wB2=>by
   have hl:LB.length=k+R.length:=by rw[mB.len.2];exact lB
   have pm:(LB++(A++(_root_.Q.clr R L1++T.map some))).Perm (LB++(_root_.Q.clr R L1++(A++T.map some))):=by
    refine List.Perm.append_left _ ?_;rw [<-Xn,<-Xn];exact List.Perm.append_right _ Yv
   obtain⟨w3,s3⟩:=wwv (k:=k) hR hL1 hl (wB2.perm pm);have pm2:(_root_.Q.back R (LB.drop k) (_root_.Q.clr R L1)++(A++T.map some)).Perm ((A++_root_.Q.back R (LB.drop k) (_root_.Q.clr R L1))++T.map some):=by
    rw [<-Xn];exact List.Perm.append_right _ Yv
   refine#[(Mt.back (m1.clr) (mB.drop k) λi j v e1 e2=>?_),(w3.perm pm2).left,(s3.perm pm.symm pm2).trans Step.dropT];have hi:=(List.getElem?_eq_some_iff.mp e1).1;rw [List.getElem?_drop,(pB (k+i) (List.mem_map.mpr #[i,List.mem_range.mpr hi,rfl])),wk1,List.getElem?_append_right (by simp),Yt,show k+i - k=i from by lia,Xi,e1]at e2;have e4:at' σ j=some v:=by simpa using e2
   unfold at' at e4;cases hh:σ[j]? with| none=>simp_all| some s=>simp_all
  refine#[λi n ys τ H2=>∃(B:En) (LB:Ls) (acc:List Sl),Mt B τ LB/\τ.length=k+R.length/\Pn ((List.range R.length).map (k + ·)) (Kz k R σ) τ/\World Z.K H2 (LB++(acc.map some++(_root_.Q.clr R L1++T.map some)))/\Step H L H2 (LB++(acc.map some++(_root_.Q.clr R L1++T.map some))) /\
   ys=acc.map Sl.v/\lcL tt u c (ds.drop i) B (acc.map Sl.sd)=some rB/\i<=ds.length/\acc.length<=i/\n=ds.length - i/\(q=true->kJ H H2/\∀b∈j7 (acc.map some),H b=none),#[_,wq3 k R E1,_,[],mB0,by simp[Kz],Pn.refl,wB,st.trans sB,rfl,hrB,Ys _,Ys _,rfl,λhq=>#[sm hq,λ_ z=>(nomatch z)]],?_]
  rintro i n ys τ H2 ⟨B,LB,acc,mB,lB,pB,wB2,sB2,rfl,f1,hi,ef,rfl,smB⟩
  by_cases dl:i<ds.length
  rotate_left
  ·have e:i=ds.length:=⋯
   subst e;rw [List.drop_length]at f1;cases oq9 f1;obtain⟨m3,w3,s3⟩:=uu mB lB pB wB2;exact .inl #[wk.stop H2 (ji wB2) (λhq=>(smB hq).1),by rw[X1];lia,(qvn (σ:=σ) (Q:=Q) (o:=o) (xs:=acc) h2 rfl w3 (sB2.trans s3) smB kk m3)]
  ·have hd:ds.drop i=ds[i]::ds.drop (i+1):=List.drop_eq_getElem_cons dl;rw [hd]at f1;unfold lcL at f1;cases cq:tt.put ds[i] B with
   | none=>rw[cq]at f1;cases f1
   | some B2=>
    rw [cq]at f1;dsimp only at f1;refine .inr #[wk.go i H2 (ji wB2) (λhq=>(smB hq).1) dl,λv H3 hy=>?_];obtain⟨z,zo,zd,zv,smz,qo,ui⟩:=wk.yld i H2 v H3 ds[i] (ji wB2) (λhq=>(smB hq).1) hy (X3 dl);have pm:(LB++(acc.map some++(_root_.Q.clr R L1++T.map some))).Perm ((LB++(acc.map some++_root_.Q.clr R L1))++T.map some):=by
     rw[<-Xn (acc.map some),<-Xn]
    obtain⟨wz,sz⟩:=kjo (wB2.perm pm) wk.no smz qo zo ui;have wz':World Z.K H3 ((some z::LB)++(acc.map some++(_root_.Q.clr R L1++T.map some))):=wz.perm (by
     rw[List.cons_append,List.cons_append];exact List.Perm.cons _ pm.symm)
    have sz':Step H2 (LB++(acc.map some++(_root_.Q.clr R L1++T.map some))) H3 ((some z::LB)++(acc.map some++(_root_.Q.clr R L1++T.map some))):=sz.perm pm.symm (by
     rw[List.cons_append,List.cons_append];exact List.Perm.cons _ pm.symm)
    refine#[B,LB,z,B2,mB,wz'.left,zo,zv,by rw[zd];exact cq,fun τ2 LB2 p2 mB2 wB3 sB3=>?_];obtain⟨w4,s4⟩:=stay wz' sB3 wB3;have lB2:τ2.length=k+R.length:=by
     have h1:=mB2.len.1;have h2:=mB.len.1;have h3:=wj8 cq;lia
    have p3:=pB.trans p2;have vf:Step H L H3 (LB2++(acc.map some++(_root_.Q.clr R L1++T.map some))):=sB2.trans (sz'.trans s4);have ir:q=true->kJ H H3/\∀b∈j7 (acc.map some),H b=none:=λhq=>#[qk (smB hq).1 smz,(smB hq).2]
    refine#[λy H5=>∃(B:En) (LB:Ls) (ij:List Sl),Mt B τ2 LB/\World Z.K H5 (LB++(ij.map some++(_root_.Q.clr R L1++T.map some)))/\Step H L H5 (LB++(ij.map some++(_root_.Q.clr R L1++T.map some)))/\acc.map Sl.v++[y]=ij.map Sl.v/\ij.length=acc.length+1/\lcL tt u c (ds.drop (i+1)) B (ij.map Sl.sd)=some rB/\(q=true->kJ H H5/\∀b∈j7 (ij.map some),H b=none),
     λH5=>∃B LB,Mt B τ2 LB/\World Z.K H5 (LB++(acc.map some++(_root_.Q.clr R L1++T.map some)))/\Step H L H5 (LB++(acc.map some++(_root_.Q.clr R L1++T.map some)))/\lcL tt u c (ds.drop (i+1)) B (acc.map Sl.sd)=some rB/\(q=true->kJ H H5/\∀b∈j7 (acc.map some),H b=none),
     λy H5 hz=>by obtain⟨B5,LB5,acc5,c1,c2,c3,c4,c5,c6,c7⟩:=hz;exact#[by rw[X1];lia,ds.length - (i+1),⋯,B5,LB5,acc5,c1,lB2,p3,c2,c3,c4,c6,dl,⋯,rfl,c7],
     λH5 hz=>by obtain⟨B5,LB5,c1,c2,c3,c6,c7⟩:=hz;exact#[ds.length - (i+1),⋯,B5,LB5,acc,c1,lB2,p3,c2,c3,rfl,c6,dl,⋯,rfl,c7],?_]
    have xcB:∀{α H6 L6 B6 cc A},rB=.exc B6 cc->World Z.K H6 (L6++(A++(_root_.Q.clr R L1++T.map some)))->Step H L H6 (L6++(A++(_root_.Q.clr R L1++T.map some)))->Xc Z τ2 H6 L6 (.exc B6 cc:Res α):=fun {α H6 L6 B6 cc A} er w6 s6 E7 c7 e7 C L7 H7 hm m7 w7 s7=>by
     injection e7 with e8 e9;subst e8 e9;subst er;cases oq9 h2;obtain⟨w8,s8⟩:=stay w6 s7 w7;obtain⟨m9,w9,s9⟩:=uu m7 lB2 p3 w8;exact xc _ _ rfl C _ H7 hm m9 w9.right ((s6.trans (s8.trans s9)).trans #[λ_ _ h _=>h,λa ha=>.inl (by rw[k9];exact lr9 _ ha),λa ha=>.inl (by rw[qQ];exact lr9 _ ha)])
    rcases wJ f1 with⟨B4,kb,g1,g2⟩|⟨B4,cc,g1,g2⟩
    rotate_left
    ·exact#[B2,LB2,_,mB2,wB3,g1,xcB g2 w4 vf,λE' s' z=>by cases z]
    refine#[B2,LB2,_,mB2,wB3,g1,(λ_ _ z=>by cases z),λE' s' z LB4 H4 mB4 wB4 sB4 qf=>?_];injection z with z1 z2;subst z1 z2;obtain⟨w5,s5⟩:=stay w4 sB4 wB4;have ms:=vf.trans s5;cases kb with
    | false=>
     rw[Xd ⋯]at g2 ⊢;exact#[B4,LB4,mB4,w5,ms,g2,λhq=>#[qk (ir hq).1 (qf hq),(ir hq).2]]
    | true=>
     rw[X8 rfl]at g2 ⊢;rcases wJ g2 with⟨B6,y,g3,g4⟩|⟨B6,cc,g3,g4⟩
     rotate_left
     ·exact#[B4,LB4,_,mB4,wB4,g3,xcB g4 w5 ms,λE' s' z=>by cases z]
     refine#[B4,LB4,_,mB4,wB4,g3,(λ_ _ z=>by cases z),λE' s' z x LB6 H6 ex ey mB6 wB6 sB6 qt=>?_];injection z with z1 z2;subst z1 z2;obtain⟨w7,s7⟩:=stay w5 sB6 wB6;have pm3:((some x::LB6)++(acc.map some++(_root_.Q.clr R L1++T.map some))).Perm (LB6++((acc++[x]).map some++(_root_.Q.clr R L1++T.map some))):=by
      rw[Xq,List.cons_append];have:(LB6++(acc.map some++[x].map some++(_root_.Q.clr R L1++T.map some)))=(LB6++acc.map some)++some x::(_root_.Q.clr R L1++T.map some):=by simp
      rw[this];refine List.Perm.trans ?_ List.perm_middle.symm;rw[Xn]
     refine#[B6,LB6,acc++[x],mB6,w7.perm pm3,(ms.trans s7).perm (List.Perm.refl _) pm3,by simp,by simp,?_,λhq=>#[qk (ir hq).1 (qk (qf hq) (qt hq).1),λb hb=>?_]]
     ·rwa [Xq,show[x].map Sl.sd=[y]from by simp[Sl.sd,ex,ey]]
     ·rw[Xq,k9]at hb;rcases aA hb with hb|hb
      ·exact(ir hq).2 b hb
      ·have hb:b∈x.own:=by simpa using hb
       exact K2 (qk (ir hq).1 (qf hq)) ((qt hq).2 b hb)
theorem xqe(N)(hi:QI X Z q tg it bc)
  (hg:∀cl C s0 H0 fp,QG (lcE X scope N cl C s0 H0 fp Z.EX) Z ((List.range R.length).map (k + ·)) tt tg) (ht:∀cl C s0 H0 fp,PTs (lcE X scope N cl C s0 H0 fp Z.EX) gb (tT Z q u)) (he:∀cl C s0 H0 fp,QE (lcE X scope N cl C s0 H0 fp Z.EX) Z q c gy)
  (gx:zq X Z.EX) (top:JW X) (hR:R.Nodup) (hr:∀j∈R,j<X.N.length) (hc:autoParam (X.calm=true) Ŕ) (hk:autoParam (scope.kind=.function) Ŕ) (mr:autoParam (VX X.N X.env.scope scope N k R=true) Ŕ) (hs:autoParam (∀x,foldedSetIterable bc X.env x=pure x) Ŗ):
  QE X Z q (cLC o k R it tt u c) (.ListComp gy [#[tg,bc,gb,0]] scope pos):=λa7 s σ H Q I hw=>
 ww6 N k R (xqd hi) hg ht he gx top hc hk mr hs a7 s σ H Q I (vka I.len hR hr hw)
theorem vj9{EX wi g tte te i y py fj}(N)(k)(R)(hN:X.N.Nodup)(hy:X.N[i]?=some y)(hx:Loc X.env.scope y)(hi:PI X tg bc wi)
  (hg:∀cl C s0 H0 fp,PG (lcE X scope N cl C s0 H0 fp EX) tg g) (ht:∀cl C s0 H0 fp,PTs (lcE X scope N cl C s0 H0 fp EX) gb tte) (he:∀cl C s0 H0 fp,PE (lcE X scope N cl C s0 H0 fp EX) gy te) (gx:zq X EX) (top:JW X)
  (lv:autoParam (swapsWith (.ListComp gy [#[tg,bc,gb,0]] scope pos) (some (.Name y py)) fj.line X.env=pure true) Ŕ)
  (hc:autoParam (X.calm=true) Ŕ) (hk:autoParam (scope.kind=.function) Ŕ) (mr:autoParam (VX X.N X.env.scope scope N k R=true) Ŕ) (hs:autoParam (∀x,foldedSetIterable bc X.env x=pure x) Ŗ)
  (hf:autoParam (X.fn y=true\/X.env.scope.names.lookup y=some .local) ś):
  PS X (.Assign [.Name y py] (.ListComp gy [#[tg,bc,gb,0]] scope pos) fj) (λD σ H=>tLC wi g tte te k R σ H λv H1=>D.nx (σ.set i (some v)) H1):=by
 intro a7 s σ H D I h;have sc:=qvu hk mr;obtain⟨cl,mq,ik,cp⟩:=kwb λy hy e=>I.ok.has y.1 (sc.caps y hy e)
 rw[exec_Assign_Name_used _ _ _ _ lv];refine X0 (wpAny_standAt (X0 ?_));refine X0 (thn (wpAny_comprehension_free rfl hs mq sc.kind sc.names
  (thn (hi a7 s σ H _ I h) λv s1 h1=>thn h1 λitv s2 h2=>?_)) λ_ s' hq=>X9 (X9 hq))
 obtain⟨it,fp,tn,J,H2,e,I2,T,st2,f2,W,w0,ig⟩:=h2;subst e;refine qjk hc top sc ik cp (hg cl) (ht cl) (he cl) I2 T st2 f2 w0 ig ?_ ?_
 rotate_left
 ·intro D' C s' da σ' H' x T Cc fl hC t q;exact vxv gx I2 f2 hC t q
 intro L C oC m ys H' s' I' eC nC fC q;refine wpAny_assign_Name (jzl I' hN hy hx (v:=.ref L) rfl (λoh I''=>?_) hf);have pC:=I''.pin _ (lr9 _ (lr9 _ (aB rfl)));refine#[m,nC.at' λo e=>?_,λh' sb=>#[_,_,I''.unpinned.turned (t':=oh.toks) (λb o hb e=>(sb.2 b hb).trans e) fC.1 fC.2.1 fC.2.2.2.1 fC.2.2.2.2.1 fC.2.2.2.2.2,q]]
 grind
theorem qkt{i y py fj}(N)(hN:X.N.Nodup)(hy:X.N[i]?=some y)(hx:Loc X.env.scope y)(hi:QI X Z q tg it bc)
  (hg:∀cl C s0 H0 fp,QG (lcE X scope N cl C s0 H0 fp Z.EX) Z ((List.range R.length).map (k + ·)) tt tg) (ht:∀cl C s0 H0 fp,PTs (lcE X scope N cl C s0 H0 fp Z.EX) gb (tT Z q u)) (he:∀cl C s0 H0 fp,QE (lcE X scope N cl C s0 H0 fp Z.EX) Z q c gy)
  (gx:zq X Z.EX) (top:JW X) (hR:R.Nodup) (hr:∀j∈R,j<X.N.length) (hp:autoParam (i∉pn) ŕ)
  (lv:autoParam (swapsWith (.ListComp gy [#[tg,bc,gb,0]] scope pos) (some (.Name y py)) fj.line X.env=pure true) Ŕ)
  (hc:autoParam (X.calm=true) Ŕ) (hk:autoParam (scope.kind=.function) Ŕ) (mr:autoParam (VX X.N X.env.scope scope N k R=true) Ŕ) (hs:autoParam (∀x,foldedSetIterable bc X.env x=pure x) Ŗ)
  (hf:autoParam (X.fn y=true\/X.env.scope.names.lookup y=some .local) ś):
  QS X Z pn (jz i (cLC o k R it tt u c)) (.Assign [.Name y py] (.ListComp gy [#[tg,bc,gb,0]] scope pos) fj):=
 wvo hp λa7 s σ H D I hw=>vj9 N k R hN hy hx (xqd hi) hg ht he gx top lv hc hk mr hs hf a7 s σ H D I (vka I.len hR hr hw)
end
end
section
variable {X:Cx}{Z:Fx0}{K:Frag}{pn:List Nat}{q qa qb:Bool}{a b c:Ex}{u:Ts}{tg e ea eb:Expr}{σ:L2.St}{H:Hp}{L:Ls}{E:En}{pos p:Pos}{x:Str}{id T:String}{r:List V->Hp->VK->Prop}{f:Sd->Option Sd}{g:Sd->Sd->Option Sd}
theorem vvn:PTs X [] (tT Z q _root_.Q.tYes):=λa7 s σ H Q I bb=>ex8 bb λE L r m w hc xc k=>by
 cases oq9 hc;exact wja a7 s σ H Q I (k _ _ rfl L H m w Step.refl λ_=>Jj)
theorem wva(h:QT X Z q u e):PTs X [e] (tT Z q u):=wj9 h
theorem KK(hc:CallR X (.builtin id) r)(ad:Ad1 Z.K (λv H Q=>r [v] H Q) f)(ha:QV X Z q a ea)(hm:X.mg x=none)(hv:bootBuiltins x=some (.builtin id))(hg:autoParam (Gl X x) Ŕ)(hn:autoParam (x≠"__name__") ŕ)(eh:autoParam (Abd x) ŕ)
  (he:autoParam (Abs ea [] X) Ŕ) (bv:autoParam (Abb pos [] X) Ŕ):QE X Z q (cF1 f a) (.Call (.Name x p) [ea] [] pos):=
 kW (kkm hc hg hm hv (kX ha v6 he) hn eh he bv) fun σ H Q h=>V7 ad h
theorem K8(hc:CallR X (.type T) r)(ad:Ad1 Z.K (λv H Q=>r [v] H Q) f)(ha:QV X Z q a ea)(hm:X.mg x=none)(hv:bootBuiltins x=some (.type T))(hg:autoParam (Gl X x) Ŕ)(hn:autoParam (x≠"__name__") ŕ)(eh:autoParam (Abd x) ŕ)
  (he:autoParam (Abs ea [] X) Ŕ) (bv:autoParam (Abb pos [] X) Ŕ):QE X Z q (cF1 f a) (.Call (.Name x p) [ea] [] pos):=
 kW (vjj hc hg hm hv (kX ha v6 he) hn eh he bv) fun σ H Q h=>V7 ad h
theorem wz8:Ad1 K (λv H Q=>vj0 K [v] H Q) (pu1 jx):=by
 intro H x s Q ok hf k;unfold pu1 at hf;have fin:∀n,jx x.d=some (.int n)->Q (.int n) H:=λn e=>by
  rw[e]at hf;cases oq9 hf;exact k _ H rfl rfl V4
 cases hx:x.d with
 |lst ds=>
  obtain⟨l,xs,bs,e,q,r,_⟩:=items ok (.inl hx);refine .inl #[l,xs,by rw[e],?_,by rw[<-r.len];exact fin ds.length (by rw[hx];rfl)];rcases q with⟨_,z⟩|⟨_,z⟩
  ·exact .inl (Kq z)
  ·exact .inr z
 |tup ds=>
  obtain⟨l,xs,bs,e,q,r,_⟩:=items ok (.inr hx);refine .inl #[l,xs,by rw[e],?_,by rw[<-r.len];exact fin ds.length (by rw[hx];rfl)];rcases q with⟨_,z⟩|⟨_,z⟩
  ·exact .inl (Kq z)
  ·exact .inr z
 |str z=>
  obtain⟨e,hz⟩:=wZ ok hx;exact .inr (.inl #[z,by rw[e],hz,fin z.length (by rw[hx];rfl)])
 |_=>rw[hx]at hf;cases hf
noncomputable def wv3(K:Frag):List V->Hp->VK->Prop:=λxs H Q=>xqa K xs H Q\/(∃p ys U,xs=[.ref p,.ty U]/\SqT K H p ys/\U∈kinds.tail/\Q (.bl (wxb "tuple" U)) H)\/∃p ys U,xs=[.ref p,.ty U]/\SqL K H p ys/\U∈kinds.tail/\Q (.bl (wxb "list" U)) H
theorem vqb(hK:autoParam (X.K=K) Ŕ):CallR X (.builtin "isinstance") (wv3 K):=by
 subst hK;intro a7 s σ H xs us Q I r h;rcases h with h|⟨p,ys,U,rfl,hq,hU,q⟩|⟨p,ys,U,rfl,hq,hU,q⟩
 ·exact vwu a7 s σ H xs us Q I r h
 ·obtain⟨u,w',rfl,r1,r2⟩:=qwn r;cases(show w'=Value.type U from r2);cases r1;obtain⟨aq,_,⟨o,h1,h2,_⟩,_⟩:=I.tuple hq;exact Y2 PySem.W.kitx_tuple I.kIn #[o,h1,h2] (qq8 ⋯ hU) (λz=>nomatch z) λtk=>#[.bl _,H,I.tok _,rfl,q]
 ·obtain⟨u,w',rfl,r1,r2⟩:=qwn r;cases(show w'=Value.type U from r2);cases r1;obtain⟨aq,_,⟨o,n,h1,h2,_⟩,_⟩:=I.list hq;exact Y2 PySem.W.kitx_list I.kIn #[o,h1,h2] (qq8 ⋯ hU) (λz=>nomatch z) λtk=>#[.bl _,H,I.tok _,rfl,q]
theorem wz9{U}(hU:U∈kinds.tail):Ad1 K (λv H Q=>wv3 K [v,.ty U] H Q) (pu1 (jX U)):=by
 intro H x s Q ok hf k;unfold pu1 jX at hf;have fin:∀T,kind x.d=T->(∀c f,x.d≠.obj c f)->Q (.bl (wxb T U)) H:=λT e ho=>by
  cases hx:x.d with
  |obj c f=>exact absurd hx (ho c f)|dct bf=>simp_all
  |_=>
   rw[hx]at hf;cases oq9 hf;rw[<-e,hx];exact k _ H rfl rfl x9
 cases hx:x.d with
 |non=>exact .inl #[x.v,"NoneType",U,rfl,by rw[vjv ok hx];exact .non,⋯,hU,fin _ (by rw[hx];rfl) (by simp_all)]|bl k=>exact .inl #[x.v,"bool",U,rfl,by rw[QY ok hx];exact .bl _,⋯,hU,fin _ (by rw[hx];rfl) (hx▸λ_ _ z=>nomatch z)]|int k=>exact .inl #[x.v,"int",U,rfl,by rw[v7 ok hx];exact .int _,⋯,hU,fin _ (by rw[hx];rfl) (hx▸λ_ _ z=>nomatch z)]|str k=>exact .inl #[x.v,"str",U,rfl,by rw[(wZ ok hx).1];exact .str _,⋯,hU,fin _ (by rw[hx];rfl) (hx▸λ_ _ z=>nomatch z)]
 |lst ds=>
  obtain⟨l,xs,bs,e,q,r,_⟩:=items ok (.inl hx);have f:=fin "list" (by rw[hx];rfl) (hx▸λ_ _ z=>nomatch z);rcases q with⟨_,z⟩|⟨z,_⟩
  ·exact .inr (.inr #[l,xs,U,by rw[e],z.sq,hU,f])
  ·simp_all
 |tup ds=>
  obtain⟨l,xs,bs,e,q,r,_⟩:=items ok (.inr hx);have f:=fin "tuple" (by rw[hx];rfl) (hx▸λ_ _ z=>nomatch z);rcases q with⟨z,_⟩|⟨_,z⟩
  ·simp_all
  ·exact .inr (.inl #[l,xs,U,by rw[e],z,hU,f])
 |dct bf=>simp_all|obj c f=>simp_all
theorem V2{U y p2}(ha:QV X Z q a ea)(hm:X.mg "isinstance"=none)(hmy:X.mg y=none)(hy:bootBuiltins y=some (.type U))(hK:X.K=Z.K)(hU:autoParam (U∈kinds.tail) ŕ)(hg:autoParam (Gl X "isinstance") Ŕ)(hgy:autoParam (Gl X y) Ŕ)(hny:autoParam (y≠"__name__") ŕ)(hdy:autoParam (Abd y) ŕ)
  (he:autoParam (starEach [ea,.Name y p2] X.env=(false,eval ea X.env)::starEach [.Name y p2] X.env) Ŕ) (tv:autoParam (starEach [.Name y p2] X.env=(false,eval (.Name y p2) X.env)::starEach [] X.env) Ŕ) (bv:autoParam ((backTo pos (starEach [.Name y p2] X.env)).any (·.1)=false) Ŕ):
  QE X Z q (cF1 (pu1 (jX U)) a) (.Call (.Name "isinstance" p) [ea,.Name y p2] [] pos):=
 kW (kkm (vqb hK) hg hm jwp (kX ha (kX (vjl (v:=.ty U) hgy hmy hy rfl hny hdy) v6 tv) he) ⋯ ⋯ he bv) fun σ H Q h=>V7 (wz9 hU) h
set_option tactic.hygienic true in
theorem kwf:Ad1 K (λv H Q=>vj1 [v] H Q) (pu1 xv):=by
 intro H x s Q ok hf k;unfold pu1 xv at hf;dsimp only at hf
 split at hf
 ·rename_i i e;cases oq9 hf;exact .inl #[i,by rw[v7 ok e],k _ H rfl rfl V4]
 ·rename_i i e;cases oq9 hf;exact .inr (.inl #[i,by rw[QY ok e],k _ H rfl rfl V4])
 ·rename_i z e
  split at hf
  ·rename_i hz;cases ht:PySem.intText? z with
   |none=>grind
   |some n=>
    rw[ht]at hf;cases oq9 hf;exact .inr (.inr #[z,n,by rw[(wZ ok e).1],ht,hz,k _ H rfl rfl V4])
  ·grind
 ·grind
noncomputable def qvh(K:Frag):List V->Hp->VK->Prop:=λxs H Q=>∃p ys,xs=[.ref p]/\((SqL K H p ys/\∀l,H l=none->Q (.ref l) (upd H l (.tup ys)))\/(SqT K H p ys/\Q (.ref p) H))
theorem vqd(hK:X.K=K):CallR X (.type "tuple") (qvh K):=by subst hK;exact kxp
set_option tactic.hygienic true in
theorem vx8:Ad1 K (λv H Q=>qvh K [v] H Q) Vv:=by
 intro H x s Q ok hf k;unfold Vv at hf;dsimp only at hf
 split at hf
 ·rename_i ds e
  split at hf
  ·rename_i hl;cases oq9 hf;obtain⟨l,xs,bs,ev,q3,r3,h3⟩:=KW ok (.inl e) hl;have q3:LsR K H l xs:=by rcases q3 with⟨_,z⟩|⟨z,_⟩;exact z;rw[e]at z;cases z
   exact#[l,xs,by rw[ev],.inl #[Kq q3,λp hp=>k _ _ rfl rfl (kq9 hp r3 h3)]]
  ·cases hf
 ·rename_i ds e
  split at hf
  ·rename_i hl;cases oq9 hf;obtain⟨l,xs,bs,ev,q3,r3,h3⟩:=KW ok (.inr e) hl;have q3:SqT K H l xs:=by rcases q3 with⟨z,_⟩|⟨_,z⟩;rw[e]at z;cases z;exact z
   exact#[l,xs,by rw[ev],.inr #[q3,k #[.no,.tup ds,.ref l,bs] H rfl rfl #[Jj,(#[l,xs,rfl,q3,r3]),λb hb=>(nomatch hb),Yg,λb hb=>h3 b hb]]]
  ·cases hf
 ·cases hf
theorem vqh{g}:∀{ds bs xs as},bls ds=some bs->RepA K H g ds xs as->xs=bs.map V.bl
 | [],bs,xs,as,h,r=>by
  cases oq9 h;exact r.1
 | d::ds,bs,xs,as,h,r=>by
  cases d with
  | bl b=>
   unfold bls at h;cases hb:bls ds with
   |none=>grind
   |some br=>
    rw[hb]at h;cases oq9 h;obtain⟨x,rr,c1,c2,rfl,rfl,h1,h2⟩:=r;rw[h1.1,vqh hb h2];rfl
  |_=>unfold bls at h;cases h
set_option tactic.hygienic true in
theorem Wx:Ad1 K (λv H Q=>xjd K [v] H Q) (pu1 K1):=by
 intro H x s Q ok hf k;unfold pu1 K1 at hf;dsimp only at hf
 split at hf
 ·rename_i ds e;cases hb:bls ds with
  |none=>simp_all
  |some bs=>
   rw[hb]at hf;cases oq9 hf;obtain⟨l,xs,cs,ev,q3,r3,_⟩:=items ok (.inl e);have q3:LsR K H l xs:=by rcases q3 with⟨_,z⟩|⟨z,_⟩;exact z;rw[e]at z;cases z
   exact#[l,bs,by rw[ev],by rw[<-vqh hb r3];exact Kq q3,k _ H rfl rfl x9]
 ·cases hf
theorem ZX{g}:∀x y s,pu2 (c2 g) x y=some s->∃k,s.2=.bl k:=by
 intro x y s h;unfold pu2 c2 at h
 split at h
 ·grind
 ·grind
theorem xks:∀x y s,pu2 fEq x y=some s->∃k,s.2=.bl k:=by
 intro x y s h;unfold pu2 fEq at h
 split at h
 ·grind
 ·grind
theorem xkr:∀x y s,pu2 fNe x y=some s->∃k,s.2=.bl k:=by
 intro x y s h;unfold pu2 fNe at h
 split at h
 ·grind
 ·grind
theorem vz3{x y d}(h:fIn x y=some d):∃k,d=.bl k:=by
 unfold fIn at h
 split at h
 ·split at h
  ·grind
  ·grind
 ·grind
 ·split at h
  ·grind
  ·grind
 ·grind
 ·grind
theorem wxy:∀x y s,pu2 wj x y=some s->∃k,s.2=.bl k:=by
 intro x y s h;unfold pu2 wj at h
 split at h
 ·grind
 ·cases hf:fIn x.2 y.2 with
  |none=>grind
  |some d=>
   rw[hf]at h;cases oq9 h;exact vz3 hf
theorem kxs:∀x y s,pu2 K0 x y=some s->∃k,s.2=.bl k:=by
 intro x y s h;unfold pu2 K0 qjs at h
 split at h
 ·grind
 ·cases hf:fIn x.2 y.2 with
  |none=>rw[hf]at h;cases h
  |some d=>
   obtain⟨k,rfl⟩:=vz3 hf;rw[hf]at h;cases oq9 h;exact#[_,rfl]
theorem wxx:∀x y s,f2First fIsNon x y=some s->∃k,s.2=.bl k:=by
 intro x y s h;unfold f2First fIsNon at h
 split at h
 ·grind
 ·grind
theorem wks:∀x y s,f2First fNotNon x y=some s->∃k,s.2=.bl k:=by
 intro x y s h;unfold f2First fNotNon at h
 split at h
 ·grind
 ·grind
end
end Q
namespace Q
open PySem
noncomputable def Qq(n d:Nat):Option Int->Nat
 |none=>d|some v=>if v<0 then(v+(n:Int)).toNat else min v.toNat n
noncomputable def K3(xs:List D)(lo hi:Option Int):List D:=(xs.drop (Qq xs.length 0 lo)).take (Qq xs.length xs.length hi - Qq xs.length 0 lo)
noncomputable def fSl:Sd->Option Int->Option Int->Option Sd:=λx lo hi=>match x.2 with
 |.lst xs=>if vz x then some (.rt,.lst (K3 xs lo hi))else none|.tup xs=>if vz x/\¬(Qq xs.length 0 lo=0/\Qq xs.length xs.length hi=xs.length)then some (.no,.tup (K3 xs lo hi))else none|.str z=>if(Txt.slice z lo hi).length<=big then some (.dp,.str (Txt.slice z lo hi))else none|_=>none
noncomputable def Zk:Option Ex->Ev (Option Int)
 |none,E=>some (.ok E none)
 |some c,E=>bnd (c E) λE x=>match x.2 with
  |.int i=>some (.ok E (some i))|_=>none
noncomputable def cSl(a:Ex)(lo hi:Option Ex):Ex:=λE=>bnd (a E) λE x=>bnd (Zk lo E) λE l=>bnd (Zk hi E) λE h=>val E (fSl x l h)
def lstOf:D->Option (List D)
 |.lst xs=>some xs|_=>none
noncomputable def Jv:List D->Option (List Str)
 |[]=>some []|.str z::ds=>(Jv ds).map (z :: ·)|_=>none
noncomputable def Kw:List D->Option (List Int)
 |[]=>some []|.int z::ds=>(Kw ds).map (z :: ·)|_=>none
noncomputable def WY(a:Str):List Str->List Str
 |[]=>[a]|b::r=>if Spec.ltCps b.cps.toList a.cps.toList then b::WY a r else a::b::r
def kY:List Str->List Str
 |[]=>[]|a::r=>WY a (kY r)
noncomputable def XV(a:Int):List Int->List Int
 |[]=>[a]|b::r=>if b<a then b::XV a r else a::b::r
def qwt:List Int->List Int
 |[]=>[]|a::r=>XV a (qwt r)
noncomputable def kqt:Sd->Option Sd:=λx=>match x.2 with
 | .lst ds=>(match Jv ds with
  |some ss=>if ss.length<64 then some (.rt,.lst ((kY ss).map .str))else none
  |none=>(match Kw ds with
   |some is=>if is.length<64 then some (.rt,.lst ((qwt is).map .int))else none
   |none=>none))
 |_=>none
noncomputable def wxs(i:Nat)(c:Ex):Ex:=λE=>if isLst E[i]? then bnd (c E) λE x=>match E[i]?,x.2 with
 | some (some (o,.lst xs)),.int k=>if o=.no then none else(match ixN xs.length k with
  |some j=>(match xs[j]? with
   |some d=>if d.pure&&Jk k then some (.ok (E.set i (some (o,.lst (xs.eraseIdx j)))) (.dp,d))else none
   |none=>none)
  |none=>none)
 |_,_=>none
 else none
noncomputable def qk3(f:Fn)(cs:List Ex):Ex:=λE=>bnd (vJ cs E) λE xs=>match f (letAll xs)with
 |some (.ok _ y)=>if y.2.pure then some (.ok E (.dp,y.2))else none|some (.exc _ c)=>some (.exc E c)|none=>none
noncomputable def qxg(i:Nat)(E:En):En:=match E[i]? with
 |some (some (_,d))=>E.set i (some (.no,d))|_=>E
def sFz(i:Nat)(s:Sm):Sm:=λE=>s (qxg i E)
noncomputable def xk8:Option (Option Sd)->Bool
 |some (some (.dp,.lst _))=>true|_=>false
noncomputable def Vk (i:Nat) (j c:Ex):Sm:=λE=>if xk8 E[i]? then ofE (j E) λE k=>match E[i]?,k.2 with
 | some (some (.dp,.lst xs)),.int k=>(match ixN xs.length k with
  | some n=>(match xs[n]? with
   | some (.lst _)=>ofE (c E) λE x=>match E[i]? with
    |some (some (.dp,.lst xs))=>(match xs[n]? with
     |some (.lst ys)=>if vK x/\ys.length<big then some (.nx (E.set i (some (.dp,.lst (xs.set n (.lst (ys++[x.2])))))))else none
     |_=>none)
    |_=>none
   |_=>none)
  |none=>none)
 |_,_=>none
 else none
noncomputable def Jw:Sd->Sd->Option Sd:=λx y=>match x.2,y.2 with
 |.tup a,.int k=>if -(2 ^ 63)<=k/\k<2 ^ 63/\a.length*k.toNat<=big/\vz x then some (.no,.tup (List.replicate k.toNat a).flatten)else none|_,_=>wxi x y
def sRz(c:Str):Sm:=λE=>some (.xc E c)
noncomputable def qk2(f:Fn)(cs:List Ex):Ex:=λE=>match vJ cs E with
 |some (.ok E xs)=>(match f (letAll xs)with
  |some (.ok _ y)=>some (.ok E y)|some (.exc _ c)=>some (.exc E c)
  |none=>none)
 |_=>none
noncomputable def vxc(i:Nat):Option Fl->Option Fl
 |some (.nx E)=>some (.nx (E.set i none))|some (.rt E x)=>some (.rt (E.set i none) x)|some (.ct E)=>some (.ct (E.set i none))|some (.bk E)=>some (.bk (E.set i none))|_=>none
noncomputable def Vw(cs:List Str)(i:Nat)(b h:Sm):Sm:=λE=>match b E with
 |some (.xc E c)=>if c∈cs then vxc i (h (E.set i (some (.no,.obj c []))))else none|r=>r
noncomputable def zY(t:List (Str×Bool)):D->Option D
 |.obj c _=>(t.lookup c).map .bl|_=>none
noncomputable def QK(f g:D->D->Option D)(a b c:Ex):Ex:=λE=>bnd (a E) λE x=>bnd (b E) λE y=>match f x.2 y.2 with
 |some (.bl true)=>bnd (c E) λE z=>val E ((g y.2 z.2).map λd=>(.dp,d))|some (.bl false)=>some (.ok E (.dp,.bl false))|_=>none
noncomputable def kzb(is:List Int):Bool:=is.all λi=>decide (0<=i)&&decide (i<=1000000)
noncomputable def wxh:D->Option D:=λd=>match d with
 |.lst ds=>(match Kw ds with
  |some is=>if kzb is=true/\is.length<=100000 then some (.int is.sum)else none
  |none=>none)
 |_=>none
noncomputable def xkd : Sd -> D -> D -> Option D:= λs k v=>match s,k with
  |(o,.lst xs),.int j=>if o = .no then none else(ixN xs.length j).map λn=>.lst (xs.set n v)|_,_=>none
def wqs:Nat->Ex->Ex->Sm:=wzm isLst xkd
noncomputable def xk(z:Str):D->Option D:=λd=>match d with
 |.lst ds=>(match Jv ds with
  |some ys=>if(ys.map (·.length)).sum+ys.length*z.length<=100000 then some (.str (Txt.join z ys))else none
  |none=>none)
 |_=>none
noncomputable def Vj(z:Str)(c:Ex):Ex:=λE=>bnd (c E) λE x=>val E ((xk z x.2).map λd=>(.dp,d))
def qvz:D->Bool
 |.str _=>true|_=>false
noncomputable def vky:D->D->Option D:=λx y=>match x,y with
 |.str a,.str b=>(match Builtin.Str.occurrences a b 0 a.length 1 with
  |i::_=>some (.int i)
  |[]=>none)
 |_,_=>none
noncomputable def vwz(a b:Ex):Ex:=λE=>bnd (a E) λE x=>if qvz x.2=true then bnd (b E) λE y=>val E ((vky x.2 y.2).map λd=>(.dp,d))else none
noncomputable def wkz(x:Sd):Bool:=vK x||(x.1 == .rt&&(match x.2 with
 |.lst ds=>D.pures ds
 |_=>false))
noncomputable def D.at:List Nat->D->Option D
 |[],d=>some d
 |n::p,.tup ds=>match ds[n]? with
  |some d=>D.at p d|none=>none
 |n::p,.lst ds=>match ds[n]? with
  |some d=>D.at p d|none=>none
 |_::_,_=>none
noncomputable def D.put(d':D):List Nat->D->D
 |[],_=>d'
 |n::p,.tup ds=>match ds[n]? with
  |some d=>.tup (ds.set n (D.put d' p d))|none=>.tup ds
 |n::p,.lst ds=>match ds[n]? with
  |some d=>.lst (ds.set n (D.put d' p d))|none=>.lst ds
 |_::_,d=>d
noncomputable def sPA(i:Nat)(p:List Nat)(c:Ex):Sm:=λE=>match E[i]? with
 |some (some (.dp,d))=>(match D.at p d with
  |some (.lst ds)=>if ds.length<big then ofE (c (E.set i none)) λE1 x=>if x.2.pure=true then some (.nx (E1.set i (some (.dp,D.put (.lst (ds++[x.2])) p d))))else none else none
  |_=>none)
 |_=>none
noncomputable def Qv(c:Ex):Ex:=λE=>bnd (c E) λE x=>if wkz x=true then some (.ok E (.dp,x.2))else none
noncomputable def wzq(k:Int):List D->D->Option (List D):=λds d=>if 0<=k/\k<=ds.length/\ds.length<big then some (ds.take k.toNat++d::ds.drop k.toNat)else none
noncomputable def wky(j:Nat)(kc vc:Ex):Sm:=λE=>if isLst E[j]? then ofE (kc E) λE1 x=>match x.2 with
 |.int k=>wq (wzq k) j vc E1|_=>none
 else none
noncomputable def WX(E:En):List (Int ⊕ Nat)->Option (List Int)
 |[]=>some []|.inl z::r=>(WX E r).map (z :: ·)
 |.inr m::r=>match E[m]? with
  |some (some (_,.int z))=>(WX E r).map (z :: ·)|_=>none
noncomputable def Qx:List Int->D->Option (List Nat)
 | [],_=>some []
 | z::r,.tup ds=>(match ixN ds.length z with
  |some n=>(match ds[n]? with
   |some d=>(Qx r d).map (n :: ·)
   |none=>none)
  |none=>none)
 | z::r,.lst ds=>(match ixN ds.length z with
  |some n=>(match ds[n]? with
   |some d=>(Qx r d).map (n :: ·)
   |none=>none)
  |none=>none)
 |_::_,_=>none
noncomputable def wqt(i:Nat)(ps:List (Int ⊕ Nat))(c:Ex):Sm:=λE=>match E[i]?,WX E ps with
 |some (some (_,d)),some zs=>(match Qx zs d with
  |some p=>sPA i p c E
  |none=>none)
 |_,_=>none
end Q
namespace Q
open PySem PySem.Spec PyProof.Rows L2 L3
section
variable {X:Cx}{Z:Fx0}{K:Frag}{pn:List Nat}{q qa qb:Bool}{a b c:Ex}{u:Ts}{tg e ea eb:Expr}{st:Stmt}{σ:L2.St}{H:Hp}{L:Ls}{E:En}{pos p p2:Pos}{x:Str}
theorem kqo(a):∀r,(WY a r).Perm (a::r)
 |[]=>List.Perm.refl _
 |b::r=>by
  unfold WY
  split
  ·exact((kqo a r).cons b).trans (List.Perm.swap ..)
  ·simp_all
theorem Kv:∀r,(kY r).Perm r
 |[]=>List.Perm.refl _|a::r=>(kqo a _).trans ((Kv r).cons a)
noncomputable def leS(a b:Str):Prop:=Spec.ltCps b.cps.toList a.cps.toList=false
theorem leS_iff{a b}:leS a b↔a.cps.toList<=b.cps.toList:=by
 unfold leS;rw[ltCps_eq,decide_eq_false_iff_not,List.not_lt]
theorem qjj{a b c}(h:leS a b)(h':leS b c):leS a c:=leS_iff.mpr (List.le_trans (leS_iff.mp h) (leS_iff.mp h'))
theorem qvt{a b}(h:leS a b)(h':leS b a):a=b:=by
 have:=List.le_antisymm (leS_iff.mp h) (leS_iff.mp h');cases a
 simp_all
theorem vk9{a b}(h:¬leS a b):leS b a:=by
 rw[leS_iff]at h ⊢;exact List.le_of_lt (List.not_le.mp h)
theorem kzp:∀{a r},risingS a r=true->(a::r).Pairwise leS
 |a,[],_=>by simp
 |a,b::r,h=>by
  have h:(!_&&risingS b r)=true:=h;rw[Bool.and_eq_true,Bool.not_eq_true']at h;have ih:=kzp h.2;refine List.pairwise_cons.mpr #[λc hc=>?_,ih];rcases aD hc with rfl|hc
  ·exact h.1
  ·exact qjj h.1 ((List.pairwise_cons.mp ih).1 c hc)
theorem qzn{r}(h:sortedS r=true):r.Pairwise leS:=by
 cases r with|nil=>exact .nil|cons a r=>exact kzp h
theorem vko{a}:∀{r},r.Pairwise leS->(WY a r).Pairwise leS
 | [],_=>by simp[WY]
 | b::r,h=>by
  rw[List.pairwise_cons]at h;unfold WY
  by_cases hl:Spec.ltCps b.cps.toList a.cps.toList=true
  ·rw[X8 hl];refine List.pairwise_cons.mpr #[λc hc=>?_,vko h.2];rcases aD ((kqo a r).mem_iff.mp hc)with rfl|hc
   ·exact vk9 (by unfold leS;rw[hl];exact λz=>nomatch z)
   ·simp_all
  ·rw[Xd hl];have jf:leS a b:=Bool.eq_false_iff.mpr hl;refine List.pairwise_cons.mpr #[λc hc=>?_,List.pairwise_cons.mpr h];rcases aD hc with rfl|hc
   ·simp_all
   ·exact qjj jf (h.1 c hc)
theorem kki:∀{r},(kY r).Pairwise leS
 |[]=>.nil|a::r=>vko kki
theorem qv9{r s}(p:s.Perm r)(h:sortedS s=true):s=kY r:=
 List.Perm.eq_of_pairwise (λa b _ _ h1 h2=>qvt h1 h2) (qzn h) kki (p.trans (Kv r).symm)
theorem kqp(a):∀r,(XV a r).Perm (a::r)
 |[]=>List.Perm.refl _
 |b::r=>by
  unfold XV
  split
  ·exact((kqp a r).cons b).trans (List.Perm.swap ..)
  ·simp_all
theorem kjb:∀r,(qwt r).Perm r
 |[]=>List.Perm.refl _|a::r=>(kqp a _).trans ((kjb r).cons a)
theorem vkp{a}:∀{r},r.Pairwise (·<=·)->(XV a r).Pairwise (·<=·)
 | [],_=>by simp[XV]
 | b::r,h=>by
  rw[List.pairwise_cons]at h;unfold XV
  by_cases hl:b<a
  ·rw[X8 hl];refine List.pairwise_cons.mpr #[λc hc=>?_,vkp h.2];rcases aD ((kqp a r).mem_iff.mp hc)with rfl|hc
   ·exact Int.le_of_lt hl
   ·exact h.1 c hc
  ·rw[Xd hl];refine List.pairwise_cons.mpr #[λc hc=>?_,List.pairwise_cons.mpr h];rcases aD hc with rfl|hc
   ·lia
   ·have:=h.1 c hc;lia
theorem qva:∀{r},(qwt r).Pairwise (·<=·)
 |[]=>.nil|a::r=>vkp qva
theorem vva{r s}(p:s.Perm r)(h:s.Pairwise (·<=·)):s=qwt r:=
 List.Perm.eq_of_pairwise (λa b _ _ h1 h2=>Int.le_antisymm h1 h2) h qva (p.trans (kjb r).symm)
theorem kvo{ns}:∀{us},Vals (ns.map V.str) us->StrsAre us ns:=by
 induction ns with
 | nil=>intro us r;cases r;exact .nil
 | cons n ns ih=>
  intro us r;cases r with
  |cons r1 r2=>
   obtain⟨t,e⟩:=r1;subst e;exact .cons n t (ih r2)
theorem kz4{us ns}(h:StrsAre us ns):Vals (ns.map V.str) us:=by
 induction h with|nil=>exact .nil|cons y t _ ih=>exact .cons #[t,rfl] ih
theorem kz6{us ns}(h:IntsAre us ns):Vals (ns.map V.int) us:=by
 induction h with|nil=>exact .nil|cons y t _ ih=>exact .cons #[t,rfl] ih
noncomputable def qzz(K:Frag):List V->Hp->VK->Prop:=λxs H Q=>
 (∃p ss,xs=[.ref p]/\SqL K H p (ss.map V.str)/\ss.length<64/\∀l,H l=none->Q (.ref l) (upd H l (.lst ((kY ss).map V.str)))) \/
 ∃p ss,xs=[.ref p]/\SqL K H p (ss.map V.int)/\ss.length<64/\∀l,H l=none->Q (.ref l) (upd H l (.lst ((qwt ss).map V.int)))
theorem qqg(hK:X.K=K):CallR X (.builtin "sorted") (qzz K):=by
 subst hK;intro a7 s σ H xs us Q I r h;rcases h with⟨p,ss,rfl,hq,hl,q⟩|⟨p,ss,rfl,hq,hl,q⟩
 ·obtain⟨u,rfl,rx⟩:=zQ r;cases rx;obtain⟨aq,r',pl,hz⟩:=I.list hq;have az:=r'.length;rw[X1]at az hz;refine sorted_strs pl.isList (kvo r') ⋯ λout kh h1 h2 h3=>?_
  have e:=qv9 h2 h3;subst e;obtain⟨n,hn⟩:=sortedAll_at s.heap aq out;have jn:s.heap.objs.size<=s.heap.objs.size+1:=Nat.le_succ _;refine#[.ref _,_,I.laid (t':=s.toks) (λb o e=>sortedAll_old e) jn ?_,rfl,q _ (I.hok.fresh jn)];exact#[by rw[X1,(Kv ss).length_eq];exact hz,out.toList,n,kz4 h1,by simpa using hn]
 ·obtain⟨u,rfl,rx⟩:=zQ r;cases rx;obtain⟨aq,r',pl,hz⟩:=I.list hq;have az:=r'.length;rw[X1]at az hz;refine sorted_ints pl.isList (qxf r') ⋯ λout kh h1 h2 h3=>?_
  have e:=vva h2 h3;subst e;obtain⟨n,hn⟩:=sortedAll_at s.heap aq out;have jn:s.heap.objs.size<=s.heap.objs.size+1:=Nat.le_succ _;refine#[.ref _,_,I.laid (t':=s.toks) (λb o e=>sortedAll_old e) jn ?_,rfl,q _ (I.hok.fresh jn)];exact#[by rw[X1,(kjb ss).length_eq];exact hz,out.toList,n,kz6 h1,by simpa using hn]
theorem kkg{g}:∀{ds bs xs as},Jv ds=some bs->RepA K H g ds xs as->xs=bs.map V.str/\∀z∈bs,z.length<=sizeLine
 | [],bs,xs,as,h,r=>by
  cases oq9 h;unfold RepA at r
  simp_all
 | d::ds,bs,xs,as,h,r=>by
  cases d with
  | str b=>
   unfold Jv at h;cases hb:Jv ds with
   |none=>grind
   |some br=>
    rw[hb]at h;cases oq9 h;obtain⟨x,rr,c1,c2,rfl,rfl,h1,h2⟩:=r;unfold RepL at h1;obtain _:=kkg hb h2
    simp_all
  |_=>unfold Jv at h;cases h
theorem kxg{g}:∀{ds bs xs as},Kw ds=some bs->RepA K H g ds xs as->xs=bs.map V.int
 | [],bs,xs,as,h,r=>by
  cases oq9 h;exact r.1
 | d::ds,bs,xs,as,h,r=>by
  cases d with
  | int b=>
   unfold Kw at h;cases hb:Kw ds with
   |none=>grind
   |some br=>
    rw[hb]at h;cases oq9 h;obtain⟨x,rr,c1,c2,rfl,rfl,h1,h2⟩:=r;rw[h1.1,kxg hb h2];rfl
  |_=>unfold Kw at h;cases h
theorem kkk{g}:∀{bs:List Str},(∀z∈bs,z.length<=sizeLine)->RepA K H g (bs.map D.str) (bs.map V.str) []
 |[],_=>#[rfl,rfl]
 |b::bs,h=>by
  exact#[_,_,[],[],rfl,rfl,Wk (h b X2),kkk λz hz=>h z (lc9 _ hz)]
theorem qve{g}:∀{bs:List Int},RepA K H g (bs.map D.int) (bs.map V.int) []
 |[]=>#[rfl,rfl]
 |b::bs=>by
  exact#[_,_,[],[],rfl,rfl,JK,qve]
set_option tactic.hygienic true in
theorem vqp:Ad1 K (λv H Q=>qzz K [v] H Q) kqt:=by
 intro H x s Q ok hf k;unfold kqt at hf;dsimp only at hf;cases hx:x.d with
 | lst ds=>
  rw [hx]at hf;dsimp only at hf;obtain⟨l,xs,bs,ev,q3,r3,_⟩:=items ok (.inl hx);have q3:LsR K H l xs:=by rcases q3 with⟨_,z⟩|⟨z,_⟩;exact z;rw[hx]at z;cases z
  cases hs:Jv ds with
  | some ss=>
   rw[hs]at hf;dsimp only at hf
   split at hf
   ·rename_i hl;cases oq9 hf;obtain⟨e1,e2⟩:=kkg hs r3;subst e1;exact .inl #[l,ss,by rw[ev],Kq q3,hl,λp hp=>(k _ _ rfl rfl (W9 hp (kkk λz hz=>e2 z ((Kv ss).mem_iff.mp hz)) λb hb=>nomatch hb))]
   ·cases hf
  | none=>
   rw[hs]at hf;cases hi:Kw ds with
   | none=>simp_all
   | some ss=>
    rw[hi]at hf;dsimp only at hf
    split at hf
    ·rename_i hl;cases oq9 hf;have e1:=kxg hi r3;subst e1;exact .inr #[l,ss,by rw[ev],Kq q3,hl,λp hp=>(k _ _ rfl rfl (W9 hp qve λb hb=>nomatch hb))]
    ·cases hf
 |_=>simp_all
noncomputable def tPo(Z:Fx0):Option Ex->TO
 |none=>qza|some c=>wqh (tV Z true c)
theorem wY:PO X none (tPo Z none):=wjf
theorem qW(h:QV X Z true c e):PO X (some e) (tPo Z (some c)):=wjd h
theorem vjd{α co F}{r:Res α}{G}(m:Mt E σ L)(w:World Z.K H L)(h:bnd (Zk co E) F=some r)(xc:Xc Z σ H L r)
  (k:∀E1 l,F E1 l=some r->∀L1 H1,Mt E1 σ L1->World Z.K H1 L1->Step H L H1 L1->kJ H H1->G l H1):tPo Z co σ H G:=by
 cases co with
 | none=>exact k E none h L H m w Step.refl Jj
 | some c=>
  have h:bnd (bnd (c E) λE x=>match x.2 with|.int i=>some _|_=>none) F=some r:=h;have h':bnd (c E) (λE x=>bnd (match x.2 with|.int i=>some (.ok E (some i))|_=>none) F)=some r:=by
   cases hc:c E with|none=>rw[hc]at h;exact h|some y=>rw[hc]at h;cases y<;>exact h
  show tV Z true c σ H λx H1=>∃i,x=.int i/\G (some i) H1
  refine vY m w h' xc λE1 s h1 x L1 H1 e1 e2 m1 w1 ok fr sr st sm=>?_
  cases hs:s.2 with
  |int i=>
   rw[hs]at h1;exact#[i,v7 ok (e2.trans hs),k E1 _ h1 L1 H1 m1 w1 st (sm rfl)]
  |_=>rw[hs]at h1;cases h1
theorem RepA.drop{K H g}:∀n {ds xs as},RepA K H g ds xs as->∃bs,RepA K H g (ds.drop n) (xs.drop n) bs/\∀b∈bs,b∈as
 |0,ds,xs,as,h=>#[as,h,λ_ h=>h]
 |n+1,[],xs,as,h=>by
  obtain⟨rfl,rfl⟩:=h;exact#[[],#[rfl,rfl],λ_ h=>h]
 |n+1,d::ds,xs,as,h=>by
  obtain⟨x,r,bs,cs,rfl,rfl,h1,h2⟩:=h;obtain⟨es,r2,hb⟩:=RepA.drop n h2;exact#[es,r2,λb h=>lr9 _ (hb b h)]
theorem RepA.take{K H g}:∀n {ds xs as},RepA K H g ds xs as->∃bs,RepA K H g (ds.take n) (xs.take n) bs/\∀b∈bs,b∈as
 |0,ds,xs,as,h=>#[[],#[rfl,rfl],λ_ h=>nomatch h]
 |n+1,[],xs,as,h=>by
  obtain⟨rfl,rfl⟩:=h;exact#[[],#[rfl,rfl],λ_ h=>h]
 |n+1,d::ds,xs,as,h=>by
  obtain⟨x,r,bs,cs,rfl,rfl,h1,h2⟩:=h;obtain⟨es,r2,hb⟩:=RepA.take n h2;exact#[bs++es,(#[x,r.take n,bs,es,rfl,rfl,h1,r2]),λb h=>(aA h).elim (λz=>ll9 _ z) λz=>lr9 _ (hb b z)]
theorem RepA.cut{K H g ds xs as}(h:RepA K H g ds xs as)(lo hi):∃bs,RepA K H g (K3 ds lo hi) (wq6 xs lo hi) bs/\∀b∈bs,b∈as:=by
 unfold K3 wq6;rw[<-h.len];obtain⟨bs,r,hb⟩:=h.drop _;obtain⟨cs,r2,hc⟩:=r.take _;exact#[cs,r2,λb h=>hb b (hc b h)]
set_option tactic.hygienic true in
theorem vzq{x:Sl}{s lo hi Q}(ok:x.ok K H)(hf:fSl (x.o,x.d) lo hi=some s)(k:∀z H',z.o=s.1->z.d=s.2->Out K H H' z x.frz->Q z.v H'):vxh K x.v lo hi H Q:=by
 unfold fSl at hf;cases hx:x.d with
 | lst ds=>
  rw[hx]at hf;dsimp only at hf
  split at hf
  ·rename_i hl;cases oq9 hf;obtain⟨l,xs,bs,ev,q3,r3,h3⟩:=KW ok (.inl hx) (hx▸hl);have q3:LsR K H l xs:=by rcases q3 with⟨_,z⟩|⟨z,_⟩;exact z;rw[hx]at z;cases z
   obtain⟨cs,r4,h4⟩:=r3.cut lo hi;exact .inl #[l,xs,ev,Kq q3,λp hp=>k _ _ rfl rfl (W9 hp r4 λb hb=>h3 b (h4 b hb))]
  ·cases hf
 | tup ds=>
  rw[hx]at hf;dsimp only at hf
  split at hf
  ·rename_i hl;cases oq9 hf;obtain⟨l,xs,bs,ev,q3,r3,h3⟩:=KW ok (.inr hx) (hx▸hl.1);have q3:SqT K H l xs:=by rcases q3 with⟨z,_⟩|⟨_,z⟩;rw[hx]at z;cases z;exact z
   obtain⟨cs,r4,h4⟩:=r3.cut lo hi;refine .inr (.inl #[l,xs,ev,q3,?_,λp hp=>k _ _ rfl rfl (kq9 hp r4 λb hb=>h3 b (h4 b hb))]);rw[<-r3.len];exact hl.2
  ·cases hf
 | str z=>
  rw[hx]at hf;dsimp only at hf
  split at hf
  ·rename_i hl;cases oq9 hf;obtain⟨e,hz⟩:=wZ ok hx;exact .inr (.inr #[z,e,hz,k _ H rfl rfl (ZK hl)])
  ·cases hf
 |_=>simp_all
theorem vQ{lo hi elo ehi}(ha:QV X Z q a ea)(hl:PO X elo (tPo Z lo))(hh:PO X ehi (tPo Z hi))(hK:autoParam (X.K=Z.K) Ŕ):QE X Z q (cSl a lo hi) (.Subscript ea (.Slice elo ehi none p2) pos):=
 kW (vvy (xj4 Z.K hK) ha hl hh) fun σ H Q bb=>ex8 bb λE L r m w hc xc k=>by
  refine vY m w (hc) xc λE1 s h1 x L1 H1 e1 e2 m1 w1 ok fr sr st sm=>(vjd m1 w1 h1 (xc.step st) λE2 l h2 L2 H2 m2 w2 st2 gz=>(vjd m2 w2 h2 (xc.step (st.trans st2)) λE3 u h3 L3 H3 m3 w3 dy t6=>?_))
  obtain⟨z,hz,rfl⟩:=JJ h3;have k1:=WK ok fr st2 gz;have k2:=WK k1.1 k1.2 dy t6;refine vzq k2.1 (by rw[e1,e2];exact hz) λy H' ho hd o=>?_
  obtain⟨w4,iz⟩:=VQ w3 ((st.trans st2).trans dy) o k2.2 (λb hb=>k2.1.some (Sl.frz_as hb)) (XW sr λb hb=>Sl.frz_as hb);have jt:=λhq=>qk (sm hq) (qk gz t6)
  exact k _ _ rfl y L3 H' ho hd m3 w4 iz λhq=>#[qk (jt hq) o.same,λb hb=>K2 (jt hq) (o.new b hb)]
noncomputable def tAV(Z:Fx0)(cs:List Ex):TA:=fun σ H Q=>∃E L r,Mt E σ L/\World Z.K H L/\vJ cs E=some r/\Xc Z σ H L r /\
 ∀E' ys,r=.ok E' ys->∀(xs:List Sl) L' H',xs.map Sl.sd=ys->Mt E' σ L'->World Z.K H' L'->(∀x∈xs,x.ok Z.K H')->Step H L H' L'->kJ H H'->Q (xs.map Sl.v) H'
noncomputable def QAV(X:Cx)(Z:Fx0)(cs:List Ex)(es:List Expr):Prop:=PA X es (tAV Z cs)
theorem xjl:QAV X Z [] []:=kzv v6 fun σ H Q bb=>ex8 bb λE L r m w hc xc k=>by
 cases oq9 hc;exact k _ _ rfl [] L H rfl m w (λ_ z=>nomatch z) Step.refl Jj
theorem xjk{cs es}(h:QV X Z true c e)(hs:QAV X Z cs es)(ck:autoParam (Abs e es X) Ŕ):QAV X Z (c::cs) (e::es):=
 kzv (kX h hs ck) fun σ H Q bb=>ex8 bb λE L r m w hc xc k=>by
  refine vY m w (hc) xc λE1 s h1 x L1 H1 e1 e2 m1 w1 ok fr sr st sm=>?_
  rcases wJ h1 with⟨E2,ys,h2,h3⟩|⟨E2,cc,h2,h3⟩
  ·cases oq9 h3;refine#[E1,L1,_,m1,w1,h2,(λ_ _ z=>by cases z),λE' ys' z xs L2 H2 e3 m2 w2 mx st2 gz=>?_];injection z with z1 z2;subst z1 z2;refine k _ _ rfl (x::xs) L2 H2 (by rw[List.map_cons,e3];simp[Sl.sd,e1,e2]) m2 w2 (λy hy=>?_) (st.trans st2) (qk (sm rfl) gz);rcases aD hy with rfl|hy
   ·exact(WK ok fr st2 gz).1
   ·exact mx y hy
  ·exact#[E1,L1,_,m1,w1,h2,(xc.step st).map h3,λE' s' z=>by cases z]
set_option tactic.hygienic true in
theorem wj5{k n ps f cs es}(D:k8 X.prog X.w X.K X.mg X.base k x ps (spF Z.K Z.mg n f))(hr:Room k X.A)(g:zq X Z.EX)(ha:QAV X Z cs (e::es))(hn:autoParam (cs.length=n) Ŕ)(hg:autoParam (Gl X x) Ŕ)(eh:autoParam (Abd x) ŕ)
  (he:autoParam (Abs e es X) Ŕ) (bv:autoParam (Abb pos es X) Ŕ):
  QE X Z true (qk3 f cs) (.Call (.Name x p) (e::es) [] pos):=kW (vxr D hr g ha hg eh he bv) fun σ H Q bb=>ex8 bb λE L r m w hc xc kk=>by
 rcases wJ hc with⟨E1,ys,h1,h2⟩|⟨E1,cc,h1,h2⟩
 rotate_left
 ·exact#[E,L,_,m,w,h1,xc.map h2,λE' s' z=>by cases z]
 refine#[E,L,_,m,w,h1,(λ_ _ z=>by cases z),λE' ys' z xs L1 H1 e1 m1 w1 ok1 st sm=>?_];injection z with z1 z2;subst z1 z2;rw [Xr];have az:xs.length=n:=by rw[<-hn,<-kj3 h1,<-e1,X1]
 cases hf:f _ with
 | none=>rw[hf]at h2;cases h2
 | some fr=>
  rw[hf]at h2;have ev:xs.map Sl.v=(xs.map Sl.let).map Sl.v:=by rw[Xu];rfl
  have wl:World Z.K H1 ((xs.map Sl.let).map some):=by
   refine#[λy hy=>?_,by rw[KJ];exact Yg,λa ha=>by rw[KJ]at ha;exact nomatch ha];obtain⟨y',hy',e⟩:=aE hy;cases e;obtain⟨t,ht,rfl⟩:=aE hy';exact W7 (ok1 t ht)
  rw[ev];refine#[xs.map Sl.let,fr,rfl,by rw[X1];exact az,wl,by rw[<-e1]at hf;rw[qq5];exact hf,λE' c ee C H' hm s'=>?_,λE' a ee y H' e2 e3 w' s'=>?_]
  ·subst ee;cases oq9 h2;have se:=λb ob hb=>s'.keep b ob hb λz=>by rw[KJ]at z;exact nomatch z
   exact xc _ _ rfl C L1 H' hm m1 #[λy hy=>RepO.kp (w1.ok y hy) (Kp.of_same se),w1.nd,w1.ds] (st.trans #[λb ob hb _=>se b ob hb,λ_ h=>.inl h,λ_ h=>.inl h])
  ·subst ee;dsimp only at h2
   split at h2
   ·rename_i hp;cases oq9 h2;have se:=λb ob hb=>s'.keep b ob hb λz=>by rw[KJ]at z;exact nomatch z
    have w2:World Z.K H' L1:=#[λy hy=>RepO.kp (w1.ok y hy) (Kp.of_same se),w1.nd,w1.ds];obtain⟨z,rp⟩:=RepL.pu (g':=false) (RepO.wk (w'.ok y X2)) (e3▸hp);exact kk _ _ rfl #[.dp,y.d,y.v,[]] L1 H' rfl e3 m1 (w2.consPu rp rfl) (QJ (st.trans #[λb ob hb _=>se b ob hb,λ_ h=>.inl h,λ_ h=>.inl h]) (λb hb=>nomatch hb) rfl) λ_=>#[qk sm se,λ_ z=>(nomatch z)]
   ·cases h2
end
theorem xj6{prog w A E s l items k t}{Q}
  (ht:IsTup s.heap l items) (h:Q .notImplemented s):wpAny (model prog w) A (call (.builtin "int.__rmul__") [.int k t,.ref l]) Q E s:=by
 refine Yh PySem.F.slot_int_rmul (typeIs_int s k t) PySem.F.entry_int_rmul ?_ (PySem.F.args_int_rmul_2 _ _);obtain⟨o,e,c,n,hd⟩:=ht;show wpAny _ _ (asInt? _ >>= _) _ _ s;refine X0 (X0 (wpAny_load e ?_));rw[hd];exact X9 (X0 (wpAny_rule (X9 #[_,rfl,h])))
theorem mulT{prog w A E s l items k t}{Q}
  (ht:IsTup s.heap l items) (h1:-(2 ^ 63)<=k) (h2:k<2 ^ 63) (hz:items.size*k.toNat<=sizeLine)
  (kf:(items.isEmpty=true\/k=1)->Q (.ref l) s)
  (hsz:(List.foldl (λx1 x2=>x1++x2) (List.toArray []) (List.replicate k.toNat items)).size<=sizeLine)
  (mz:Q (.ref s.heap.objs.size) {s with heap:=s.heap.push {cls:=.type "tuple",data:=.seq (List.foldl (λx1 x2=>x1++x2) (List.toArray []) (List.replicate k.toNat items))}})
  : wpAny (model prog w) A (call (.builtin "tuple.__mul__") [.ref l,.int k t]) Q E s:=by
 refine Yh PySem.F.slot_tuple_mul ht.typeIs PySem.F.entry_tuple_mul ?_ (PySem.F.args_tuple_mul_2 _ _);show wpAny _ _ (if _=true then _ else _) _ _ s;rw[Xd ⋯];refine X0 (tupleItemsOf_ ht ?_)
 by_cases hs:(items.isEmpty||k==1)=true
 ·rw[X8 hs];refine X0 (X0 (wpAny_typeOf ht.typeIs (X9 (X0 (wpAny_rule (X9 #[_,rfl,kf ?_]))))))
  simpa using hs
 ·rw[Xd hs];have cg:items.isEmpty=false:=by
   grind
  have hm:((items.size:Int)*k)<=sizeLine\/k<=0:=by
   by_cases hk:k<=0
   ·exact .inr hk
   ·grind
  dsimp only
  by_cases hk:k<=0
  ·rw[X8 (by simp[hk])];have e:k.toNat=0:=⋯
   rw[e]at mz;exact X0 (Yc (X9 #[_,rfl,mz]) (Ys _))
  ·rw[Xd (by simp[hk,cg])];have hm:=hm.resolve_right hk;have hsl:(sizeLine:Int)=16777216:=⋯
   rw[Xd ⋯,Xd (by unfold Builtin.Tuple.tupleTooMany;lia)];exact X0 (Yc (X9 #[_,rfl,mz]) hsz)
section
variable {X:Cx}{Z:Fx0}{K:Frag}{pn:List Nat}{q qa qb:Bool}{a b c:Ex}{u:Ts}{tg e ea eb:Expr}{st:Stmt}{σ:L2.St}{H:Hp}{L:Ls}{E:En}{pos p p2:Pos}{x:Str}
noncomputable def wqz(K:Frag):R2:=λx y H Q=>∃l k xs,x=.ref l/\y=.int k/\SqT K H l xs/\-(2 ^ 63)<=k/\k<2 ^ 63/\xs.length*k.toNat<=sizeLine/\((xs=[]\/k=1)->Q (.ref l) H)/\∀p,H p=none->Q (.ref p) (upd H p (.tup (List.replicate k.toNat xs).flatten))
theorem op_repT:OpR X (binaryOp .Mult) (wqz X.K):=by
 rintro a7 s σ H x y v u Q I rx ry ⟨l,k,xs,rfl,rfl,hq,h1,h2,hz,q1,q2⟩;cases rx;obtain⟨t,rfl⟩:=ry;obtain⟨aq,r,ht,hl⟩:=I.tuple hq;have az:=r.length;have f0:List.foldl (λx1 x2=>x1++x2) (List.toArray []) (List.replicate k.toNat aq.toArray)=(List.replicate k.toNat aq).flatten.toArray:=by
  have:=kqq aq k.toNat [];exact this
 have hz2:(List.replicate k.toNat xs).flatten.length<=sizeLine:=by rw[vk7,Nat.mul_comm];exact hz
 refine wpAny_binaryOp_repeat_ref ⋯ ht.typeIs (λs'=>typeIs_int s' k t) rfl F.fills_int_mul F.slot_int_rmul (rfl) F.slot_int_index.lookup
  (xj6 ht #[rfl,ht.typeIs,mulT ht h1 h2 (by rw[Xe,<-az];exact hz) (λhs=>?_) ?_ ?_])
 ·refine#[.ref l,H,I,rfl,q1 ?_];rcases hs with hs|hs
  ·grind
  ·exact .inr hs
 ·rwa [f0,Xe,<-(r.rep k.toNat).length]
 ·rw[f0];exact#[.ref _,_,I.laid (t':=s.toks) (o:=.tup _) (λb o e=>X4 _ e) (Xk _) #[hz2,_,r.rep k.toNat,IsTupD.new _ _],rfl,q2 _ (I.hok.fresh (Xk _))]
noncomputable def wv2(K:Frag):R2:=λx y H Q=>wqz K x y H Q\/vzy K x y H Q
theorem wwh(hK:autoParam (X.K=K) Ŕ):OpR X (binaryOp .Mult) (wv2 K):=by subst hK;exact op_repT.or wwi
set_option tactic.hygienic true in
theorem wkv:Ad2 K (wv2 K) Jw:=by
 intro H x y s Q ox oy hf k;cases hx:x.d with
 | tup ds=>
  cases hy:y.d with
  | int n=>
   unfold Jw at hf;rw [hx,hy]at hf;dsimp only at hf
   split at hf
   ·rename_i hc;cases oq9 hf;obtain⟨l,xs,bs,e3,q3,r3,h3⟩:=KW ox (.inr hx) (hx▸hc.2.2.2);have q3:SqT K H l xs:=by rcases q3 with⟨z,_⟩|⟨_,z⟩;rw[hx]at z;cases z;exact z
    obtain⟨cs,r4,h4⟩:=r3.reps n.toNat;refine .inl #[l,n,xs,e3,v7 oy hy,q3,hc.1,hc.2.1,by rw[<-r3.len];exact hc.2.2.1,λhs=>?_,λp hp=>?_]
    ·refine k #[.no,.tup _,.ref l,cs] H rfl rfl #[Jj,(#[l,xs,rfl,q3,?_]),λb hb=>(nomatch hb),Yg,λb hb=>ll9 _ (h3 b (h4 b hb))];have e:(List.replicate n.toNat xs).flatten=xs:=by
      rcases hs with hs|hs
      ·subst hs;simp
      ·subst hs;simp
     rw[e]at r4;exact r4
    ·exact k _ _ rfl rfl (kq9 hp r4 λb hb=>ll9 _ (h3 b (h4 b hb)))
   ·grind
  |_=>
   refine .inr (vz9 H x y s Q ox oy ?_ k);rw[hx,hy]at hf;rw[hx];exact hf
 |_=>
  refine .inr (vz9 H x y s Q ox oy ?_ k);unfold Jw at hf;rw[hx]at hf;rw[hx];exact hf
end
section
variable {X:Cx}{Z:Fx0}{K:Frag}{pn:List Nat}{q qa qb:Bool}{a b c:Ex}{u:Ts}{tg e ea eb:Expr}{st:Stmt}{σ:L2.St}{H:Hp}{L:Ls}{E:En}{pos p p2 qe:Pos}{x:Str}{lp:List Expr}{k1:Nat}
set_option tactic.hygienic true in
theorem q_fz{i:Nat}{A:Sm}(h:QS X Z pn A st):QS X Z pn (sFz i A) st:=zJ h λD σ H bb=>ex7 bb λE L r m w hc k=>by
 have hc:A (qxg i E)=some r:=hc;unfold qxg at hc
 split at hc
 ·rename_i o d hE;obtain⟨x,h1,h2,h3,h4⟩:=m.get hE;have m':=m.let h1
  rw[h3]at m';exact#[_,_,r,m',(w.read h1).tail,hc,k.step ((Step.read h1).trans Step.drop) Pn.refl]
 ·exact#[E,L,r,m,w,hc,k]
end
theorem RepA.erase{K H g}:∀{j ds xs as},RepA K H g ds xs as->∃bs,RepA K H g (ds.eraseIdx j) (xs.eraseIdx j) bs/\bs.Sublist as
 |j,[],xs,as,h=>by
  obtain⟨rfl,rfl⟩:=h;exact#[[],#[rfl,rfl],Yp _]
 |0,d::ds,xs,as,h=>by
  obtain⟨x,r,bs,cs,rfl,rfl,h1,h2⟩:=h;exact#[cs,h2,List.sublist_append_right _ _]
 |j+1,d::ds,xs,as,h=>by
  obtain⟨x,r,bs,cs,rfl,rfl,h1,h2⟩:=h;obtain⟨es,r2,hs⟩:=RepA.erase h2;refine#[bs++es,?_,List.Sublist.append (Yp _) hs];unfold RepA;exact#[x,r.eraseIdx j,bs,es,rfl,rfl,h1,r2]
theorem vxw{n i j}(h:_root_.Q.ixN n i=some j):seqIndex? i n=some j/\j<n/\-n<=i/\i<n:=by
 have e:L2.ixN n i=some j:=by
  unfold _root_.Q.ixN at h;unfold L2.ixN
  by_cases h0:0<=i
  ·exact h
  ·rw[Xd h0]at h ⊢;exact h
 exact qqa e
section
variable {X:Cx}{Z:Fx0}{K:Frag}{pn:List Nat}{q qa qb:Bool}{a b c:Ex}{u:Ts}{tg e ea eb:Expr}{st:Stmt}{σ:L2.St}{H:Hp}{L:Ls}{E:En}{pos p p2 qe:Pos}{x:Str}{lp:List Expr}{k1:Nat}
set_option tactic.hygienic true in
theorem xjf {i o bi au} (hb:PE X (.Call (.Attribute o "pop" bi) [e] [] au) (tBM Z.K "list" vxi (J4 i) (vv7 (tV Z q c) wzj))):QE X Z false (wxs i c) (.Call (.Attribute o "pop" bi) [e] [] au):=kW hb fun σ H Q bb=>ex8 bb λE L r m w hc xc k=>by
 unfold wxs at hc;cases h0:E[i]? with
 | none=>rw [h0]at hc;cases hc
 | some s0 =>
  cases s0 with
  | none=>rw [h0]at hc;cases hc
  | some s0 =>
   obtain ⟨o0,d0⟩:=s0;cases d0 with
   | lst qs =>
    rw [h0,X8 (show isLst (some (some (o0,D.lst qs)))=true from rfl)]at hc;obtain ⟨x0,a1,a2,a3,a4⟩:=m.get h0;refine #[x0.v,a4,vk3 (w.ok x0 (vZ a1)) a3,(vY m w hc xc λE1 s h1 x L1 H1 e1 e2 m1 w1 sj fr sr st sm=>?_)];cases hE:E1[i]? with
    | none=>rw[hE]at h1;cases h1
    | some s1=>
     cases s1 with
     | none=>rw[hE]at h1;cases h1
     | some s1=>
      obtain ⟨oo,dd⟩:=s1;rw [hE]at h1;cases dd with
      | lst ds=>
       cases hs:s.2 with
       | int kk=>
        rw [hs]at h1;dsimp only at h1
        by_cases me:oo=.no
        ·rw [X8 me]at h1;cases h1
        ·rw [Xd me]at h1;cases hj:_root_.Q.ixN ds.length kk with
         | none=>rw[hj]at h1;cases h1
         | some j=>
          rw [hj]at h1;dsimp only at h1;cases hd:ds[j]? with
          | none=>rw[hd]at h1;cases h1
          | some d=>
           rw[hd]at h1;dsimp only at h1
           split at h1
           rotate_left
           ·cases h1
           rename_i hp;rw[Bool.and_eq_true]at hp;obtain⟨hp,hsm⟩:=hp;obtain⟨se,gz⟩:=kvx hsm;cases oq9 h1;obtain⟨y,b1,b2,b3,b4⟩:=m1.get hE;have hv:y.v=x0.v:=by rw[a4]at b4;exact(oq9 (oq9 b4)).symm
           obtain⟨l,xs,bs,c1,c2,c3,c4,c5⟩:=kwx (w1.ok y (vZ b1)) b3 (b2▸me);have ex0:x0.v=.ref l:=hv▸c1;rw[ex0];obtain⟨vv,br,f1,f2,f3⟩:=c5.get hd;obtain⟨g1,g2,g3,g4⟩:=vxw hj;have hbig:(2:Int) ^ 63=9223372036854775808:=⋯
           obtain⟨_,rp⟩:=RepL.pu (g':=false) f2 hp;obtain⟨cs,r6,i3⟩:=c5.erase (j:=j);refine#[l,xs,kk,j,vv,rfl,by rw[v7 sj (e2.trans hs)],c2,?_,?_,by rw[<-c5.len];exact g1,f1,?_]
           ·have:(2:Int) ^ 62=4611686018427387904:=⋯
            omega
           ·have:(2:Int) ^ 62=4611686018427387904:=⋯
            omega
           have yn:y.own.Nodup:=by
            obtain⟨A,B,e,_⟩:=jxk b1;have:=w1.nd;rw[e,k9,jW,X7]at this;exact(List.nodup_append.mp this.2.1).1
           have hoo:y.o=.rt\/y.o=.dp:=by
            rw[b2];cases oo with|no=>exact absurd rfl me|rt=>exact .inl rfl|dp=>exact .inr rfl
           obtain⟨w3,s3⟩:=kwv (T:=[]) (o':=y.o) (ds':=ds.eraseIdx j) (xs':=xs.eraseIdx j) (by simpa using w1) b1 c2 c3 c4 c1 r6 (by
            rcases hoo with hoo|hoo
            ·exact .inl #[hoo,λa ha=>.inl (i3.subset ha)]
            ·refine .inr #[hoo,hoo,?_,λa ha=>.inl (i3.subset ha)];unfold Sl.own at yn;rw[hoo,c3]at yn;exact i3.nodup (List.nodup_cons.mp yn).2)
           have ke:∀a o,H1 a=some o->a≠l->upd H1 l (.lst (xs.eraseIdx j)) a=some o:=λa o e ne=>by rw[kj ne];exact e
           have rp2:RepL Z.K (upd H1 l (.lst (xs.eraseIdx j))) false d vv []:=by
            refine rp.kp #[λa zs e=>ke a _ e λz=>?_,λa o u e=>ke a _ e λz=>?_,λa ha=>nomatch ha]
            ·subst z;rw[c2]at e;cases e
            ·subst z;rw[c2]at e;cases e
           have mm:=m1.set (x:=#[y.o,.lst (ds.eraseIdx j),y.v,l::cs]) i;rw[V1 b4]at mm;refine k _ _ rfl #[.dp,d,vv,[]] _ _ rfl rfl (b2▸mm) (w3.consPu rp2 rfl) (QJ (x:=#[.dp,d,vv,[]]) (st.trans (by simpa using s3)) (λb hb=>nomatch hb) rfl) λz=>nomatch z
       |_=>rw[hs]at h1;cases h1
      |_=>cases h1
   |_=>rw[h0]at hc;cases hc
theorem RepA.setAt{H H':Hp}{l:Addr}{d':D}{cs:List Addr}:∀{n:Nat} {ds:List D} {xs:List V} {as:List Addr} {ys:List D},RepA K H false ds xs as->as.Nodup->ds[n]?=some (.lst ys)->xs[n]?=some (.ref l) ->
  (∀bs:List Addr,l∉bs->(∀b∈bs,b∈as)->Kp H H' bs)->(∀bs,RepL K H false (.lst ys) (.ref l) bs->(∀b∈bs,b∈as)->bs.Nodup->∃es,RepL K H' false d' (.ref l) es/\es.Nodup/\(∀b∈es,b∈bs\/b∈cs))->(∀b∈cs,b∉as) ->
  ∃f7,RepA K H' false (ds.set n d') xs f7/\f7.Nodup/\∀b∈f7,b∈as\/b∈cs
 | _,[],_,_,_,_,_,e,_,_,_,_=>by simp at e
 | 0,d::ds,xs,as,ys,h,nd,e,ex,kp,new,mf=>by
  have e:d=.lst ys:=by simpa using e
  subst e;unfold RepA at h;obtain⟨x,r,bs,es,rfl,rfl,h1,h2⟩:=h;have ex:x=.ref l:=by simpa using ex
  subst ex;rw[X7]at nd;obtain⟨fs,n1,n2,n3⟩:=new bs h1 (λb hb=>ll9 _ hb) nd.1;have hl:l∈bs:=by
   unfold RepL at h1;obtain⟨a,zs,gs,ea,_,q⟩:=h1;cases ea;rcases q with⟨_,rfl⟩|⟨z,_⟩
   ·exact X2
   ·cases z
  have le:l∉es:=λz=>nd.2.2 l hl l z rfl
  refine#[fs++es,?_,?_,λb hb=>?_]
  ·rw[List.set_cons_zero];unfold RepA;exact#[_,r,fs,es,rfl,rfl,n1,h2.kp (kp es le λb hb=>lr9 _ hb)]
  ·rw[X7];refine#[n2,nd.2.1,λa ha b hb jf=>?_];subst jf;rcases n3 a ha with z|z
   ·exact nd.2.2 a z a hb rfl
   ·exact mf a z (lr9 _ hb)
  ·rcases aA hb with z|z
   ·exact(n3 b z).imp (λz=>ll9 _ z) id
   ·exact .inl (lr9 _ z)
 | n+1,d::ds,xs,as,ys,h,nd,e,ex,kp,new,mf=>by
  unfold RepA at h;obtain⟨x,r,bs,es,rfl,rfl,h1,h2⟩:=h;rw[X7]at nd;obtain⟨f7,n1,n2,n3⟩:=RepA.setAt (n:=n) h2 nd.2.1 (by simpa using e) (by simpa using ex) (λbs h1 h2=>kp bs h1 λb hb=>lr9 _ (h2 b hb)) (λbs h1 h2 h3=>new bs h1 (λb hb=>lr9 _ (h2 b hb)) h3) (λb hb z=>mf b hb (lr9 _ z));have hl:l∈es:=by
   obtain⟨v,gs,q1,q2,q3⟩:=h2.get (i:=n) (by simpa using e);rw[show r[n]?=some (V.ref l)from by simpa using ex]at q1;cases oq9 q1;unfold RepL at q2;obtain⟨a,zs,hs,ea,_,q⟩:=q2;cases ea;rcases q with⟨_,rfl⟩|⟨z,_⟩
   ·exact q3 l X2
   ·cases z
  have lb:l∉bs:=λz=>nd.2.2 l z l hl rfl
  refine#[bs++f7,?_,?_,λb hb=>?_]
  ·rw[List.set_cons_succ];unfold RepA;exact#[x,r,bs,f7,rfl,rfl,h1.kp (kp bs lb λb hb=>ll9 _ hb),n1]
  ·rw[X7];refine#[nd.1,n2,λa ha b hb jf=>?_];subst jf;rcases n3 a hb with z|z
   ·exact nd.2.2 a ha a z rfl
   ·exact mf a z (ll9 _ ha)
  ·rcases aA hb with z|z
   ·exact .inl (ll9 _ z)
   ·exact(n3 b z).imp (λz=>lr9 _ z) id
theorem qk0{y:Sl}{ds:List D}(ok:y.ok K H)(hd:y.d=.lst ds)(ho:y.o=.dp):∃l xs bs,y.v=.ref l/\H l=some (.lst xs)/\y.as=l::bs/\y.own=l::bs/\RepA K H false ds xs bs:=by
 obtain⟨l,xs,bs,c1,c2,c3,c4,c5⟩:=kwx ok hd (by rw[ho];exact λz=>nomatch z);rw[ho]at c5;exact#[l,xs,bs,c1,c2,c3,by unfold Sl.own;rw[ho,c3],c5]
set_option tactic.hygienic true in
theorem vxj{i:Nat}{j:Ex}{ex ej:Expr}{bi au fj:Pos}(hj:QV X Z true j ej)(hc:QE X Z true c e)(hx:PE X ex (J4 i))(bv:kjy ej)(hK:autoParam (X.K=Z.K) Ŕ)
  (hm:MtR X "list.append" kq5)
  (bq:autoParam (attributeBase (.Subscript ex ej p) "append" X.env (eval (.Subscript ex ej p) X.env)=eval (.Subscript ex ej p) X.env) Ŕ)
  (cy:autoParam (((backTo au (starEach [e] X.env)).all (λx=>!x.1)&&(backToKw au (keywordEach [] X.env)).all (λx=>x.1.isSome)
   && decide ([e].length+([]:List Keyword).length+(if([]:List Keyword).isEmpty then 0 else 1)<30))=true) Ŕ)
  (bp:autoParam (Abe bi au) Ŕ) (hs:autoParam (Abs e [] X) Ŕ) (bj:autoParam (Abb au [] X) Ŕ)
  (lv:autoParam (swapsWith (.Call (.Attribute (.Subscript ex ej p) "append" bi) [e] [] au) none fj.line X.env=pure false) Ŕ):
  QS X Z pn (Vk i j c) (.Expr (.Call (.Attribute (.Subscript ex ej p) "append" bi) [e] [] au) fj):=
 zJ (WV (Zq Z.K Ye Yx Yy hm (vvz (hK▸qvw) hx hj bv) (kX hc v6 hs) bq cy bp hs bj hK) lv) λD σ H bb=>ex7 bb λE L r m w cu k=>by
 unfold Vk at cu
 split at cu
 rotate_left
 ·cases cu
 rename_i hdp;obtain⟨qs,h0⟩:∃ds,E[i]?=some (some (.dp,.lst ds)):=by
  unfold xk8 at hdp
  split at hdp
  ·exact#[_,‹_›]
  ·cases hdp
 obtain⟨x0,a1,a2,a3,a4⟩:=m.get h0;refine#[x0.v,a4,?_];rcases XY cu with⟨E1,s,h1,h2⟩|⟨E1,cc,h1,rfl⟩
 rotate_left
 ·exact#[E,L,_,m,w,h1,k.xc,λE' s' z=>by cases z]
 refine#[E,L,_,m,w,h1,(λ_ _ z=>by cases z),λE' s' z x L1 H1 e1 e2 m1 w1 sj fr sr st sm=>?_];injection z with z1 z2;subst z1 z2
 split at h2
 rotate_left
 ·cases h2
 rename_i ds1 kk hE hsi
 split at h2
 rotate_left
 ·cases h2
 rename_i n hj2
 split at h2
 rotate_left
 ·cases h2
 rename_i ys0 hdn;obtain⟨y,b1,b2,b3,b4⟩:=m1.get hE;have hv:y.v=x0.v:=by rw[a4]at b4;exact(oq9 (oq9 b4)).symm
 obtain⟨la,xs,bs,c1,c2,c3,c4,c5⟩:=qk0 (w1.ok y (vZ b1)) b3 b2;obtain⟨vn,gs,f1,f2,f3⟩:=c5.get hdn;obtain⟨g1,g2,g3,g4⟩:=vxw hj2;have hvn:=f2;unfold RepL at hvn;obtain⟨l,zs,nw,evn,hra,hqq⟩:=hvn;subst evn;have ql:H1 l=some (.lst zs):=by rcases hqq with⟨z,_⟩|⟨z,_⟩;exact z;cases z
 rw [<-hv,c1];refine .inl #[la,xs,kk,.ref l,rfl,v7 sj (e2.trans hsi),.inl (.inl c2),?_,.inl #[rfl,zs,.inl (.inl ql)],?_]
 ·unfold atI;have:L2.ixN xs.length kk=some n:=by
   rw[<-c5.len];unfold _root_.Q.ixN at hj2;unfold L2.ixN
   by_cases h0:0<=kk
   ·rw[X8 h0]at hj2 ⊢;exact hj2
   ·rw[Xd h0]at hj2 ⊢;exact hj2
  rw[this];exact f1
 have k1:FlP Z pn D σ H1 L1 r:=k.step st Pn.refl;refine Qz (q:=true) m1 w1 h2 k1 λE2 s2 h3 x2 L2 H2 e3 e4 m2 w2 st2 gz=>?_
 split at h3
 rotate_left
 ·cases h3
 rename_i vh hE2
 split at h3
 rotate_left
 ·cases h3
 rename_i ys mn
 split at h3
 rotate_left
 ·cases h3
 rename_i hti;cases oq9 h3;obtain⟨y2,p1,p2,p3,p4⟩:=m2.get hE2;have hv2:y2.v=.ref la:=by
  have:y2.v=y.v:=by rw[b4]at p4;exact(oq9 (oq9 p4)).symm
  rw[this,c1]
 obtain⟨mj,xs2,je,q1,q2,q3,q4,q5⟩:=qk0 (w2.ok y2 (lc9 _ (vZ p1))) p3 p2;have:mj=la:=by rw[hv2]at q1;exact(V.ref.inj q1).symm
 subst this;have kf:=(gz rfl).1;have:xs2=xs:=by rw[kf _ _ c2]at q2;cases q2;rfl
 subst this;obtain⟨vn2,gs2,j1,j2,j3⟩:=q5.get mn;have:vn2=.ref l:=by rw[f1]at j1;exact(oq9 j1).symm
 subst this;have p6:H2 l=some (.lst zs):=kf _ _ ql;have lin:l∈je:=by
  unfold RepL at j2;obtain⟨a,zz,hs,ea,_,qq⟩:=j2;cases ea;rcases qq with⟨_,rfl⟩|⟨z,_⟩
  ·exact j3 l X2
  ·cases z
 obtain⟨cs,r1,t3,t4,t5⟩:=wxe w2.head false λ_=>by rw[show x2.sd=s2 from by simp[Sl.sd,e3,e4]];exact hti.1
 have nd:=w2.nd;rw [jW,X7]at nd;have yn:(mj::je).Nodup:=by
  obtain⟨A,B,e,_⟩:=jxk p1;have:=nd.2.1;rw[e,k9,jW,X7]at this;have:=(List.nodup_append.mp this.2.1).1;rw[q4]at this;exact this
 rw [Z6]at yn;have oin:∀b∈mj::je,b∈j7 L2:=λb hb=>mem_owned.mpr #[y2,vZ p1,by rw[q4];exact hb]
 have csx:∀b∈cs,b∉mj::je:=λb hb hz=>nd.2.2 b (t4 rfl b hb) b (oin b hz) rfl
 have nlc:l∉cs:=λz=>csx l z (lc9 _ lin)
 have kpg:∀as:List Addr,l∉as->Kp H2 (upd H2 l (.lst (zs++[x2.v]))) as:=λas hn=>by
  have ke:∀a o,H2 a=some o->a≠l->upd H2 l (.lst (zs++[x2.v])) a=some o:=λa o e ne=>by rw[kj ne];exact e
  refine#[λa xs e=>ke a _ e λz=>?_,λa o u e=>ke a _ e λz=>?_,λa ha o e=>ke a o e λz=>hn (z▸ha)]
  ·subst z;rw[p6]at e;cases e
  ·subst z;rw[p6]at e;cases e
 obtain⟨f7,n1,n2,n3⟩:=RepA.setAt (H':=upd H2 l (.lst (zs++[x2.v]))) (d':=.lst (ys++[s2.2])) (cs:=cs) q5 yn.2 mn f1 (λbs h1 _=>kpg bs h1) (λbs hb i3 sk=>by
  unfold RepL at hb;obtain⟨a,zz,hs,ea,r9,qq⟩:=hb;cases ea;rcases qq with⟨qq,rfl⟩|⟨z,_⟩
  ·have:zz=zs:=by rw[p6]at qq;cases qq;rfl
   subst this;rw[Z6]at sk;refine#[l::(hs++cs),?_,?_,λb hb=>?_]
   ·unfold RepL;refine#[l,zz++[x2.v],hs++cs,rfl,RepA.snoc (by rw[<-e4];exact r1.kp (kpg cs nlc)) (r9.kp (kpg hs sk.1)),.inl #[xV,rfl]]
   ·rw[Z6,X7];refine#[λz=>(aA z).elim sk.1 nlc,sk.2,t5 rfl nd.1,λa ha b hb jf=>?_];subst jf;exact csx a hb (lc9 _ (i3 a (lc9 _ ha)))
   ·rcases aD hb with rfl|hb
    ·exact .inl X2
    ·exact(aA hb).imp (lc9 _) id
  ·cases z) (λb hb z=>csx b hb (lc9 _ z))
 have lla:mj≠l:=λz=>yn.1 (z▸lin)
 refine#[l,zs,x2.v,rfl,rfl,p6,?_,?_]
 ·have:ys.length=zs.length:=by
   unfold RepL at j2;obtain⟨a,zz,hs,ea,r9,qq⟩:=j2;cases ea;rcases qq with⟨qq,rfl⟩|⟨z,_⟩
   ·have:zz=zs:=by rw[p6]at qq;cases qq;rfl
    subst this;exact r9.len
   ·cases z
  rw[<-this];exact hti.2
 have laas:mj∉f7:=λz=>by
  rcases n3 mj z with z|z
  ·exact yn.1 z
  ·exact csx mj z X2
 obtain⟨w3,s3⟩:=World.writeAt (T:=[some x2]) (L:=L2) (i:=i) (y':=#[.dp,.lst (vh.set n (.lst (ys++[s2.2]))),y2.v,mj::f7]) (l:=l) (ob:=.lst (zs++[x2.v])) w2 p1 (by rw[q4];exact lc9 _ lin) (by
  show RepL Z.K _ false _ _ _;unfold RepL;exact#[mj,xs2,f7,hv2,n1,.inl #[by rw[kj lla];exact q2,rfl]]) (List.nodup_cons.mpr #[laas,n2]) (λa ha=>by
  rcases aD (show a∈mj::f7 from ha)with rfl|ha
  ·exact .inl (by rw[q4];exact X2)
  ·rcases n3 a ha with z|z
   ·exact .inl (by rw[q4];exact lc9 _ z)
   ·exact .inr (by simpa using t4 rfl a z)) (λa ha=>(nomatch ha)) (λa ha z=>(nomatch z))
 refine k1 σ _ _ Pn.refl ?_ w3 (st2.trans s3);have mm:=m2.set (x:=#[.dp,.lst (vh.set n (.lst (ys++[s2.2]))),y2.v,mj::f7]) i;rw[V1 p4]at mm;exact mm
end
section
variable {X:Cx}{Z:Fx0}{q:Bool}{a b c:Ex}{ea eb ec:Expr}{σ:L2.St}{H:Hp}{pos:Pos}
theorem kwc{r r' f g}(ad:Ad2 Z.K r (pu2 f))(uz:Ad2 Z.K r' (pu2 g)){Q}(h:tQ Z q (QK f g a b c) σ H Q):qzb r r' (tV Z q a) (tV Z true b) (tV Z true c) σ H Q:=by
 obtain⟨E,L,R,m,w,hc,xc,k⟩:=h;refine vY m w hc xc λE1 s h1 x L1 H1 e1 e2 m1 w1 ok fr sr st sm=>(vY m1 w1 h1 (xc.step st) λE2 s2 h2 y L2 H2 e3 e4 m2 w2 mx uo uk st2 gz=>?_)
 cases hf:f s.2 s2.2 with
 | none=>rw[hf]at h2;cases h2
 | some d=>
  rw [hf]at h2;cases d with
  | bl kb=>
   refine ad H2 x y _ _ (WK ok fr st2 (gz rfl)).1 mx (by show(f x.d y.d).map _=_;rw[e2,e4,hf];rfl) λz H' zo zd o=>(#[kb,QY o.ok zd,?_])
   have w3:World Z.K H' L2:=#[λt ht=>RepO.kp (w2.ok t ht) (Kp.of_same o.same),w2.nd,w2.ds];have dy:=(st.trans st2).trans #[λb ob h _=>o.same b ob h,λ_ h=>.inl h,λ_ h=>.inl h];have t6:=λhq=>qk (sm hq) (qk (gz rfl) o.same)
   cases kb with
   | false=>
    cases oq9 h2;exact k _ _ rfl _ L2 H' rfl rfl m2 (w3.consPu (x:=#[.dp,.bl false,.bl false,[]]) (show RepL Z.K H' false _ _ []from qvf) rfl) (QJ dy (λb hb=>nomatch hb) rfl) λhq=>#[t6 hq,λ_ z=>(nomatch z)]
   | true=>
    rw[X8 rfl];refine vY m2 w3 h2 (xc.step dy) λE3 s3 h3 v L3 H3 e5 e6 m3 w4 ok3 rq sr3 iz qf=>?_
    obtain⟨zz,hz,rfl⟩:=JJ h3;have ky:=WK (RepO.kp mx (Kp.of_same o.same)) uo iz (qf rfl);refine uz H3 y v zz Q ky.1 ok3 (by show(g y.d v.d).map _=_;rw[e4,e6];exact hz) λt H5 to td ot=>?_
    obtain⟨w5,ka⟩:=VQ w4 (dy.trans iz) ot (λb hb=>(aA hb).elim (ky.2 b) (rq b)) (λb hb=>(aA hb).elim (λz=>ky.1.some (Sl.frz_as z)) λz=>ok3.some (Sl.frz_as z))
     (qzk (XW (uk.back st) λb hb=>Sl.frz_as hb) (XW (sr3.back dy) λb hb=>Sl.frz_as hb))
    exact k _ _ rfl t L3 H5 to td m3 w5 ka λhq=>#[qk (t6 hq) (qk (qf rfl) ot.same),λb hb=>K2 (qk (t6 hq) (qf rfl)) (ot.new b hb)]
  |_=>cases h2
theorem wj3{op js:CmpOp}{r r':R2}{f g:D->D->Option D}(ho:OpR X (compareOp op) r)(ad:Ad2 Z.K r (pu2 f))(jh:OpR X (compareOp js) r')(uz:Ad2 Z.K r' (pu2 g))(ha:QV X Z q a ea)(hb:QV X Z true b eb)(hc:QV X Z true c ec)
  (hm:lastMarks [op,js] [eb,ec]=false:=by ac_rfl):QE X Z q (QK f g a b c) (.Compare ea [op,js] [eb,ec] pos):=kW (vw1 ho jh ha hb hc hm) fun σ H Q h=>kwc ad uz h
theorem kwt {op js r r' f g} (ho:OpR X (compareOp op) r) (ad:Ad2 Z.K r (pu2 f)) (jh:OpR X (compareOp js) r') (uz:Ad2 Z.K r' (pu2 g)) (ha:QV X Z q a ea) (hb:QV X Z true b eb) (hc:QV X Z true c ec) (hg:∀x y s,pu2 g x y=some s->∃k,s.2=.bl k)
  (hm:lastMarks [op,js] [eb,ec]=false:=by ac_rfl):QT X Z q (_root_.Q.tE (QK f g a b c)) (.Compare ea [op,js] [eb,ec] pos):=
 qvj (vvr ho jh ha hb hc hm) fun σ H Q bb=>ex8 bb λE L r m w cu xc k=>by
  refine kwc ad uz ?_;rcases wJ cu with⟨E1,s,h1,h2⟩|⟨E1,cx,h1,h2⟩
  ·refine#[E,L,_,m,w,h1,(λ_ _ z=>by cases z),λE' s' z x L' H' e1 e2 m' w' st sm=>?_];injection z with z1 z2;subst z1 z2;obtain⟨kk,hk⟩:∃k,s.2=.bl k:=by
    rcases wJ h1 with⟨E2,s2,h3,h4⟩|⟨_,_,_,z⟩
    ·rcases wJ h4 with⟨E3,s3,h5,h6⟩|⟨_,_,_,z⟩
     ·split at h6
      ·rcases wJ h6 with⟨E4,s4,h7,h8⟩|⟨_,_,_,z⟩
       ·obtain⟨y,hy,z⟩:=JJ h8;cases z;exact hg s3 s4 _ hy
       ·cases z
      ·grind
      ·grind
     ·cases z
    ·cases z
   rw[hk]at h2;cases oq9 h2;exact#[kk,QY w'.head (e2.trans hk),k _ _ rfl L' H' m' w'.tail (st.trans Step.drop) λhq=>(sm hq).1]
  ·exact#[E,L,_,m,w,h1,xc.map h2,λE' s' z=>by cases z]
end
end Q
namespace L3
open PySem PySem.Spec PyProof.Rows L2
noncomputable def tX(X:Cx)(x:Addr):Cx:={X with A:=X.A.mark (some (.ref x)),calm:=false,xe:=λ_ _=>False}
abbrev exO(o:Obj):HO:=.frz o (.ext λ_ _=>True)
section
variable {X:Cx}{a7:LA9}{σ:L2.St}{H:Hp}{s:Shared}{x:Addr}{ox:Obj}
theorem vz0(I:Inv X a7 σ H s):Inv (tX X x) a7 σ H s:=
 #[#[I.ok.mod,I.ok.kind,I.ok.glob,I.ok.blt,I.ok.above,I.ok.inj,I.ok.has,I.ok.cab,λz=>(by cases z),I.ok.frames,I.ok.stk,I.ok.exf,I.ok.bs,I.ok.bsz,I.ok.noex,I.ok.exfs,I.ok.funs,I.ok.frf],I.os,I.bare,I.base,I.loc,I.cell,I.free,I.freeC,I.pin,I.hok,I.len]
theorem wk7(ok:X.Ok)(I:Inv (tX X x) a7 σ H s):Inv X a7 σ H s:=#[ok,I.os,I.bare,I.base,I.loc,I.cell,I.free,I.freeC,I.pin,I.hok,I.len]
theorem wk8(I:Inv X a7 σ H s)(e:s.heap.get? x=some ox)(f:FpX X a7 H x):Inv X a7 σ (upd H x (exO ox)) s:=by
 obtain⟨hn,f1,f2,f3,f4,f5⟩:=f;refine#[I.ok,I.os,I.bare,#[I.base.keep,I.base.slot,λb o q n hx=>?_,I.base.there,λb xs q=>?_,λb o u q=>?_,λb ps q=>?_],I.loc,I.cell,?_,λy c q=>?_,λp hp=>?_,λb u q=>?_,I.len]
 ·have hb:b≠x:=by
   rintro rfl;rcases f3 with z|z
   ·exact hx z
   ·grind
  rw[kj hb];exact I.base.free b o q n hx
 ·have:=I.base.tups b xs q;rw[kj (xY this hn)];exact this
 ·have:=I.base.frzs b o u q;rw[kj (xY this hn)];exact this
 ·obtain⟨more,this⟩:=I.base.tbls b ps q;exact#[more,by rw[kj (xY this hn)];exact this]
 ·rw[kj (Z9 f1)];exact I.free
 ·rw[kj (f4 y c q)];exact I.freeC y c q
 ·obtain⟨a1,a2,a3⟩:=I.pin p hp;exact#[a1,by rw[kj (f5 p hp)];exact a2,a3]
 ·by_cases hb:b=x
  ·subst hb;rw[xV]at q;cases q;exact#[e,trivial,#[_,e],λ_ _ _ _=>trivial]
  ·rw[kj hb]at q;exact(I.hok b u q).stay (λc v _ q=>q) (λc q=>by rw[kj (xY q hn)];exact q) λc xs q=>by rw[kj (xY q hn)];exact q
end
abbrev wqe(K:Frag)(UC:Addr)(i:Nat)(tb:XK->TS)(ts:TS):TS:=λD σ H=>∃E:XK,tb E D σ H/\∀x Cv H',E Cv none H'->H' x=none->∃C,Cv=.ref C/\PySem.W.exmOne K (.ref C) (.ref UC)=some true/\XCls K C /\
 ∀o,ExAt K x o C->ts {nx:=fun σ' H''=>D.nx (σ'.set i none) H'',rt:=D.rt,bk:=fun σ' H''=>D.bk (σ'.set i none) H'',ct:=fun σ' H''=>D.ct (σ'.set i none) H'' } (σ.set i (some (.ref x))) (upd H' x (exO o))
set_option tactic.hygienic true in
theorem wjc{X ux n np jl pos UC i st b0 ja tb ts}(hN:X.N.Nodup)(hi:X.N[i]?=some n)(hk:X.env.scope.names.lookup n=some .local)(top:JW X)(hU:X.mg ux=some (.ref UC))(hb:PSX X st tb)
  (hs:∀x,PSs (tX X x) (b0::ja) ts) (hg:autoParam (Gl X ux) Ŕ) (eh:autoParam (Abd ux) ŕ):
  PS X (.Try [st] [.ExceptHandler (some (.Name ux np)) (some n) (b0::ja) jl] [] [] pos) (wqe X.K UC i tb ts):=by
 intro a7 s σ H D I ⟨E,h1,h2⟩;refine wpAny_Try_except (wpAny_execs_cons (wpAny_mono (hb E a7 s σ H D I h1) (λf s1 q=>?_) (λe s1 q=>?_)))
 ·cases f with|next=>exact wpAny_execs_nil (wpAny_execs_nil q)|ret v=>exact q|brk=>exact q|cont=>exact q
 ·obtain⟨H',x,Cv,rfl,I1,f1,q1⟩:=q;refine qvm top rfl I1 f1 λL T s2 _ t2=>jzy t2 λs3 t3=>?_
  obtain⟨C,rfl,hm,xc,ht⟩:=h2 x Cv H' q1 t3.fx.1;refine wpAny_handleBy_cons (codeAny_handlers_test ?_) (λz=>nomatch z);obtain⟨vs,ho,hv⟩:=t3.f.ex;have I3:Inv (tX X x) a7 σ H' s3:=vz0 t3.inv;refine kql I3 hg hU ?_ eh;have at3:PySem.W.InstAt s3.heap x {cls:=.ref C,data:=.fields vs} C none:=#[ho,rfl,rfl,trivial];refine Lk (PySem.W.exm_one t3.inv.kIn at3.type hm) (codeAny_handlers_suite_as (jzy t3 λs4 t4=>?_));obtain⟨vs4,ho4,hv4⟩:=t4.f.ex;have I4:Inv (tX X x) a7 σ _ s4:=vz0 (wk8 t4.inv ho4 t4.fx);refine jzl (X:=tX X x) I4 hN hi (.inl hk) (v:=.ref x) rfl (λs5 I5=>(wpAny_mono (hs x a7 s5 _ _ _ I5 (ht _ #[rfl,rfl,rfl,xc])) (λf s6 q=>?_) λ_ _ z=>z.elim)) (.inr hk);have bk:∀{σ6 H6},Inv (tX X x) a7 σ6 H6 s6->Inv X a7 σ6 H6 s6:=λz=>wk7 I.ok z
  show wpAny _ _ _ _ _ s6;cases f with
  |next=>
   obtain⟨σ6,H6,I6,q6⟩:=q;exact jzw (bk I6) hN hi hk λs7 I7=>#[_,_,I7,q6]
  |brk=>
   obtain⟨σ6,H6,I6,q6⟩:=q;exact jzw (bk I6) hN hi hk λs7 I7=>#[_,_,I7,q6]
  |cont=>
   obtain⟨σ6,H6,I6,q6⟩:=q;exact jzw (bk I6) hN hi hk λs7 I7=>#[_,_,I7,q6]
  |ret v=>
   obtain⟨v',σ6,H6,I6,r6,q6⟩:=q;exact jzw (bk I6) hN hi hk λs7 I7=>#[v',_,_,I7,r6,q6]
noncomputable def xqb(K:Frag):List V->Hp->VK->Prop:=λxs H Q=>∃x o C b,ExAt K x o C/\H x=some (exO o)/\((∃U,xs=[.ref x,.ref U]/\kitOne K (.ref C) (.ref U)=some b)\/∃U,xs=[.ref x,.ty U]/\kitOne K (.ref C) (.type U)=some b)/\Q (.bl b) H
theorem vww{X:Cx}:CallR X (.builtin "isinstance") (xqb X.K):=by
 intro a7 s σ H xs us Q I r ⟨x,o,C,b,a,e,h,q⟩;have px:=(I.hok x _ e).1;have b8:∃o,PySem.W.InstAt s.heap x o C none:=#[o,px,a.cls,a.no,by rw[a.di];trivial];rcases h with⟨U,rfl,hk⟩|⟨U,rfl,hk⟩
 ·obtain⟨u1,u2,rfl,e1,e2⟩:=qwn r;cases e1;cases e2;exact Y2 (kxe a.xc) I.kIn b8 hk (λz=>nomatch z) λtk=>#[.bl b,H,I.tok _,rfl,q]
 ·obtain⟨u1,u2,rfl,e1,e2⟩:=qwn r;cases e1;cases(e2);exact Y2 (kxe a.xc) I.kIn b8 hk (λz=>nomatch z) λtk=>#[.bl b,H,I.tok _,rfl,q]
end L3
namespace Q
open PySem PySem.Spec PyProof.Rows L2 L3
theorem kxr:bootBuiltins "ValueError"=some (.type "ValueError"):=by decide +kernel
theorem vzd{K:Frag}{C:Addr}(ga:findIn K (.ref C) "__getattribute__"=some (some (.builtin "BaseException.__getattribute__")))(gt:findIn K (.ref C) "__getattr__"=some none)(fa:findIn K (.ref C) "__class__"=some (some (.builtin "object.__class__")))
  (fg:PySem.W.specialIn K (.builtin "object.__class__") "__get__"=some (some (.builtin "getset_descriptor.__get__"))) (ft:PySem.W.takesIn K (.builtin "object.__class__")=some true) (ob:PySem.W.mroIn K C (.type "object")=some true) (bx:PySem.W.mroIn K C (.type "BaseException")=some true) (cl:PySem.W.isClsIn K C=true):XCls K C:=
 #[ga,gt,by
  obtain⟨cd,hc⟩:=Option.isSome_iff_exists.mp (cl);unfold PySem.W.findObj;rw[hc,fa];simp[fg,ft],ob,bx,cl]
noncomputable def QQ(K:Frag)(u:V)(t:List (Str×Bool)):Prop:=∀c b,t.lookup c=some b->∃C,nsIn K mainGlobals c=some (some (.ref C))/\((∃U,u=.ref U/\kitOne K (.ref C) (.ref U)=some b)\/∃U,u=.ty U/\kitOne K (.ref C) (.type U)=some b)
theorem vki{K:Frag}{u:V}:QQ K u []:=λ_ _ z=>nomatch z
set_option tactic.hygienic true in
theorem qvx{K:Frag}{u:V}{c:Str}{b:Bool}{C:Addr}{t:List _}(h:nsIn K mainGlobals c=some (some (.ref C)))(k:(∃U,u=.ref U/\kitOne K (.ref C) (.ref U)=some b)\/∃U,u=.ty U/\kitOne K (.ref C) (.type U)=some b)(r:QQ K u t):QQ K u ((c,b)::t):=λc' b' z=>by
 rw[Z4]at z
 split at z
 ·rename_i e;cases eq_of_beq e;cases z;exact#[C,h,k]
 ·exact r c' b' z
theorem wk5{K:Frag}{c:Str}{b:Bool}{C U:Addr}{t:List _}(h:nsIn K mainGlobals c=some (some (.ref C)))(k:kitOne K (.ref C) (.ref U)=some b)(r:QQ K (.ref U) t):QQ K (.ref U) ((c,b)::t):=qvx h (.inl #[U,rfl,k]) r
theorem wxa{K:Frag}{c:Str}{b:Bool}{C:Addr}{U:String}{t:List _}(h:nsIn K mainGlobals c=some (some (.ref C)))(k:kitOne K (.ref C) (.type U)=some b)(r:QQ K (.ty U) t):QQ K (.ty U) ((c,b)::t):=qvx h (.inr #[U,rfl,k]) r
theorem wza{K:Frag}{u:V}{t:List _}(ht:QQ K u t):Ad1 K (λv H Q=>xqb K [v,u] H Q) (pu1 (zY t)):=by
 intro H x s Q ok hf k;have ok:=RepO.wk ok;unfold pu1 at hf;obtain⟨o,d,v,as⟩:=x;cases d with
 | obj c fs=>
  unfold zY at hf;cases hl:t.lookup c with
  |none=>grind
  |some b=>
   simp only[hl]at hf;cases oq9 hf;dsimp only at ok;obtain⟨e0,x,ob,C,rfl,h1,h2,h3⟩:=ok;obtain⟨C',h4,h5⟩:=ht c b hl;rw[h3]at h4;cases oq9 (oq9 h4);refine#[x,ob,C,b,h2,h1,?_,k _ H rfl rfl x9];rcases h5 with⟨U,rfl,h5⟩|⟨U,rfl,h5⟩
   ·exact .inl #[U,rfl,h5]
   ·exact .inr #[U,rfl,h5]
 |_=>cases hf
section
variable {X:Cx}{Z:Fx0}{pn:List Nat}{q:Bool}{a b c:Ex}{e ea eb:Expr}{es:List Expr}{pos p p2:Pos}{t:List (Str×Bool)}{y:Str}{u:V}
theorem wvg(ha:QV X Z q a ea)(hm:X.mg "isinstance"=none)(hu:PE X (.Name y p2) (tC u))(hK:X.K=Z.K)(ht:QQ X.K u t)(hg:autoParam (Gl X "isinstance") Ŕ)
  (he:autoParam (starEach [ea,.Name y p2] X.env=(false,eval ea X.env)::starEach [.Name y p2] X.env) Ŕ) (tv:autoParam (starEach [.Name y p2] X.env=(false,eval (.Name y p2) X.env)::starEach [] X.env) Ŕ) (bv:autoParam ((backTo pos (starEach [.Name y p2] X.env)).any (·.1)=false) Ŕ):
  QE X Z q (cF1 (pu1 (zY t)) a) (.Call (.Name "isinstance" p) [ea,.Name y p2] [] pos):=by
 rw[hK]at ht;have hc:=hK▸vww;exact kW (kkm hc hg hm jwp (kX ha (kX hu v6 tv) he) ⋯ ⋯ he bv) fun σ H Q h=>V7 (wza ht) h
theorem kq7{x:Str}{C:Addr}{z:Str}{np au:Pos}(c:ECls X.K X.mg x C)(hm:Z.mg x=some (.ref C))(g:zq X Z.EX)(hz:PE X e (tC (.str z)))(hg:autoParam (Gl X x) Ŕ)(hc:autoParam (X.calm=true) Ŕ)(eh:autoParam (Abd x) ŕ)
  (he:autoParam (Abs e [] X) Ŕ) (bv:autoParam (((backTo au (starEach [e] X.env)).any (·.1))=false) Ŕ):
  QS X Z pn (sRz x) (.Raise (some (.Call (.Name x np) [e] [] au)) none pos):=zJ (vvt c g (kX hz v6 he) hg hc eh he bv) λD σ H bb=>ex7 bb λE L r m w hr k=>by
 cases oq9 hr;exact#[show 1<=sizeLine by decide,k C σ L H hm Pn.refl m w Step.refl]
noncomputable def QEX(X:Cx)(Z:Fx0)(q:Bool)(c:Ex)(e:Expr):Prop:=PEX X e λEX=>tQ #[Z.K,Z.mg,EX] q c
theorem wjg{t t':XK->TE}(h:PEX X e t)(w:∀E σ H Q,t' E σ H Q->t E σ H Q):PEX X e t':=λE a7 s σ H Q I q=>h E a7 s σ H Q I (w E σ H Q q)
set_option tactic.hygienic true in
theorem wj4{k n:Nat}{x:Str}{ps:List Str}{f:Fn}{cs:List Ex}(D:k8 X.prog X.w X.K X.mg X.base k x ps (spF Z.K Z.mg n f))(hr:Room k X.A)(ha:QA X.nox #[Z.K,Z.mg,λ_ _ _=>False] q cs (e::es))(hn:autoParam (cs.length=n) Ŕ)(hg:autoParam (Gl X x) Ŕ)(eh:autoParam (Abd x) ŕ)
  (he:autoParam (Abs e es X) Ŕ) (bv:autoParam (Abb pos es X) Ŕ):
  QEX X Z false (qk2 f cs) (.Call (.Name x p) (e::es) [] pos):=wjg (vvx D hr ha hg eh he bv) λEX σ H Q bb=>ex8 bb λE L r m w hc xc kk=>by
 unfold qk2 at hc
 split at hc
 ·rename_i E1 ys hA;refine#[E,L,_,m,w,hA,(λ_ _ z=>by cases z),λE' ys' z xs L1 H1 e1 m1 w1 st sm=>?_];injection z with z1 z2;subst z1 z2;rw[Xr];have az:xs.length=n:=by
   rw[<-hn];have:ys.length=cs.length:=kj3 hA;rw[<-this,<-e1,X1]
  cases hf:f _ with
  | none=>rw[hf]at hc;cases hc
  | some fr=>
   rw[hf]at hc;obtain⟨wl,sl⟩:=kvn w1;have ev:xs.map Sl.v=(xs.map Sl.let).map Sl.v:=by rw[Xu];rfl
   rw[ev];refine#[xs.map Sl.let,fr,rfl,by rw[X1];exact az,wl.left,by rw[<-e1]at hf;rw[qq5];exact hf,λE' c ee C H' hm s'=>?_,λE' a ee y H' e2 e3 w' s'=>?_]
   ·subst ee;cases oq9 hc;obtain⟨w2,s2⟩:=stay wl s' #[λ_ z=>(nomatch z),Yg,λ_ z=>(nomatch z)];exact xc _ _ rfl C L1 H' hm m1 w2 ((st.trans sl).trans s2)
   ·subst ee;cases oq9 hc;obtain⟨w2,s2⟩:=stay wl s' w';exact kk _ _ rfl y L1 H' e2 e3 m1 w2 ((st.trans sl).trans s2) λhq=>nomatch hq
 ·cases hc
theorem Mt.unset:∀{E:En} {σ:L2.St} {L:Ls} (i:Nat),Mt E σ L->Mt (E.set i none) (σ.set i none) (L.set i none)
 |_,_,_,_,.nil=>.nil|_,_,_,0,.un m=>.un m|_,_,_,0,.cons m=>.un m|_,_,_,i+1,.un m=>.un (Mt.unset i m)|_,_,_,i+1,.cons m=>.cons (Mt.unset i m)
theorem jwa:∀(L:Ls) (i:Nat),(sls (L.set i none)).Sublist (sls L)
 |[],_=>Yp _|none::L,0=>Yp _|some x::L,0=>List.Sublist.cons _ (Yp _)|none::L,i+1=>jwa L i|some x::L,i+1=>List.Sublist.cons_cons _ (jwa L i)
theorem World.unset{K:Frag}{H:Hp}{L:Ls}{i:Nat}(w:World K H L):World K H (L.set i none):=w.sub (jwa L i)
theorem Step.unset{H H':Hp}{L L':Ls}{i:Nat}(s:Step H L H' L'):Step H L H' (L'.set i none):=s.sub (jwa L' i)
theorem World.unset1{K:Frag}{H:Hp}{L:Ls}{x:Sl}{i:Nat}(w:World K H (some x::L)):World K H (some x::L.set i none):=w.sub (List.Sublist.cons_cons _ (jwa L i))
theorem Step.unset1{H H':Hp}{L L':Ls}{x:Sl}{i:Nat}(s:Step H L H' (some x::L')):Step H L H' (some x::L'.set i none):=s.sub (List.Sublist.cons_cons _ (jwa L' i))
noncomputable def qkf(K:Frag)(mg:Str->Option Value)(UC:Addr)(cs:List Str):Prop:=∀c∈cs,∃C,mg c=some (.ref C)/\nsIn K mainGlobals c=some (some (.ref C))/\PySem.W.exmOne K (.ref C) (.ref UC)=some true/\XCls K C
theorem qxp{K:Frag}{mg:Str->Option Value}{UC:Addr}:qkf K mg UC []:=λ_ z=>nomatch z
theorem qqf{K:Frag}{mg:Str->Option Value}{UC C:Addr}{c:Str}{cs:List Str}(e:ECls K mg c C)(h:nsIn K mainGlobals c=some (some (.ref C)))(k:PySem.W.exmOne K (.ref C) (.ref UC)=some true)(r:qkf K mg UC cs):qkf K mg UC (c::cs):=λc' hc=>by
 rcases aD hc with rfl|hc
 ·exact#[C,e.bd,h,k,e.xc]
 ·exact r c' hc
theorem vv3{UC:Addr}{i:Nat}{cs:List Str}{B h:Sm}{tb:XK->TS}{D:Ends}{σ:L2.St}{H:Hp}(hK:X.K=Z.K)(ca:qkf X.K Z.mg UC cs)(hp:i∉pn)
  (hb:∀(EX:XK) E L r,Mt E σ L->World Z.K H L->B E=some r->(∀E' c,r=.xc E' c->∀C L' H',Z.mg c=some (.ref C)->Mt E' σ L'->World Z.K H' L'->Step H L H' L'->EX (.ref C) none H')->((∀E' c,r≠.xc E' c)->FlP Z pn D σ H L r)->tb EX D σ H)
  (hr:tS Z pn (Vw cs i B h) D σ H):wqe X.K UC i tb (tS #[Z.K,Z.mg,λ_ _ _=>False] pn h) D σ H:=by
 obtain⟨E,L,r,m,w,hr,k⟩:=hr;cases hB:B E with
 | none=>unfold Vw at hr;rw[hB]at hr;cases hr
 | some rb=>
  refine#[λCv _ H'=>∃E1 c C L1,rb=.xc E1 c/\Cv=.ref C/\Z.mg c=some (.ref C)/\Mt E1 σ L1/\World Z.K H' L1/\Step H L H' L1,hb _ E L rb m w hB (λE' c e C L' H' hm m' w' st=>#[E',c,C,L',e,rfl,hm,m',w',st]) (λcg=>?_),?_]
  ·unfold Vw at hr;rw [hB]at hr;cases rb with| xc E1 c1=>exact absurd rfl (cg E1 c1)| nx E1=>cases oq9 hr;exact k| ct E1=>cases oq9 hr;exact k| bk E1=>cases oq9 hr;exact k| rt E1 x=>grind
  ·rintro x Cv H' ⟨E1,c,C,L1,rfl,rfl,hm,m1,w1,st1⟩ hx;unfold Vw at hr;rw [hB]at hr;dsimp only at hr
   by_cases hc:c∈cs
   ·rw[X8 hc]at hr;obtain⟨C',g1,g2,g3,g4⟩:=ca c hc;rw[hm]at g1;cases oq9 g1;refine#[C,rfl,g3,g4,λo b8=>?_];have sm:kJ H' (upd H' x (exO o)):=zw hx
    let y:Sl:=#[.no,.obj c [],.ref x,[]]
    have wy:World Z.K (upd H' x (exO o)) (some y::L1):=by
     refine World.consPu #[λt ht=>RepO.kp (w1.ok t ht) (Kp.of_same sm),w1.nd,w1.ds] ?_ rfl;show RepL Z.K _ true _ _ [];exact#[rfl,x,o,C,rfl,xV,hK▸b8,hK▸g2]
    have sy:Step H L (upd H' x (exO o)) (some y::L1):=by
     refine#[λb ob q hn=>sm b ob (st1.keep b ob q hn),λb hb=>st1.own b (by exact hb),λb hb=>st1.frz b (by rw[ww]at hb;exact hb)]
    cases h2:h _ with
    | none=>rw[h2]at hr;cases hr
    | some r2=>
     rw[h2]at hr;refine#[_,_,r2,W8 (x:=y) m1 rfl rfl,wy.set,h2,?_];have sy2:Step H L _ (L1.set i _):=sy.trans Step.set;have pp:Pn pn σ (σ.set i (some (V.ref x))):=Pn.refl.set hp;cases r2 with
     |nx E2=>
      cases oq9 hr;intro σ' L' H2 p' m' w' dq;exact k _ _ H2 ((pp.trans p').set hp) (Mt.unset i m') w'.unset (sy2.trans dq).unset
     |ct E2=>
      cases oq9 hr;intro σ' L' H2 p' m' w' dq;exact k _ _ H2 ((pp.trans p').set hp) (Mt.unset i m') w'.unset (sy2.trans dq).unset
     |bk E2=>
      cases oq9 hr;intro σ' L' H2 p' m' w' dq;exact k _ _ H2 ((pp.trans p').set hp) (Mt.unset i m') w'.unset (sy2.trans dq).unset
     |rt E2 a2=>
      cases oq9 hr;intro z σ' L' H2 e1 e2 p' m' w' dq;exact k z _ _ H2 e1 e2 ((pp.trans p').set hp) (Mt.unset i m') w'.unset1 (sy2.trans dq).unset1
     |xc E2 c2=>cases hr
   ·grind
theorem wvb{ux n:Str}{np jl qe:Pos}{UC:Addr}{i:Nat}{b0:Stmt}{ja:List Stmt}{cs:List Str}{h:Sm}(hN:X.N.Nodup)(hi:X.N[i]?=some n)(hk:X.env.scope.names.lookup n=some .local)(top:JW X)(hU:X.mg ux=some (.ref UC))(hK:X.K=Z.K)(ca:qkf X.K Z.mg UC cs)(hb:QEX X Z q b e)
  (hs:∀x,QSs (tX X x) #[Z.K,Z.mg,λ_ _ _=>False] pn h (b0::ja)) (hp:autoParam (i∉pn) ŕ) (lv:autoParam (swapsWith e none pos.line X.env=pure false) Ŕ) (hg:autoParam (Gl X ux) Ŕ) (eh:autoParam (Abd ux) ŕ):
  QS X Z pn (Vw cs i (W0 b) h) (.Try [.Expr e pos] [.ExceptHandler (some (.Name ux np)) (some n) (b0::ja) jl] [] [] qe):=
 zJ (wjc hN hi hk top hU (vvs hb lv) hs hg eh) λD σ H hr=>vv3 hK ca hp (λEX E L r m w hB hx hk=>by
  rcases XY hB with⟨E1,s,h1,h2⟩|⟨E1,c,h1,rfl⟩
  ·cases oq9 h2;refine#[E,L,_,m,w,h1,(λ_ _ z=>by cases z),λE' s' z x L' H' e1 e2 m' w' st sm=>?_];injection z with z1 z2;subst z1 z2;exact hk (λ_ _ z=>nomatch z) σ L' H' Pn.refl m' w'.tail (st.trans Step.drop)
  ·exact#[E,L,_,m,w,h1,(λE' c' e C L' H' hm m' w' st=>by injection e with z1 z2;subst z1 z2;exact hx _ _ rfl C L' H' hm m' w' st),λE' s' z=>by cases z]) hr
end
theorem qkv{is:List Int}{val:Nat->Int}(hv:∀i (h:i<is.length),val i=is[i]):∀n,n<=is.length->preSum val n=(is.take n).sum
 |0,_=>by simp[preSum]
 |n+1,h=>by
  rw[preSum,qkv hv n ⋯,hv n ⋯,List.take_succ_eq_append_getElem ⋯,List.sum_append];simp
theorem qv3{is:List Int}(h:∀i∈is,0<=i/\i<=1000000):0<=is.sum/\is.sum<=1000000*is.length:=by
 induction is with
 |nil=>simp
 |cons a is ih=>
  have h1:=h a X2;have h2:=ih λi hi=>h i (lc9 _ hi)
  rw[Xx,Xg];lia
noncomputable def xj9(K:Frag):List V->Hp->VK->Prop:=λxs H Q=>∃(p:Addr) (is:List Int),xs=[.ref p]/\SqL K H p (is.map V.int)/\kzb is=true/\is.length<=100000/\Q (.int is.sum) H
theorem vws{X:Cx}(hc:autoParam (X.calm=true) Ŕ):CallR X (.builtin "sum") (xj9 X.K):=by
 intro a7 s σ H xs us Q I r h;obtain⟨p,is,rfl,hq,hs,hl,q⟩:=h;obtain⟨u,rfl,ru⟩:=zQ r;cases ru;obtain⟨aq,rv,pl,hz⟩:=I.list hq;have hli:=pl.isList;have dl:p<s.heap.objs.size:=by obtain⟨_,e,_⟩:=hli;exact Xl e
 have az:is.length=aq.length:=by rw[<-rv.length,X1]
 have hb:∀i∈is,0<=i/\i<=1000000:=λi hi=>by
  have:=List.all_eq_true.mp hs i hi;rw[Bool.and_eq_true]at this;exact#[Y7 this.1,Y7 this.2]
 have on:∀i (h:i<is.length),(λi=>is.getD i 0) i=is[i]:=λi h=>by
  show is.getD i 0=_;rw[Xa,X3 h];rfl
 refine call_sum_walk (wpAny_pyIter_list hli ?_);refine#[s.heap.objs.size,[s.heap.objs.size,p],[s.heap.objs.size],aq.toArray.size,_,_,λi=>is.getD i 0,rfl,PySem.Walks.list (A:=X.A.in1) (I.ok.hd hc) _ p (Xv dl) aq.toArray,
  #[#[_,Xh _ rfl,rfl,rfl],hli.push _],λb fm=>?_,λi v hP=>?_,λj hj=>?_,λh' tk t' hk=>?_]
 ·rw[Heap.size_push];simp only[Y5,Y9,or_false]at fm;rcases fm with e|e
  ·rw[e];exact Nat.lt_succ_self _
  ·rw[e];exact Nat.lt_succ_of_lt dl
 ·have hP:aq[i]?=some v:=by simpa using hP
  have hi:i<is.length:=by rw[az];exact(List.getElem?_eq_some_iff.mp hP).1
  obtain⟨u,e1,e2⟩:=rv.get (i:=i) (x:=.int is[i]) (by rw[Xi,X3 hi];rfl);rw[hP]at e1;cases oq9 e1;obtain⟨t,rfl⟩:=e2;exact#[t,by rw[on i hi]]
 ·have hj:j<is.length:=by rw[az];simpa using hj
  have h1:=hb _ (Yj hj);have h2:=qv3 (is:=is.take (j+1)) λi hi=>hb i (List.mem_of_mem_take hi)
  rw[on j hj,qkv on (j+1) hj];have h3:(is.take (j+1)).length<=100000:=by rw[Y1];lia
  exact#[#[⋯,⋯],#[⋯,⋯]]
 ·rw[Xe,<-az,qkv on is.length (Xk _),List.take_length];refine#[.int _,H,I.kept (t':=tk) (h':=h') λb o e=>hk b o (λz=>?_) (X4 _ e),#[_,rfl],q];exact absurd (Xl e) (by rw[aC z];exact Yw _)
theorem wko{X:Cx}(K:Frag)(hK:autoParam (X.K=K) Ŕ)(hc:autoParam (X.calm=true) Ŕ):CallR X (.builtin "sum") (xj9 K):=by subst hK;exact vws hc
set_option tactic.hygienic true in
theorem wz4{K:Frag}:Ad1 K (λv H Q=>xj9 K [v] H Q) (pu1 wxh):=by
 intro H x s Q ok hf k;unfold pu1 wxh at hf;dsimp only at hf
 split at hf
 ·rename_i ds e;cases hb:Kw ds with
  | none=>rw[hb]at hf;cases hf
  | some is=>
   rw[hb]at hf;dsimp only at hf
   by_cases hs:kzb is=true/\is.length<=100000
   ·rw[X8 hs]at hf;cases oq9 hf;obtain⟨l,xs,cs,ev,q3,r3,_⟩:=items ok (.inl e);have q3:LsR K H l xs:=by rcases q3 with⟨_,z⟩|⟨z,_⟩;exact z;rw[e]at z;cases z
    exact#[l,is,by rw[ev],by rw[<-kxg hb r3];exact q3.sq,hs.1,hs.2,k #[.dp,.int _,.int _,[]] H rfl rfl V4]
   ·rw[Xd hs]at hf;cases hf
 ·cases hf
theorem RepA.put{K H g d x cs}(hx:RepL K H g d x cs):∀{ds xs bs} (n),RepA K H g ds xs bs->∃es,RepA K H g (ds.set n d) (xs.set n x) es/\∀a∈es,a∈bs\/a∈cs
 | [],_,bs,n,h=>by
  have h0:=h;obtain⟨rfl,rfl⟩:=h0;exact#[[],by simpa using h,λ_ z=>nomatch z]
 | e::ds,_,_,n,h=>by
  obtain⟨y,r,b1,b2,rfl,rfl,h1,h2⟩:=h;cases n with
  | zero=>
   refine#[cs++b2,?_,λa ha=>?_]
   ·unfold RepA;exact#[x,r,cs,b2,rfl,rfl,hx,h2]
   ·rcases aA ha with z|z
    ·exact .inr z
    ·exact .inl (lr9 _ z)
  | succ n=>
   obtain⟨es,i1,i2⟩:=RepA.put hx n h2;refine#[b1++es,?_,λa ha=>?_]
   ·unfold RepA;exact#[y,r.set n x,b1,es,rfl,rfl,h1,i1]
   ·rcases aA ha with z|z
    ·exact .inl (ll9 _ z)
    ·exact(i2 a z).imp (lr9 _) id
section
variable {X:Cx}{Z:Fx0}{pn:List Nat}{q:Bool}{kc vc:Ex}{o ke ve:Expr}{pos cm:Pos}
set_option tactic.hygienic true in
theorem wj1{i}(ho:PE X o (J4 i))(hk:QV X Z true kc ke)(hv:QE X Z q vc ve)(hs:autoParam (swapsWithSole [.Subscript o ke cm] ve pos.line X.env=pure false) Ŕ)(hw:autoParam (swappedStores [.Subscript o ke cm] ve X.env=pure none) Ŕ)
  (h1:autoParam ((assignEach [.Subscript o ke cm] X.env).map (·.2)=[assign (.Subscript o ke cm) X.env]) Ŕ)
  (ha:autoParam (∀v,assign (.Subscript o ke cm) X.env v=(do
   let ov <-holding [v] (eval o X.env)
   let iv <-holding [v,ov] (eval ke X.env)
   standAt cm
   holding [v,ov,iv] (setItem ov iv v)
   release [v,ov,iv] [])) Ŗ):
  QS X Z pn (wqs i kc vc) (.Assign [.Subscript o ke cm] ve pos):=xje (W:=wqy) (wvt hv (ww0 ho hk vvf ha) hs hw h1) #[rfl,rfl] fun {H L y x z d} {C} hy w vy nz k=>by
 unfold xkd at nz
 split at nz
 ·rename_i o xs j heq hz;injection heq with h2 h3
  split at nz
  ·cases nz
  ·rename_i me;obtain⟨n,hj,rfl⟩:=Option.map_eq_some_iff.mp nz;obtain⟨l,vs,bs,c1,c2,c3,c4,c5⟩:=kwx (w.tail.ok y (vZ hy)) h3 (h2▸me);have c6:RepA Z.K H true xs vs bs:=by
    cases hb:(y.o != .dp)with|true=>rw[hb]at c5;exact c5|false=>rw[hb]at c5;exact c5.wk
   obtain⟨es,g1,g2⟩:=RepA.put (RepO.wk (w.ok x X2)) n c6;obtain⟨w4,iz⟩:=kwv (T:=[some x]) (o':=.rt) (ds':=xs.set n x.d) (xs':=vs.set n x.v) w hy c2 c3 c4 c1 g1 (.inl #[rfl,λa ha=>(g2 a ha).imp id λz=>by
    rcases Sl.as_of z with z|z
    ·exact .inl (by simpa using z)
    ·exact .inr (by simpa using z)])
   exact#[l,vs,j,n,c1,v7 vy hz,c2,by rw[<-c6.len,<-vkg];exact hj,k _ _ w4 iz]
 ·cases nz
end
theorem wj6{X Z q}:QA X Z q [] []:=kzv v6 fun σ H Q bb=>ex8 bb λE L r m w hc xc k=>by
 cases oq9 hc;exact k _ _ rfl [] L H rfl m w Step.refl λ_=>#[λ_ _ z=>z,λ_ z=>(nomatch z)]
theorem kw4{X Z q c o e z bi au}(ho:PE X o (tC (.str z)))(hc:QV X Z q c e)(hK:autoParam (X.K=Z.K) Ŕ)
  (bq:autoParam (attributeBase o "join" X.env (eval o X.env)=eval o X.env) Ŕ)
  (cy:autoParam (((backTo au (starEach [e] X.env)).all (λx=>!x.1)&&(backToKw au (keywordEach [] X.env)).all (λx=>x.1.isSome)
   && decide ([e].length+([]:List Keyword).length+(if([]:List Keyword).isEmpty then 0 else 1)<30))=true) Ŕ)
  (bp:autoParam (Abe bi au) Ŕ) (hs:autoParam (Abs e [] X) Ŕ) (bj:autoParam (Abb au [] X) Ŕ):
  QE X Z q (Vj z c) (.Call (.Attribute o "join" bi) [e] [] au):=
 kW (vjk PySem.F.plainAttrs_str PySem.F.slot_str_join PySem.F.type_str_join wjt ho (kX hc v6 hs) bq cy bp hs bj) fun σ H Q bb=>ex8 bb λE L r m w cu xc k=>by
  refine#[?_,?_]
  ·rfl
  ·refine vY m w (cu) xc λE1 s h1 x L1 H1 e1 e2 m1 w1 ok fr sr st sm=>?_
   obtain⟨y,hz,rfl⟩:=JJ h1;unfold xk at hz;cases hx:s.2 with
   | lst ds=>
    rw [hx]at hz;dsimp only at hz;cases hp:Jv ds with
    | none=>rw[hp]at hz;cases hz
    | some ys=>
     rw[hp]at hz;dsimp only at hz
     by_cases hl:(ys.map (·.length)).sum+ys.length*z.length<=100000
     ·rw[X8 hl]at hz;cases oq9 hz;obtain⟨a,xs,bs,ev,q1,ra⟩:=items ok (.inl (e2▸hx));have hq:SqL Z.K H1 a xs:=by
       rcases q1 with⟨_,t⟩|⟨t,_⟩
       ·exact t.sq
       ·grind
      have ex:=(kkg hp ra.1).1;subst ex;have az:(Txt.join z ys).length<=sizeLine:=joinOk_length (joinOk_of ⋯);exact#[z,a,ys,rfl,by rw[ev],by rw[hK];exact hq,⋯,(k _ _ rfl _ L1 H1 rfl rfl m1 (w1.consPu (x:=#[.dp,.str _,.str _,[]]) (show RepL Z.K H1 false _ _ []from Wk az) rfl) (QJ st (λb hb=>nomatch hb) rfl) λhq=>#[sm hq,λ_ t=>(nomatch t)])]
     ·rw[Xd hl]at hz;cases hz
   |_=>rw[hx]at hz;cases hz
section
variable {X:Cx}{Z:Fx0}{pn:List Nat}{q:Bool}{a b:Ex}{o e:Expr}{bi au:Pos}
theorem wvj(ha:QV X Z q a o)(hb:QV X Z true b e)(hK:autoParam (X.K=Z.K) Ŕ)
  (bq:autoParam (attributeBase o "index" X.env (eval o X.env)=eval o X.env) Ŕ)
  (cy:autoParam (((backTo au (starEach [e] X.env)).all (λx=>!x.1)&&(backToKw au (keywordEach [] X.env)).all (λx=>x.1.isSome)
   && decide ([e].length+([]:List Keyword).length+(if([]:List Keyword).isEmpty then 0 else 1)<30))=true) Ŕ)
  (bp:autoParam (Abe bi au) Ŕ) (hs:autoParam (Abs e [] X) Ŕ) (bj:autoParam (Abb au [] X) Ŕ):
  QE X Z q (vwz a b) (.Call (.Attribute o "index" bi) [e] [] au):=
 kW (vjk PySem.F.plainAttrs_str PySem.F.slot_str_index PySem.F.type_str_index wjv ha (kX hb v6 hs) bq cy bp hs bj) fun σ H Q bb=>ex8 bb λE L r m w cu xc k=>by
  refine vY m w (cu) xc λE1 s h1 x L1 H1 e1 e2 m1 w1 ok fr sr st sm=>?_
  by_cases ck:qvz s.2=true
  ·rw [X8 ck]at h1;cases hx:s.2 with
   | str z=>
    have ev:=(wZ ok (e2▸hx)).1;refine#[by rw[ev];rfl,(vY m1 w1 h1 (xc.step st) λE2 s2 h2 y L2 H2 e3 e4 m2 w2 mx uo uk st2 gz=>?_)];obtain⟨d,hz,rfl⟩:=JJ h2;rw[hx]at hz;unfold vky at hz;cases hy:s2.2 with
    | str y'=>
     rw[hy]at hz;dsimp only at hz;cases ho:Builtin.Str.occurrences z y' 0 z.length 1 with
     |nil=>simp_all
     |cons i b6=>
      rw[ho]at hz;cases oq9 hz;exact#[z,y',i,b6,ev,by rw[((wZ mx (e4▸hy)).1)],ho,(k _ _ rfl _ L2 H2 rfl rfl m2 (w2.consPu (x:=#[.dp,.int i,.int i,[]]) (show RepL Z.K H2 false _ _ []from JK) rfl) (QJ (st.trans st2) (λb hb=>nomatch hb) rfl) λhq=>#[qk (sm hq) (gz rfl),λ_ t=>(nomatch t)])]
    |_=>rw[hy]at hz;cases hz
   |_=>rw[hx]at ck;cases ck
  ·simp_all
end
end Q
namespace L3
open PySem PySem.Spec PyProof.Rows L2
noncomputable def xjc(K:Frag):List V->Hp->VK->Prop:=λxs H Q=>∃(x:Addr) (o:Obj) (C:Addr) (b:Bool) (tp:Addr) (us:List Addr),ExAt K x o C/\H x=some (exO o)/\xs=[.ref x,.ref tp]/\SqT K H tp (us.map V.ref)/\PySem.W.kitAny K (.ref C) (us.map Value.ref)=some b/\Q (.bl b) H
theorem kz5:∀{us:List Addr} {aq:List Value},Vals (us.map V.ref) aq->aq=us.map Value.ref
 |[],_,.nil=>rfl
 |u::us,_,.cons h r=>by
  cases(show _=Value.ref u from h);rw[kz5 r];rfl
theorem vwv{X:Cx}:CallR X (.builtin "isinstance") (xjc X.K):=by
 intro a7 s σ H xs us Q I r h;obtain⟨x,o,C,b,tp,cs,a,e,rfl,ht,hk,q⟩:=h;have px:s.heap.get? x=some o:=(show ObjOk X.prog X.w H s.heap x (exO o)from I.hok x _ e).1;have b8:∃o,PySem.W.InstAt s.heap x o C none:=#[o,px,a.cls,a.no,by rw[a.di];trivial];obtain⟨u1,u2,rfl,e1,e2⟩:=qwn r;cases e1;cases e2;obtain⟨aq,rv,⟨ot,h1,h2,n,h3⟩,_⟩:=I.tuple ht;have hi:=kz5 rv;subst hi;obtain⟨oc,od,oda,om⟩:=ot;cases h2;cases h3;exact PySem.W.kia_tup (kxe a.xc) I.kIn b8 h1 hk (λz=>nomatch z) λtk=>#[.bl b,H,I.tok _,rfl,q]
end L3
namespace Q
open PySem PySem.Spec PyProof.Rows L2 L3
noncomputable def qke(K:Frag)(us:List Addr)(t:List (Str×Bool)):Prop:=∀c b,t.lookup c=some b->∃C,nsIn K mainGlobals c=some (some (.ref C))/\PySem.W.kitAny K (.ref C) (us.map Value.ref)=some b
theorem vkj{K:Frag}{us:List Addr}:qke K us []:=λ_ _ z=>nomatch z
set_option tactic.hygienic true in
theorem qvy{K:Frag}{us:List Addr}{c:Str}{b:Bool}{C:Addr}{t:List (Str×Bool)}(h:nsIn K mainGlobals c=some (some (.ref C)))(k:PySem.W.kitAny K (.ref C) (us.map Value.ref)=some b)(r:qke K us t):qke K us ((c,b)::t):=λc' b' z=>by
 rw[Z4]at z
 split at z
 ·rename_i e;cases eq_of_beq e;cases z;exact#[C,h,k]
 ·exact r c' b' z
theorem vke{K:Frag}{C:Value}:PySem.W.kitAny K C (([]:List Addr).map Value.ref)=some false:=rfl
theorem Vx{K:Frag}{C:Value}{u:Addr}{us:List Addr}{b:Bool}(h:kitOne K C (.ref u)=some false)(r:PySem.W.kitAny K C (us.map Value.ref)=some b):PySem.W.kitAny K C ((u::us).map Value.ref)=some b:=by
 rw[List.map_cons];unfold PySem.W.kitAny;rw[h];exact r
noncomputable def wv4(K:Frag)(us:List Addr):V->Hp->VK->Prop:=λv H Q=>(us.map V.ref).length<=sizeLine/\∀p,H p=none->xjc K [v,.ref p] (upd H p (.tup (us.map V.ref))) Q
theorem wzb{K:Frag}{us:List Addr}{t:List (Str×Bool)}(hl:us.length<=1000)(ht:qke K us t):Ad1 K (wv4 K us) (pu1 (zY t)):=by
 intro H x s Q ok hf k;have ok:=RepO.wk ok;unfold pu1 at hf;obtain⟨o,d,v,as⟩:=x;cases d with
 | obj c fs=>
  unfold zY at hf;cases ou:t.lookup c with
  |none=>simp only[ou]at hf;cases hf
  |some b=>
   simp only[ou]at hf;cases oq9 hf;dsimp only at ok;unfold RepL at ok;obtain⟨e0,x,ob,C,rfl,h1,h2,h3⟩:=ok;obtain⟨C',h4,h5⟩:=ht c b ou;rw[h3]at h4;cases oq9 (oq9 h4);refine#[by rw[X1];exact Xs hl ⋯,λp hp=>#[x,ob,C,b,p,us,h2,?_,rfl,SqT.of xV,h5,k #[.dp,.bl b,.bl b,[]] _ rfl rfl (kkn (zw hp) qvf)]];exact zw hp _ _ h1
 |_=>cases hf
noncomputable def tCs:List Addr->TA
 |[]=>wzj|u::us=>vv7 (tC (.ref u)) (tCs us)
theorem wqd{us:List Addr}{σ:L2.St}{H:Hp}:∀{Q:List V->Hp->Prop},Q (us.map V.ref) H->tCs us σ H Q:=by
 induction us with|nil=>intro Q h;exact h|cons u us ih=>intro Q h;exact ih (Q:=λxs H2=>Q (V.ref u::xs) H2) h
section
variable {X:Cx}{Z:Fx0}{pn:List Nat}{q:Bool}{a:Ex}{ea:Expr}{es:List Expr}{pos p p2:Pos}{t:List (Str×Bool)}{us:List Addr}{k1:Nat}
theorem wvh(ha:QV X Z q a ea)(hm:X.mg "isinstance"=none)(hu:PA X es (tCs us))(hK:X.K=Z.K)(ht:qke X.K us t)(hl:us.length<=1000:=by simp)(hg:autoParam (Gl X "isinstance") Ŕ)
  (he:autoParam (starEach [ea,.Tuple es k1 p2] X.env=(false,eval ea X.env)::starEach [.Tuple es k1 p2] X.env) Ŕ) (tv:autoParam (starEach [.Tuple es k1 p2] X.env=(false,eval (.Tuple es k1 p2) X.env)::starEach [] X.env) Ŕ) (bv:autoParam ((backTo pos (starEach [.Tuple es k1 p2] X.env)).any (·.1)=false) Ŕ):
  QE X Z q (cF1 (pu1 (zY t)) a) (.Call (.Name "isinstance" p) [ea,.Tuple es k1 p2] [] pos):=by
 rw[hK]at ht;have hc:CallR X (.builtin "isinstance") (xjc Z.K):=hK▸vwv;refine kW (kkm hc hg hm jwp (kX ha (kX (vxq hu) v6 tv) he) ⋯ ⋯ he bv) fun σ H Q h=>?_
 have h2:tUn (wv4 Z.K us) (tV Z q a) σ H Q:=V7 (wzb hl ht) h;obtain⟨E,L,R,m,w,nv,xc,kk⟩:=h2;exact#[E,L,R,m,w,nv,xc,λE' s' z x L' H' e1 e2 m' w' ok fr sr st sm=>wqd (kk E' s' z x L' H' e1 e2 m' w' ok fr sr st sm)]
end
theorem wjk{K H}{x:Sl}(ok:x.ok K H)(ht:wkz x.sd=true)(nd:x.own.Nodup):∃cs,RepL K H false x.d x.v cs/\(∀a∈cs,a∈x.own)/\cs.Nodup:=by
 obtain⟨o,d,v,as⟩:=x;unfold wkz at ht;rw [Bool.or_eq_true]at ht;rcases ht with ht|ht
 ·unfold vK at ht;rw[Bool.or_eq_true]at ht;rcases ht with ht|ht
  ·have ho:o=.dp:=by
    cases o with|dp=>rfl|no=>cases ht|rt=>cases ht
   subst ho;exact#[as,ok,λa h=>h,nd]
  ·obtain⟨_,r⟩:=RepL.pu (g':=false) (RepO.wk ok) ht;exact#[[],r,λ_ h=>(nomatch h),Yg]
 ·rw[Bool.and_eq_true]at ht;have ho:o=.rt:=by
   have ht:(o==Own.rt)=true:=ht.1;cases o with|rt=>rfl|no=>cases ht|dp=>cases ht
  subst ho;cases d with
  | lst ds=>
   obtain⟨a,xs,bs,e,r,h,e2⟩:=(show RepR K H (.lst ds) v as from ok);obtain⟨_,r2⟩:=RepA.pu (g':=false) r ht.2;refine#[[a],?_,λb hb=>?_,by simp]
   ·exact#[a,xs,[],e,r2,.inl #[h,rfl]]
   ·rw[aC hb,e2];exact X2
  |_=>simp_all
noncomputable def PV(K:Frag)(H:Hp):List Nat->D->V->V->Prop
 |[],_,v,u=>u=v|n::p,.tup ds,v,u=>∃a xs x d,v=.ref a/\SqT K H a xs/\xs[n]?=some x/\(ds[n]?=some d/\xs.length=ds.length)/\PV K H p d x u|n::p,.lst ds,v,u=>∃a xs x d,v=.ref a/\H a=some (.lst xs)/\xs[n]?=some x/\(ds[n]?=some d/\xs.length=ds.length)/\PV K H p d x u|_::_,_,_,_=>False
section
variable {K:Frag}{H:Hp}
structure Kx (H H':Hp)(as bs:List Addr):Prop where
 tup:∀a xs,H a=some (.tup xs)->H' a=some (.tup xs)
 frz:∀a o u,H a=some (.frz o u)->H' a=some (.frz o u)
 out:∀b∈as,b∉bs->∀ob,H b=some ob->H' b=some ob
theorem Kx.kp{H':Hp}{as bs cs:List Addr}(k:Kx H H' as bs)(h:∀b∈cs,b∈as/\b∉bs):Kp H H' cs:=#[k.tup,k.frz,λa ha=>k.out a (h a ha).1 (h a ha).2]
theorem RepA.hole:∀{n:Nat} {ds:List D} {xs:List V} {as:List Addr} {dn:D},RepA K H false ds xs as->as.Nodup->ds[n]?=some dn->∃x bs,xs[n]?=some x/\RepL K H false dn x bs/\bs.Nodup/\(∀b∈bs,b∈as) /\
  ∀ (H':Hp) (vi:D) (br:List Addr),Kx H H' as bs->RepL K H' false vi x br->br.Nodup->(∀b∈as,b∉bs->b∉br)->∃f7,RepA K H' false (ds.set n vi) xs f7/\f7.Nodup/\∀b∈f7,(b∈as/\b∉bs)\/b∈br:=by
 intro n ds
 induction ds generalizing n with
 | nil=>intro xs as dn _ _ e;simp at e
 | cons d ds ih=>
  intro xs as dn h nd e;cases n with
  | zero=>
   have e:d=dn:=by simpa using e
   subst e;unfold RepA at h;obtain⟨x,r,bs,es,rfl,rfl,h1,h2⟩:=h;rw[X7]at nd;refine#[x,bs,rfl,h1,nd.1,λb hb=>ll9 _ hb,λH' vi br kx r' og hd=>?_];have he:∀b∈es,b∈bs++es/\b∉bs:=λb hb=>#[lr9 _ hb,λz=>nd.2.2 b z b hb rfl]
   refine#[br++es,?_,?_,λb hb=>?_]
   ·rw[List.set_cons_zero];unfold RepA;exact#[x,r,br,es,rfl,rfl,r',h2.kp (kx.kp he)]
   ·rw[X7];refine#[og,nd.2.1,λa ha b hb jf=>?_];subst jf;exact hd a (he a hb).1 (he a hb).2 ha
   ·rcases aA hb with z|z
    ·exact .inr z
    ·exact .inl (he b z)
  | succ n=>
   unfold RepA at h;obtain⟨x,r,bs,es,rfl,rfl,h1,h2⟩:=h;rw[X7]at nd;obtain⟨y,fs,q1,q2,q3,q4,q5⟩:=ih (n:=n) h2 nd.2.1 (by simpa using e);have hb:∀b∈bs,b∈bs++es/\b∉fs:=λb hb=>#[ll9 _ hb,λz=>nd.2.2 b hb b (q4 b z) rfl]
   refine#[y,fs,by simpa using q1,q2,q3,λb hb=>lr9 _ (q4 b hb),λH' vi br kx r' og hd=>?_];obtain⟨f7,a1,a2,a3⟩:=q5 H' vi br #[kx.tup,kx.frz,λb hb=>kx.out b (lr9 _ hb)] r' og (λb hb=>hd b (lr9 _ hb));refine#[bs++f7,?_,?_,λb i7=>?_]
   ·rw[List.set_cons_succ];unfold RepA;exact#[x,r,bs,f7,rfl,rfl,h1.kp (kx.kp hb),a1]
   ·rw[X7];refine#[nd.1,a2,λa ha b i7 jf=>?_];subst jf;rcases a3 a i7 with z|z
    ·exact nd.2.2 a ha a z.1 rfl
    ·exact hd a (hb a ha).1 (hb a ha).2 z
   ·rcases aA i7 with z|z
    ·exact .inl (hb b z)
    ·exact(a3 b z).imp (λz=>#[lr9 _ z.1,z.2]) id
set_option tactic.hygienic true in
theorem RepL.hole:∀{p:List Nat} {d d1:D} {v:V} {as:List Addr},RepL K H false d v as->as.Nodup->D.at p d=some d1->∃v1 ip,PV K H p d v v1/\RepL K H false d1 v1 ip/\ip.Nodup/\(∀b∈ip,b∈as) /\
  ∀ (H':Hp) (d':D) (br:List Addr),Kx H H' as ip->RepL K H' false d' v1 br->br.Nodup->(∀b∈as,b∉ip->b∉br)->∃f7,RepL K H' false (D.put d' p d) v f7/\f7.Nodup/\∀b∈f7,(b∈as/\b∉ip)\/b∈br:=by
 intro p
 induction p with
 | nil=>
  intro d d1 v as h nd e;cases oq9 (show some d=some d1 from e);exact#[v,as,rfl,h,nd,λ_ h=>h,λH' d' br kx r' og hd=>#[br,r',og,λb hb=>.inr hb]]
 | cons n p ih=>
  intro d d1 v as h nd e;cases d<;>first|(cases e;done)|skip
  ·rename_i ds;unfold D.at at e;cases hn:ds[n]? with
   | none=>rw[hn]at e;cases e
   | some dn=>
    rw[hn]at e;unfold RepL at h;obtain⟨a,xs,e1,sq,ra⟩:=h;obtain⟨x,bs,q1,q2,q3,q4,q5⟩:=RepA.hole ra nd hn;obtain⟨v1,ip,p1,p2,p3,p4,p5⟩:=ih q2 q3 e;refine#[v1,ip,#[a,xs,x,dn,e1,sq,q1,#[hn,ra.len.symm],p1],p2,p3,λb hb=>q4 b (p4 b hb),λH' d' br kx r' og hd=>?_];obtain⟨cs,c1,c2,c3⟩:=p5 H' d' br #[kx.tup,kx.frz,λb hb=>kx.out b (q4 b hb)] r' og (λb hb=>hd b (q4 b hb));obtain⟨f7,a1,a2,a3⟩:=q5 H' _ cs #[kx.tup,kx.frz,λb hb hn=>kx.out b hb λz=>hn (p4 b z)] c1 c2 (λb hb hn z=>by
     rcases c3 b z with z|z
     ·exact hn z.1
     ·exact hd b hb (λz=>hn (p4 b z)) z)
    refine#[f7,?_,a2,λb hb=>?_]
    ·unfold D.put;rw[hn];dsimp only;unfold RepL;exact#[a,xs,e1,Kp.tupT (as:=[]) #[kx.tup,kx.frz,λ_ h=>nomatch h] sq,a1]
    ·rcases a3 b hb with z|z
     ·exact .inl #[z.1,λy=>z.2 (p4 b y)]
     ·exact(c3 b z).imp (λz=>#[q4 b z.1,z.2]) id
  ·rename_i ds;unfold D.at at e;cases hn:ds[n]? with
   | none=>rw[hn]at e;cases e
   | some dn=>
    rw[hn]at e;unfold RepL at h;obtain⟨a,xs,fs,e1,ra,sq⟩:=h;rcases sq with⟨sq,rfl⟩|⟨z,_⟩
    rotate_left
    ·cases z
    rw[Z6]at nd;obtain⟨x,bs,q1,q2,q3,q4,q5⟩:=RepA.hole ra nd.2 hn;obtain⟨v1,ip,p1,p2,p3,p4,p5⟩:=ih q2 q3 e;have ha1:a∉ip:=λz=>nd.1 (q4 a (p4 a z))
    refine#[v1,ip,#[a,xs,x,dn,e1,sq,q1,#[hn,ra.len.symm],p1],p2,p3,λb hb=>lc9 _ (q4 b (p4 b hb)),λH' d' br kx r' og hd=>?_];obtain⟨cs,c1,c2,c3⟩:=p5 H' d' br #[kx.tup,kx.frz,λb hb=>kx.out b (lc9 _ (q4 b hb))] r' og (λb hb=>hd b (lc9 _ (q4 b hb)));obtain⟨f7,a1,a2,a3⟩:=q5 H' _ cs #[kx.tup,kx.frz,λb hb hn=>kx.out b (lc9 _ hb) λz=>hn (p4 b z)] c1 c2 (λb hb hn z=>by
     rcases c3 b z with z|z
     ·exact hn z.1
     ·exact hd b (lc9 _ hb) (λz=>hn (p4 b z)) z)
    have h3:∀b∈f7,(b∈fs/\b∉ip)\/b∈br:=λb hb=>by
     rcases a3 b hb with z|z
     ·exact .inl #[z.1,λy=>z.2 (p4 b y)]
     ·exact(c3 b z).imp (λz=>#[q4 b z.1,z.2]) id
    refine#[a::f7,?_,List.nodup_cons.mpr #[λz=>?_,a2],λb hb=>?_]
    ·unfold D.put;rw[hn];dsimp only;unfold RepL;exact#[a,xs,f7,e1,a1,.inl #[kx.out a X2 ha1 _ sq,rfl]]
    ·rcases h3 a z with z|z
     ·exact nd.1 z.1
     ·exact hd a X2 ha1 z
    ·rcases aD hb with rfl|hb
     ·exact .inl #[X2,ha1]
     ·exact(h3 b hb).imp (λz=>#[lc9 _ z.1,z.2]) id
theorem J7{y:Sl}(h:y.o=.dp):y.own=y.as:=by unfold Sl.own;rw[h]
theorem World.hole{L:Ls}{y:Sl}{p:List Nat}{d1:D}(w:World K H (some y::L))(ho:y.o=.dp)(h:D.at p y.d=some d1):∃y1:Sl,y1.o=.dp/\y1.d=d1/\PV K H p y.d y.v y1.v/\World K H (some y1::L) /\
  ∀ (He:Hp) (Le:Ls) (z:Sl),World K He (some z::Le)->Step H (some y1::L) He (some z::Le)->z.o=.dp->z.v=y1.v->∃y':Sl,y'.o=.dp/\y'.d=D.put z.d p y.d/\y'.v=y.v/\World K He (some y'::Le)/\Step H (some y::L) He (some y'::Le):=by
 have ok:RepL K H false y.d y.v y.as:=by
  have:=w.ok y X2;unfold Sl.ok at this;rw[ho]at this;exact this
 have nd:=w.nd;rw [jW,J7 ho,X7]at nd;have ds:=w.ds;obtain⟨v1,ip,p1,p2,p3,p4,p5⟩:=RepL.hole ok nd.1 h;have al:∀b∈y.as,H b≠none:=λb hb z=>by
  rcases w.own_al (a:=b) (by rw[jW,J7 ho];exact ll9 _ hb)with⟨_,q⟩|⟨_,q⟩|⟨_,q⟩<;>· rw[z]at q;cases q
 refine#[#[.dp,d1,v1,ip],rfl,rfl,p1,#[λx hx=>?_,?_,λa ha=>?_],λHe Le z wz st zo zv=>?_]
 ·rcases aD hx with e|hx
  ·cases e;exact p2
  ·exact w.ok x (lc9 _ hx)
 ·rw[jW,X7];exact#[p3,nd.2.1,λa ha b hb=>nd.2.2 a (p4 a ha) b hb]
 ·have ha2:a∈j7 (some y::L):=by
   rw[jW]at ha ⊢;rcases aA ha with ha|ha
   ·exact ll9 _ (by rw[J7 ho];exact p4 a ha)
   ·exact lr9 _ ha
  have:=ds a ha2;rw[ww]at this ⊢;intro q;rcases aA q with q|q
  ·cases q
  ·exact this (lr9 _ q)
 ·have vy:RepL K He false z.d v1 z.as:=by
   have:=wz.ok z X2;unfold Sl.ok at this;rw[zo,zv]at this;exact this
  have ndz:=wz.nd;rw[jW,J7 zo,X7]at ndz;have no1:∀b∈y.as,b∉ip->b∉j7 (some (#[.dp,d1,v1,ip]:Sl)::L):=λb hb hn q=>by
   rw[jW]at q;rcases aA q with q|q
   ·exact hn q
   ·exact nd.2.2 b hb b q rfl
  have noz:∀b∈y.as,b∉ip->b∉j7 (some z::Le):=λb hb hn q=>by
   rcases st.own b q with q|q
   ·exact no1 b hb hn q
   ·exact al b hb q
  have nof:∀b∈y.as,b∉ip->b∉jK Le:=λb hb hn q=>by
   rcases st.frz b (by rw[ww];exact lr9 _ q)with q|q|q
   ·rw[ww]at q;rcases aA q with q|q
    ·cases q
    ·exact ds b (by rw[jW,J7 ho];exact ll9 _ hb) (by rw[ww];exact lr9 _ q)
   ·exact no1 b hb hn q
   ·exact al b hb q
  have tupk:∀a xs,H a=some (.tup xs)->He a=some (.tup xs):=λa xs e=>st.keep a _ e λq=>by
   have q2:a∈j7 (some y::L):=by
    rw[jW]at q ⊢;exact List.mem_append.mpr ((aA q).imp (λq=>by rw[J7 ho];exact p4 a q) id)
   rcases w.own_al q2 with⟨_,q⟩|⟨_,q⟩|⟨_,q⟩<;>· rw[e]at q;cases q
  have frzk:∀a o u,H a=some (.frz o u)->He a=some (.frz o u):=λa o u e=>st.keep a _ e λq=>by
   have q2:a∈j7 (some y::L):=by
    rw[jW]at q ⊢;exact List.mem_append.mpr ((aA q).imp (λq=>by rw[J7 ho];exact p4 a q) id)
   rcases w.own_al q2 with⟨_,q⟩|⟨_,q⟩|⟨_,q⟩<;>· rw[e]at q;cases q
  obtain⟨f7,a1,a2,a3⟩:=p5 He z.d z.as #[tupk,frzk,λb hb hn ob e=>st.keep b ob e (no1 b hb hn)] vy ndz.1 (λb hb hn q=>noz b hb hn (by rw[jW,J7 zo];exact ll9 _ q));have sub:∀b∈j7 (some z::Le),b∈j7 (some y::L)\/H b=none:=λb hb=>(st.own b hb).imp (λq=>by
   rw[jW]at q ⊢;exact List.mem_append.mpr ((aA q).imp (λq=>by rw[J7 ho];exact p4 b q) id)) id
  refine#[#[.dp,D.put z.d p y.d,y.v,f7],rfl,rfl,rfl,#[λx hx=>?_,?_,λa ha q=>?_],#[λa ob e hn=>st.keep a ob e λq=>hn ?_,λa ha=>?_,λa ha=>?_]]
  ·rcases aD hx with e|hx
   ·cases e;exact a1
   ·exact wz.ok x (lc9 _ hx)
  ·rw[jW,X7];refine#[a2,ndz.2.1,λa ha b hb jf=>?_];subst jf;rcases a3 a ha with q|q
   ·exact noz a q.1 q.2 (by rw[jW];exact lr9 _ hb)
   ·exact ndz.2.2 a q a hb rfl
  ·have q:a∈jK Le:=by
    rw[ww]at q;rcases aA q with q|q
    ·cases q
    ·exact q
   rw[jW]at ha;have fz:a∈jK (some z::Le):=by rw[ww];exact lr9 _ q
   rcases aA ha with ha|ha
   ·rcases a3 a ha with r|r
    ·exact nof a r.1 r.2 q
    ·exact wz.ds a (by rw[jW,J7 zo];exact ll9 _ r) fz
   ·exact wz.ds a (by rw[jW];exact lr9 _ ha) fz
  ·rw[jW]at q ⊢;exact List.mem_append.mpr ((aA q).imp (λq=>by rw[J7 ho];exact p4 a q) id)
  ·rw[jW]at ha;rcases aA ha with ha|ha
   ·rcases a3 a ha with q|q
    ·exact .inl (by rw[jW,J7 ho];exact ll9 _ q.1)
    ·exact sub a (by rw[jW,J7 zo];exact ll9 _ q)
   ·exact sub a (by rw[jW];exact lr9 _ ha)
  ·have q:a∈jK Le:=by
    rw[ww]at ha;rcases aA ha with q|q
    ·cases q
    ·exact q
   rcases st.frz a (by rw[ww];exact lr9 _ q)with r|r|r
   ·refine .inl ?_;rw[ww]at r ⊢;rcases aA r with r|r
    ·cases r
    ·exact lr9 _ r
   ·refine .inr (.inl ?_);rw[jW]at r ⊢;exact List.mem_append.mpr ((aA r).imp (λq=>by rw[J7 ho];exact p4 a q) id)
   ·exact .inr (.inr r)
end
section
variable {X:Cx}{Z:Fx0}{pn:List Nat}{q:Bool}{c:Ex}{e ep:Expr}{i:Nat}{p:List Nat}{pos:Pos}
theorem qv0{K H L y}(w:World K H L)(h:L[i]?=some (some y)):World K H (some y::L.set i none)/\Step H L H (some y::L.set i none):=by
 have wn:World K H (none::L):=#[λy hy=>w.ok y (by simpa using hy),by simpa using w.nd,by simpa using w.ds];have sn:Step H L H (none::L):=#[λ_ _ z _=>z,λa z=>.inl (by simpa using z),λa z=>.inl (by simpa using z)];exact#[wn.perm (jx5 h),sn.trans (Step.refl.perm (List.Perm.refl _) (jx5 h))]
theorem vxg{K H}{x:Sl}(ok:x.ok K H)(h:x.d.pure=true):RepL K H false x.d x.v []:=(RepL.pu (g':=false) (RepO.wk ok) h).2
theorem qjm{H l xs ob}(h:H l=some (.lst xs)){as}(hn:l∉as):Kp H (upd H l ob) as:=by
 have ke:∀a o,H a=some o->a≠l->upd H l ob a=some o:=λa o e ne=>by rw[kj ne];exact e
 refine#[λa xs e=>ke a _ e λz=>?_,λa o u e=>ke a _ e λz=>?_,λa ha o e=>ke a o e λz=>hn (z▸ha)]
 ·grind
 ·grind
theorem World.app{K H}{M:Ls}{y x ds}(w:World K H (some y::some x::M))(ho:y.o=.dp)(hd:y.d=.lst ds)(hp:x.d.pure=true):∃l xs,y.v=.ref l/\H l=some (.lst xs)/\xs.length=ds.length /\
  ∃z,z.o=.dp/\z.d=.lst (ds++[x.d])/\z.v=y.v/\World K (upd H l (.lst (xs++[x.v]))) (some z::M)/\Step H (some y::some x::M) (upd H l (.lst (xs++[x.v]))) (some z::M):=by
 obtain⟨l,xs,bs,c1,c2,c3,c4,c5⟩:=qk0 (w.ok y X2) hd ho;have nd:=w.nd;rw[jW,X7,c4,Z6]at nd;refine#[l,xs,c1,c2,c5.len.symm,#[.dp,.lst _,y.v,l::bs],rfl,rfl,rfl,World.write (T:=[some x]) w (c4▸X2) ?_ (List.nodup_cons.mpr nd.1) (λa ha=>.inl (c4▸ha)) (λa ha=>nomatch ha) (λa ha z=>nomatch z)];have hr:=RepA.snoc ((vxg (w.ok x (lc9 _ X2)) hp).kp (qjm c2 (λz=>nomatch z))) (c5.kp (qjm (ob:=.lst (xs++[x.v])) c2 nd.1.1));rw[Xr]at hr;exact#[l,_,bs,c1,hr,.inl #[xV,rfl]]
theorem qz5{K H l xs}(h:H l=some (.lst xs)):tyV K "list" (.ref l) H:=.inl #[rfl,xs,.inl (.inl h)]
set_option tactic.hygienic true in
theorem qx1(hc:QE X Z q c e):QE X Z q (Qv c) e:=kW hc fun σ H Q bb=>ex8 bb λE L r m w hr xc k=>by
 rcases wJ hr with⟨E1,s,h1,h2⟩|⟨E1,cc,h1,h2⟩
 ·refine#[E,L,_,m,w,h1,(λ_ _ z=>by cases z),λE' s' z x L' H' e1 e2 m' w' st sm=>?_];injection z with z1 z2;subst z1 z2
  split at h2
  rotate_left
  ·grind
  rename_i hown;cases oq9 h2;have xn:x.own.Nodup:=by
   have:=w'.nd;exact(List.nodup_append.mp this).1
  obtain⟨cs,rx,mf,hcn⟩:=wjk w'.head (by unfold Sl.sd;rw[e1,e2];exact hown) xn;have nd:=w'.nd;rw[jW,X7]at nd;refine k _ _ rfl #[.dp,x.d,x.v,cs] L' H' rfl e2 m' #[λy hy=>?_,?_,λa ha=>?_] #[st.keep,λa ha=>?_,λa ha=>?_] λhq=>#[(sm hq).1,λb hb=>(sm hq).2 b (mf b hb)]
  ·rcases aD hy with z|z
   ·cases z;exact rx
   ·exact w'.ok y (lc9 _ z)
  ·rw[jW,X7];exact#[hcn,nd.2.1,λa ha b hb=>nd.2.2 a (mf a ha) b hb]
  ·have ha2:a∈j7 (some x::L'):=by
    rw[jW]at ha ⊢;exact List.mem_append.mpr ((aA ha).imp (mf a) id)
   intro q2;rw[ww]at q2;exact w'.ds a ha2 (lr9 _ ((aA q2).elim (λz=>nomatch z) id))
  ·refine st.own a ?_;rw[jW]at ha ⊢;exact List.mem_append.mpr ((aA ha).imp (mf a) id)
  ·refine st.frz a ?_;rw[ww]at ha ⊢;exact lr9 _ ((aA ha).elim (λz=>nomatch z) id)
 ·exact#[E,L,_,m,w,h1,xc.map h2,λE' s' z=>by cases z]
end
set_option tactic.hygienic true in
theorem vkd{P w K mg mb CX k fa a fd x sp s₁ vs}{ns}
  (KX:K.In s₁.heap) (hns:s₁.heap.Ns mainGlobals mg) (hb:s₁.heap.Ns builtinsNs mb) (qg:∀x:Str,x≠"__name__"->mb x=bootBuiltins x) (hlim:s₁.heap.NoLimit) (hg:s₁.gens=(List.toArray []))
  (ha:s₁.heap.get? a=some {cls:=.type "list",data:=.seq vs.toArray}) (hi:IntsAre vs ns) (hl:ns.length<=sizeLine) (hr:Room k callerA)
  (F:∀base,K.In base->base.Ns mainGlobals mg->FnOk P w K mg base CX k fa fd [x] sp) (u9:∀s u,BindsTo s fd #[[u],[]] [(x,u)])
  (iy:∀H,xky H->LsR K H a (ns.map V.int)->sp [.ref a] H (λv _=>v=.bl true) λ_ _ _=>False)
  (hCX:∀H e s',CX [] H s₁ (λ_ _ _=>False) e s'->False):
  codeAny (model P w) callerA (.call (.ref fa) #[[.ref a],[]]) (λr s'=>r=.ok (.ret (.bool true))/\OldK s₁.heap s'.heap/\s'.os=s₁.os/\AllBare s'.gens) s₁:=by
 have rv:=kz6 hi;have vm:∀H,xky H->LsR K H a (ns.map V.int)->HOk P w H s₁.heap->(∀b,H b≠none->b=a)->(H a≠none->K.lookup a=none) ->
   codeAny (model P w) callerA (.call (.ref fa) #[[.ref a],[]]) (λr s'=>r=.ok (.ret (.bool true))/\OldK s₁.heap s'.heap/\s'.os=s₁.os/\AllBare s'.gens) s₁:=by
  intro H hO hS hok hA hK;have kg:∀{b o},s₁.heap.get? b=some o->H b=none->(WZ s₁.heap H).get? b=some o:=λe n=>vwi e n
  have uh:∀{b o es ep},s₁.heap.get? b=some o->o.data=.dict es ep->H b=none:=fun {b o es ep} e d=>by
   cases q:H b with| none=>rfl| some u=>grind
  have nsK:∀{b m},s₁.heap.Ns b m->(WZ s₁.heap H).Ns b m:=fun {b m} ⟨o,es,ep,e,d,r⟩=>#[o,es,ep,kg e (uh e d),d,r]
  have hKb:=λb o e=>kg (KX b o e) (by
   cases q:H b with
   | none=>rfl
   | some u=>
    have e':=hA b (by rw[q];simp);subst e';rw[hK ⋯]at e;cases e)
  have hM:Mod K mg (WZ s₁.heap H):=#[hKb,nsK hns,#[mb,nsK hb,qg],let ⟨mc,h1,h2⟩:=hlim;#[mc,nsK h1,h2]];have e0:Env0 P w K mg _ callerA [] s₁ H:=#[rfl,hM,λb o e=>wjq e,Nat.le_of_eq (vkr _ _),trivial,λb hb=>absurd (show b∈([]:List Addr)from hb) (by simp),hok,.of_eq hg];refine codeAny_mono ((F _ hKb (nsK hns)).run callerA [] s₁ H _ [.ref a] [.ref a] _ _ hr e0 (u9 s₁ _) (.cons rfl .nil) (iy H hO hS)) λr s' h=>?_
  cases r with
  | error e=>exact(hCX H e s' h).elim
  | ok fl=>
   cases fl with
   | next=>exact False.elim h| brk=>exact False.elim h| cont=>exact False.elim h
   | ret u=>
    obtain⟨v,H',os,bare,un,hok',r',q⟩:=h;subst q;obtain rfl:u=Value.bool true:=r';refine#[rfl,OldK.of_keep λb o e=>?_,os,bare];cases q:H b with
    | none=>exact un.keep b o e q (by intro z;exact absurd (show b∈([]:List Addr)from z) (by simp)) (by simp)
    | some u=>
     rcases hO b with z|⟨ob,xs,z⟩
     ·grind
     ·have z2:=un.frzs b ob _ z;obtain⟨e1,_⟩:=hok b _ z;obtain⟨e2,_⟩:=hok' b _ z2
      grind
 cases hk:K.lookup a with
 | some o=>
  have e:=KX a o hk;rw[ha]at e;cases e;refine vm (λ_=>none) (λ_=>.inl rfl) (.inr #[vs.toArray,_,hk,by rw[Xe,hi.length];exact hl,by simpa using rv]) (λb u z=>by have z':(none)=some u:=z;cases z') (λb z=>absurd rfl z) λz=>absurd rfl z
 | none=>
  refine vm (λb=>if b=a then some (.frz {cls:=.type "list",data:=.seq vs.toArray} (.lst (ns.map V.int)))else none) (λb=>?_) (.inl (.inr #[{cls:=.type "list",data:=.seq vs.toArray},X8 rfl])) (λb u z=>?_) (λb z=>?_) λ_=>hk
  ·by_cases hb:b=a
   ·exact .inr #[_,_,X8 hb]
   ·exact .inl (Xd hb)
  ·by_cases hb:b=a
   ·have z':=(X8 hb).symm.trans z;cases z';subst hb;exact#[ha,by rw[X1];exact hl,vs,_,rv,ha]
   ·have z':=(Xd hb).symm.trans z;cases z'
  ·by_cases hb:b=a
   ·exact hb
   ·exact absurd (Xd hb) z
@[elab_as_elim] theorem len1 {P:List Value->Prop} us (e:us.length=1)(h:∀a,P [a]):P us:=by
 cases us with|nil=>cases e|cons a us=>cases List.eq_nil_of_length_eq_zero (Nat.succ.inj e);exact h a
@[elab_as_elim] theorem len2 {P:List Value->Prop} us (e:us.length=2)(h:∀a b,P [a,b]):P us:=by
 cases us with|nil=>cases e|cons a us=>exact len1 us (Nat.succ.inj e) λb=>h a b
@[elab_as_elim] theorem len3 {P:List Value->Prop} us (e:us.length=3)(h:∀a b c,P [a,b,c]):P us:=by
 cases us with|nil=>cases e|cons a us=>exact len2 us (Nat.succ.inj e) λb c=>h a b c
@[elab_as_elim] theorem len4 {P:List Value->Prop} us (e:us.length=4)(h:∀a b c d,P [a,b,c,d]):P us:=by
 cases us with|nil=>cases e|cons a us=>exact len3 us (Nat.succ.inj e) λb c d=>h a b c d
@[elab_as_elim] theorem len5 {P:List Value->Prop} us (e:us.length=5)(h:∀a b c d f,P [a,b,c,d,f]):P us:=by
 cases us with|nil=>cases e|cons a us=>exact len4 us (Nat.succ.inj e) λb c d f=>h a b c d f
@[elab_as_elim] theorem len6 {P:List Value->Prop}(us:List Value)(e:us.length=6)(h:∀a b c d f g,P [a,b,c,d,f,g]):P us:=by
 cases us with|nil=>cases e|cons a us=>exact len5 (P:=λl=>P (a::l)) us (Nat.succ.inj e) λb c d f g=>h a b c d f g
theorem kjc{K H g}:∀(ns:List Int),RepA K H g (ns.map D.int) (ns.map V.int) []
 |[]=>#[rfl,rfl]
 |n::ns=>by
  unfold RepA;exact#[_,_,[],[],rfl,rfl,JK,kjc ns]
theorem wwy{K mg f H a}{ns:List Int}(h:∃E o,f [(.no,.lst (ns.map D.int))]=some (.ok E (o,.bl true)))(hs:LsR K H a (ns.map V.int))(hO:xky H):
  spF K mg 1 f [.ref a] H (λv _=>v=.bl true) λ_ _ _=>False:=by
 obtain⟨E,o,h⟩:=h;have qr:∃as,RepL K H true (.lst (ns.map D.int)) (.ref a) as/\(∀b∈as,False):=by
  rcases hs with(hs|⟨ob,hs⟩)|hs
  ·rcases hO a with z|⟨_,_,z⟩<;>(rw[hs]at z;cases z)
  ·exact#[[],(#[a,ns.map V.int,[],rfl,kjc ns,.inr #[rfl,.inl #[ob,hs],rfl]]),λb hb=>nomatch hb]
  ·exact#[[],(#[a,ns.map V.int,[],rfl,kjc ns,.inr #[rfl,.inr hs,rfl]]),λb hb=>nomatch hb]
 obtain⟨as,r,hn⟩:=qr;refine#[[#[.no,.lst _,.ref a,as]],_,rfl,rfl,?_,h,(λE' c z=>by cases z),λE' s z x H' e1 e2 w' st=>?_]
 ·exact#[λx hx=>by rw[oq9 (aC hx)];exact r,by simp[Sl.own],λb hb=>by simp[Sl.own]at hb]
 ·injection z with z1 z2;subst z2;exact QY w'.head e2
section
open PySem.W PySem.Calls
theorem walkQ{l:OpenLaw}{n k q vz XP YP d}{K:Params->Frag}{f}{x}
  (hn:l.most=some n) (oj:n<=sizeLine) (hdf:d.params.defaults=[]) (hr:Room k callerA)
  (hY:∀w (h),YP w h->(K w.params).In h)
  (F:∀w (mg) (fa) (h),(K w.params).In h->h.Ns mainGlobals mg->mg d.name=some (.ref fa) ->
   ∃fd,(∀s (u),BindsTo s fd #[[u],[]] [(x,u)])/\∀base,(K w.params).In base->base.Ns mainGlobals mg->FnOk l.prog w (K w.params) mg base (CXE l.prog w) k fa fd [x] (spF (K w.params) mg 1 f))
  (iy:∀(ns:List Int),ns.length<=n->(∀i∈ns,Builtin.Int.intBits i<=1048576)->∃E o,f [(.no,.lst (ns.map D.int))]=some (.ok E (o,.bl true))):
  WalkO q vz XP YP l.row.toRowW d [] (λf vs=>PySem.call f vs):=by
 intro w s0 s1 mg mb G Y fa o pm cd iq dV kV ho hd jm hD hmg hg args du as oq hlay hrd qp hlo;obtain⟨a,vs,ns,rfl,rfl,hobj,vo,az⟩:=Att.script_of hn oq qp;have KX:=hY w _ Y;obtain⟨fd,hb,hF⟩:=F w mg fa _ KX G.T.g hmg;refine enter_call (codeAny_mono (vkd KX G.T.g G.T.b G.T.builtins G.T.nolimit hg hobj vo (Xs az oj) hr hF hb (λH hO hS=>wwy (iy ns az (qql hlay)) hS hO) (λ_ _ _ h=>by obtain⟨_,_,_,_,_,_,_,_,_,_,_,_,_,_,_,z⟩:=h;exact z)) λr s' hq=>?_);obtain⟨rfl,h2,h3,h4⟩:=hq;exact#[.inl #[.bool true,.bool true,[],rfl,λ_=>rfl,.bool true,Att.post_true l _,λ_=>#[List.Pairwise.nil,λ_ hm=>(nomatch hm)]],h2,h3,h4]
end
noncomputable def xqp:Nat->(List Value->Prop)->Prop
 |0,p=>p []|n+1,p=>∀a,xqp n λus=>p (a::us)
@[elab_as_elim] theorem allN {p:List Value->Prop} us {n}(e:us.length=n)(h:xqp n p):p us:=by
 induction us generalizing n p with|nil=>subst e;exact h|cons a us ih=>subst e;exact ih (p:=λus=>p (a::us)) rfl (h a)
section
variable {P:Program}{w:PySem.World}{K:Frag}{mg:Str->Option Value}{base h:Heap}{x:Str}{st:Stmt}{ps:List Str}{k:Nat}{sp:Sp}
noncomputable def Gf(K:Frag)(x:Str)(st:Stmt):Prop:=∃(f:Addr) (oc:Value) (od:Option Addr) (kV dc pm:Value) (an:Option Addr) (cd ct:Value) (sl:Array (Option Value)),nsIn K mainGlobals x=some (some (.ref f))/\K.lookup f=some #[oc,od,.func (PySem.W.fnOf x x (VZ st) (KQ st) (jV st) .none kV dc pm an cd ct),sl]/\PySem.W.codeIn K cd x=true/\PySem.W.keepIn K (.ref f)=true
theorem Gf.mk{f oc od kV dc pm an cd ct sl}(a:nsIn K mainGlobals x=some (some (.ref f)))(l:K.lookup f=some #[oc,od,.func (PySem.W.fnOf x x (VZ st) (KQ st) (jV st) .none kV dc pm an cd ct),sl])(c:PySem.W.codeIn K cd x=true)(k:PySem.W.keepIn K (.ref f)=true):Gf K x st:=#[f,oc,od,kV,dc,pm,an,cd,ct,sl,a,l,c,k]
theorem Gf.d(g:Gf K x st)(X:K.In h)(G:h.Ns mainGlobals mg)(ok:∀{f fd},Fun K x x st f fd->FnOk P w K mg base (CXE P w) k f fd ps sp)
  (hb:∀kV iq pm an (dw ct) us,us.length=ps.length->bindArgs (PySem.W.fnOf x x (VZ st) (KQ st) (jV st) .none kV iq pm an dw ct) #[us,[]]=pure (ps.zip us):=by
   intro _ _ _ _ _ _ us hl;refine allN us hl ?_
   repeat intro _
   exact rfl):k8 P w K mg base k x ps sp:=by
 obtain⟨f,oc,od,kV,dc,pm,an,cd,ct,sl,a,l,c,kp⟩:=g;exact#[f,_,ok (vku l c kp),(vku l c kp).binds hb,kp,Xy X G a]
theorem Gf.law{fa y}(g:Gf K "law" st)(X:K.In h)(G:h.Ns mainGlobals mg)(hfa:mg "law"=some (.ref fa))(ok:∀{base f fd},Fun K "law" "law" st f fd->FnOk P w K mg base (CXE P w) k f fd [y] sp)
  (hb:∀kV iq pm an (dw ct) s v,BindsTo s (PySem.W.fnOf "law" "law" (VZ st) (KQ st) (jV st) .none kV iq pm an dw ct) #[[v],[]] [(y,v)]:=by
   intros
   exact .of_eq rfl):
  ∃fd,(∀s v,BindsTo s fd #[[v],[]] [(y,v)])/\∀base,K.In base->base.Ns mainGlobals mg->FnOk P w K mg base (CXE P w) k fa fd [y] sp:=by
 obtain⟨f,oc,od,kV,dc,pm,an,cd,ct,sl,a,l,c,kp⟩:=g;have e:=hfa.symm.trans (Xy X G a);cases e;exact#[_,hb kV dc pm an cd ct,λbase _ _=>ok (vku l c kp)]
end
end Q
namespace Q
open PySem L2
theorem mkS{N P sc}(h1:autoParam (sc.kind=.function) Ŕ)(h2:autoParam (sc.isCoroutine=false) Ŕ)(h3:autoParam (sc.isGenerator=false) Ŕ)(h4:autoParam (N.Nodup) ŗ)(h5:autoParam (N.take P.length=P) Ŕ)(h6:autoParam (∀x∈P,sc.names.lookup x=some .local\/sc.names.lookup x=some .cell) ŗ)(h7:autoParam (∀y∈sc.names,y.2≠.free) ŗ):FnScope N P sc:=#[h1,h2,h3,h4,h5,h6,h7]
end Q
namespace Q
open PySem PySem.Spec PyProof.Rows L2 L3
section
variable {X:Cx}{Z:Fx0}{pn:List Nat}{q qa:Bool}{a b c:Ex}{e ea eb:Expr}{pos p:Pos}
theorem kI{z j}:QE X Z true (cC (.int z)) (.Constant (.int z) j p):=q_C vjh λ_=>JK
theorem ki{z j}:QV X Z true (vE (cC (.int z))) (.Constant (.int z) j p):=j4 kI
theorem kN{j}:QE X Z true (cC .non) (.Constant .none j p):=q_C ww4 λ_=>qzu
theorem kn{j}:QV X Z true (vE (cC .non)) (.Constant .none j p):=j4 kN
theorem kS{z j}(h:autoParam (z.length<=sizeLine) ŕ):QE X Z true (cC (.str z)) (.Constant (.str z) j p):=q_C zW λ_=>Wk h
theorem ks{z j}(h:autoParam (z.length<=sizeLine) ŕ):QV X Z true (vE (cC (.str z))) (.Constant (.str z) j p):=j4 (kS h)
theorem vv i {x}(hN:autoParam (X.N[i]?=some x) Ŕ)(hv:autoParam (Vis X.env.scope x) ř)(hd:autoParam (Abd x) ŕ)
  (jm:autoParam ((x==("__classdict__":Str))=false) ŕ):QV X Z true (vV i) (.Name x pos):=q_vV (pv i hN hv hd jm)
theorem cv i {x}(hN:autoParam (X.N[i]?=some x) Ŕ)(hv:autoParam (Vis X.env.scope x) ř)(hd:autoParam (Abd x) ŕ)
  (jm:autoParam ((x==("__classdict__":Str))=false) ŕ):QE X Z true (cV i) (.Name x pos):=q_V (pv i hN hv hd jm)
theorem kx(ha:QV X Z qa a ea)(hb:QV X Z true b eb)(hs:kjy eb:=by exact λ_ _=>rfl)(hK:autoParam (X.K=Z.K) Ŕ):QV X Z qa (j8 a b) (.Subscript ea eb pos):=q_ix ha hb hs hK
theorem qA{i y cm}(hN:X.N.Nodup)(h:QE X Z q a ea)(hi:autoParam (X.N[i]?=some y) Ŕ)(hx:autoParam (Loc X.env.scope y) Ś)(hp:autoParam (i∉pn) ŕ)(hs:autoParam (swapsWith ea (some (.Name y cm)) pos.line X.env=pure false) Ŕ)(hf:autoParam (X.fn y=true\/X.env.scope.names.lookup y=some .local) Ř):
  QS X Z pn (jz i a) (.Assign [.Name y cm] ea pos):=xjm hN hi hx h hp hs hf
theorem gn{i x}(hN:X.N.Nodup)(hi:autoParam (X.N[i]?=some x) Ŕ)(hx:autoParam (Loc X.env.scope x) Ś)(hf:autoParam (X.fn x=true\/X.env.scope.names.lookup x=some .local) Ř):PG X (.Name x pos) (vkt i):=qkx hN hi hx hf
theorem gN{i x}(hN:X.N.Nodup)(hi:autoParam (X.N[i]?=some x) Ŕ)(hx:autoParam (Loc X.env.scope x) Ś)(hf:autoParam (X.fn x=true\/X.env.scope.names.lookup x=some .local) Ř)(hp:autoParam (i∉pn) ŕ):QG X Z pn (.n i) (.Name x pos):=XQ (qkx hN hi hx hf) hp
theorem qC{k m n x ps f cs es}(D:k8 X.prog X.w X.K X.mg X.base k x ps (spF Z.K Z.mg n f))(hr:Room m X.A)(ha:QA X Z q cs (e::es))(g:zq X Z.EX:=by exact JY)(jn:autoParam (k<=m) ŕ)(hn:autoParam (cs.length=n) Ŕ)(hg:autoParam (Gl X x) Ŕ)(eh:autoParam (Abd x) ŕ)
  (he:autoParam (Abs e es X) Ŕ) (bv:autoParam (Abb pos es X) Ŕ):
  QE X Z q (jq f cs) (.Call (.Name x p) (e::es) [] pos):=wvm D (hr.mono jn) g ha hn hg eh he bv
theorem qF{tg bc ss it t B}(hi:QI X Z q tg it bc)(hg:QG X Z pn t tg)(hb:QSs X Z pn B ss)(hp:PassesOwn (model X.prog X.w) X.A X.env X.xe:=by exact wwc #[_,_,rfl,rfl])(hc:autoParam (X.calm=true) Ŕ)(hs:autoParam (∀x,foldedSetIterable bc X.env x=pure x) Ŗ):QS X Z pn (z7 it t B) (.For tg bc ss [] pos):=xji hp hc hi hg hb hs
theorem oA(ha:QV X Z qa a ea)(hb:QV X Z true b eb)(hK:autoParam (X.K=Z.K) Ŕ):QE X Z qa (cF2 jZ a b) (.BinOp ea .Add eb pos):=wve (wwk hK) wze ha hb
theorem oX(ha:QV X Z qa a ea)(hb:QV X Z true b eb)(hK:autoParam (X.K=Z.K) Ŕ):QE X Z qa (cF2 Jw a b) (.BinOp ea .Mult eb pos):=wve (wwh hK) wkv ha hb
theorem oM(ha:QV X Z qa a ea)(hb:QV X Z true b eb):QE X Z qa (cF2 (pu2 jQ) a b) (.BinOp ea .Mod eb pos):=wve wwf wz7 ha hb
theorem qP{i x bi au xp}(h:QE X Z q c e)(hN:autoParam (X.N[i]?=some x) Ŕ)(hv:autoParam (Vis X.env.scope x) ř)(hd:autoParam (Abd x) ŕ)
  (jm:autoParam ((x==("__classdict__":Str))=false) ŕ) (bq:autoParam (attributeBase (.Name x xp) "append" X.env (eval (.Name x xp) X.env)=eval (.Name x xp) X.env) Ŕ)
  (cy:autoParam (((backTo au (starEach [e] X.env)).all (λx=>!x.1)&&(backToKw au (keywordEach [] X.env)).all (λx=>x.1.isSome)
   && decide ([e].length+([]:List Keyword).length+(if([]:List Keyword).isEmpty then 0 else 1)<30))=true) Ŕ)
  (bp:autoParam (Abe bi au) Ŕ) (hs:autoParam (Abs e [] X) Ŕ) (bj:autoParam (Abb au [] X) Ŕ) (hK:autoParam (X.K=Z.K) Ŕ)
  (lv:autoParam (swapsWith (.Call (.Attribute (.Name x xp) "append" bi) [e] [] au) none pos.line X.env=pure false) Ŕ):
  QS X Z pn (wq xj i c) (.Expr (.Call (.Attribute (.Name x xp) "append" bi) [e] [] au) pos):=xjn (Zq Z.K Ye Yx Yy jx7 (pv i hN hv hd jm) (kX h v6 hs) bq cy bp hs bj hK) lv
theorem qL(ha:QV X Z q a ea)(hm:X.mg "len"=none)(hK:autoParam (X.K=Z.K) Ŕ)(hg:autoParam (Gl X "len") Ŕ)(he:autoParam (Abs ea [] X) Ŕ)(bv:autoParam (Abb pos [] X) Ŕ):QE X Z q (cF1 (pu1 jx) a) (.Call (.Name "len" p) [ea] [] pos):=KK (hK▸wkp X.K) wz8 ha hm wxv hg ⋯ ⋯ he bv
theorem qT(ha:QV X Z q a ea)(hm:X.mg "tuple"=none)(hK:autoParam (X.K=Z.K) Ŕ)(hg:autoParam (Gl X "tuple") Ŕ)(he:autoParam (Abs ea [] X) Ŕ)(bv:autoParam (Abb pos [] X) Ŕ):QE X Z q (cF1 Vv a) (.Call (.Name "tuple" p) [ea] [] pos):=K8 (vqd hK) vx8 ha hm qwi hg ⋯ ⋯ he bv
variable {bc gy tg:Expr}{gb:List Expr}{scope:Scope}{it:Ev (List D)}{tt:Tg}{u:Ts}
theorem qm(o)(k)(R)(m)(N)(hi:QI X Z q tg it bc)
  (hg:N.Nodup->∀cl C s0 H0 fp,QG (lcE X scope N cl C s0 H0 fp Z.EX) Z ((List.range R.length).map (k + ·)) tt tg) (ht:∀cl C s0 H0 fp,PTs (lcE X scope N cl C s0 H0 fp Z.EX) gb (tT Z q u)) (he:∀cl C s0 H0 fp,QE (lcE X scope N cl C s0 H0 fp Z.EX) Z q c gy)
  (hN:autoParam (N.Nodup) ŗ) (gx:zq X Z.EX:=by exact JY) (top:JW X:=by exact#[_,_,rfl,rfl]) (hR:autoParam (R.Nodup) ŕ) (hm:autoParam (X.N.length=m) Ŕ) (hr:autoParam (∀j∈R,j<m) ŕ) (hc:autoParam (X.calm=true) Ŕ) (hk:autoParam (scope.kind=.function) Ŕ) (mr:autoParam (VX X.N X.env.scope scope N k R=true) Ŕ) (hs:autoParam (∀x,foldedSetIterable bc X.env x=pure x) Ŗ):
  QE X Z q (cLC o k R it tt u c) (.ListComp gy [#[tg,bc,gb,0]] scope pos):=xqe N hi (hg hN) ht he gx top hR (hm▸hr) hc hk mr hs
theorem qM{x p'}(o)(k)(R)(m)(N)(hi:QI X Z q (.Name x p') it bc)(he:∀cl C s0 H0 fp,QE (lcE X scope N cl C s0 H0 fp Z.EX) Z q c gy)
  (hN:autoParam (N.Nodup) ŗ) (gx:zq X Z.EX:=by exact JY) (top:JW X:=by exact#[_,_,rfl,rfl]) (hR:autoParam (R.Nodup) ŕ) (hm:autoParam (X.N.length=m) Ŕ) (hr:autoParam (∀j∈R,j<m) ŕ) (hc:autoParam (X.calm=true) Ŕ) (hk:autoParam (scope.kind=.function) Ŕ) (mr:autoParam (VX X.N X.env.scope scope N k R=true) Ŕ) (hs:autoParam (∀x,foldedSetIterable bc X.env x=pure x) Ŗ)
  (h1:autoParam (N[0]?=some x) Ŕ) (h2:autoParam (scope.names.lookup x=some .local) Ŕ) (h3:autoParam (0∉(List.range R.length).map (k + ·)) ŕ):
  QE X Z q (cLC o k R it (.n 0) tYes c) (.ListComp gy [#[.Name x p',bc,[],0]] scope pos):=xqe N hi (λ_ _ _ _ _=>XQ (qkx (i:=0) hN h1 (.inl (lookup_relabel_local h2)) (.inr (lookup_relabel_local h2))) h3) (λ_ _ _ _ _=>vvn) he gx top hR (hm▸hr) hc hk mr hs
end
section
variable {X:Cx}
noncomputable def qks:V->List V->Hp->VK->Prop:=λx vs H Q=>∃l xs k y,x=.ref l/\vs=[.int k,y]/\H l=some (.lst xs)/\xs.length<big/\0<=k/\k<=xs.length/\Q .non (upd H l (.lst (xs.take k.toNat++y::xs.drop k.toNat)))
theorem wka(aq:List Value) u k (h:k<=aq.length):(aq.toArray.extract 0 k).push u++aq.toArray.extract k=(aq.take k++u::aq.drop k).toArray:=by
 simp;exact Yq (by simp)
theorem qjd:MtM X "list.insert" qks:=by
 rintro a7 s σ H x vs v us Q I rx rv ⟨l,xs,k,y,rfl,rfl,hH,hb,h1,h2,q⟩;cases rx;obtain⟨u1,u2,rfl,ru1,ru2⟩:=rv.two;obtain⟨t,rfl⟩:=ru1;obtain⟨z,aq,n,r,hl,e⟩:=I.lstM hH;have ul:Builtin.List.listFitsIndex k=true:=fitsIndex_both ⋯ (by unfold sizeLine at *;lia);have hk:k.toNat<=aq.length:=⋯
 refine call_meets F.slot_list_insert #[_,e,rfl] F.entry_list_insert (F.args_list_insert_3 _ _ _) (AutoSeq1.list_insert_list_int_val_1 l aq.toArray n k t u2 ⋯ (by rw[Xe];lia)) #[e,(#[.non,_,I.lset (its':=aq.take k.toNat++u2::aq.drop k.toNat) hH e ?_ ((r.take _).append (.cons ru2 (r.drop _))) ?_,rfl,q])]
 ·rw[Xd ⋯,Xe,Nat.min_eq_left hk];exact wka aq u2 k.toNat hk
 ·rw[Xf,Y1,Xg,Yn];have e3:min k.toNat xs.length=k.toNat:=Nat.min_eq_left ⋯;rw[e3];have:k.toNat+(xs.length - k.toNat+1)=xs.length+1:=⋯
  rwa [this]
theorem RepA.ins{K H g d x cs}(rx:RepL K H g d x cs):∀{ds xs bs} (k),RepA K H g ds xs bs->∃es,RepA K H g (ds.take k++d::ds.drop k) (xs.take k++x::xs.drop k) es/\es.Perm (cs++bs)
 | ds,xs,bs,0,h=>#[cs++bs,#[x,xs,cs,bs,rfl,rfl,rx,h],List.Perm.refl _]
 | [],xs,bs,k+1,h=>by
  obtain⟨rfl,rfl⟩:=h;refine#[cs++[],?_,List.Perm.refl _];show RepA K H g [d] [x] _;exact#[x,[],cs,[],rfl,rfl,rx,#[rfl,rfl]]
 | d0::ds,xs,bs,k+1,h=>by
  obtain⟨x0,r0,b1,c1,rfl,rfl,h1,h2⟩:=h;obtain⟨es,r2,hp⟩:=RepA.ins rx k h2;refine#[b1++es,?_,?_]
  ·unfold RepA;exact#[x0,_,b1,es,rfl,rfl,h1,r2]
  ·refine(List.Perm.append_left b1 hp).trans ?_;rw[<-Xn,<-Xn];exact List.Perm.append_right _ Yv
end
section
variable {X:Cx}{Z:Fx0}{pn:List Nat}{q1 q2:Bool}{kc vc:Ex}{e1 e2 o:Expr}{j:Nat}
theorem kzq{K H}{x:Sl}{k}(ok:x.ok K H)(hd:x.d=.int k):x.v=.int k:=by
 have h:=vxg ok (by rw[hd];rfl);rw[hd]at h;exact h.1
set_option tactic.hygienic true in
theorem wvi(ho:PE X o (J4 j))(hk:QE X Z q1 kc e1)(hv:QE X Z q2 vc e2)(hK:autoParam (X.K=Z.K) Ŕ)(hm:MtR X "list.insert" qks){bi au fj}
  (bq:autoParam (attributeBase o "insert" X.env (eval o X.env)=eval o X.env) Ŕ)
  (cy:autoParam (((backTo au (starEach [e1,e2] X.env)).all (λx=>!x.1)&&(backToKw au (keywordEach [] X.env)).all (λx=>x.1.isSome)
   && decide ([e1,e2].length+([]:List Keyword).length+(if([]:List Keyword).isEmpty then 0 else 1)<30))=true) Ŕ)
  (bp:autoParam (Abe bi au) Ŕ) (hs:autoParam (starEach [e1,e2] X.env=(false,eval e1 X.env)::starEach [e2] X.env) Ŕ) (si:autoParam (Abs e2 [] X) Ŕ) (bj:autoParam ((backTo au (starEach [e2] X.env)).any (·.1)=false) Ŕ)
  (lv:autoParam (swapsWith (.Call (.Attribute o "insert" bi) [e1,e2] [] au) none fj.line X.env=pure false) Ŕ):
  QS X Z pn (wky j kc vc) (.Expr (.Call (.Attribute o "insert" bi) [e1,e2] [] au) fj):=
 zJ (WV (Zq Z.K Ye PySem.F.slot_list_insert PySem.F.type_list_insert hm ho (kX hk (kX hv v6 si) hs) bq cy bp hs bj hK) lv) λDe σ H bb=>ex7 bb λE L r m w cu k=>by
 unfold wky at cu
 by_cases hil:isLst E[j]?=true
 rotate_left
 ·rw[Xd hil]at cu;cases cu
 rw[X8 hil]at cu;obtain⟨o0,qs,h0⟩:∃o0 qs,E[j]?=some _:=by
  unfold isLst at hil
  split at hil
  ·rename_i o0 qs h;exact#[o0,qs,h]
  ·cases hil
 obtain⟨x0,a1,a2,a3,a4⟩:=m.get h0;refine#[x0.v,a4,vk3 (w.ok x0 (vZ a1)) a3,(Qz m w cu k λE1 s h1 x L1 H1 e1 e2 m1 w1 st _=>?_)]
 split at h1
 rotate_left
 ·cases h1
 rename_i kk si;rw[(kzq w1.head (e2.trans si))];obtain⟨v',c1,c2,c3⟩:=xqj (G:=λv y H2=>qks v [.int kk,y] H2 λ_ H3=>De.nx σ H3) m1 w1.tail h1 (k.step (st.trans Step.drop) Pn.refl) λl x xs ds ds' d bs cs H1 gg hf hH ra rx fin=>by
  unfold wzq at hf
  split at hf
  rotate_left
  ·grind
  rename_i hc;cases oq9 hf;obtain⟨es,re,hp⟩:=RepA.ins rx kk.toNat ra;exact#[l,xs,kk,x,rfl,rfl,hH,by rw[<-ra.len];exact hc.2.2,hc.1,by rw[<-ra.len];exact hc.2.1,fin _ es re (λa ha=>((aA (hp.mem_iff.mp ha))).symm) λhn=>(hp.trans Yv).nodup_iff.mpr hn]
 have:v'=x0.v:=by rw[a4]at c1;exact(oq9 (oq9 c1)).symm
 subst this;exact c3
end
noncomputable def PVZ(K:Frag)(H:Hp):List Int->V->V->Prop
 |[],v,u=>u=v|z::r,v,u=>∃a xs x,v=.ref a/\(H a=some (.lst xs)\/SqT K H a xs)/\atI xs z=some x/\PVZ K H r x u
section
variable {K:Frag}{H:Hp}
theorem PVZ.snoc:∀{p:List Int} {z:Int} {v u:V},PVZ K H (p++[z]) v u->∃w,PVZ K H p v w/\PVZ K H [z] w u
 |[],z,v,u,h=>#[v,rfl,h]
 |m::p,z,v,u,⟨a,xs,x,e,q,ex,h⟩=>by
  obtain⟨w,h1,h2⟩:=PVZ.snoc (p:=p) h;exact#[w,#[a,xs,x,e,q,ex,h1],h2]
theorem vkh{xs:List V}{n:Nat}{z:Int}{x:V}(h:Q.ixN xs.length z=some n)(hx:xs[n]?=some x):atI xs z=some x:=by
 unfold atI;have e:L2.ixN xs.length z=some n:=by
  unfold Q.ixN at h;unfold L2.ixN;exact h
 rw[e];exact hx
set_option tactic.hygienic true in
theorem vj5:∀{zs:List Int} {p:List Nat} {d:D} {v u:V},Qx zs d=some p->PV K H p d v u->PVZ K H zs v u
 |[],p,d,v,u,h,hp=>by
  cases oq9 (show some []=some p from by rw[<-h];cases d<;>rfl);exact hp
 |z::r,p,.tup ds,v,u,h,hp=>by
  unfold Qx at h
  split at h
  rotate_left
  ·cases h
  rename_i n hn
  split at h
  rotate_left
  ·cases h
  rename_i d hd;obtain⟨p',hp',rfl⟩:=Option.map_eq_some_iff.mp h;obtain⟨a,xs,x,d2,e,q,ex,⟨ed,el⟩,hr⟩:=hp;rw[hd]at ed;cases oq9 ed;exact#[a,xs,x,e,.inr q,vkh (by rw[el];exact hn) ex,vj5 hp' hr]
 |z::r,p,.lst ds,v,u,h,hp=>by
  unfold Qx at h
  split at h
  rotate_left
  ·cases h
  rename_i n hn
  split at h
  rotate_left
  ·cases h
  rename_i d hd;obtain⟨p',hp',rfl⟩:=Option.map_eq_some_iff.mp h;obtain⟨a,xs,x,d2,e,q,ex,⟨ed,el⟩,hr⟩:=hp;rw[hd]at ed;cases oq9 ed;exact#[a,xs,x,e,.inl q,vkh (by rw[el];exact hn) ex,vj5 hp' hr]
 |z::r,p,.non,v,u,h,hp=>by cases h|z::r,p,.bl _,v,u,h,hp=>by cases h|z::r,p,.int _,v,u,h,hp=>by cases h|z::r,p,.str _,v,u,h,hp=>by cases h|z::r,p,.dct _,v,u,h,hp=>by cases h|z::r,p,.obj _ _,v,u,h,hp=>by cases h
end
noncomputable def Zs(σ:L2.St):List (Int ⊕ Nat)->List Int->Prop
 |[],zs=>zs=[]|.inl z::r,zs=>∃r',zs=z::r'/\Zs σ r r'|.inr m::r,zs=>∃z r',zs=z::r'/\σ[m]?=some (some (.int z))/\Zs σ r r'
theorem Zs.snocL{σ:L2.St}{z:Int}:∀{ps:List (Int ⊕ Nat)} {zs:List Int},Zs σ (ps++[.inl z]) zs->∃r,zs=r++[z]/\Zs σ ps r
 |[],zs,⟨r',e,h⟩=>#[[],by rw[e,show r'=[]from h];rfl,rfl]
 |.inl y::ps,zs,⟨r',e,h⟩=>by
  obtain⟨r,e2,h2⟩:=Zs.snocL (ps:=ps) h;exact#[y::r,by rw[e,e2];rfl,r,rfl,h2]
 |.inr m::ps,zs,⟨y,r',e,hm,h⟩=>by
  obtain⟨r,e2,h2⟩:=Zs.snocL (ps:=ps) h;exact#[y::r,by rw[e,e2];rfl,y,r,rfl,hm,h2]
abbrev tPZ(K:Frag)(i:Nat)(ps:List (Int ⊕ Nat)):TE:=fun σ H Q=>∃zs v u,Zs σ ps zs/\σ[i]?=some (some v)/\PVZ K H zs v u/\Q u H
section
variable {X:Cx}{Z:Fx0}{pn:List Nat}{q:Bool}{c:Ex}{e ep e2:Expr}{i m:Nat}{ps:List (Int ⊕ Nat)}{pos:Pos}
theorem vxl(K:Frag)(h:PE X e (J4 i)):PE X e (tPZ K i []):=kW h fun σ H Q hz=>by
 obtain⟨zs,v,u,hz,hv,hu,q⟩:=hz;have hz:zs=[]:=hz;subst hz;have hu:u=v:=hu;subst hu;exact#[u,hv,q]
theorem xqh{K:Frag}{z:Int}{j:Nat}{cm:Pos}(h:PE X e (tPZ K i ps))(bv:kjy (.Constant (.int z) j cm))(hK:autoParam (X.K=K) Ŕ):PE X (.Subscript e (.Constant (.int z) j cm) pos) (tPZ K i (ps++[.inl z])):=
 kW (vvz (hK▸qvw) h vjh bv) fun σ H Q hz=>by
  obtain⟨zs,v,u,hz,hv,hu,q⟩:=hz;obtain⟨r,rfl,hr⟩:=hz.snocL;obtain⟨w,h1,a,xs,x,e1,sq,ex,hx⟩:=hu.snoc;have hx:u=x:=hx;subst hx;refine#[r,v,w,hr,hv,h1,?_];rcases sq with sq|sq
  ·exact .inl #[a,xs,z,u,e1,rfl,.inl (.inl sq),ex,q]
  ·exact .inr (.inl #[a,xs,z,u,e1,rfl,sq,ex,q])
set_option tactic.hygienic true in
theorem vzb{E:En}{σ:L2.St}{L:Ls}{H:Hp}{K:Frag}(mt:Mt E σ L)(w:World K H L):∀{ps:List (Int ⊕ Nat)} {zs:List Int},WX E ps=some zs->Zs σ ps zs
 |[],zs,h=>by cases oq9 h;rfl
 |.inl z::ps,zs,h=>by
  unfold WX at h;obtain⟨r,hr,rfl⟩:=Option.map_eq_some_iff.mp h;exact#[r,rfl,vzb mt w hr]
 |.inr m::ps,zs,h=>by
  unfold WX at h
  split at h
  rotate_left
  ·cases h
  rename_i o z hE;obtain⟨r,hr,rfl⟩:=Option.map_eq_some_iff.mp h;obtain⟨x,a1,a2,a3,a4⟩:=mt.get hE;have:=kzq (w.ok x (vZ a1)) a3;rw[this]at a4;exact#[z,r,rfl,a4,vzb mt w hr]
set_option tactic.hygienic true in
theorem xjg(hP:PE X ep (tPZ Z.K i ps))(hc:QE X Z q c e)(hK:autoParam (X.K=Z.K) Ŕ)(hm:MtR X "list.append" kq5){bi au fj:Pos}
  (bq:autoParam (attributeBase ep "append" X.env (eval ep X.env)=eval ep X.env) Ŕ)
  (cy:autoParam (((backTo au (starEach [e] X.env)).all (λx=>!x.1)&&(backToKw au (keywordEach [] X.env)).all (λx=>x.1.isSome)
   && decide ([e].length+([]:List Keyword).length+(if([]:List Keyword).isEmpty then 0 else 1)<30))=true) Ŕ)
  (bp:autoParam (Abe bi au) Ŕ) (hs:autoParam (Abs e [] X) Ŕ) (bj:autoParam (Abb au [] X) Ŕ)
  (lv:autoParam (swapsWith (.Call (.Attribute ep "append" bi) [e] [] au) none fj.line X.env=pure false) Ŕ):
  QS X Z pn (wqt i ps c) (.Expr (.Call (.Attribute ep "append" bi) [e] [] au) fj):=
 zJ (WV (Zq Z.K Ye Yx Yy hm hP (kX hc v6 hs) bq cy bp hs bj hK) lv) λDe σ H bb=>ex7 bb λE L r m w cu k=>by
 unfold wqt at cu
 split at cu
 rotate_left
 ·cases cu
 rename_i o0 d0 zs hE0 hzs
 split at cu
 rotate_left
 ·cases cu
 rename_i p hzp;unfold sPA at cu
 split at cu
 rotate_left
 ·cases cu
 rename_i d hE;have hd:d0=d:=by rw[hE0]at hE;cases hE;rfl
 subst hd
 split at cu
 rotate_left
 ·cases cu
 rename_i ds nu
 split at cu
 rotate_left
 ·cases cu
 rename_i az;obtain⟨y,a1,a2,a3,a4⟩:=m.get hE;obtain⟨w0,s0⟩:=qv0 w a1;obtain⟨y1,b1,b2,b3,b4,b5⟩:=w0.hole a2 (by rw[a3];exact nu);obtain⟨l,xs,bs,c1,c2,_,_,_⟩:=qk0 (b4.ok y1 X2) b2 b1;refine#[zs,y.v,y1.v,vzb m w hzs,a4,vj5 (by rw[a3];exact hzp) b3,by rw[c1];exact qz5 c2,?_];refine Qz (q:=q) (kx9 i m) w0.tail cu (k.step (s0.trans Step.drop) Pn.refl) λE1 s h1 x L1 H1 e1 e2 m1 w1 st _=>?_
 split at h1
 rotate_left
 ·cases h1
 rename_i hpu;cases oq9 h1;obtain⟨w2,s2⟩:=xkb (T:=[some y1]) b4 st w1;obtain⟨l',xs',f1,f2,f3,z,z1,z2,z3,z4,z5⟩:=World.app w2 b1 b2 (by rw[e2];exact hpu);obtain⟨y',g1,g2,g3,g4,g5⟩:=b5 _ _ z z4 (s2.trans z5) z1 z3;refine#[l',xs',x.v,f1,rfl,f2,by rw[f3];exact az,?_];have mm:=W8 (i:=i) (x:=y') (s:=(.dp,Q.D.put (.lst (ds++[s.2])) p d0)) m1 g1 (by rw[g2,z2,a3,e2]);rw[g3,V1 a4]at mm;exact k σ _ _ Pn.refl mm g4.set (s0.trans (g5.trans Step.set))
end
end Q
namespace Q
noncomputable def ddS(ss:List PySem.Str):List PySem.Str:=ss.foldl (λl k=>if l.any (· == k)then l else l++[k]) []
noncomputable def K5:Sd->Option Sd:=λx=>match x.2 with
 |.lst ds=>(match Jv ds with
  |some ss=>if ss.length<64 then some (.rt,.lst ((kY (ddS ss)).map .str))else none
  |none=>none)
 |_=>none
end Q
namespace Sw
open PySem PyProof.Rows
section
variable {prog:Program}{w:World}{A:Around}{E:VP9}{s:Shared}
def tx(w:World):Bool:=w.params.followText "set-order"
structure Ok (prog:Program)(w:World)(o:Obj)(es:Array (Int×Value))(ep:Nat)(t:SetTable):Prop where
 ex:o.ExactSet
 d:o.data=.set es ep t
 el:ElemsOf (PySem.strKind prog w) es.toList
 b:es.size<scanBound
 f:t.fits es.size=true
 led:t.led=!tx w
 pl:t.plain=false\/es.size=0
def qwq(es:List (Int×Value)):List Str:=es.map λe=>strOf e.2
noncomputable def Has(prog:Program)(w:World)(h:Heap)(a:Addr)(ls:List Str):Prop:=∃o es ep t,h.get? a=some o/\Ok prog w o es ep t/\(qwq es.toList).Perm ls
theorem vz4{l}(h:ElemsOf (PySem.strKind prog w) l){e}(he:e∈l):∃k t,e.2=.str k t:=by
 obtain⟨⟨k,hk,_⟩,_⟩:=h e he;obtain⟨t,ht⟩:=Value.isStrOf_shape hk;exact#[k,t,ht]
theorem wxc{l}(h:ElemsOf (PySem.strKind prog w) l) k:(∃e∈l,(PySem.strKind prog w).is k e.2=true)↔k∈qwq l:=by
 unfold qwq;rw[List.mem_map];constructor
 ·rintro ⟨e,he,hk⟩;obtain⟨t,ht⟩:=Value.isStrOf_shape hk;exact#[e,he,by rw[ht];rfl]
 ·rintro ⟨e,he,hk⟩;obtain⟨k',t,ht⟩:=vz4 h he;rw[ht]at hk;cases(hk);exact#[e,he,by rw[ht];exact strKind_is _ _ _ _]
set_option tactic.hygienic true in
theorem wk3 t es h x:(layNew t es h x).2.1.led=t.led/\((layNew t es h x).2.1.plain=true->t.plain=true):=by
 unfold layNew
 split
 ·rename_i slot wd _;show((t.put slot).1.orStandIn _).led=_/\(((t.put slot).1.orStandIn _).plain=true->_);unfold SetTable.orStandIn
  split
  ·exact#[rfl,λh=>h]
  ·exact#[rfl,λh=>nomatch h]
 ·exact#[rfl,λh=>nomatch h]
set_option tactic.hygienic true in
theorem qzv t es n:(relayAll t es n).2.1.led=t.led/\((relayAll t es n).2.1.plain=true->t.plain=true):=by
 unfold relayAll
 split
 ·rename_i t' order hr;dsimp only
  split
  ·unfold SetTable.relaid SetTable.laid at hr;rw[Option.bind_eq_bind,Option.bind_eq_some_iff]at hr
   grind
  ·exact#[rfl,λh=>nomatch h]
 ·exact#[rfl,λh=>nomatch h]
theorem wqm{h:Heap}{a o es es' ep t t'}(ho:h.get? a=some o)(hd:o.data=.set es ep t):(h.update a (Obj.putSet es' t')).get? a=some {o with data:=.set es' (ep+1) t' }:=by
 have:=Y3 (Obj.putSet es' t') ho (by rw[putSet_of es' t' hd];rfl)
 rwa [putSet_of es' t' hd]at this
theorem tail{g:Bool->Sem Unit}(hg:∀b (s₁) (Q'),Q' () s₁->wpAny (model prog w) A (g b) Q' E s₁)
  {a o es fy ep t t2 ls wasDummy R} (ho:s.heap.get? a=some o) (hd:o.data=.set es ep t) (hex:o.ExactSet)
  (hel:ElemsOf (PySem.strKind prog w) fy.toList) (hb:fy.size<scanBound) (hf:t2.fits fy.size=true) (vd:t2.led=!tx w) (bv:t2.plain=false) (hp:(qwq fy.toList).Perm ls)
  (h:∀h',Heap.SameBut a s.heap h'->Has prog w h' a ls->R (some true) {s with heap:=h' }):
  wpAny (model prog w) A (do
    storeSet a fy t2
    if(!wasDummy&&t2.tooFull)=true then do
      g (relayAll t2 fy (SetTable.grown fy.size)).2.2
      storeSet a (relayAll t2 fy (SetTable.grown fy.size)).1 (relayAll t2 fy (SetTable.grown fy.size)).2.1
      pure (some true)
     else pure (some true)) R E s:=by
 refine X0 (wpAny_storeSet_of ho hd ?_ (fits_of_scanBound hb));have mi:=wqm (es':=fy) (t':=t2) ho hd;have nw:=Yk s.heap a (Obj.putSet fy t2)
 split
 ·have r1:=relayAll_perm t2 fy (SetTable.grown fy.size);have r2:=relayAll_fits t2 fy (SetTable.grown fy.size);obtain⟨r3,r4⟩:=qzv t2 fy _;generalize relayAll t2 fy _=V at r1 r2 r3 r4 ⊢;obtain⟨es2,t3,gv⟩:=V;have hz:es2.size=fy.size:=by rw[<-Xb,r1.length_eq,Xb]
  refine X0 (hg _ _ _ (X0 (wpAny_storeSet_of mi rfl (X9 (h _ (nw.trans (Yk _ a _)) #[_,es2,_,t3,wqm mi rfl,#[hex,rfl,hel.perm r1,by rw[hz];exact hb,r2,r3.trans vd,.inl ?_],(r1.map _).trans hp])) (fits_of_scanBound (hz▸hb)))));cases hq:t3.plain with|false=>rfl|true=>grind
 ·exact X9 (h _ nw #[_,fy,_,t2,mi,#[hex,rfl,hel,hb,hf,vd,.inl bv],hp])
set_option tactic.hygienic true in
theorem add{a k tk ls Q}(hS:Has prog w s.heap a ls)(hl:ls.length+1<scanBound)
  (h:∀b h',Heap.SameBut a s.heap h'->Has prog w h' a (step_dedup ls k)->Q b {s with heap:=h' }):wpAny (model prog w) A (setAddHashed a (.str k tk) ((PySem.strKind prog w).hash k)) Q E s:=by
 obtain⟨o,es,ep,t,ho,hk,hp⟩:=hS;have hsz:es.size=ls.length:=by rw[<-hp.length_eq];unfold qwq;rw[X1,Xb]
 have oz:(PySem.strKind prog w).is k (.str k tk)=true:=strKind_is _ _ _ _;have hmk:=(wxc hk.el k).trans hp.mem_iff;refine Y4 (X0 (Z7 ho hk.d hk.f ?_));dsimp only;rw[byScan_of rfl hk.b hk.el];refine X0 (X0 (wpAny_rule (X0 (wpAny_setScan_of oz ho hk.d hk.f hk.el ?_))));cases hr:List.findIdx? _ es.toList with
 | some j=>
  dsimp only;obtain⟨hj,hpj,_⟩:=List.findIdx?_eq_some_iff_getElem.mp hr;have hin:=hmk.mp #[_,Yj hj,hpj];have ck:step_dedup ls k=ls:=by unfold step_dedup;rw[X8 (List.any_eq_true.mpr #[k,hin,by simp])]
  refine X9 (X9 ?_);have:=h false s.heap (Heap.SameBut.refl a s.heap) (by rw[ck];exact#[o,es,ep,t,ho,hk,hp])
  simp_all
 | none=>
  have qu:k∉ls:=λhin=>by
   obtain⟨e,he,hq⟩:=hmk.mpr hin
   grind
  have ck:step_dedup ls k=ls++[k]:=by
   unfold step_dedup
   simp_all
  rw[ck]at h;have hgw:∀b {s₁ Q'},Q' () s₁->wpAny (model prog w) A (match b with|true=>PySem.rule "set.scan.the-table-gave-way" | false=>pure ()) Q' E s₁:=
   λb s₁ Q' hq=>by cases b<;>first|exact X9 hq|exact wpAny_rule hq
  have l1:=layNew_perm t es ((PySem.strKind prog w).hash k) (.str k tk);have l2:=layNew_fits t es ((PySem.strKind prog w).hash k) (.str k tk);obtain⟨l3,l4⟩:=wk3 t es _ _;generalize layNew t es _ _=V at l1 l2 l3 l4 ⊢;obtain⟨fy,t1,wd,gv⟩:=V;rw[Array.toList_push]at l1;have tu:=(hk.el.push oz rfl).perm l1;have hz1:fy.size=ls.length+1:=by rw[<-Xb,l1.length_eq,Xf,Xb,hsz];rfl
  have hp1:(qwq fy.toList).Perm (ls++[k]):=by
   refine(l1.map λe=>strOf e.2).trans ?_;rw[Xq];exact hp.append (List.Perm.refl _)
  refine X0 (hgw _ ?_)
  split
  ·refine X0 (X9 (tail ?_ ho hk.d hk.ex tu (hz1▸hl) (SetTable.fits_plain_off l2) (l3.trans hk.led) rfl hp1 λh' a1 a2=>?_))
   ·intro b s₁ Q' hq;cases b<;>first|exact X9 hq|exact wpAny_rule hq
   ·exact X9 (h true h' a1 a2)
  ·rename_i bv;refine X0 (X9 (tail ?_ ho hk.d hk.ex tu (hz1▸hl) l2 (l3.trans hk.led) (Bool.eq_false_iff.mpr bv) hp1 λh' a1 a2=>?_))
   ·intro b s₁ Q' hq;cases b<;>first|exact X9 hq|exact wpAny_rule hq
   ·exact X9 (h true h' a1 a2)
def dd(ss:List Str):List Str:=ss.foldl step_dedup []
theorem wkm{ss:List Str}{i x}(h:ss[i]?=some x):dd (ss.take (i+1))=step_dedup (dd (ss.take i)) x:=by
 unfold dd;rw[List.take_succ,h,List.foldl_append];rfl
theorem dd_le ss:(dd ss).length<=ss.length:=foldl_step_dedup_nil_length_le ss
theorem qze:∀{vs ss},StrsAre vs ss->∀(i:Nat) (v),vs[i]?=some v->∃x t,v=.str x t/\ss[i]?=some x
 |_,_,.nil,i,v,h=>by cases i<;>cases h|_,_,.cons x t r,0,v,h=>by cases oq9 h;exact#[x,t,rfl,rfl]|_,_,.cons x t r,i+1,v,h=>qze r i v h
theorem kwk:∀{vs ss},StrsAre vs ss->vs.length=ss.length
 |_,_,.nil=>rfl|_,_,.cons x t r=>congrArg _ (kwk r)
theorem Has.same'{h h' a ls}(x:Has prog w h a ls)(e:∀b o,h.get? b=some o->o.cls≠.type "list_iterator"->h'.get? b=some o):Has prog w h' a ls:=by
 obtain⟨o,es,ep,t,ho,r⟩:=x;exact#[o,es,ep,t,e _ _ ho (by rw[r.1.ex.1];decide),r]
noncomputable def fresh(w:World):Obj:={cls:=.type "set",dict:=none,data:=.set (List.toArray []) 0 (.fresh 0 0 (!tx w))}
theorem vkv{h a}(e:h.get? a=some (fresh w)):Has prog w h a []:=
 #[_,(List.toArray []),0,.fresh 0 0 _,e,#[#[rfl,rfl,rfl],rfl,(λe he=>nomatch he),⋯,by rfl,rfl,.inr rfl],.refl _]
theorem made(a){Q₁}(h:Q₁ (.ref s.heap.objs.size) {s with heap:=s.heap.push (fresh w)}):
  codeAny (model prog w) A (.call (.builtin "set.__new__") #[[.type "set",a],[]]) (wants Q₁ E) s:=by
 refine codeAny_of_tree (X0 (wpAny_of_eq (F.newCall_set_1 a) (X9 #[plainId_quiet F.plain_set_new _,codeAny_builtin F.entry_set_new ?_])));unfold Builtin.«set.__new__» Builtin.Frozenset.newClass;have i3:=sub_set_self
 wp_walk
 exact wpAny_askSetting (X9 (X0 (wpAny_alloc (X9 (X9 h)))))
theorem xk4{R I fp wr G n P St}{C:Nat->Heap->Prop}(W:WalksS prog w A.in1 I fp wr G n P St)(S)(hSf:S∉fp)
  (hwr:∀i s,St i s->∀b∈wr,∀ob,s.heap.get? b=some ob->ob.cls=.type "list_iterator")
  (same:∀{i h h'},C i h->(∀b o,h.get? b=some o->o.cls≠.type "list_iterator"->h'.get? b=some o)->C i h')
  (step:∀{i v} {s:Shared} {Q E},P i v->i<n->C i s.heap->(∀b h' tk,s.toks<=tk->Heap.SameBut S s.heap h'->C (i+1) h'->Q b {s with heap:=h',toks:=tk})->wpAny (model prog w) A.in1 (setAdd S v) Q E s):
  ∀k i (s),n - i=k->i<=n->St i s->C i s.heap->(∀s',Moved (S::wr) G s s'->C n s'.heap->R (.ok (.ret .none)) s')->codeAny (model prog w) A (.builtin "set.update.loop" #[[.ref S,.ref I],[]]) R s:=by
 have i3:∀b∈wr,b∈S::wr:=λb hb=>lc9 _ hb
 intro k
 induction k with
 | zero=>
  intro i s hk hi ck hS hR;cases(show i=n by lia);exact codeAny_builtin F.entry_set_update_loop (X0 (W.done s _ _ ck λs' hm=>(X9 (hR s' (hm.mono i3) (same hS λb o e c=>hm.heap b o (λz=>c (hwr _ _ ck b z o e)) e)))))
 | succ k ih=>
  intro i s hk hi ck hS hR;refine codeAny_builtin F.entry_set_update_loop (X0 (W.item i s _ _ ⋯ ck λv s' hP lc hm=>?_));refine X0 (Y4 (step hP ⋯ (same hS λb o e c=>hm.heap b o (λz=>c (hwr _ _ ck b z o e)) e) λb h' tk ht a1 a2=>?_));refine X9 #[plainId_quiet F.plain_set_update_loop _,ih _ _ ⋯ ⋯ (W.frame _ s' _ _ lc ht λb hb o e=>?_) a2 λoh hm'' hS''=>?_]
  ·rw[a1.2 b (λh:b=S=>hSf (h▸hb))];exact e
  ·refine hR oh (Moved.trans W.gtrans ((hm.mono i3).then_heap ht λb o hb e=>?_) hm'') hS'';rw[a1.2 b (λh:b=S=>hb (h▸X2))];exact e
set_option maxHeartbeats 8000000 in
theorem vq9{l}{items:Array Value}{C:Nat->Heap->Prop}{Q}(hh:A.handled=none)(hl:s.heap.IsList l items)
  (h0:∀h',(∀b o,s.heap.get? b=some o->h'.get? b=some o)->h'.get? s.heap.objs.size=some (fresh w)->C 0 h')
  (same:∀{i h h'},C i h->(∀b o,h.get? b=some o->o.cls≠.type "list_iterator"->h'.get? b=some o)->C i h')
  (step:∀{i v} {s':Shared} {Q E},items[i]?=some v->i<items.size->C i s'.heap->(∀b h' tk,s'.toks<=tk->Heap.SameBut s.heap.objs.size s'.heap h'->C (i+1) h'->Q b {s' with heap:=h',toks:=tk})->wpAny (model prog w) A.in1.in1.in1 (setAdd s.heap.objs.size v) Q E s')
  (h:∀h' (tk:Nat),C items.size h'->(∀b o,b<s.heap.objs.size->s.heap.get? b=some o->h'.get? b=some o)->Q (.ref s.heap.objs.size) {s with heap:=h',toks:=tk}):
  wpAny (model prog w) A (call (.type "set") [.ref l]) Q E s:=by
 obtain⟨c,tl,hmro⟩:=F.called_set.mro;have hmade:=F.called_set.made;have i3:=F.called_set.sub;refine wpAny_call (codeAny_of_tree ?_);show wpAny _ _ (callAny (.type "set") _) _ _ _;refine X9 #[Code.quiet_builtin _ (by decide +kernel),codeAny_builtin F.entry_type_call ?_];rw [Around.under_plain (weight_type_call_type "set" [.ref l] []) rfl];have h1:=F.called_set.notType;have h2:=F.called_set.canCreate;have hct:=F.typeCall_set_1 (.ref l)
 repeat (any_goals (first|assumption|wp_step))
 refine codeAny_mono (made (.ref l) (E:=E) (Q₁:=λobj s₁=>obj=.ref s.heap.objs.size/\s₁={s with heap:=s.heap.push (fresh w)}) #[rfl,rfl]) λr s₁ hr=>?_
 cases r with
 | error e=>exact hr
 | ok fl=>
 cases fl with
 | ret obj=>
  obtain⟨rfl,rfl⟩:=hr;have hS:(s.heap.push (fresh w)).get? s.heap.objs.size=some (fresh w):=Xh _ rfl;have hT:Shared.TypeIs {s with heap:=s.heap.push (fresh w)} (.ref s.heap.objs.size) "set":=#[_,hS,rfl];have hli:=F.called_set.init.lookup;have hbi:=F.called_set.init.bind (.ref s.heap.objs.size)
  repeat (any_goals (first|assumption|wp_step))
  refine codeAny_mono (codeAny_call_builtin (R:=wants (λr s₂=>r=.none/\∃h' tk,s₂={s with heap:=h',toks:=tk}/\C items.size h' /\
    (∀b o,b<s.heap.objs.size->s.heap.get? b=some o->h'.get? b=some o)) E) F.called_set.init.plain F.entry_set_init (check_set_init_1 hT ?_)) λr₂ s₂ hr₂=>?_
  ·obtain⟨ol,hol,ik,nl,hdl⟩:=hl;obtain⟨ocls,ud,odata,qc⟩:=ol;simp only at ik hdl;subst ik;subst hdl;have hol':(s.heap.push (fresh w)).get? l=some {cls:=.type "list",dict:=ud,data:=.seq items nl,slots:=qc}:=X4 _ hol;have hsls:=F.sub_list_set;have hslf:=F.sub_list_frozenset;have cg:(Value.type "list" == Value.type "dict")=false:=⋯
   have ql:(s.heap.push (fresh w)).IsList l items:=#[_,hol',rfl,nl,rfl];have hlS:l<s.heap.objs.size:=Xl hol;have i':({cls:=.type "set",dict:=none,data:=.set (List.toArray []) 0 (.fresh 0 0 (!tx w))}:Obj)=fresh w:=rfl;unfold Builtin.«set.__init__» noKeywords Builtin.Frozenset.updateFrom;generalize hPI:pyIter=PI
   wp_walk
   subst hPI;refine wpAny_pyIter_list ql ?_;refine X0 (wpAny_runValue ?_);have hh3:A.in1.in1.in1.handled=none:=by simp[hh]
   have hsz:(s.heap.push (fresh w)).objs.size=s.heap.objs.size+1:=Heap.size_push ..;refine xk4 (C:=C) ((Walks.list hh3 _ l (by rw[hsz];exact Xv (Nat.lt_succ_of_lt hlS)) items).toS) s.heap.objs.size (by rw[hsz];simp only[Y5,Y9,or_false,not_or];exact#[Xv (Nat.lt_succ_self _),Nat.ne_of_gt hlS]) (λi s ck b tq ob hob=>?_) same step (items.size - 0) 0 _ ⋯ (Ys _)
    #[#[_,Xh _ rfl,rfl,rfl],ql.push _] (h0 _ (λb o e=>X4 _ (X4 _ e)) (X4 _ hS)) ?_
   ·rw[aC tq]at hob;obtain⟨⟨o',jh,nv,_⟩,_⟩:=ck;rw[jh]at hob;cases hob;exact nv
   ·intro s' hm t9;obtain⟨h',g',d',tk',os'⟩:=s';have eg:g'=s.gens:=hm.gens;have ed:d'=s.drawn:=hm.drawn;have eo:os'=s.os:=hm.os;subst eg;subst ed;subst eo;show wpAny _ _ _ _ _ _;refine X9 ?_;show wpAny _ _ (ret Value.none) _ _ _;refine X9 #[rfl,h',tk',rfl,t9,λb o hb e=>?_];exact hm.heap b o (by simp only[Y5,Y9,or_false,not_or];rw[hsz];exact#[Xv hb,Xv (Nat.lt_succ_of_lt hb)]) (X4 _ (X4 _ e))
  ·cases r₂ with
   | error e=>exact hr₂
   | ok fl₂=>
    cases fl₂ with
    |ret r=>
     obtain⟨rfl,h',tk,rfl,t9,hk'⟩:=hr₂
     repeat (any_goals (first|assumption|wp_step))
     exact h _ _ t9 hk'
    |_=>exact hr₂.elim
 |_=>exact hr.elim
theorem vwt{l items ss Q}(hh:A.handled=none)(hl:s.heap.IsList l items)(hi:StrsAre items.toList ss)(hb:items.size+1<scanBound)
  (h:∀h' (tk:Nat),Has prog w h' s.heap.objs.size (dd ss)->(∀b o,b<s.heap.objs.size->s.heap.get? b=some o->h'.get? b=some o)->Q (.ref s.heap.objs.size) {s with heap:=h',toks:=tk}):
  wpAny (model prog w) A (call (.type "set") [.ref l]) Q E s:=by
 refine vq9 (C:=λi h=>Has prog w h s.heap.objs.size (dd (ss.take i))) hh hl (λh' _ e=>vkv e) (λhS e=>hS.same' e) (fun {i v s'} {Q E} hv ph hS hQ=>?_) λh' tk hS=>h h' tk ?_
 ·obtain⟨x,t,rfl,hx⟩:=qze hi i v (by rw[Yu];exact hv);refine Y4 (X0 ((PySem.strKind prog w).pyHash (strKind_is _ _ _ _) ?_));have jn:(dd (ss.take i)).length+1<scanBound:=by have:=dd_le (ss.take i);rw[Y1]at this;lia
  refine add hS jn λb h' a1 a2=>?_
  rw[<-wkm hx]at a2;exact hQ b h' _ (Nat.le_succ _) a1 a2
 ·rwa [show items.size=ss.length by rw[<-kwk hi,Xb],List.take_length]at hS
end
theorem slot_next:Slot "set_iterator" "__next__" "set_iterator.__next__" :=
 .of (owner:="set_iterator") (n:="__next__") (by kernel_rfl) (by decide +kernel) (by decide +kernel) (by decide +kernel)
  (by first|exact .inl (by decide +kernel)|exact .inr (by decide +kernel)) (by kernel_rfl)
theorem kzc:Slot "set_iterator" "__iter__" "set_iterator.__iter__" :=
 .of (owner:="set_iterator") (n:="__iter__") (by kernel_rfl) (by decide +kernel) (by decide +kernel) (by decide +kernel)
  (by first|exact .inl (by decide +kernel)|exact .inr (by decide +kernel)) (by kernel_rfl)
theorem jxj:entryFor table "set_iterator.__next__"=some Builtin.«set_iterator.__next__»:=entryFor_of_tree (by kernel_rfl)
theorem qxj:entryFor table "set_iterator.__iter__"=some Builtin.«dict_keyiterator.__iter__»:=entryFor_alias (id':="dict_keyiterator.__iter__") (by kernel_rfl) rfl (by decide +kernel) (by kernel_rfl)
theorem qxk:entryFor table "set.__iter__"=some Builtin.«frozenset.__iter__»:=entryFor_alias (id':="frozenset.__iter__") (by kernel_rfl) rfl (by decide +kernel) (by kernel_rfl)
theorem kj4(a):argsOk "set_iterator.__next__" #[[a],[]]:=by kernel_rfl
theorem vqk(a):argsOk "set_iterator.__iter__" #[[a],[]]:=by kernel_rfl
theorem vql(a):argsOk "set.__iter__" #[[a],[]]:=by kernel_rfl
section
variable {prog:Program}{w:World}{A:Around}{E:VP9}{s:Shared}
theorem wxr{src n Q}(hn:n≠0)(h:∀i d,i<n->Q i {s with drawn:=d}):wpAny (model prog w) A (choose src n) Q E s:=
 λ_ _ _=>#[hn,h _ _ (Nat.mod_lt _ (Nat.pos_of_ne_zero hn))]
theorem kjt{α:Type}:∀{l:List α} {i} (h),(l[i]::l.eraseIdx i).Perm l
 |a::l,0,h=>List.Perm.refl _
 |a::l,i+1,h=>by
  exact(List.Perm.swap a _ _).trans ((kjt (Nat.lt_of_succ_lt_succ h)).cons a)
theorem drawn{α}:∀n xs s {Q:List α->Shared->Prop},xs.length=n->(∀ys d,ys.Perm xs->Q ys {s with drawn:=d})->wpAny (model prog w) A (drawOrder n xs) Q E s
 | 0,xs,s,Q,hl,h=>by
  cases xs with|nil=>exact X9 (h [] s.drawn (.refl _))|cons=>cases hl
 | n+1,xs,s,Q,hl,h=>by
  cases xs with
  |nil=>cases hl
  |cons x xs=>
   unfold drawOrder;refine X0 (wxr (by simp) λi d hi=>?_);rw[X3 hi];exact X0 (drawn n _ _ (by rw[List.length_eraseIdx,X8 hi];exact Nat.succ.inj hl) λys d' hp=>(X9 (h _ d' ((hp.cons _).trans (kjt hi)))))
theorem vje{α}(f):∀n k (l) (out:Array α),l.length=n->(pickOrder.go f n k l out).toList.Perm (out.toList++l)
 |0,k,l,out,hl=>by
  cases l with|nil=>unfold pickOrder.go;simp|cons=>cases hl
 |n+1,k,l,out,hl=>by
  have hi:f k % l.length<l.length:=Nat.mod_lt _ ⋯;unfold pickOrder.go;rw[X3 hi];refine(vje f n _ _ _ (by rw[List.length_eraseIdx,X8 hi];lia)).trans ?_;rw[Array.toList_push,Xn];exact(List.Perm.refl _).append (kjt hi)
theorem kzu{α} f (xs:Array α):(pickOrder f xs).toList.Perm xs.toList:=by
 exact vje f _ 0 _ (List.toArray []) (by simp)
end
section
variable {prog:Program}{w:World}{A:Around}{E:VP9}{s:Shared}
noncomputable def It(h:Heap)(I a:Addr)(f:Value)(i n ep:Nat):Prop:=∃o,h.get? I=some o/\o.cls=.type "set_iterator"/\o.data=.fields (List.toArray [f,.int i 0,.ref a,.int n 0,.int ep 0])
theorem It.at'{h h':Heap}{I a:Addr}{f:Value}{i n ep:Nat}(x:It h I a f i n ep)(e:∀o,h.get? I=some o->h'.get? I=some o):It h' I a f i n ep:=by
 obtain⟨o,ho,r⟩:=x;exact#[o,e _ ho,r]
noncomputable def Stn(h:Heap)(a:Addr)(n ep:Nat):Prop:=∃o es t,h.get? a=some o/\o.data=.set es ep t/\t.fits es.size=true/\es.size=n
theorem qzq{I a:Addr}{f:Value}{i n ep:Nat}{Q:VP9}(jo:It s.heap I a f i n ep)(h:Q (.ref I) s):wpAny (model prog w) A (pyIter (.ref I)) Q E s:=by
 obtain⟨o,ho,hc,hd⟩:=jo;have hT:s.TypeIs (.ref I) "set_iterator":=#[o,ho,hc];refine wpAny_pyIter_slot hT kzc (Yh kzc hT qxj ?_ (vqk _));exact X9 #[_,rfl,"set_iterator",_,hT,slot_next.lookup,h]
theorem wx9{I a:Addr}{sl nx i n ep:Nat}{v:Value}{Q:Option Value->Shared->Prop}(jo:It s.heap I a (.int sl 0) i n ep)(hs:Stn s.heap a n ep)
  (hN:∀(A':Around) (E':VP9) (R:Option (Value×Nat)->Shared->Prop),R (some (v,nx)) s->wpAny (model prog w) A' (setNext a sl i ep) R E' s)
  (hQ:∀h',It h' I a (.int nx 0) (i+1) n ep->Heap.SameBut I s.heap h'->Q (some v) {s with heap:=h' }):wpAny (model prog w) A (pyNext (.ref I)) Q E s:=by
 obtain⟨o,ho,hc,hd⟩:=jo;obtain⟨os,es,t,ma,f8,hf,hn⟩:=hs;have hT:s.TypeIs (.ref I) "set_iterator":=#[o,ho,hc];refine X0 (wpAny_attempt (Z0 hT slot_next (Yh slot_next hT jxj ?_ (kj4 _))));show wpAny _ _ (fieldsOf _ >>= _) _ _ s;refine X0 (wpAny_fieldsOf ho hd ?_);refine X0 (wpAny_setEntries_of ma f8 hf ?_);rw[Xd (by rw[hn];simp)];show wpAny _ _ _ _ _ s;refine X0 (hN _ _ _ ?_);refine X0 (Yz ho hd (by simp) ?_);have tf:=Obj.data_mapFields hd (·.setIfInBounds 0 (rawInt nx));have mi:=Y3 _ ho (Obj.isFreed_of_fields tf);refine X0 (Yz mi tf (by simp) (X9 #[v,rfl,X9 (hQ _ ?_ ((Yk ..).trans (Yk ..)))]));have mn:=Obj.data_mapFields tf (·.setIfInBounds 1 (rawInt (i+1)));refine#[_,Y3 _ mi (Obj.isFreed_of_fields mn),(Obj.cls_mapFields ..).trans ((Obj.cls_mapFields ..).trans hc),?_];rw[mn];simp[rawInt]
theorem wx8{I a T:Addr}{i n ep:Nat}{v:Value}{pl:List Nat}{p:Nat}{Q:Option Value->Shared->Prop}(jo:It s.heap I a (.ref T) i n ep)(hs:Stn s.heap a n ep)(hT':∃o k,s.heap.get? T=some o/\o.data=.seq (pl.map λ(j:Nat)=>rawInt j).toArray k)
  (hp:pl[i]?=some p)
  (hN:∀(A':Around) (E':VP9) (R:VP9),R v s->wpAny (model prog w) A' (setNextDrawn a p ep) R E' s)
  (hQ:∀h',It h' I a (.ref T) (i+1) n ep->Heap.SameBut I s.heap h'->Q (some v) {s with heap:=h' }):wpAny (model prog w) A (pyNext (.ref I)) Q E s:=by
 obtain⟨o,ho,hc,hd⟩:=jo;obtain⟨os,es,t,ma,f8,hf,hn⟩:=hs;obtain⟨oT,kT,hoT,sv⟩:=hT';have hT:s.TypeIs (.ref I) "set_iterator":=#[o,ho,hc];refine X0 (wpAny_attempt (Z0 hT slot_next (Yh slot_next hT jxj ?_ (kj4 _))));show wpAny _ _ (fieldsOf _ >>= _) _ _ s;refine X0 (wpAny_fieldsOf ho hd ?_);refine X0 (wpAny_setEntries_of ma f8 hf ?_);rw[Xd (by rw[hn];simp)];refine X0 (wpAny_seqItems hoT sv ?_);have hg:(pl.map λ(j:Nat)=>rawInt j).toArray[((i:Int)).toNat]?=some (.int p 0):=by
  rw[Int.toNat_natCast,List.getElem?_toArray,Xi,hp];rfl
 dsimp only;rw[hg];show wpAny _ _ _ _ _ s;refine X0 (hN _ _ _ ?_);have mn:=Obj.data_mapFields hd (·.setIfInBounds 1 (rawInt (i+1)));refine X0 (Yz ho hd (by simp) (X9 #[v,rfl,X9 (hQ _ ?_ (Yk ..))]));refine#[_,Y3 _ ho (Obj.isFreed_of_fields mn),(Obj.cls_mapFields ..).trans hc,?_];rw[mn];simp[rawInt]
theorem xkj{I a:Addr}{sl i n ep:Nat}{Q:Option Value->Shared->Prop}(hh:A.handled=none)(jo:It s.heap I a (.int sl 0) i n ep)(hs:Stn s.heap a n ep)
  (hN:∀(A':Around) (E':VP9) (R:Option (Value×Nat)->Shared->Prop),R none s->wpAny (model prog w) A' (setNext a sl i ep) R E' s)
  (hQ:∀h',Heap.ExtBut I s.heap h'->Q none {s with heap:=h' }):wpAny (model prog w) A (pyNext (.ref I)) Q E s:=by
 obtain⟨o,ho,hc,hd⟩:=jo;obtain⟨os,es,t,ma,f8,hf,hn⟩:=hs;have hT:s.TypeIs (.ref I) "set_iterator":=#[o,ho,hc];refine X0 (wpAny_attempt (Z0 (name:=Str.ofString "__next__") hT slot_next (Yh slot_next hT jxj ?_ (kj4 _))));show wpAny _ _ (fieldsOf (.ref I) >>= _) _ _ s;refine X0 (wpAny_fieldsOf ho hd ?_);refine X0 (wpAny_setEntries_of ma f8 hf ?_);rw[Xd (by rw[hn];simp)];show wpAny _ _ (setNext a ((sl:Int)).toNat ((i:Int)).toNat ((ep:Int)).toNat >>= _) _ _ s;refine X0 (hN _ _ _ ?_);refine X0 (Yz ho hd (by simp) ?_);refine X0 ?_;refine X0 (m:=firstArgMember _ _) (wpAny_of_eq (a:=Value.none) (by first|rfl|(simp only[firstArgMember])) ?_);refine Yc ?_ (by size_fits);refine X0 (wpAny_handled ?_);rw[show A.in1.handled=none from hh];refine X0 (X9 (wpAny_throw ?_));refine X0 (wpAny_isInstance (T:="StopIteration") (b:=true) #[_,Xh _ rfl,rfl] isSubtype_stop ?_);exact X9 (hQ _ (((Yk ..).extBut.push _).push _))
theorem xki{I a T:Addr}{i n ep:Nat}{pl:List Nat}{Q:Option Value->Shared->Prop}(hh:A.handled=none)(jo:It s.heap I a (.ref T) i n ep)(hs:Stn s.heap a n ep)(hT':∃o k,s.heap.get? T=some o/\o.data=.seq (pl.map λ(j:Nat)=>rawInt j).toArray k)
  (hp:pl[i]?=none) (hQ:∀h',Heap.ExtBut I s.heap h'->Q none {s with heap:=h' }):wpAny (model prog w) A (pyNext (.ref I)) Q E s:=by
 obtain⟨o,ho,hc,hd⟩:=jo;obtain⟨os,es,t,ma,f8,hf,hn⟩:=hs;obtain⟨oT,kT,hoT,sv⟩:=hT';have hT:s.TypeIs (.ref I) "set_iterator":=#[o,ho,hc];refine X0 (wpAny_attempt (Z0 (name:=Str.ofString "__next__") hT slot_next (Yh slot_next hT jxj ?_ (kj4 _))));show wpAny _ _ (fieldsOf (.ref I) >>= _) _ _ s;refine X0 (wpAny_fieldsOf ho hd ?_);refine X0 (wpAny_setEntries_of ma f8 hf ?_);rw[Xd (by rw[hn];simp)];refine X0 (wpAny_seqItems hoT sv ?_);have hg:(pl.map λ(j:Nat)=>rawInt j).toArray[((i:Int)).toNat]?=none:=by
  rw[Int.toNat_natCast,List.getElem?_toArray,Xi,hp];rfl
 dsimp only;rw[hg];have tf:=Obj.data_mapFields hd (·.setIfInBounds 0 (rawInt 0));have mi:=Y3 (Obj.mapFields (·.setIfInBounds 0 (rawInt 0))) ho (Obj.isFreed_of_fields tf);refine X0 (Yz ho hd (by simp) ?_);refine X0 (Yz mi tf (by simp) ?_);refine X0 ?_;simp;refine X0 (m:=firstArgMember _ _) (wpAny_of_eq (a:=Value.none) (by first|rfl|(simp only[firstArgMember];rfl)) ?_);refine Yc ?_ (by size_fits);refine X0 (wpAny_handled ?_);rw[show A.in1.handled=none from hh];refine X0 (X9 (wpAny_throw ?_));refine X0 (wpAny_isInstance (T:="StopIteration") (b:=true) #[_,Xh _ rfl,rfl] isSubtype_stop ?_);exact X9 (hQ _ ((((Yk ..).trans (Yk ..)).extBut.push _).push _))
end
section
variable {prog:Program}{w:World}{A:Around}{E:VP9}{s:Shared}
theorem qz1(hh:A.handled=none)(I a)(cg:a≠I){o es ep t}(hd:o.data=.set es ep t)(hf:t.fits es.size=true){du:List Value}(hl:du.length=es.size)(sl:Nat->Nat)
  (hN:∀i (s) (A') (E') (R),s.heap.get? a=some o->i<=es.size->R (du[i]?.map λv=>(v,sl (i+1))) s->wpAny (model prog w) A' (setNext a (sl i) i ep) R E' s):
  Walks prog w A I [I,a] [I] es.size (λi v=>du[i]?=some v) (λi h=>It h I a (.int (sl i) 0) i es.size ep/\h.get? a=some o) where
 sub:=λb hb=>by simp at hb;simp[hb]
 frame:=λ_ _ _ st hk=>#[st.1.at' λo e=>hk I (by simp) o e,hk a (by simp) _ st.2]
 item:=λi s Q E hi st hQ=>by
  have hv:du[i]?=some (du[i]'⋯):=X3 _;exact wx9 st.1 #[o,es,t,st.2,hd,hf,rfl] (λA' E' R hR=>hN i s A' E' R st.2 (Nat.le_of_lt hi) (hv▸hR)) λh' rh nt=>(hQ _ h' s.toks hv #[rh,(nt.extBut a o cg st.2)] λb o hb e=>nt.extBut b o (λh=>hb (by simp[h])) e)
 done:=λs Q E st hQ=>by
  refine xkj hh st.1 #[o,es,t,st.2,hd,hf,rfl] (λA' E' R hR=>hN es.size s A' E' R st.2 (Xk _) (by rw[Yl ⋯];exact hR)) λh' he=>?_
  exact hQ h' s.toks λb o hb e=>he b o (λh=>hb (by simp[h])) e
 self:=λ_ _ _ _ st hQ=>qzq st.1 hQ
theorem vze(hh:A.handled=none)(I a T)(cg:a≠I)(hneT:T≠I){o oT es ep k t}(hd:o.data=.set es ep t)(hf:t.fits es.size=true){pl:List Nat}(hp:pl.Perm (List.range es.size))(sv:oT.data=.seq (pl.map λ(j:Nat)=>rawInt j).toArray k):
  Walks prog w A I [I,a,T] [I] es.size (λi v=>(pl.map λj=>(es.getD j (0,.none)).2)[i]?=some v) (λi h=>It h I a (.ref T) i es.size ep/\h.get? a=some o/\h.get? T=some oT) where
 sub:=λb hb=>by simp at hb;simp[hb]
 frame:=λ_ _ _ st hk=>#[st.1.at' λo e=>hk I (by simp) o e,hk a (by simp) _ st.2.1,hk T (by simp) _ st.2.2]
 item:=λi s Q E hi st hQ=>by
  have az:pl.length=es.size:=by rw[hp.length_eq,Yd]
  have hv:pl[i]?=some (pl[i]'⋯):=X3 _;have dl:pl[i]'⋯<es.size:=List.mem_range.mp (hp.mem_iff.mp (Yj _));refine wx8 (v:=(es.getD (pl[i]'⋯) (0,.none)).2) st.1 #[o,es,t,st.2.1,hd,hf,rfl] #[oT,k,st.2.2,sv] hv (λA' E' R hR=>?_) λh' rh nt=>?_
  ·refine X0 (Z7 st.2.1 hd hf ?_);dsimp only;rw[Xd (by simp),Yb dl];refine X9 ?_;rw[Array.getD_eq_getD_getElem?,Yb dl]at hR;exact hR
  ·exact hQ _ h' s.toks (by rw[Xi,hv];rfl) #[rh,(nt.extBut a o cg st.2.1),(nt.extBut T oT hneT st.2.2)] λb o hb e=>nt.extBut b o (λh=>hb (by simp[h])) e
 done:=λs Q E st hQ=>by
  have az:pl.length=es.size:=by rw[hp.length_eq,Yd]
  refine xki hh st.1 #[o,es,t,st.2.1,hd,hf,rfl] #[oT,k,st.2.2,sv] (Yl ⋯) λh' he=>?_
  exact hQ h' s.toks λb o hb e=>he b o (λh=>hb (by simp[h])) e
 self:=λ_ _ _ _ st hQ=>qzq st.1 hQ
theorem vjx(pr:tx w=true){a o es ep t}(hd:o.data=.set es ep t)(hf:t.fits es.size=true):
  ∀i s (A') (E') R,s.heap.get? a=some o->i<=es.size->R (((pickOrder (w.params.setOrder a ep) es).toList.map (·.2))[i]?.map λv=>(v,0)) s->wpAny (model prog w) A' (setNext a 0 i ep) R E' s:=by
 intro i s A' E' R ho hi hR;refine X0 (Z7 ho hd hf ?_);show wpAny _ _ (if tx w=true then _ else _) _ _ _;rw[X8 pr,Xd (by simp)];refine X0 (X0 (Z7 ho hd hf ?_));show wpAny _ _ (if tx w=true then _ else _) _ _ _;rw[X8 pr];refine X0 (wpAny_askSetting (X9 (X9 ?_)));rw[Xi,Yu,Option.map_map]at hR;exact hR
end
section
variable {prog:Program}{w:World}{A:Around}{E:VP9}{s:Shared}
theorem qjp{t:SetTable}{n}(h:t.fits n=true):t.place.size=n:=by
 simp only[SetTable.fits,Bool.and_eq_true,beq_iff_eq]at h;exact h.1
theorem qz4{es:Array (Int×Value)}{pl:List Nat}(hp:pl.Perm (List.range es.size)):(pl.map λj=>(es.getD j (0,.none)).2).Perm (es.toList.map (·.2)):=by
 refine(hp.map _).trans (.of_eq ?_);apply List.ext_getElem
 ·simp
 ·intro i h1 h2;simp at h1;simp[h1]
end
end Sw
namespace Tb
open PySem PySem.SetTable
theorem kxt(xs)(j)(hp:xs.toList.Pairwise (· < ·)):∀fuel lo hi,lo<=hi->hi<=xs.size->hi - lo<=fuel->(∀i (h),i<lo->xs[i]<j)->(∀i (h),hi<=i->j<=xs[i]) ->
  below.go xs j fuel lo hi<=xs.size/\(∀i (h),i<below.go xs j fuel lo hi->xs[i]<j)/\(∀i (h),below.go xs j fuel lo hi<=i->j<=xs[i])
 | 0,lo,hi,h1,h2,h3,h4,h5=>by
  have:lo=hi:=⋯
  subst this;exact#[h2,h4,h5]
 | fuel+1,lo,hi,h1,h2,h3,h4,h5=>by
  unfold below.go
  by_cases hl:lo<hi
  ·rw[X8 hl];have hm:(lo+hi) / 2<xs.size:=⋯
   have mono:∀i k (hi) (hk:k<xs.size),i<k->xs[i]<xs[k]:=λi k hi hk hik=>by
    have:=List.pairwise_iff_getElem.mp hp i k (by simpa using hi) (by simpa using hk) hik
    simpa using this
   by_cases hc:xs.getD ((lo+hi) / 2) j<j
   ·rw[X8 hc];have nv:xs[(lo+hi) / 2]<j:=by simpa [Array.getD,hm]using hc
    refine kxt xs j hp fuel _ hi ⋯ h2 ⋯ (λi h ph=>?_) h5
    by_cases e:i=(lo+hi) / 2
    ·subst e;exact nv
    ·have:=mono i ((lo+hi) / 2) h hm ⋯;lia
   ·rw[Xd hc];have nv:j<=xs[(lo+hi) / 2]:=by
     have:¬xs[(lo+hi) / 2]<j:=by simpa [Array.getD,hm]using hc
     lia
    refine kxt xs j hp fuel lo _ ⋯ ⋯ ⋯ h4 (λi h ph=>?_)
    by_cases e:i=(lo+hi) / 2
    ·subst e;exact nv
    ·have:=mono ((lo+hi) / 2) i hm h ⋯;lia
  ·rw[Xd hl];have:lo=hi:=⋯
   subst this;exact#[h2,h4,h5]
theorem below_ok{xs} j (hp:xs.toList.Pairwise (· < ·)):below xs j<=xs.size/\(∀i h,i<below xs j->xs[i]<j)/\(∀i h,below xs j<=i->j<=xs[i]):=
 kxt xs j hp xs.size 0 xs.size ⋯ (Xk _) ⋯ (λi _ h=>absurd h ⋯) (λi h hi=>absurd h ⋯)
end Tb
namespace Sw
open PySem PyProof.Rows Tb
section
variable {prog:Program}{w:World}{A:Around}{E:VP9}{s:Shared}
structure IT (w:World)(o:Obj)(es:Array (Int×Value))(ep:Nat)(t:SetTable):Prop where
 c:o.cls=.type "set"
 d:o.data=.set es ep t
 f:t.fits es.size=true
 led:t.led=!tx w
 pw:t.plain=true\/es.size<=1->t.place.toList.Pairwise (· < ·)
 z:es.size<=sizeLine
noncomputable def slP(t:SetTable)(i:Nat):Nat:=if i=0 then 0 else t.place.getD (i - 1) 0+1
theorem vx6{xs}(hp:xs.toList.Pairwise (· < ·)){i}(hi:i<=xs.size):SetTable.below xs (if i=0 then 0 else xs.getD (i - 1) 0+1)=i:=by
 obtain⟨b1,b2,b3⟩:=below_ok (xs:=xs) (if i=0 then 0 else xs.getD (i - 1) 0+1) hp;generalize hb:SetTable.below xs (if i=0 then 0 else xs.getD (i - 1) 0+1)=b at b1 b2 b3
 by_cases h0:i=0
 ·subst h0;rcases Nat.eq_zero_or_pos b with c|c
  ·exact c
  ·have:=b2 0 ⋯ c;lia
 ·rw[Xd h0]at b2 b3;have hg:xs.getD (i - 1) 0=xs[i - 1]'⋯:=by simp[Array.getD,show i - 1<xs.size by lia]
  rw[hg]at b2 b3;rcases Nat.lt_trichotomy b i with c|c|c
  ·have:=b3 (i - 1) ⋯ ⋯;lia
  ·exact c
  ·have h1:=b2 i ⋯ c;have h2:=List.pairwise_iff_getElem.mp hp (i - 1) i (by simp;lia) (by simp;lia) ⋯;have h2:xs[i - 1]'⋯<xs[i]'⋯:=by simpa using h2
   lia
theorem qx9(pr:tx w=false){a o es ep t}(hk:IT w o es ep t)(bv:t.plain=false->¬1<es.size):
  ∀i s (A') (E') R,s.heap.get? a=some o->i<=es.size->R ((es.toList.map (·.2))[i]?.map λv=>(v,slP t (i+1))) s->wpAny (model prog w) A' (setNext a (slP t i) i ep) R E' s:=by
 intro i s A' E' R ho hi hR;have hsz:=qjp hk.f;refine X0 (Z7 ho hk.d hk.f ?_);show wpAny _ _ (if tx w=true then _ else _) _ _ _;rw[Xd ⋯];show wpAny _ _ (if(!t.plain&&decide (es.size>1))=true then _ else _) _ _ _;rw[Xd (by
  cases hp:t.plain with
  |true=>simp
  |false=>simpa using bv hp)]
 show wpAny _ _ ((if _=true then _ else pure ()) >>= _) _ _ _;rw[Xd (by rw[hk.led,pr];simp)];refine X9 ?_;have mv:SetTable.below t.place (slP t i)=i:=vx6 (hk.pw (by cases hp:t.plain<;>simp;have:=bv hp;lia)) (hsz▸hi);rw[mv]
 by_cases dl:i<es.size
 ·have up:i<t.place.size:=by rw[hsz];exact dl
  rw[Yb dl,Yb up];rw[Xi,Yu,Yb dl]at hR;have hs:slP t (i+1)=t.place[i]+1:=by unfold slP;simp[up]
  rw[hs]at hR;exact hR
 ·rw[Array.getElem?_eq_none ⋯];rw[Yl (by rw[X1,Xb];lia)]at hR;exact hR
theorem wxo{a o es ep t}(ho:s.heap.get? a=some o)(hk:IT w o es ep t){Q}(h:Q (!tx w&&(!t.plain&&decide (es.size>1))) s):wpAny (model prog w) A (setDrawn a) Q E s:=by
 exact X0 (Z7 ho hk.d hk.f (X0 (X0 (wpAny_askSetting (X9 (X9 h))))))
theorem xk7{a o es ep t Q}(ho:s.heap.get? a=some o)(hk:IT w o es ep t)
  (h:∀h' (d) (I:Addr) (fp) (du:List Value) (St),(∀b o,s.heap.get? b=some o->h'.get? b=some o)->s.heap.objs.size<=I->(∀b∈fp,b=a\/s.heap.objs.size<=b) ->
   (∀A',A'.handled=none->Walks prog w A' I fp [I] es.size (λi v=>du[i]?=some v) St)->St 0 h'->du.Perm (es.toList.map (·.2))->Q (.ref I) {s with heap:=h',drawn:=d}):wpAny (model prog w) A (pyIter (.ref a)) Q E s:=by
 have hT:s.TypeIs (.ref a) "set":=#[o,ho,hk.c];have ml:=Xl ho;refine wpAny_pyIter_slot hT F.slot_set_iter (Yh F.slot_set_iter hT qxk ?_ (vql _));unfold Builtin.«frozenset.__iter__» Builtin.Frozenset.slot0 slotArgs;simp only[List.isEmpty_nil,Bool.not_true,Bool.false_eq_true,↓reduceIte,bind_assoc,List.length_nil,bne_self_eq_false];refine X0 (X9 (X0 (X9 (X0 (X0 (wpAny_setEntries_of ho hk.d hk.f (X9 (X0 (wxo ho hk ?_)))))))))
 by_cases hdr:(!tx w&&(!t.plain&&decide (es.size>1)))=true
 ·rw [X8 hdr];refine X0 (drawn es.size _ s (by simp) λpl d hp=>(X0 (wpAny_newTuple (X0 (wpAny_setEpoch_of (X4 _ ho) hk.d hk.f ?_)) (hsz:=by rw[X1,hp.length_eq,Yd];exact hk.z))));refine X0 (Yc (X9 #[_,rfl,"set_iterator",_,#[_,Xh _ rfl,rfl],slot_next.lookup,?_]));have hsz:(s.heap.push (seqObj "tuple" (pl.map λ(i:Nat)=>rawInt i).toArray 0)).objs.size=s.heap.objs.size+1:=Heap.size_push ..;refine h _ d _ [_,a,s.heap.objs.size] (pl.map λj=>(es.getD j (0,.none)).2) _ (λb o e=>X4 _ (X4 _ e)) (hsz▸Nat.le_succ _) (λb hb=>?_)
   (λA' hh=>vze hh _ a s.heap.objs.size (by rw[hsz];exact Xv (Nat.lt_succ_of_lt ml)) (by rw[hsz];exact Xv (Nat.lt_succ_self _)) (o:=o) (oT:=seqObj "tuple" (pl.map λ(i:Nat)=>rawInt i).toArray 0) hk.d hk.f hp rfl)
   #[#[_,Xh _ rfl,rfl,rfl],X4 _ (X4 _ ho),X4 _ (Xh _ rfl)] (qz4 hp)
  rcases aD hb with rfl|hb
  ·exact .inr (hsz▸Nat.le_succ _)
  rcases aD hb with rfl|hb
  ·exact .inl rfl
  ·rw[aC hb];exact .inr (Xk _)
 ·rw [Xd hdr];refine X0 (X9 (X0 (wpAny_setEpoch_of ho hk.d hk.f (X0 (Yc (X9 #[_,rfl,"set_iterator",_,#[_,Xh _ rfl,rfl],slot_next.lookup,?_]))))));have hfp:∀b∈[s.heap.objs.size,a],b=a\/s.heap.objs.size<=b:=λb hb=>by
   rcases aD hb with rfl|hb
   ·exact .inr (Xk _)
   ·exact .inl (aC hb)
  cases pr:tx w with
  | true=>
   refine h _ s.drawn _ [_,a] ((pickOrder (w.params.setOrder a ep) es).toList.map (·.2)) _ (λb o e=>X4 _ e) (Xk _) hfp
    (λA' hh=>qz1 hh _ a (Xv ml) (o:=o) hk.d hk.f (by rw[X1,(kzu _ es).length_eq,Xb]) (λ_=>0) (vjx pr hk.d hk.f))
    #[#[_,Xh _ rfl,rfl,rfl],X4 _ ho] ((kzu _ es).map _)
  | false=>
   refine h _ s.drawn _ [_,a] (es.toList.map (·.2)) _ (λb o e=>X4 _ e) (Xk _) hfp
    (λA' hh=>qz1 hh _ a (Xv ml) (o:=o) hk.d hk.f (by simp) (slP t) (qx9 pr hk (by
     rw[pr]at hdr
     simpa using hdr)))
    #[#[_,Xh _ rfl,rfl,rfl],X4 _ ho] (.refl _)
theorem wke{a Q}(hT:s.TypeIs (.ref a) "set")(h:Q false s):wpAny (model prog w) A (Builtin.List.listLengthHint (.ref a)) Q E s:=by
 refine X0 (wpAny_specialOf hT F.slot_set_len.lookup ?_);generalize pj:_=id0
 wp_delta
 subst pj;refine X0 (wpAny_isInstance hT sub_set_self ?_);refine wpAny_ite_split (λjf=>absurd jf ⋯) (λ_=>?_);refine X0 (wpAny_typeOf hT ?_);exact X9 h
theorem vwr{a o es ep t Q}(hh:A.handled=none)(ho:s.heap.get? a=some o)(hk:IT w o es ep t)
  (h:∀h' (d) (tk) (vs),(∀b o,s.heap.get? b=some o->h'.get? b=some o)->s.heap.objs.size<h'.objs.size->vs.Perm (es.toList.map (·.2))->Q vs {s with heap:=h',drawn:=d,toks:=tk}):
  wpAny (model prog w) A (collect (.ref a)) Q E s:=by
 have ml:a<s.heap.objs.size:=Xl ho;unfold collect;refine X0 (wpAny_runValue (codeAny_builtin F.entry_proto_collect ?_));rw[Around.under_plainId F.plain_proto_collect _];show wpAny _ A.in1 (newList [] >>= λl=>again (.builtin "list.__iadd__" #[[l,.ref a],[]])) _ _ s;refine X0 (Yc (X9 #[plainId_quiet F.plain_list_iadd _,codeAny_builtin F.entry_list_iadd ?_]));rw[Around.under_plainId F.plain_list_iadd _];have mi:(s.heap.push {cls:=.type "list",data:=.seq ([]:List Value).toArray}).get? a=some o:=X4 _ ho;have hT1:Shared.TypeIs {s with heap:=s.heap.push {cls:=.type "list",data:=.seq ([]:List Value).toArray}} (.ref a) "set":=#[o,mi,hk.c];show wpAny _ A.in1 (Builtin.List.listExtendWith (.ref s.heap.objs.size) (.ref a) (.ref s.heap.objs.size)) _ _ _;unfold Builtin.List.listExtendWith;refine X0 (wpAny_typeOf hT1 ?_);have h1:Builtin.List.listSameRef (.ref s.heap.objs.size) (.ref a)=false:=by simp[Builtin.List.listSameRef];exact Nat.ne_of_gt ml
 have h2:(Value.type "set" == Value.type "list")=false:=⋯
 have h3:(Value.type "set" == Value.type "tuple")=false:=⋯
 simp only[h1,h2,h3,Bool.or_false,Bool.false_eq_true,if_false];refine X0 (xk7 mi hk λh' d I fp du St i4 hI hfp W st0 hv=>(X0 (Y4 (wke #[o,i4 _ _ mi,hk.c] ?_))));show wpAny _ A.in1 (PySem.rule "list.extend.makes-room" >>= λ_=>Builtin.List.listTouch (.ref s.heap.objs.size) >>= λ_=>
  again (.builtin "list.extend.loop" #[[.ref s.heap.objs.size,.ref I,.ref s.heap.objs.size],[]])) _ _ _
 refine X0 (wpAny_rule ?_);have hsz:(s.heap.push {cls:=.type "list",data:=.seq ([]:List Value).toArray}).objs.size=s.heap.objs.size+1:=Heap.size_push ..;have hI':s.heap.objs.size+1<=I:=by rw[<-hsz];exact hI
 have hSf:s.heap.objs.size∉fp:=λhm=>by
  rcases hfp _ hm with e|e
  ·exact absurd e (Nat.ne_of_gt ml)
  ·grind
 have hS₁:h'.get? s.heap.objs.size=some {cls:=.type "list",data:=.seq ([]:List Value).toArray}:=i4 _ _ (Xh _ rfl);refine X0 ?_;show wpAny _ A.in1 (updateSeq s.heap.objs.size (·.push .none) >>= λ_=>updateSeq s.heap.objs.size (·.pop)) _ _ _;refine X0 (wpAny_updateSeq hS₁ rfl ?_);have hS₂:=Y3 (Obj.mapSeq (·.push Value.none)) hS₁ rfl;refine wpAny_updateSeq hS₂ rfl ?_;have oth:∀b o,b≠s.heap.objs.size->h'.get? b=some o->((h'.update s.heap.objs.size (Obj.mapSeq (·.push Value.none))).update s.heap.objs.size (Obj.mapSeq (·.pop))).get? b=some o:=
  λb o hb e=>(Heap.get?_update_other _ _ (Z9 hb)).trans ((Heap.get?_update_other _ _ (Z9 hb)).trans e)
 have WW:=W A.in1 hh;have az:du.length=es.size:=by rw[hv.length_eq,X1,Xb]
 refine X9 #[plainId_quiet F.plain_extend_loop _,codeAny_extend_loopS WW.toS hk.z _ hSf _ es.size 0 _ _ _ rfl (Ys _) (WW.frame 0 h' _ st0 λb hb o e=>oth b o (λe'=>hSf (e'▸hb)) e) (Y3 (Obj.mapSeq (·.pop)) hS₂ rfl) (ItemsOf.nil _) λs' ij c' hm t9 ef=>?_];show wpAny _ A (load s.heap.objs.size >>= _) _ _ s';refine X0 (wpAny_load t9 ?_);have hac:ij.toList=du:=by
  apply List.ext_getElem?;intro j
  by_cases hj:j<es.size
  ·have hj1:j<ij.size:=by rw[ef.1];exact hj
   rw[Yu,Yb hj1];exact(ef.2 j _ (Yb hj1)).symm
  ·rw[Yl (by rw[Xb,ef.1];lia),Yl ⋯]
 refine X9 ?_;rw[hac,Moved.eq_with hm];refine h _ d _ du (λb o e=>?_) (Xl t9) hv;have hb:b<s.heap.objs.size:=Xl e;have hbS:b≠s.heap.objs.size:=Xv hb;refine hm.heap b o (λhmem=>?_) (oth b o hbS (i4 b o (X4 _ e)));rcases aD hmem with e'|hmem
 ·exact hbS e'
 ·rw[aC hmem]at hb;exact absurd hb (Nat.not_lt.mpr (Nat.le_of_succ_le hI'))
theorem kks:∀{vs},(∀v∈vs,∃x t,v=Value.str x t)->StrsAre vs (vs.map strOf)
 |[],_=>.nil
 |v::vs,h=>by
  obtain⟨x,t,rfl⟩:=h v X2;exact .cons x t (kks λv hv=>h v (lc9 _ hv))
theorem qxn{a ls Q}(hh:A.handled=none)(hS:Has prog w s.heap a ls)
  (h:∀h' (d) (tk) (vs) (ss),(∀b o,s.heap.get? b=some o->h'.get? b=some o)->s.heap.objs.size<h'.objs.size->StrsAre vs ss->ss.Perm ls->Q vs {s with heap:=h',drawn:=d,toks:=tk}):
  wpAny (model prog w) A (collect (.ref a)) Q E s:=by
 obtain⟨o,es,ep,t,ho,hk,hp⟩:=hS;have hsz:=qjp hk.f;refine vwr hh ho #[hk.ex.1,hk.d,hk.f,hk.led,λh1=>?_,fits_of_scanBound hk.b] λh' d tk vs i4 hz hv=>h h' d tk vs (vs.map strOf) i4 hz (kks λv hvm=>?_) ?_
 ·refine List.pairwise_iff_getElem.mpr λi j hi hj hij=>?_
  have:=hk.pl;simp at hi hj;rcases h1 with h1|h1<;>grind
 ·obtain⟨e,he,rfl⟩:=aE (hv.mem_iff.mp hvm);exact vz4 hk.el he
 ·refine((hv.map strOf).trans (.of_eq ?_)).trans hp;rw[Xu];rfl
end
end Sw
namespace Sw
open PySem PyProof.Rows
section
variable {prog:Program}{w:World}{A:Around}{E:VP9}{s:Shared}
theorem qwr{a ls Q}(hh:A.handled=none)(hS:Has prog w s.heap a ls)(h64:ls.length<64)
  (h:∀h' d (tk l e) out ss,(∀b o,s.heap.get? b=some o->h'.get? b=some o)->s.heap.objs.size<=l->h'.get? l=some (seqObj "list" out e)->StrsAre out.toList ss->ss.Perm ls->sortedS ss=true->Q (.ref l) {s with heap:=h',drawn:=d,toks:=tk}):
  wpAny (model prog w) A (call (.builtin "sorted") [.ref a]) Q E s:=by
 refine Calls.call_function_entry kind_sorted plain_sorted entry_sorted (args_sorted1 _) ?_;refine X0 (X9 ?_);refine X0 (qxn (by simpa using hh) hS λh' d tk vs ss i4 hsz hv hp=>?_);have h64':vs.length<64:=by rw[kwk hv,hp.length_eq];exact h64
 refine X0 (wpAny_newList ?_ (hsz:=by rw[sizeLine_eq];lia));have ut:(h'.push _).get? h'.objs.size=some (seqObj "list" vs.toArray 0):=Xh _ rfl;refine X0 (Y4 (Yh slot_list_sort #[_,ut,rfl] entry_list_sort (list_sort_treeK strKind_oneLt ut hv.keysOf (λv₁ v₂ b6 e=>keyKind_strs (by rw[<-e];exact hv)) h64' λdq a1 a2=>#[_,rfl,?_]) (args_list_sort _)));obtain⟨kh,h1,h2,h3⟩:=sorted_out_str hv a1 a2;obtain⟨e,he⟩:=sortedHeap_at ut;refine X9 #[_,rfl,h _ d tk _ e _ kh (λb o q=>?_) (Nat.le_of_lt hsz) he h1 (h2.trans hp) h3];have hb:=Xl (i4 b o q);rw[sortedHeap_old (Xv hb) (by rw[size_push'];exact Nat.lt_succ_of_lt hb)];exact X4 _ (i4 b o q)
end
end Sw
namespace Q
open PySem PySem.Spec PyProof.Rows L2 L3 Sw
section
variable {X:Cx}{Z:Fx0}{K:Frag}{q:Bool}{a:Ex}{e ea:Expr}{σ:L2.St}{H:Hp}{pos p p2 o6:Pos}{x y:Str}{a7:LA9}{s:Shared}
theorem Inv.dr{d}(I:L2.Inv X a7 σ H s):L2.Inv X a7 σ H {s with drawn:=d}:=#[I.ok,I.os,I.bare,I.base,I.loc,I.cell,I.free,I.freeC,I.pin,I.hok,I.len]
noncomputable def xqt(X:Cx)(f:Value)(r:List Str->Hp->VK->Prop):Prop:=
 ∀(a7:LA9) (s:Shared) (σ:L2.St) (H:Hp) (b:Addr) (ls:List Str) (Q:VK),L2.Inv X a7 σ H s->Has X.prog X.w s.heap b ls->r ls H Q->wpAny (model X.prog X.w) X.A (call f [.ref b]) (EP X a7 σ Q) X.xe s
noncomputable def xja(K:Frag)(r:List Str->Hp->VK->Prop):List V->Hp->VK->Prop:=λxs H Q=>∃p ss,xs=[.ref p]/\SqL K H p (ss.map V.str)/\ss.length<4000/\r (dd ss) H Q
theorem wjh{id r t}(hc:X.calm=true)(hf:xqt X (.builtin id) r)(hg:Gl X x)(hm:X.mg x=none)(hv:bootBuiltins x=some (.builtin id))(hg2:Gl X "set")(hm2:X.mg "set"=none)(hv2:bootBuiltins "set"=some (.type "set"))
  (ha:PE X e t) (hn:autoParam (x≠"__name__") ŕ) (eh:autoParam (Abd x) ŕ) (oj:autoParam (("set":Str)≠"__name__") ŕ) (hdb2:autoParam ((("set":Str)==("__debug__":Str))=false) ŕ)
  (he:autoParam (Abs e [] X) Ŕ):
  PE X (.Call (.Name x p) [.Call (.Name "set" p2) [e] [] o6] [] pos) (fun σ H Q=>t σ H λv H1=>xja X.K r [v] H1 Q):=by
 intro a7 s σ H Q I h;refine Z5 (kw5 I hg hm hv (PyProof.Rows.callWith_builtin1 ?_ rfl rfl) hn eh);show wpAny _ _ (spliced (_::[])) _ _ s;refine Calls.spliced_cons (Z5 (kw5 I hg2 hm2 hv2 (PyProof.Rows.callWith_type1 (thn (kX ha v6 he o6 a7 s σ H (λvs H1=>xja X.K r vs H1 Q) I ?_) λus s1 #[vs,H1,I1,r1,q1]=>?_) he rfl) oj hdb2))
 ·exact h
 obtain⟨b,ss,rfl,hq,hl,q⟩:=q1;obtain⟨u,rfl,rx⟩:=zQ r1;cases rx;obtain⟨aq,r',pl,hz⟩:=I1.list hq;have az:=r'.length;rw[X1]at az hz;refine vwt (I1.ok.hd hc) pl.isList (by simpa using kvo r') (by simp;unfold scanBound;lia) λh' tk hS i4=>?_
 have I2:L2.Inv X a7 σ H1 {s1 with heap:=h',toks:=tk}:=I1.kept λb u q=>i4 b u (Xl q) q
 exact Calls.spliced_nil (hf a7 _ σ H1 _ _ Q I2 hS q)
theorem qww(hc:X.calm=true):xqt X (.builtin "sorted") (λls H Q=>ls.length<64/\∀l,H l=none->Q (.ref l) (upd H l (.lst ((kY ls).map V.str)))):=by
 intro a7 s σ H b ls Q I hS h;refine qwr (I.ok.hd hc) hS h.1 λh' d tk l e out ss i4 hl hg h1 h2 h3=>?_
 have e1:=qv9 h2 h3;subst e1;have hz:(kY ls).length<=sizeLine:=by rw[(Kv ls).length_eq,sizeLine_eq];lia
 refine#[.ref l,_,Inv.dr (I.laid (t':=tk) i4 hl ?_),rfl,h.2 l (I.hok.fresh hl)];exact#[by rw[X1];exact hz,out.toList,e,kz4 h1,by simpa using hg]
end
section
variable {X:Cx}{Z:Fx0}{K:Frag}{q:Bool}{a:Ex}{e ea:Expr}{σ:L2.St}{H:Hp}{pos p p2 o6:Pos}{x y:Str}{a7:LA9}{s:Shared}
theorem vz5{ss z}(h:z∈ddS ss):z∈ss:=by
 have:∀(l acc:List Str),z∈l.foldl (λl k=>if l.any (· == k)then l else l++[k]) acc->z∈acc\/z∈l:=by
  intro l
  induction l with
  | nil=>intro acc h;exact .inl h
  | cons k l ih=>
   intro acc h;rcases ih _ h with h|h
   ·dsimp only at h
    split at h
    ·exact .inl h
    ·rcases aA h with h|h
     ·exact .inl h
     ·exact .inr (aC h▸X2)
   ·exact .inr (lc9 _ h)
 rcases this ss [] h with h|h
 ·grind
 ·exact h
noncomputable def rSS(K:Frag):List V->Hp->VK->Prop:=xja K λls H Q=>ls.length<64/\∀l,H l=none->Q (.ref l) (upd H l (.lst ((kY ls).map V.str)))
set_option tactic.hygienic true in
theorem qxs:Ad1 K (λv H Q=>rSS K [v] H Q) K5:=by
 intro H x s Q ok hf k;unfold K5 at hf;dsimp only at hf;cases hx:x.d with
 | lst ds=>
  rw[hx]at hf;dsimp only at hf;obtain⟨l,xs,bs,ev,q3,r3,_⟩:=items ok (.inl hx);have q3:LsR K H l xs:=by rcases q3 with⟨_,z⟩|⟨z,_⟩;exact z;rw[hx]at z;cases z
  cases hs:Jv ds with
  | some ss=>
   rw[hs]at hf;dsimp only at hf
   split at hf
   ·rename_i hl;cases oq9 hf;obtain⟨e1,e2⟩:=kkg hs r3;subst e1;exact#[l,ss,by rw[ev],Kq q3,⋯,Nat.lt_of_le_of_lt (dd_le ss) hl,λp hp=>(k _ _ rfl rfl (W9 hp (kkk λz hz=>e2 z (vz5 ((Kv _).mem_iff.mp hz))) λb hb=>nomatch hb))]
   ·cases hf
  |none=>rw[hs]at hf;cases hf
 |_=>rw[hx]at hf;cases hf
theorem kq6(hK:X.K=Z.K)(hc:X.calm=true)(ha:QV X Z q a ea)(hm:X.mg "sorted"=none)(hm2:X.mg "set"=none)(hg:autoParam (Gl X "sorted") Ŕ)(hg2:autoParam (Gl X "set") Ŕ)(he:autoParam (Abs ea [] X) Ŕ):
  QE X Z q (cF1 K5 a) (.Call (.Name "sorted" p) [.Call (.Name "set" p2) [ea] [] o6] [] pos):=
 kW (wjh hc (qww hc) hg hm rfl hg2 hm2 rfl ha (he:=he)) fun σ H Q h=>by
  have:=V7 qxs h
  rwa [hK]
end
end Q
namespace Q
open PySem PySem.Spec PyProof.Rows L2 L3
section
variable {X:Cx}{Z:Fx0}{K:Frag}{H:Hp}{q g:Bool}{a:Ex}{e:Expr}{p2 pos:Pos}{x:Str}{d:D}{ds:List D}{v:V}{vs:List V}
theorem xjr{j:_}{p3 p4:Pos}:PE X (.UnaryOp .USub (.Constant (.int 1) j p3) p4) (tC (.int (-1))):=kW (ww2 vxb vjh) fun σ H Q h=>#[1,rfl,h]
end
end Q
namespace Q
open PySem
noncomputable def J8(c:Nat):Sd->Option Sd:=λx=>match x.2 with
 |.str z=>if z.length<sizeLine then some (.rt,.lst ((Txt.split z #[(List.toArray [c])]).map .str))else none|_=>none
noncomputable def Zx(y:Str):D->Option D
 |.str z=>some (.bl (Txt.startswith z y))|_=>none
noncomputable def Q0:D->Option D
 |.int i=>if i.natAbs.log2<1920/\(Str.ofString (toString i)).length<=sizeLine then some (.str (Str.ofString (toString i)))else none|.str z=>if z.length<=sizeLine then some (.str z)else none|.non=>some (.str "None")|_=>none
end Q
namespace Q
open PySem PySem.Spec PyProof.Rows L2 L3
section
variable {X:Cx}{Z:Fx0}{K:Frag}{q:Bool}{a:Ex}{o:Expr}{y:Str}{c:Nat}{j:_}{p bi au:Pos}
theorem qkl{c:Nat}:∀{l p:List Nat},p∈splitL c l->p.length<=l.length:=jvo
theorem split_parts{z w:Str}(h:w∈Txt.split z #[(List.toArray [c])]):w.length<=z.length:=by
 have:w.cps.toList∈splitL c z.cps.toList:=by rw[<-split_list];exact List.mem_map.mpr #[w,h,rfl]
 have:=qkl this;rw[Xb,Xb]at this;exact this
set_option tactic.hygienic true in
theorem vx9:Ad1 K (λv H Q=>tyV K "str" v H/\qzy v [.str #[(List.toArray [c])]] H Q) (J8 c):=by
 intro H x s Q ok hf k;unfold J8 at hf;dsimp only at hf;cases hx:x.d with
 | str z=>
  rw[hx]at hf;dsimp only at hf
  split at hf
  ·rename_i hz;cases oq9 hf;have ev:x.v=.str z:=(wZ ok hx).1;refine#[by rw[ev];rfl,z,c,ev,rfl,hz,λl hl=>?_];exact k #[.rt,.lst _,.ref l,l::[]] _ rfl rfl (W9 hl (kkk λw hw=>Xs (split_parts hw) (Nat.le_of_lt hz)) λb hb=>nomatch hb)
  ·cases hf
 |_=>rw[hx]at hf;cases hf
theorem ZY(hy:y=(#[(List.toArray [c])]:Str))(ha:QV X Z q a o)(hK:autoParam (X.K=Z.K) Ŕ)(bq:autoParam (attributeBase o "split" X.env (eval o X.env)=eval o X.env) Ŕ)
  (cy:autoParam (((backTo au (starEach [.Constant (.str y) j p] X.env)).all (λx=>!x.1)&&(backToKw au (keywordEach [] X.env)).all (λx=>x.1.isSome)
   && decide ([Expr.Constant (.str y) j p].length+([]:List Keyword).length+(if([]:List Keyword).isEmpty then 0 else 1)<30))=true) Ŕ)
  (bp:autoParam (Abe bi au) Ŕ) (hs:autoParam (starEach [.Constant (.str y) j p] X.env=(false,eval (.Constant (.str y) j p) X.env)::starEach [] X.env) Ŕ) (bj:autoParam (Abb au [] X) Ŕ):
  QE X Z q (cF1 (J8 c) a) (.Call (.Attribute o "split" bi) [.Constant (.str y) j p] [] au):=
 kW (vjk PySem.F.plainAttrs_str PySem.F.slot_str_split PySem.F.type_str_split wju ha (kX zW v6 hs) bq cy bp hs bj) fun σ H Q h=>by
  rw[hK];subst hy;exact V7 (r:=λv H Q=>tyV Z.K "str" v H/\qzy v [.str #[(List.toArray [c])]] H Q) vx9 h
theorem vqo:Ad1 K (λv H Q=>tyV K "str" v H/\qkr v [.str y] H Q) (pu1 (Zx y)):=by
 intro H x s Q ok hf k;unfold pu1 Zx at hf;dsimp only at hf;cases hx:x.d with
 |str z=>
  rw[hx]at hf;cases oq9 hf;have ev:x.v=.str z:=(wZ ok hx).1;exact#[by rw[ev];rfl,z,y,ev,rfl,k #[.dp,.bl _,.bl _,[]] H rfl rfl x9]
 |_=>rw[hx]at hf;cases hf
theorem vvo(ha:QV X Z q a o)(hK:autoParam (X.K=Z.K) Ŕ)(bq:autoParam (attributeBase o "startswith" X.env (eval o X.env)=eval o X.env) Ŕ)
  (cy:autoParam (((backTo au (starEach [.Constant (.str y) j p] X.env)).all (λx=>!x.1)&&(backToKw au (keywordEach [] X.env)).all (λx=>x.1.isSome)
   && decide ([Expr.Constant (.str y) j p].length+([]:List Keyword).length+(if([]:List Keyword).isEmpty then 0 else 1)<30))=true) Ŕ)
  (bp:autoParam (Abe bi au) Ŕ) (hs:autoParam (starEach [.Constant (.str y) j p] X.env=(false,eval (.Constant (.str y) j p) X.env)::starEach [] X.env) Ŕ) (bj:autoParam (Abb au [] X) Ŕ):
  QE X Z q (cF1 (pu1 (Zx y)) a) (.Call (.Attribute o "startswith" bi) [.Constant (.str y) j p] [] au):=
 kW (vjk PySem.F.plainAttrs_str PySem.F.slot_str_startswith PySem.F.type_str_startswith vwa ha (kX zW v6 hs) bq cy bp hs bj) fun σ H Q h=>by
  rw[hK];exact V7 (r:=λv H Q=>tyV Z.K "str" v H/\qkr v [.str y] H Q) vqo h
noncomputable def xq2:List V->Hp->VK->Prop:=λxs H Q=>(∃i:Int,xs=[.int i]/\i.natAbs.log2<1920/\Q (.str (Str.ofString (toString i))) H)\/(∃z:Str,xs=[.str z]/\Q (.str z) H)\/xs=[.non]/\Q (.str "None") H
theorem kkp:CallR X (.type "str") xq2:=by
 intro a7 s σ H xs us Q I r h;rcases h with⟨i,rfl,hi,q⟩|⟨z,rfl,q⟩|⟨rfl,q⟩
 ·obtain⟨u,rfl,t,rfl⟩:=zQ r;exact PySem.P.str_of_int hi #[.str _,H,I.tok _,#[_,rfl],q]
 ·obtain⟨u,rfl,t,rfl⟩:=zQ r;exact PySem.P.str_of_str #[.str _,H,I,#[_,rfl],q]
 ·obtain⟨u,rfl,rfl⟩:=zQ r;exact PySem.P.str_of_none #[.str _,H,I.tok _,#[_,rfl],q]
set_option tactic.hygienic true in
theorem qwl:Ad1 K (λv H Q=>xq2 [v] H Q) (pu1 Q0):=by
 intro H x s Q ok hf k;unfold pu1 Q0 at hf;dsimp only at hf;cases hx:x.d with
 | int i=>
  rw[hx]at hf;dsimp only at hf
  split at hf
  ·rename_i hz;cases oq9 hf;exact .inl #[i,by rw[v7 ok hx],hz.1,k #[.dp,.str _,.str _,[]] H rfl rfl (ZK hz.2)]
  ·cases hf
 | str z=>
  rw[hx]at hf;dsimp only at hf
  split at hf
  ·rename_i hz;cases oq9 hf;exact .inr (.inl #[z,by rw[(wZ ok hx).1],k #[.dp,.str _,.str _,[]] H rfl rfl (ZK hz)])
  ·cases hf
 |non=>
  rw[hx]at hf;cases oq9 hf;exact .inr (.inr #[by rw[vjv ok hx],k #[.dp,.str _,.str _,[]] H rfl rfl (ZK ⋯)])
 |_=>rw[hx]at hf;cases hf
end
section
variable {X:Cx}{Z:Fx0}{K:Frag}{q:Bool}{a:Ex}{e:Expr}{p2 pos:Pos}
variable {pn:List Nat}{c:Ex}
theorem xqg{K:Frag}{i j:Nat}{ps:List (Int ⊕ Nat)}{p3 p4:Pos}(h:PE X e (tPZ K i ps))(bv:kjy (.UnaryOp .USub (.Constant (.int 1) j p3) p4))(hK:autoParam (X.K=K) Ŕ):PE X (.Subscript e (.UnaryOp .USub (.Constant (.int 1) j p3) p4) pos) (tPZ K i (ps++[.inl (-1)])):=
 kW (vvz (hK▸qvw) h xjr bv) fun σ H Q ⟨zs,v,u,hz,hv,hu,q⟩=>by
  obtain⟨r,rfl,hr⟩:=hz.snocL;obtain⟨w,h1,a,xs,x,e1,sq,ex,hx⟩:=hu.snoc;have hx:u=x:=hx;subst hx;refine#[r,v,w,hr,hv,h1,?_];rcases sq with sq|sq
  ·exact .inl #[a,xs,-1,u,e1,rfl,.inl (.inl sq),ex,q]
  ·exact .inr (.inl #[a,xs,-1,u,e1,rfl,sq,ex,q])
end
@[irreducible] noncomputable def ShE (X:Cx) (Z:Fx0) (q:Bool) (c:Ex) (e:Expr):Prop:=QE X Z q c e
@[irreducible] noncomputable def ShA (X:Cx) (Z:Fx0) (q:Bool) (cs:List Ex) (es:List Expr):Prop:=QA X Z q cs es
@[irreducible] noncomputable def ShS (X:Cx) (Z:Fx0) (pn:List Nat) (c:Sm) (st:Stmt):Prop:=QS X Z pn c st
@[irreducible] noncomputable def ShB (X:Cx) (Z:Fx0) (pn:List Nat) (c:Sm) (ss:List Stmt):Prop:=QSs X Z pn c ss
end Q
namespace Q
open PySem PySem.Spec PyProof.Rows L2 L3
noncomputable def OkF(P:Program)(w:PySem.World)(K:Frag)(mg:Str->Option Value)(base:Heap)(k:Nat)(x:Str)(st:Stmt)(ps:List Str)(n:Nat)(m:Fn):Prop:=∀(f:Addr) (fd:FuncData),Fun K x x st f fd->FnOk P w K mg base (CXE P w) k f fd ps (spF K mg n m)
section
variable {P:Program}{w:PySem.World}{K:Frag}{mg:Str->Option Value}{base h:Heap}{k n nn:Nat}{x:Str}{st:Stmt}{ps N:List Str}{B:Sm}
theorem okF(S:FnScope N ps (jV st))(t:∀{f dw A outer s H E},Room k (A.deeper (envOfC x (jV st) s.heap.objs.size f dw))->QSs (Cx.ex' (K6 (CXE P w) P w K mg base N x (jV st) f dw A outer s H E) E) #[K,mg,E] [] B (KQ st))(hp:autoParam (ps.length=n) Ŕ)(hN:autoParam (N.length=nn) Ŕ):OkF P w K mg base (k+1) x st ps n (fn nn B):=
 λ_ _ F=>vqv F S (qzm hp) λ_ _ _ _ _ _ _ _ hr h=>vz2 hN (t hr) h
end
section
variable {X:Cx}{Z:Fx0}{pn:List Nat}{q qa:Bool}{a b:Ex}{ea eb:Expr}{pos p:Pos}{m:Nat}
theorem Jx{v:Bool}{j}:QE X Z true (cC (.bl v)) (.Constant (.bool v) j p):=q_C xjs λ_=>qvf
theorem wx0:QE X Z true (qw .rt []) (.List [] p):=xQ jk
theorem jJ(h:QE X Z q a ea):QSs X Z pn (jv a) [.Return (some ea) pos]:=qj (wvc h)
theorem wq1{z j p'}:QE X Z true (cF1 (pu1 xJ) (vE (cC (.int z)))) (.UnaryOp .USub (.Constant (.int z) j p') p):=q_un vxb wz6 ki
theorem xK(ha:QV X Z qa a ea)(hb:QV X Z true b eb):QE X Z qa (cF2 (pu2 vX) a b) (.BinOp ea .FloorDiv eb pos):=wve vw4 wzd ha hb
theorem q9(hr:Room m X.A)(ha:QV X Z qa a ea)(hb:QV X Z true b eb)(hK:autoParam (X.K=Z.K) Ŕ):QT X Z qa (tE (cF2 (pu2 fEq) a b)) (.Compare ea [.Eq] [eb] pos):=JQ (wwj hr.units hK) wzc ha hb (KZ _) xks
theorem YK(hr:Room m X.A)(ha:QV X Z qa a ea)(hb:QV X Z true b eb)(hK:autoParam (X.K=Z.K) Ŕ):QT X Z qa (tE (cF2 (pu2 fNe) a b)) (.Compare ea [.NotEq] [eb] pos):=JQ (xjx hr.units hK) xkv ha hb (KZ _) xkr
theorem JZ(hr:Room m X.A)(ha:QV X Z qa a ea)(hb:QV X Z true b eb)(hK:autoParam (X.K=Z.K) Ŕ):QE X Z qa (cF2 (pu2 fEq) a b) (.Compare ea [.Eq] [eb] pos):=qx2 (wwj hr.units hK) wzc ha hb (KZ _)
theorem wzy(ha:QV X Z qa a ea)(hb:QV X Z true b eb):QT X Z qa (tE (cF2 (f2First fIsNon) a b)) (.Compare ea [.Is] [eb] pos):=JQ vxs vza ha hb (KZ _) wxx
theorem tNoN(ha:QV X Z qa a ea)(hb:QV X Z true b eb):QT X Z qa (tE (cF2 (f2First fNotNon) a b)) (.Compare ea [.IsNot] [eb] pos):=JQ vjp vqq ha hb (KZ _) wks
theorem V8(ha:QV X Z qa a ea)(hb:QV X Z true b eb):QT X Z qa (tE (cF2 (pu2 fGt) a b)) (.Compare ea [.Gt] [eb] pos):=JQ xjv Kk ha hb (KZ _) ZX
theorem Qj(ha:QV X Z qa a ea)(hb:QV X Z true b eb):QT X Z qa (tE (cF2 (pu2 fLt) a b)) (.Compare ea [.Lt] [eb] pos):=JQ wwg Kk ha hb (KZ _) ZX
theorem kK{u A ss}(h:QT X Z q u ea)(t:QSs X Z pn A ss):QS X Z pn (sIf u A k7) (.If ea ss [] pos):=W1 h t xjh
end
end Q
namespace Q
open PySem
noncomputable def V3 (i w:Nat) (T C:Ts) (c:Ex):List D->En->List D->Option Fl
 | [],E,bs=>some (.nx (E.set i (some (.rt,.lst bs))))
 | d::ds,E,bs=>match T (E.set w (some (.no,d)))with
  | some (.ok E1 true)=>(match C E1 with
   |some (.ok E2 true)=>some (.rt E2 (.dp,.non))
   |some (.ok E2 false)=>(match c E2 with
    |some (.ok E3 (.dp,.tup [a,b,.lst []]))=>if a.pure=true/\b.pure=true/\bs.length<big then V3 i w T C c ds E3 (bs++[.tup [a,b,.lst []]])else none
    |_=>none)
   |_=>none)
  | some (.ok E1 false)=>if bs=[]then some (.rt E1 (.dp,.non))else(match bs.getLast? with
   |some (.tup [a,b,.lst ws])=>(match E1[w]? with
    |some (some (_,x))=>if ws.length<big then V3 i w T C c ds (E1.set w (some (.no,x))) (bs.dropLast++[.tup [a,b,.lst (ws++[x])]])else none
    |_=>none)
   |_=>none)
  |_=>none
noncomputable def wqu(i w:Nat)(it:Ev (List D))(T C:Ts)(c:Ex):Sm:=λE=>match E[i]? with
 |some (some (.dp,.lst []))=>ofE (it (E.set i none)) λE1 ds=>V3 i w T C c ds E1 []|_=>none
end Q
namespace Q
open PySem PySem.Spec PyProof.Rows L2 L3
noncomputable def Blk(K:Frag)(N A:Addr->Prop)(H:Hp)(L:Ls)(r:Addr)(bs:List D):Prop:=∃xs,H r=some (.lst xs)/\r∉j7 L/\r∉jK L /\
 ((bs=[]/\xs=[])\/∃b0 k g ws x0 f0 t vk vg l ys f1,bs=b0++[.tup [k,g,.lst ws]]/\xs=x0++[.ref t]/\RepA K H true b0 x0 f0/\SqT K H t [vk,vg,.ref l]/\k.pure=true/\g.pure=true /\
  RepL K H true k vk []/\RepL K H true g vg []/\H l=some (.lst ys)/\RepA K H true ws ys f1/\l≠r/\l∉j7 L/\l∉jK L/\N l/\∀b∈f0++f1,b≠r/\b≠l/\b∉j7 L/\A b)
section
variable {K:Frag}{N A:Addr->Prop}{H H':Hp}{L L':Ls}{r:Addr}{bs:List D}
theorem kwy{b:Addr}{ob}(st:Step H L H' L')(e:H b=some ob)(h:b∉j7 L):b∉j7 L':=λz=>(st.own b z).elim h λq=>by rw[q]at e;cases e
theorem qw2{b:Addr}{ob}(st:Step H L H' L')(e:H b=some ob)(h:b∉j7 L)(hf:b∉jK L):b∉jK L':=λz=>(st.frz b z).elim hf λq=>q.elim h λq=>by rw[q]at e;cases e
theorem vqm{g ds xs as}(h:RepA K H g ds xs as){b}(hb:b∈as):∃ob,H b=some ob:=by
 rcases h.al b hb with⟨_,e⟩|⟨_,e⟩|⟨_,e⟩<;>exact#[_,e]
theorem Blk.step(w:World K H L)(st:Step H L H' L')(h:Blk K N A H L r bs):Blk K N A H' L' r bs:=by
 obtain⟨xs,h1,h2,h3,h4⟩:=h;refine#[xs,st.keep _ _ h1 h2,kwy st h1 h2,qw2 st h1 h2 h3,h4.imp id ?_];rintro ⟨b0,k,g,ws,x0,f0,t,vk,vg,l,ys,f1,e1,e2,r0,sq,pk,pg,rk,rg,hl,r1,n1,n2,n3,n4,n5⟩;have kp:=st.kp w (as:=f0++f1) λb hb=>(n5 b hb).2.2.1
 have k0:=st.kp w (as:=[]) λb hb=>nomatch hb
 refine#[b0,k,g,ws,x0,f0,t,vk,vg,l,ys,f1,e1,e2,r0.kp kp.left,kp.tupT sq,pk,pg,rk.kp k0,rg.kp k0,st.keep _ _ hl n2,r1.kp kp.right,n1,kwy st hl n2,qw2 st hl n2 n3,n4,λb hb=>?_];obtain⟨m1,m2,m3,m4⟩:=n5 b hb;obtain⟨ob,eb⟩:∃ob,H b=some ob:=(aA hb).elim (vqm r0) (vqm r1);exact#[m1,m2,kwy st eb m3,m4]
theorem kjj(w:World K H L){xs ob}(e:H r=some (.lst xs))(h1:r∉j7 L)(h2:r∉jK L):World K (upd H r ob) L:=
 #[λx hx=>RepO.kp (w.ok x hx) (qjm e λz=>(Sl.as_of z).elim (λz=>h1 (mem_owned.mpr #[x,hx,z])) λz=>h2 (mem_frozen.mpr #[x,hx,z])),w.nd,w.ds]
theorem Blk.last{b0:List D}{k g:D}{ws:List D}(h:Blk K N A H L r (b0++[.tup [k,g,.lst ws]]))(w:World K H L):∃l ys,l≠r/\N l/\H l=some (.lst ys)/\ys.length=ws.length/\PVZ K H [-1,2] (.ref r) (.ref l)/\∀d v as,RepL K H true d v as->(∀b∈as,b∈jK L/\A b) ->
  World K (upd H l (.lst (ys++[v]))) L/\Blk K N A (upd H l (.lst (ys++[v]))) L r (b0++[.tup [k,g,.lst (ws++[d])]]):=by
 obtain⟨xs,h1,h2,h3,h4⟩:=h;rcases h4 with⟨e,_⟩|⟨b0',k',g',ws',x0,f0,t,vk,vg,l,ys,f1,e1,e2,r0,sq,pk,pg,rk,rg,hl,r1,n1,n2,n3,n4,n5⟩
 ·simp at e
 obtain⟨rfl,e⟩:=List.append_inj' e1 rfl;injection e with e _;injection e with e;injection e with e3 e;injection e with e4 e;injection e with e5 _;injection e5 with e5;subst e3 e4 e5 e2;refine#[l,ys,n1,n4,hl,r1.len.symm,#[r,_,.ref t,rfl,.inl h1,?_,t,_,.ref l,rfl,.inr sq,rfl,rfl],λd v as rd hd=>?_]
 ·refine vkh (n:=x0.length) ?_ (by simp);unfold Q.ixN;rw[Xd ⋯,Xf];simp;omega
 have kl:∀{as:List Addr},l∉as->Kp H (upd H l (.lst (ys++[v]))) as:=qjm hl;have nf:∀b∈f0++f1,b≠l:=λb hb=>(n5 b hb).2.1
 have nl:l∉as:=λz=>n3 (hd l z).1
 refine#[kjj w hl n2 n3,_,by rw[kj (Z9 n1)];exact h1,h2,h3,.inr #[b0,k,g,ws++[d],x0,f0,t,vk,vg,l,ys++[v],f1++as,rfl,rfl,r0.kp (kl λz=>nf l (ll9 _ z) rfl),(kl (as:=[]) λz=>nomatch z).tupT sq,pk,pg,
  rk.kp (kl λz=>nomatch z),rg.kp (kl λz=>nomatch z),xV,RepA.snoc (rd.kp (kl nl)) (r1.kp (kl λz=>nf l (lr9 _ z) rfl)),n1,n2,n3,n4,λb hb=>?_]]
 rw[<-Xn]at hb;rcases aA hb with hb|hb
 ·exact n5 b hb
 ·obtain⟨q1,q2⟩:=hd b hb;exact#[λz=>h3 (z▸q1),λz=>n3 (z▸q1),λz=>w.ds b z q1,q2]
theorem Blk.more{z:Sl}{k g:D}(h:Blk K N A H (some z::L) r bs)(w:World K H (some z::L))(zo:z.o=.dp)(zd:z.d=.tup [k,g,.lst []])(pk:k.pure=true)(pg:g.pure=true)(hN:∀b∈z.own,N b)(hA:∀b,N b->A b):∃xs,H r=some (.lst xs)/\xs.length=bs.length /\
  World K (upd H r (.lst (xs++[z.v]))) L/\Blk K N A (upd H r (.lst (xs++[z.v]))) L r (bs++[z.d]):=by
 obtain⟨xs,h1,h2,h3,h4⟩:=h;have wt:=w.tail;have h2':r∉j7 L:=λq=>h2 (lr9 _ q)
 have tm:r∉jK L:=λq=>h3 (lr9 _ q)
 have ok:=w.head;unfold Sl.ok at ok;rw [zo,zd]at ok;obtain⟨t,vs,ev,sq,ra⟩:RepL K H false (.tup [k,g,.lst []]) z.v z.as:=ok;obtain⟨vk,r1,a1,c1,rfl,ea,rk,ra⟩:=ra;obtain⟨vg,r2,a2,c2,rfl,rfl,rg,ra⟩:=ra;obtain⟨vl,r3,a3,c3,rfl,rfl,rl,ra⟩:=ra;obtain⟨rfl,rfl⟩:=ra;obtain⟨rfl,rk2⟩:=RepL.pu (g':=true) rk pk;obtain⟨rfl,rg2⟩:=RepL.pu (g':=true) rg pg;obtain⟨l,ys,b3,rfl,ry,hl⟩:=rl;obtain⟨rfl,rfl⟩:=ry;rcases hl with⟨hl,rfl⟩|⟨q,_⟩
 rotate_left
 ·cases q
 have sf:z.own=[l]:=by unfold Sl.own;rw[zo,ea];rfl
 have ol:l∈j7 (some z::L):=by rw[jW,sf];exact ll9 _ X2
 have lr:l≠r:=λe=>h2 (e▸ol)
 have nd:=w.nd;rw [jW,sf,X7]at nd;have lo:l∉j7 L:=λq=>nd.2.2 l X2 l q rfl
 have lf:l∉jK L:=λq=>w.ds l ol (lr9 _ q)
 have nl:N l:=hN l (by rw[sf];exact X2);have kr:∀{as:List Addr},r∉as->Kp H (upd H r (.lst (xs++[z.v]))) as:=qjm h1;have main:∀f0,RepA K H true bs xs f0->(∀b∈f0,b≠r/\b≠l/\b∉j7 L/\A b)->Blk K N A (upd H r (.lst (xs++[z.v]))) L r (bs++[z.d]):=λf0 r0 n0=>by
  refine#[_,xV,h2',tm,.inr #[bs,k,g,[],xs,f0,t,vk,vg,l,[],[],by rw[zd],by rw[ev],r0.kp (kr λq=>(n0 r q).1 rfl),(kr (as:=[]) λq=>nomatch q).tupT sq,pk,pg,rk2.kp (kr λq=>nomatch q),rg2.kp (kr λq=>nomatch q),
   by rw[kj lr];exact hl,#[rfl,rfl],lr,lo,lf,nl,λb hb=>n0 b (by simpa using hb)]]
 rcases h4 with⟨rfl,rfl⟩|⟨b0,k',g',ws,x0,f0,t',vk',vg',l',ys,f1,rfl,rfl,r0,sq',pk',pg',rk',rg',ou,r1,n1,n2,n3,n4,n5⟩
 ·exact#[[],h1,rfl,kjj wt h1 h2' tm,main [] #[rfl,rfl] λb hb=>nomatch hb]
 ·refine#[_,h1,by rw[Xf,Xf,r0.len];rfl,kjj wt h1 h2' tm,main (f0++l'::f1) (RepA.snoc ?_ r0) λb hb=>?_]
  ·exact#[t',_,rfl,sq',vk',_,[],l'::f1,rfl,rfl,rk',vg',_,[],l'::f1,rfl,rfl,rg',.ref l',[],l'::f1,[],rfl,by simp,#[l',ys,f1,rfl,r1,.inl #[ou,rfl]],rfl,rfl]
  ·have ny:∀b,b∉j7 (some z::L)->b≠l/\b∉j7 L:=λb hb=>#[λe=>hb (e▸ol),λq=>hb (lr9 _ q)]
   rcases aA hb with hb|hb
   ·obtain⟨q1,_,q3,q4⟩:=n5 b (ll9 _ hb);exact#[q1,(ny b q3).1,(ny b q3).2,q4]
   ·rcases aD hb with rfl|hb
    ·exact#[n1,(ny b n2).1,(ny b n2).2,hA b n4]
    ·obtain⟨q1,_,q3,q4⟩:=n5 b (lr9 _ hb);exact#[q1,(ny b q3).1,(ny b q3).2,q4]
theorem Blk.slot(h:Blk K N A H L r bs)(w:World K H L)(hA:∀b,N b->A b):∃y:Sl,y.d=.lst bs/\y.v=.ref r/\(∀b∈y.as.tail,A b)/\y.as.head?=some r/\∀o,o=.rt\/o=.no->World K H (some {y with o:=o}::L):=by
 obtain⟨xs,h1,h2,h3,h4⟩:=h;have main:∀f0,RepA K H true bs xs f0->(∀b∈f0,b≠r/\b∉j7 L/\A b)->∃y:Sl,y.d=.lst bs/\y.v=.ref r/\(∀b∈y.as.tail,A b)/\y.as.head?=some r/\∀o,o=.rt\/o=.no->World K H (some {y with o:=o}::L):=λf0 r0 n0=>by
  refine#[#[.rt,.lst bs,.ref r,r::f0],rfl,rfl,λb hb=>(n0 b hb).2.2,rfl,λo ho=>?_];rcases ho with rfl|rfl
  ·refine w.cons #[r,xs,f0,rfl,r0,h1,rfl] (by simp[Sl.own]) (λa ha=>?_) (λa ha=>?_) (λa ha=>(n0 a (by simpa [Sl.frz]using ha)).2.1) λa ha z=>?_
   ·have:a=r:=by simpa [Sl.own]using ha
    exact this▸h2
   ·have:a=r:=by simpa [Sl.own]using ha
    exact this▸h3
   ·have:a=r:=by simpa [Sl.own]using ha
    exact(n0 a (by simpa [Sl.frz]using z)).1 this
  ·refine w.consNo (show RepL K H true _ _ _ from#[r,xs,f0,rfl,r0,.inl #[h1,rfl]]) rfl λa ha=>?_
   rcases aD ha with rfl|ha
   ·exact h2
   ·exact(n0 a ha).2.1
 rcases h4 with⟨rfl,rfl⟩|⟨b0,k',g',ws,x0,f0,t',vk',vg',l',ys,f1,rfl,rfl,r0,sq',pk',pg',rk',rg',ou,r1,n1,n2,n3,n4,n5⟩
 ·exact main [] #[rfl,rfl] λb hb=>nomatch hb
 ·refine main (f0++l'::f1) (RepA.snoc ?_ r0) λb hb=>?_
  ·exact#[t',_,rfl,sq',vk',_,[],l'::f1,rfl,rfl,rk',vg',_,[],l'::f1,rfl,rfl,rg',.ref l',[],l'::f1,[],rfl,by simp,#[l',ys,f1,rfl,r1,.inl #[ou,rfl]],rfl,rfl]
  ·rcases aA hb with hb|hb
   ·obtain⟨q1,_,q3,q4⟩:=n5 b (ll9 _ hb);exact#[q1,q3,q4]
   ·rcases aD hb with rfl|hb
    ·exact#[n1,n2,hA b n4]
    ·obtain⟨q1,_,q3,q4⟩:=n5 b (lr9 _ hb);exact#[q1,q3,q4]
end
theorem qv7{H H' L M a ob}(s:Step H L H' M)(hN:a∈j7 L\/H a=none):Step H L (upd H' a ob) M:=
 #[λb o e hn=>by
  have ne:b≠a:=λz=>by
   subst z;rcases hN with h|h
   ·exact hn h
   ·rw[h]at e;cases e
  rw[kj ne];exact s.keep b o e hn,s.own,s.frz]
theorem vwe{E:En}{i:Nat}{bs:List D}(hi:i<E.length):(tE (cF2 (pu2 fEq) (vE (cF1 (pu1 jx) (vV i))) (C9 0))) (E.set i (some (.no,.lst bs)))=some (.ok (E.set i (some (.no,.lst bs))) (((bs.length:Int)==0))):=by
 have e:vV i (E.set i (some (.no,.lst bs)))=some (.ok (E.set i (some (.no,.lst bs))) (.no,.lst bs)):=by
  unfold vV;rw[Y0 hi]
 have e2:(cF1 (pu1 jx) (vV i)) (E.set i (some (.no,.lst bs)))=some (.ok (E.set i (some (.no,.lst bs))) (.dp,.int bs.length)):=by
  unfold cF1;rw[e];rfl
 have e3:(vE (cF1 (pu1 jx) (vV i))) (E.set i (some (.no,.lst bs)))=some (.ok (E.set i (some (.no,.lst bs))) (.no,.int bs.length)):=by
  unfold vE;rw[e2];rfl
 unfold tE cF2;rw[e3];rfl
section
variable {X:Cx}{Z:Fx0}{pn:List Nat}{q qT qC qA:Bool}{tg bc te ce ne ne2 xo ae le ep we:Expr}{it:Ev (List D)}{T C:Ts}{c:Ex}{i w:Nat}{a1 c1 s1 a2 c2 s2 p1 p2 p3 p4 p5 pos:Pos}
set_option tactic.hygienic true in
theorem xjj(hp:PassesOwn (model X.prog X.w) X.A X.env X.xe)(hc:X.calm=true)(hi:QI X Z q tg it bc)(hg:QG X Z (i::pn) (.n w) tg)(hT:QT X Z qT T te)(hC:QT X Z qC C ce)(hN:QE X Z true (cC .non) ne)(ho:PE X xo (J4 i))(hA:QE X Z qA c ae)
  (hl:QT X Z true (tE (cF2 (pu2 fEq) (vE (cF1 (pu1 jx) (vV i))) (C9 0))) le) (hN2:QE X Z true (cC .non) ne2) (hP:PE X ep (tPZ Z.K i [.inl (-1),.inl 2])) (hW:PE X we (J4 w)) (hm:MtR X "list.append" kq5) (hK:autoParam (X.K=Z.K) Ŕ)
  (ow:autoParam (attributeBase xo "append" X.env (eval xo X.env)=eval xo X.env) Ŕ)
  (hf1:autoParam (((backTo c1 (starEach [ae] X.env)).all (λx=>!x.1)&&(backToKw c1 (keywordEach [] X.env)).all (λx=>x.1.isSome)
   && decide ([ae].length+([]:List Keyword).length+(if([]:List Keyword).isEmpty then 0 else 1)<30))=true) Ŕ)
  (va:autoParam (Abe a1 c1) Ŕ) (nw:autoParam (Abs ae [] X) Ŕ) (ql:autoParam (Abb c1 [] X) Ŕ)
  (hw1:autoParam (swapsWith (.Call (.Attribute xo "append" a1) [ae] [] c1) none s1.line X.env=pure false) Ŕ)
  (i7:autoParam (attributeBase ep "append" X.env (eval ep X.env)=eval ep X.env) Ŕ)
  (sx:autoParam (((backTo c2 (starEach [we] X.env)).all (λx=>!x.1)&&(backToKw c2 (keywordEach [] X.env)).all (λx=>x.1.isSome)
   && decide ([we].length+([]:List Keyword).length+(if([]:List Keyword).isEmpty then 0 else 1)<30))=true) Ŕ)
  (oj:autoParam (Abe a2 c2) Ŕ) (si:autoParam (Abs we [] X) Ŕ) (p6:autoParam (Abb c2 [] X) Ŕ)
  (hw2:autoParam (swapsWith (.Call (.Attribute ep "append" a2) [we] [] c2) none s2.line X.env=pure false) Ŕ)
  (hs:autoParam (∀x,foldedSetIterable bc X.env x=pure x) Ŗ):
  QS X Z pn (wqu i w it T C c) (.For tg bc [.If te [.If ce [.Return (some ne) p1] [] p2,.Expr (.Call (.Attribute xo "append" a1) [ae] [] c1) s1] [.If le [.Return (some ne2) p3] [.Expr (.Call (.Attribute ep "append" a2) [we] [] c2) s2] p4] p5] [] pos):=
 zJ (vxn hp hc hi hg (YZ (vvu hT (qvk (vvu hC (YZ (vja hN)) vj7) (YZ (WV (Zq Z.K Ye Yx Yy hm ho (kX hA v6 nw) ow hf1 va nw ql hK) hw1)))
  (YZ (vvu hl (YZ (vja hN2)) (YZ (WV (Zq Z.K Ye Yx Yy hm hP (kX hW v6 si) i7 sx oj si p6 hK) hw2)))))) hs) λDn σ H bb=>ex7 bb λE L r m w0 hr k=>by
 unfold wqu at hr
 split at hr
 rotate_left
 ·cases hr
 rename_i hE;obtain⟨y,y1,y2,y3,y4⟩:=m.get hE;obtain⟨wy,sy⟩:=qv0 w0 y1;obtain⟨r0,xs0,bs0,c1',c2',c3',c4',c5'⟩:=qk0 (w0.ok y (vZ y1)) y3 y2;obtain⟨rfl,rfl⟩:=c5';have yo:r0∈y.own:=by rw[c4'];exact X2
 have rL:r0∈j7 L:=mem_owned.mpr #[y,vZ y1,yo];have b0:Blk Z.K (λb=>b∈j7 L\/H b=none) (λb=>b∈jK L\/b∈j7 L\/H b=none) H (L.set i none) r0 []:=by
  refine#[[],c2',λh=>?_,λh=>wy.ds r0 (by rw[jW];exact ll9 _ yo) (lr9 _ h),.inl #[rfl,rfl]];have nd:=wy.nd;rw[jW,X7]at nd;exact nd.2.2 r0 yo r0 h rfl
 have st0:Step H L H (L.set i none):=sy.trans Step.drop;rcases XY hr with⟨E1,ds,h1,h2⟩|⟨E1,e,h1,rfl⟩
 rotate_left
 ·exact#[_,_,_,kx9 i m,wy.tail,h1,(k.step st0 Pn.refl).xc,λE' s' z=>by cases z]
 refine#[_,_,_,kx9 i m,wy.tail,h1,(λ_ _ z=>by cases z),λE' ds' z J Tt L' H' m' w' st hz _ wk=>?_];injection z with z1 z2;subst z1 z2;generalize hT0:Tt.map some=Tm at *;have ji:∀{H2 L2},World Z.K H2 (L2++Tm)->∀t∈Tt,t.ok Z.K H2:=λw2 t ht=>w2.ok t (lr9 _ (hT0▸Xw ht))
 refine#[λn cnt σ1 H1=>∃E1 L1 bs,Mt E1 σ1 L1/\World Z.K H1 (L1++Tm)/\Step H L H1 (L1++Tm)/\Pn (i::pn) σ σ1/\V3 i w T C c (ds.drop n) E1 bs=some r/\n<=ds.length/\cnt=ds.length - n/\Blk Z.K (λb=>b∈j7 L\/H b=none) (λb=>b∈jK L\/b∈j7 L\/H b=none) H1 (L1++Tm) r0 bs,
  #[_,E1,L',[],m',w',st0.trans st,Pn.refl,h2,Ys _,rfl,b0.step wy.tail st],?_]
 rintro n cnt σ1 H1 ⟨E1,L1,bs,m1,w1,st1,p1',f1,hn,rfl,b1⟩;have sg:∀{σ2},Pn (i::pn) σ σ2->σ2[i]?=some (some (.ref r0)):=λp=>by rw[p i X2,y4,c1']
 have pT:∀{σ2},Pn (i::pn) σ σ2->Pn pn σ σ2:=λp x hx=>p x (lc9 _ hx)
 by_cases dl:n<ds.length
 rotate_left
 ·have e:n=ds.length:=by omega
  subst e;rw[List.drop_length]at f1;unfold V3 at f1;cases oq9 f1;obtain⟨⟨zo,zd,zv,zs⟩,z1,z2,z3,z4,z5⟩:=b1.slot w1 λb hb=>.inr hb
  dsimp only at z1 z2 z3 z4 z5;subst z1 z2;have wl:World Z.K H1 (some #[.rt,.lst bs,.ref r0,zs]::L1):=World.left (L:=some #[.rt,.lst bs,.ref r0,zs]::L1) (T:=Tm) (z5 .rt (.inl rfl));obtain⟨tl,rfl⟩:∃tl,zs=r0::tl:=by
   cases zs with|nil=>cases z4|cons a tl=>exact#[tl,by rw[show a=r0 by simpa using z4]]
  have sl:Step H L H1 (some #[.rt,.lst bs,.ref r0,r0::tl]::L1):=#[st1.keep,λa ha=>by
   rw[jW]at ha;rcases aA ha with h|h
   ·have:a=r0:=by simpa [Sl.own]using h
    exact .inl (this▸rL)
   ·exact st1.own a (by rw[k9];exact ll9 _ h),λa ha=>by
   rw[ww]at ha;rcases aA ha with h|h
   ·exact z3 a (by simpa [Sl.frz]using h)
   ·exact st1.frz a (by rw[qQ];exact ll9 _ h)]
  have mm:=W8 (i:=i) (x:=#[.rt,.lst bs,.ref r0,r0::tl]) (s:=(.rt,.lst bs)) m1 rfl rfl;rw[V1 (sg p1')]at mm;exact .inl #[wk.stop H1 (ji w1),k _ _ _ (pT p1') mm wl.set (sl.trans Step.set)]
 have hd:ds.drop n=ds[n]::ds.drop (n+1):=List.drop_eq_getElem_cons dl;rw [hd]at f1;unfold V3 at f1;refine .inr #[wk.go n H1 (ji w1) dl,fun σ2 H2=>∃E2 L2 je,Mt E2 σ2 L2/\World Z.K H2 (L2++Tm)/\Step H L H2 (L2++Tm)/\Pn (i::pn) σ σ2/\V3 i w T C c (ds.drop (n+1)) E2 je=some r/\Blk Z.K (λb=>b∈j7 L\/H b=none) (λb=>b∈jK L\/b∈j7 L\/H b=none) H2 (L2++Tm) r0 je,
  fun σ2 H2 hz=>by obtain⟨E2,L2,je,g1,g2,g3,g4,g5,g6⟩:=hz;exact#[ds.length - (n+1),by omega,E2,L2,je,g1,g2,g3,g4,g5,dl,rfl,g6],λv H2 hy=>?_]
 obtain⟨z,zo,zd,zv,sm,qo,ui⟩:=wk.yld n H1 v H2 ds[n] (ji w1) hy (X3 dl);obtain⟨wz,sz⟩:World Z.K H2 ((some z::L1)++Tm)/\Step H1 (L1++Tm) H2 ((some z::L1)++Tm):=by
  subst hT0;exact kjo w1 wk.no sm qo zo ui
 have bz:=b1.step w1 sz;refine#[E1,L1,z,E1.set w (some (.no,ds[n])),m1,wz.left,zo,zv,by rw[zd];rfl,fun σ2 L2 q2 m2 w2 st2=>?_];obtain⟨w3,dy⟩:=stay wz st2 w2;have b3:=bz.step wz dy;have iz:=st1.trans (sz.trans dy);have pq:=p1'.trans q2
 split at f1
 ·
  rename_i E3 hTe;refine#[_,L2,_,m2,w2,hTe,(λ_ _ z=>by cases z),λE4 k4 e4 L4 H4 m4 w4 s4 _=>?_];injection e4 with e5 e6;subst e5 e6;obtain⟨w5,s5⟩:=stay w3 s4 w4;have b5:=b3.step w3 s5;have ka:=iz.trans s5;rw[X8 rfl]
  split at f1
  ·rename_i E6 hCe;cases oq9 f1;refine#[_,L4,_,m4,w4,hCe,(λ_ _ z=>by cases z),λE6 k6 e6 L6 H6 m6 w6 s6 _=>?_];injection e6 with e7 e8;subst e7 e8;obtain⟨w7,s7⟩:=stay w5 s6 w6;rw[X8 rfl];refine#[_,L6,_,m6,w6,rfl,(λ_ _ z=>by cases z),λE8 a e8 x L8 H8 x1 x2 m8 w8 s8 _=>?_];injection e8 with e9 e10;subst e9 e10;exact k x σ2 L8 H8 x1 x2 (pT pq) m8 w8 (((ka.trans s7).trans Step.dropT).trans s8)
  ·rename_i E6 hCe;refine#[_,L4,_,m4,w4,hCe,(λ_ _ z=>by cases z),λE6 k6 e6 L6 H6 m6 w6 s6 _=>?_];injection e6 with e7 e8;subst e7 e8;obtain⟨w7,s7⟩:=stay w5 s6 w6;have b7:=b5.step w5 s7;have st7:=ka.trans s7;rw[Xd ⋯]
   split at f1
   rotate_left
   ·cases f1
   rename_i E8 a b hce
   split at f1
   rotate_left
   ·cases f1
   rename_i hpu;obtain⟨pa,pb,mv⟩:=hpu;refine#[.ref r0,sg pq,?_,_,L6,_,m6,w6,hce,(λ_ _ z=>by cases z),λE9 a' e8 x L8 H8 x1 x2 m8 w8 s8 _=>?_]
   ·obtain⟨xs,h,_⟩:=b7;exact qz5 h
   injection e8 with e9 e10;subst e9 e10;obtain⟨w9,s9⟩:=stay w7 s8 w8;have b9:=b7.step w7 s9;have vp:=st7.trans s9;obtain⟨xs,h1,h2,w10,b10⟩:=Blk.more (L:=L8++Tm) b9 w9 x1 x2 pa pb (λb hb=>vp.own b (by rw[k9,jW];exact ll9 _ (ll9 _ hb))) λb hb=>.inr hb
   refine#[r0,xs,x.v,rfl,rfl,h1,by rw[h2];exact mv,E8,L8,_,m8,w10,qv7 (vp.trans Step.drop) (.inl rL),pq,f1,?_];rw[x2]at b10;exact b10
  ·cases f1
 ·rename_i E3 hTe;refine#[_,L2,_,m2,w2,hTe,(λ_ _ z=>by cases z),λE4 k4 e4 L4 H4 m4 w4 s4 _=>?_];injection e4 with e5 e6;subst e5 e6;obtain⟨w5,s5⟩:=stay w3 s4 w4;have b5:=b3.step w3 s5;have ka:=iz.trans s5;rw[Xd ⋯];obtain⟨⟨zo',zd',zv',zs⟩,z1,z2,z3,z4,z5⟩:=b5.slot w5 λb hb=>.inr hb
  dsimp only at z1 z2 z3 z4 z5;subst z1 z2;have wl:World Z.K H4 (some #[.no,.lst bs,.ref r0,zs]::L4):=World.left (L:=some #[.no,.lst bs,.ref r0,zs]::L4) (T:=Tm) (z5 .no (.inr rfl));have mm:=W8 (i:=i) (x:=#[.no,.lst bs,.ref r0,zs]) (s:=(.no,.lst bs)) m4 rfl rfl;rw[V1 (sg pq)]at mm;have iE:i<E3.length:=by
   rw[(m4.len).1];exact(List.getElem?_eq_some_iff.mp (sg pq)).1
  refine#[_,_,_,mm,wl.set,vwe iE,(λ_ _ z=>by cases z),λE6 k6 e6 L6 H6 m6 w6 s6 qt=>?_];injection e6 with e7 e8;subst e7 e8;have qt:=qt rfl;have w7:World Z.K H6 (L4++Tm):=#[λx hx=>RepO.kp (w5.ok x hx) (Kp.of_same qt),w5.nd,w5.ds];have s7:Step H4 (L4++Tm) H6 (L4++Tm):=#[λa ob e _=>qt a ob e,λ_ h=>.inl h,λ_ h=>.inl h];have b7:=b5.step w5 s7;have st7:=ka.trans s7
  by_cases t8:bs=[]
  ·subst t8;rw[X8 rfl]at f1;cases oq9 f1;rw[X8 (show((([]:List D).length:Int)==0)=true from rfl)];refine#[_,L4,_,m4,w7.left,rfl,(λ_ _ z=>by cases z),λE8 a e8 x L8 H8 x1 x2 m8 w8 s8 _=>?_];injection e8 with e9 e10;subst e9 e10;exact k x σ2 L8 H8 x1 x2 (pT pq) m8 w8 ((st7.trans Step.dropT).trans s8)
  rw[Xd t8]at f1;rw[Xd (by
   intro h;have:(bs.length:Int)=0:=beq_iff_eq.mp h;exact t8 (List.length_eq_zero_iff.mp (by omega)))]
  split at f1
  rotate_left
  ·cases f1
  rename_i a b ws hlast
  split at f1
  rotate_left
  ·cases f1
  rename_i o x hwx
  split at f1
  rotate_left
  ·cases f1
  rename_i qp;obtain⟨yw,v1,v2,v3,v4⟩:=m4.get hwx;have hbs2:bs=bs.dropLast++[.tup [a,b,.lst ws]]:=by
   obtain⟨l,rfl⟩:=List.getLast?_eq_some_iff.mp hlast;simp
  have w8:World Z.K H6 (L4.set w (some yw.let)):=(w7.left.read v1).tail;have s8:Step H6 L4 H6 (L4.set w (some yw.let)):=(Step.read v1).trans Step.drop;obtain⟨w9,s9⟩:=stay w7 s8 w8;have b9:=b7.step w7 s9;have vp:=st7.trans s9;rw[hbs2]at b9;have mw:=m4.let v1
  rw[v3]at mw;obtain⟨l,ys,l1,l2,l3,l4,l5,l6⟩:=b9.last w9;have wlt:w<L4.length:=(List.getElem?_eq_some_iff.mp v1).1;have hyl:some yw.let∈L4.set w (some yw.let)++Tm:=ll9 _ (Ya (i:=w) (by rw[Y0 wlt]))
  have i':∀b∈yw.as,b∈jK (L4.set w (some yw.let)++Tm):=λb hb=>mem_frozen.mpr #[yw.let,hyl,by rw[(qvr yw).2.1];exact hb]
  obtain⟨w10,b10⟩:=l6 x yw.v yw.as (v3▸RepO.wk (w9.ok yw.let hyl)) λb hb=>#[i' b hb,vp.frz b (i' b hb)]
  exact#[[-1,2],.ref r0,.ref l,#[[2],rfl,#[[],rfl,rfl]],sg pq,l5,qz5 l3,yw.v,v4,l,ys,yw.v,rfl,rfl,l3,by rw[l4];exact qp,_,_,_,mw,w10,qv7 vp l2,pq,f1,b10]
 ·cases f1
end
end Q
namespace Q
open PySem
theorem wwr n (h:300<=n):10 ^ 70<2 ^ n:=Xp (show 10 ^ 70<2 ^ 240 by decide) (Nat.pow_le_pow_right ⋯ ⋯)
theorem mul_l{o1 o2 a b}(h1:-18446744073709551616<a)(h2:a<18446744073709551616):wxi (o1,.int a) (o2,.int b)=some (.dp,.int (a*b)):=by
 have:qxa a b=true:=by
  have:qzp a=true:=by unfold qzp;rw[X5 (show -_<a by lia),X5 (show a<2 ^ 64 by lia)];rfl
  unfold qxa;rw[this];rfl
 show(if qxa a b=true then _ else _)=_;rw[X8 this]
theorem add_i{o1 o2:Own}{a b:Int}:jZ (o1,.int a) (o2,.int b)=some (.dp,.int (a+b)):=rfl
theorem div_i{a b}(h:0<b)(h2:b<10 ^ 70):vX (.int a) (.int b)=some (.int (a / b)):=by
 have hb:b.natAbs.log2<9000:=by
  exact(Nat.log2_lt ⋯).mpr (Nat.lt_trans (show b.natAbs<10 ^ 70 by lia) (wwr 9000 (by simp)))
 show(if 0<b/\b.natAbs.log2<9000 then some _ else none).map _=_;rw[X8 #[h,hb]];rfl
theorem mod_i{a b}(h:0<b):jQ (.int a) (.int b)=some (.int (a % b)):=by
 show(if 0<b then some _ else none).map _=_;rw[X8 h];rfl
theorem wv{a b}:fEq (.int a) (.int b)=some (.bl (a==b)):=rfl
theorem wxj{a b:Str}:fEq (.str a) (.str b)=some (.bl (a==b)):=rfl
theorem lt_ii{a b}:fLt (.int a) (.int b)=some (.bl (decide (a<b))):=rfl
theorem gt_ii{a b:Int}:fGt (.int a) (.int b)=some (.bl (decide (b<a))):=rfl
theorem le_ii{a b}:fLe (.int a) (.int b)=some (.bl (decide (a<=b))):=rfl
theorem ge_ii{a b:Int}:fGe (.int a) (.int b)=some (.bl (decide (b<=a))):=rfl
theorem kQ{xs i d}(h0:0<=i)(h:xs[i.toNat]?=some d):jw (.lst xs) (.int i)=some d:=by
 show((ixN xs.length i).bind λj=>xs[j]?)=some d;have hl:=(List.getElem?_eq_some_iff.mp h).1;unfold ixN
 rwa [X8 h0,X8 ⋯]
theorem len_l{xs:List D}:jx (.lst xs)=some (.int xs.length):=rfl
theorem len_t{xs:List D}:jx (.tup xs)=some (.int xs.length):=rfl
theorem vqn{o1 o2 a b}(h1:o1≠.dp)(h2:o2≠.dp)(hl:a.length+b.length<10000):jZ (o1,.lst a) (o2,.lst b)=some (.rt,.lst (a++b)):=by
 show(if a.length+b.length<=big/\vz _/\vz _ then _ else _)=_;rw[X8 #[by unfold big;lia,by cases o1<;>simp_all [vz],by cases o2<;>simp_all [vz]]]
theorem vzg{o xs}(h:o≠.dp):Vv (o,.lst xs)=some (.no,.tup xs):=by
 show(if vz _ then _ else _)=_;rw[X8 (by cases o<;>simp_all [vz])]
abbrev XP:=Str->Prop
theorem nd{α}{a b:α}(h:a=b):a=b:=h
@[irreducible] noncomputable def Eo {α:Type} (m:Option (Res α)) (P:En->α->Prop) (X:XP):Prop:=match m with
 |some (.ok E a)=>P E a|some (.exc _ c)=>X c|none=>False
@[irreducible] noncomputable def Vo {α:Type} (m:Option α) (P:α->Prop):Prop:=match m with
 |some a=>P a|none=>False
@[irreducible] noncomputable def Oo (f:Fn) (xs:List Sd) (P:Sd->Prop) (X:XP):Prop:=match f xs with
 |some (.ok _ y)=>P y|some (.exc _ c)=>X c|none=>False
@[irreducible] noncomputable def Po (r:Option Fl) (N C:En->Prop) (R:Sd->Prop) (X:XP):Prop:=match r with
 |some (.nx E)=>N E|some (.ct E)=>C E|some (.rt _ x)=>R x|some (.xc _ c)=>X c|_=>False
abbrev noX:XP:=λ_=>False
section
variable {α β:Type}{P:En->α->Prop}{X:XP}{N C:En->Prop}{R:Sd->Prop}{E:En}
theorem Wv{a}:Eo (some (.ok E a)) P X=P E a:=nd (by ac_rfl)
theorem kw{m}{f:En->β->Option _}:Eo (bnd m f) P X=Eo m (λE a=>Eo (f E a) P X) X:=by
 cases m with|none=>ac_rfl|some r=>cases r<;>ac_rfl
theorem vo_some{a}{P:α->Prop}:Vo (some a) P=P a:=nd (by ac_rfl)
theorem vo_map{x}{f:β->α}{P}:Vo (x.map f) P=Vo x (λa=>P (f a)):=by cases x<;>ac_rfl
theorem K7{x}:Eo (val E x) P X=Vo x (P E):=by cases x<;>ac_rfl
theorem wje{E}:Po (some (.nx E)) N C R X=N E:=nd (by ac_rfl)
theorem wvx{E:En}{x:Sd}:Po (some (.rt E x)) N C R X=R x:=nd (by ac_rfl)
theorem J1{m}{f:En->α->Option Fl}:Po (ofE m f) N C R X=Eo m (λE a=>Po (f E a) N C R X) X:=by
 cases m with|none=>ac_rfl|some r=>cases r<;>ac_rfl
theorem wvw{a b}:Po (j6 a b E) N C R X=Po (a E) (λE=>Po (b E) N C R X) C R X:=by
 unfold j6 Po;cases a E with|none=>ac_rfl|some r=>cases r<;>ac_rfl
theorem Eo.mono{m P'}(h:Eo m P X)(k:∀E a,P E a->P' E a):Eo m P' X:=by
 cases m with
 |none=>exists h
 |some r=>cases r with|ok E a=>exists k E a h|exc E c=>exists h
theorem Oo.mono{f xs P P'}(h:Oo f xs P X)(k:∀y,P y->P' y):Oo f xs P' X:=by
 unfold Oo at h ⊢;cases hf:f xs with
 |none=>simp_all
 |some r=>rw[hf]at h;cases r with|ok E a=>exists k a h|exc E c=>simp_all
theorem Oo.out{f xs P}(h:Oo f xs P noX):∃E y,f xs=some (.ok E y)/\P y:=by
 unfold Oo at h;cases hf:f xs with
 |none=>simp_all
 |some r=>rw[hf]at h;cases r with|ok E a=>with_unfolding_all exact#[E,a,rfl,h]|exc E c=>exists (h).elim
theorem kz{n b xs P}(h:Po (b (xs.map some++List.replicate (n - xs.length) none)) (λ_=>P (.dp,.non)) (λ_=>False) P X):Oo (fn n b) xs P X:=by
 unfold Oo fn;unfold Po at h;cases hb:b _ with|none=>simp_all|some r=>rw[hb]at h;cases r<;>exists h
theorem wki{f cs P}:Eo (jq f cs E) P X=Eo (vJ cs E) (λE xs=>Oo f (letAll xs) (P E) X) X:=by
 unfold jq;rw[kw]
 congr 1
 funext E xs;unfold Oo;cases f _ with|none=>ac_rfl|some r=>cases r<;>ac_rfl
theorem vwp{f:Fn}{cs:List Ex}{P:En->Sd->Prop}:Eo (qk3 f cs E) P X=Eo (vJ cs E) (λE xs=>Oo f (letAll xs) (λy=>y.2.pure=true/\P E (.dp,y.2)) X) X:=by
 unfold qk3;rw[kw]
 congr 1
 funext E xs;unfold Oo;cases f _ with
 | none=>ac_rfl
 | some r=>
  cases r with
  |exc=>ac_rfl
  |ok E1 y=>
   dsimp only
   by_cases hp:y.2.pure=true
   ·rw[X8 hp];with_unfolding_all exact propext #[λh=>#[hp,h],λh=>h.2]
   ·rw[Xd hp];with_unfolding_all exact propext #[λh=>(h).elim,λh=>hp h.1]
noncomputable def wzu(d:D){α:Type}(a b:Option α):Option α:=match d with
 |.bl k=>if k=true then a else b|_=>none
theorem wkq(a b:Ex):x6 a b E=bnd (a E) λE x=>wzu x.2 (b E) (some (.ok E (.dp,.bl false))):=by
 unfold x6 wzu
 congr 1
 funext E x;cases x.2 with|bl k=>cases k<;>ac_rfl|_=>ac_rfl
theorem wxt(a b:Ex):cOr a b E=bnd (a E) λE x=>wzu x.2 (some (.ok E (.dp,.bl true))) (b E):=by
 unfold cOr wzu
 congr 1
 funext E x;cases x.2 with|bl k=>cases k<;>ac_rfl|_=>ac_rfl
theorem qkw{tg b}(I:En->List D->Prop)(hs:∀E d ds,I E (d::ds)->Vo (tg.put d E) λE1=>Po (b E1) (λE2=>I E2 ds) (λE2=>I E2 ds) R X)(h1:∀E,I E []->N E):∀ds E,I E ds->Po (QZ tg b ds E) N C R X
 | [],E,h=>by exists h1 E h
 | d::ds,E,h=>by
  have h2:=hs E d ds h;unfold QZ;cases hp:tg.put d E with
  | none=>rw[hp]at h2;exists (h2).elim
  | some E1=>
   rw[hp]at h2;have h2:Po (b E1) (λE2=>I E2 ds) (λE2=>I E2 ds) R X:=by exists h2
   dsimp only;cases hb:b E1 with
   |none=>rw[hb]at h2;exists (h2).elim
   |some r=>
    rw[hb]at h2;cases r with|nx E2=>exists qkw I hs h1 ds E2 h2|ct E2=>exists qkw I hs h1 ds E2 h2|rt E2 x=>exists h2|xc E2 c=>exists h2|bk E2=>exists (h2).elim
theorem V9{it tg}{b} I (h0:Eo (it E) I X)(hs:∀E d ds,I E (d::ds)->Vo (tg.put d E) λE1=>Po (b E1) (λE2=>I E2 ds) (λE2=>I E2 ds) R X)(h1:∀E,I E []->N E):Po (z7 it tg b E) N C R X:=by
 show Po (ofE _ λE ds=>QZ tg b ds E) N C R X;rw[J1]
 exists h0.mono λE ds h=>qkw I hs h1 ds E h
theorem vkz{tg t c P}(J:En->List D->List Sd->Prop)(hs:∀B d ds acc,J B (d::ds) acc->Vo (tg.put d B) λB1=>Eo (t B1) (λB2 k=>if k=true then Eo (c B2) (λB3 y=>J B3 ds (acc++[y])) X else J B2 ds acc) X)(h1:∀B acc,J B [] acc->P B acc):∀ds B acc,J B ds acc->Eo (lcL tg t c ds B acc) P X
 | [],B,acc,h=>by exists h1 B acc h
 | d::ds,B,acc,h=>by
  have h2:=hs B d ds acc h;unfold lcL;cases hp:tg.put d B with
  | none=>rw[hp]at h2;exists (h2).elim
  | some B1=>
   rw[hp]at h2;have h2:Eo (t B1) (λB2 k=>if k=true then Eo (c B2) (λB3 y=>J B3 ds (acc++[y])) X else J B2 ds acc) X:=by exists h2
   rw[kw];refine h2.mono λB2 k h3=>?_
   cases k with
   |false=>exists vkz J hs h1 ds B2 acc h3
   |true=>
    show Eo (bnd _ _) P X;rw[kw]
    exists Eo.mono h3 λB3 y h4=>vkz J hs h1 ds B3 _ h4
theorem vwo{o k r it tg t c P}(J:En->En->List D->List Sd->Prop)(h0:Eo (it E) (λE1 ds=>J E1 (wq3 k r E1) ds []) X)
  (hs:∀E1 B d ds acc,J E1 B (d::ds) acc->Vo (tg.put d B) λB1=>Eo (t B1) (λB2 k=>if k=true then Eo (c B2) (λB3 y=>J E1 B3 ds (acc++[y])) X else J E1 B2 ds acc) X) (h1:∀E1 B acc,J E1 B [] acc->Eo (mkL o (XJ k r B E1) acc) P X):Eo (cLC o k r it tg t c E) P X:=by
 unfold cLC;rw[kw];refine h0.mono λE1 ds hJ=>?_
 have:=vkz _ (hs E1) (h1 E1) ds _ _ hJ;cases hl:lcL tg t c ds _ []with|none=>rw[hl]at this;exists (this).elim|some q=>rw[hl]at this;cases q<;>exists this
end
theorem mulT_i{o1 a y}:Jw (o1,.int a) y=wxi (o1,.int a) y:=by
 unfold Jw;ac_rfl
noncomputable def sl(q:Option (Option Sd)):Option Sd:=match q with
 |some (some x)=>some x|_=>none
theorem sl_some{x}:sl (some (some x))=some x:=nd (by ac_rfl)
noncomputable def wzt(d:D)(a b:Prop):Prop:=match d with
 |.bl k=>if k=true then a else b|_=>False
theorem andP_bl{k a b}:wzt (.bl k) a b=if k=true then a else b:=nd (by ac_rfl)
noncomputable def Wo{α:Type}(m:Option α)(E:En)(P:En->α->Prop):Prop:=Vo m (P E)
theorem wo_some{α a E}{P:En->α->Prop}:Wo (some a) E P=P E a:=vo_some
theorem wo_map{α β x}{f:β->α}{E P}:Wo (x.map f) E P=Wo x E (λE a=>P E (f a)):=vo_map
noncomputable def Oe(f:Fn)(xs:List Sd)(E:En)(P:En->Sd->Prop)(X:XP):Prop:=Oo f xs (P E) X
noncomputable def intP(d:D)(P:Int->Prop):Prop:=match d with
 |.int i=>P i|_=>False
def Ie(d:D)(E:En)(P:En->Int->Prop):Prop:=intP d (P E)
theorem ie_i{i E P}:Ie (.int i) E P=P E i:=nd (by ac_rfl)
section
variable {P:En->Sd->Prop}{T:En->Bool->Prop}{X:XP}{N C:En->Prop}{R:Sd->Prop}{E:En}{e:Option Sd}{a b c:Ex}{t u:Ts}{i:Nat}
theorem w_seq{a b}:Po (j6 a b (e::E)) N C R X=Po (a (e::E)) (λE=>Po (b E) N C R X) C R X:=wvw
theorem w_asg:Po (jz i c (e::E)) N C R X=Eo (c (e::E)) (λE x=>N (E.set i (some x))) X:=by unfold jz;rw[J1];ac_rfl
theorem w_expr:Po (W0 c (e::E)) N C R X=Eo (c (e::E)) (λE _=>N E) X:=by unfold W0;rw[J1];ac_rfl
theorem w_ret:Po (jv c (e::E)) N C R X=Eo (c (e::E)) (λ_ x=>R x) X:=by unfold jv;rw[J1];ac_rfl
theorem w_pass:Po (k7 (e::E)) N C R X=N (e::E):=nd (by ac_rfl)
theorem w_if{a b}:Po (sIf t a b (e::E)) N C R X=Eo (t (e::E)) (λE k=>if k=true then Po (a E) N C R X else Po (b E) N C R X) X:=by
 unfold sIf;rw[J1];congr 1;funext E k;cases k<;>ac_rfl
theorem w_fz{s:Sm}:Po (sFz i s (e::E)) N C R X=Po (s (qxg i (e::E))) N C R X:=nd (by ac_rfl)
theorem w_vV:Eo (vV i (e::E)) P X=Wo (sl (e::E)[i]?) (e::E) P:=by
 unfold vV Wo;cases(e::E)[i]? with|none=>ac_rfl|some q=>cases q<;>ac_rfl
theorem w_cV:Eo (cV i (e::E)) P X=Wo (sl (e::E)[i]?) (e::E) (λE x=>P (E.set i (some (.no,x.2))) (.no,x.2)):=by
 unfold cV Wo;cases(e::E)[i]? with|none=>ac_rfl|some q=>cases q<;>ac_rfl
theorem w_cMv:Eo (cMv i (e::E)) P X=Wo (sl (e::E)[i]?) (e::E) (λE x=>P (E.set i none) x):=by
 unfold cMv Wo;cases(e::E)[i]? with|none=>ac_rfl|some q=>cases q<;>ac_rfl
theorem w_cC{d}:Eo (cC d (e::E)) P X=P (e::E) (.dp,d):=nd (by ac_rfl)
theorem w_vE:Eo (vE c (e::E)) P X=Eo (c (e::E)) (λE x=>P E (.no,x.2)) X:=by unfold vE;rw[kw];ac_rfl
theorem w_cH:Eo (cH c (e::E)) P X=Eo (c (e::E)) (λE x=>if x.1=.no then P E (.no,x.2)else if x.2.pure=true then P E (.dp,x.2)else False) X:=by
 unfold cH;rw[kw]
 congr 1
 funext E x
 by_cases h:x.1=.no
 ·rw[X8 h,X8 h];ac_rfl
 ·rw[Xd h,Xd h]
  by_cases h2:x.2.pure=true
  ·rw[X8 h2,X8 h2];ac_rfl
  ·rw[Xd h2,Xd h2];ac_rfl
theorem w_f1{f}:Eo (cF1 f a (e::E)) P X=Eo (a (e::E)) (λE x=>Wo (f x) E P) X:=by
 unfold cF1;rw[kw];congr 1;funext E x;exact K7
theorem w_f2{f}:Eo (cF2 f a b (e::E)) P X=Eo (a (e::E)) (λE x=>Eo (b E) (λE y=>Wo (f x y) E P) X) X:=by
 unfold cF2;rw[kw];congr 1;funext E x;rw[kw];congr 1;funext E y;exact K7
theorem w_ix:Eo (j8 a b (e::E)) P X=Eo (a (e::E)) (λE x=>Eo (b E) (λE y=>Wo (jw x.2 y.2) E (λE d=>P E (sub x.1,d))) X) X:=by
 unfold j8;rw[kw];congr 1;funext E x;rw[kw];congr 1;funext E y;rw[K7];exact vo_map
theorem w_tE:Eo (tE c (e::E)) T X=Eo (c (e::E)) (λE x=>Wo (truth x.2) E T) X:=by
 unfold tE;rw[kw];congr 1;funext E x;exact K7
theorem w_tEQ:Eo (tEQ c (e::E)) T X=Eo (c (e::E)) (λE x=>Wo (truthQ x.2) E T) X:=by
 unfold tEQ;rw[kw];congr 1;funext E x;exact K7
theorem w_tNot:Eo (tNot t (e::E)) T X=Eo (t (e::E)) (λE k=>T E (!k)) X:=by unfold tNot;rw[kw];ac_rfl
theorem w_tAnd:Eo (tAnd t u (e::E)) T X=Eo (t (e::E)) (λE k=>if k=true then Eo (u E) T X else T E false) X:=by
 unfold tAnd;rw[kw];congr 1;funext E k;cases k<;>ac_rfl
theorem w_tOr:Eo (tOr t u (e::E)) T X=Eo (t (e::E)) (λE k=>if k=true then T E true else Eo (u E) T X) X:=by
 unfold tOr;rw[kw];congr 1;funext E k;cases k<;>ac_rfl
theorem w_tYes:Eo (tYes (e::E)) T X=T (e::E) true:=nd (by ac_rfl)
theorem w_cIf:Eo (cIf t a b (e::E)) P X=Eo (t (e::E)) (λE k=>if k=true then Eo (a E) P X else Eo (b E) P X) X:=by
 unfold cIf;rw[kw];congr 1;funext E k;cases k<;>ac_rfl
theorem w_cAnd:Eo (x6 a b (e::E)) P X=Eo (a (e::E)) (λE x=>wzt x.2 (Eo (b E) P X) (P E (.dp,.bl false))) X:=by
 rw[wkq,kw];congr 1;funext E x;cases x.2 with|bl k=>cases k<;>ac_rfl|_=>ac_rfl
theorem w_cOr:Eo (cOr a b (e::E)) P X=Eo (a (e::E)) (λE x=>wzt x.2 (P E (.dp,.bl true)) (Eo (b E) P X)) X:=by
 rw[wxt,kw];congr 1;funext E x;cases x.2 with|bl k=>cases k<;>ac_rfl|_=>ac_rfl
theorem w_cNotQ:Eo (Zw c (e::E)) P X=Eo (c (e::E)) (λE x=>Wo (truthQ x.2) E (λE k=>P E (.dp,.bl (!k)))) X:=by
 unfold Zw;rw[kw];congr 1;funext E x;rw[K7];exact vo_map
theorem w_call{f cs}:Eo (jq f cs (e::E)) P X=Eo (vJ cs (e::E)) (λE xs=>Oe f (letAll xs) E P X) X:=by exists wki
theorem w_callB{f:Fn}{cs:List Ex}:Eo (qk3 f cs (e::E)) P X=Eo (vJ cs (e::E)) (λE xs=>Oe f (letAll xs) E (λE y=>y.2.pure=true/\P E (.dp,y.2)) X) X:=by exists vwp
theorem w_partN{P}:Eo (Zk none (e::E)) P X=P (e::E) none:=nd (by ac_rfl)
theorem w_partS{P}:Eo (Zk (some c) (e::E)) P X=Eo (c (e::E)) (λE x=>Ie x.2 E (λE i=>P E (some i))) X:=by
 show Eo (bnd _ _) P X=_;rw[kw];congr 1;funext E x;cases x.2<;>ac_rfl
theorem w_sl{lo hi}:Eo (cSl a lo hi (e::E)) P X=Eo (a (e::E)) (λE x=>Eo (Zk lo E) (λE l=>Eo (Zk hi E) (λE h=>Wo (fSl x l h) E P) X) X) X:=by
 unfold cSl;rw[kw];congr 1;funext E x;rw[kw];congr 1;funext E l;rw[kw];congr 1;funext E h;exact K7
theorem w_itS{P}:Eo (itS c (e::E)) P X=Eo (c (e::E)) (λE x=>Wo (seqOf x.2) E P) X:=by
 unfold itS;rw[kw]
 congr 1
 funext E x;exact K7
end
theorem args_nil{e}{E:En}{P X}:Eo (vJ [] (e::E)) P X=P (e::E) []:=nd (by ac_rfl)
theorem args_cons{e}{E:En}{c cs P X}:Eo (vJ (c::cs) (e::E)) P X=Eo (c (e::E)) (λE x=>Eo (vJ cs E) (λE xs=>P E (x::xs)) X) X:=by
 show Eo (bnd _ λE x=>bnd _ λE xs=>some _) P X=_;rw[kw]
 congr 1
 funext E x;rw[kw]
 ac_rfl
theorem eo_tup{e}{E:En}{cs P X}:Eo (vj .no cs (e::E)) P X=Eo (vJ cs (e::E)) (λE xs=>P E (.no,.tup (xs.map (·.2)))) X:=by
 unfold vj;rw[kw]
 ac_rfl
theorem eo_lst{e}{E:En}{cs P X}:Eo (qw .rt cs (e::E)) P X=Eo (vJ cs (e::E)) (λE xs=>P E (.rt,.lst (xs.map (·.2)))) X:=by
 unfold qw;rw[kw]
 ac_rfl
theorem Q3{c E P X}(h:Eo (c E) (λE x=>∃n,x.2=.int n/\n<=1000/\-1000<=n/\P E (qv 0 n)) X):Eo (wx c E) P X:=by
 unfold wx;rw[kw];refine h.mono ?_;rintro E ⟨o,d⟩ ⟨n,rfl,h1,h2,h3⟩;have:Jk n=true:=by unfold Jk;rw[X5 ⋯,X5 ⋯];ac_rfl
 show Eo (if Jk n=true/\n.toNat<=big then _ else _) P X;rw[X8 #[this,by unfold big;lia]]
 exists h3
theorem vz7{i:Nat}{c}{E:En}{o xs N C R X}(h0:E[i]?=some (some (o,.lst xs)))
  (h:Eo (c E) (λE1 x=>∃o ys,E1[i]?=some (some (o,.lst ys))/\o≠.no/\ys.length<10000/\N (E1.set i (some (if o=.dp/\vK x then .dp else .rt,.lst (ys++[x.2]))))) X):Po (wq xj i c E) N C R X:=by
 unfold wq;rw[h0,X8 (show isLst _=true from rfl),J1];refine h.mono ?_;rintro E1 x ⟨o,ys,h1,h2,h3,h4⟩;rw[h1];dsimp only;have hg:xj ys x.2=some (ys++[x.2]):=by unfold xj;rw[X8 (by unfold big;lia)]
 rw[Xd h2,hg]
 exists h4
theorem XZ{i:Nat}{c}{E:En}{xs N C R X}(h0:E[i]?=some (some (.rt,.lst xs)))
  (h:Eo (c E) (λE1 x=>∃ys,E1[i]?=some (some (.rt,.lst ys))/\ys.length<10000/\N (E1.set i (some (.rt,.lst (ys++[x.2]))))) X):Po (wq xj i c E) N C R X:=
 vz7 h0 (h.mono λE1 x hz=>by obtain⟨ys,h1,h2,h3⟩:=hz;exact#[.rt,ys,h1,⋯,h2,by rw[];exists h3])
theorem rng_ok{n}(h1:-1000<=n)(h2:n<=1000):(Jk n=true/\n.toNat<=big)=True:=by
 have:Jk n=true:=by unfold Jk;rw[X5 ⋯,X5 ⋯];ac_rfl
 with_unfolding_all exact eq_true #[this,by unfold big;lia]
theorem kxm{α p}[Decidable p]{a}{P:En->α->Prop}{X}:Eo (if p then a else none) P X=(p/\Eo a P X):=by
 by_cases h:p
 ·simp_all
 ·rw[Xd h];with_unfolding_all exact propext #[λz=>z.elim,λz=>h z.1]
theorem w_R1{c e}{E:En}{P X}:Eo (wx c (e::E)) P X=Eo (c (e::E)) (λE x=>Ie x.2 E λE n=>(Jk n=true/\n.toNat<=big)/\P E (qv 0 n)) X:=by
 unfold wx;rw[kw];congr 1;funext E x;cases x.2 with|int n=>exists kxm|_=>ac_rfl
theorem vjn{i:Nat}{j c:Ex}{E:En}{xs:List D}{N C:En->Prop}{R:Sd->Prop}{X:XP}(h0:E[i]?=some (some (.dp,.lst xs)))
  (h:Eo (j E) (λE1 y=>∃(n:Int) (ys:List D),y.2=.int n/\0<=n/\E1[i]?=some (some (.dp,.lst xs))/\xs[n.toNat]?=some (.lst ys)/\ys.length<10000/\Eo (c E1) (λE2 x=>E2[i]?=some (some (.dp,.lst xs))/\vK x=true/\N (E2.set i (some (.dp,.lst (xs.set n.toNat (.lst (ys++[x.2]))))))) X) X):Po (Vk i j c E) N C R X:=by
 unfold Vk;rw[h0,X8 (show xk8 _=true from rfl),J1];refine h.mono ?_;rintro E1 ⟨o,d⟩ ⟨n,ys,rfl,hn,h1,h2,h3,h4⟩;have hl:=(List.getElem?_eq_some_iff.mp h2).1;have hx:ixN xs.length n=some n.toNat:=by unfold ixN;rw[X8 hn,X8 ⋯]
 rw[h1];dsimp only;rw[hx];dsimp only;rw[h2];rw[J1];refine h4.mono ?_;rintro E2 x ⟨g1,g2,g3⟩;rw[g1];dsimp only;rw[h2];dsimp only;rw[X8 #[g2,by unfold big;lia]]
 exists g3
theorem lst_dp0{e:Option Sd}{E:En}{P:En->Sd->Prop}{X:XP}:Eo (qw .dp [] (e::E)) P X=P (e::E) (.dp,.lst []):=nd (by ac_rfl)
theorem wwq{E:En}{ys:List Sd}{P:En->Sd->Prop}{X:XP}(h:ys.all vK=true):Eo (mkL .dp E ys) P X=P E (.dp,.lst (ys.map (·.2))):=by
 unfold mkL;rw[X8 h];ac_rfl
theorem qwu{o:Own}{xs:List D}{lo hi:Option Int}(h:o≠.dp):fSl (o,.lst xs) lo hi=some (.rt,.lst (K3 xs lo hi)):=by
 show(if vz _ then _ else _)=_;rw[X8 (by cases o<;>simp_all [vz])]
theorem xke{i:Nat}{E:En}{o:Own}{d:D}(h:E[i]?=some (some (o,d))):qxg i E=E.set i (some (.no,d)):=by unfold qxg;rw[h]
theorem sub_no:sub .no=.no:=nd (by ac_rfl)
theorem sub_rt:sub .rt=.no:=nd (by ac_rfl)
theorem sub_dp:sub .dp=.dp:=nd (by ac_rfl)
theorem Oo.use{ι f xs}{g:ι->Sd}{S:ι->Prop}{E P X}(h:Oo f xs (λy=>∃i,y=g i/\S i) X)(k:∀i,S i->P E (g i)):Oe f xs E P X:=h.mono λy hz=>by obtain⟨i,e,s⟩:=hz;exact e▸k i s
theorem Oo.via{f xs S E P X}(h:Oo f xs S X)(k:∀y,S y->P E y):Oe f xs E P X:=h.mono k
theorem qV{E ys P X}:Eo (mkL .rt E ys) P X=P E (.rt,.lst (ys.map (·.2))):=nd (by ac_rfl)
theorem wvv{i:Nat}{c:Ex}{E:En}{o:Own}{xs:List D}{P:En->Sd->Prop}{X:XP}(h0:E[i]?=some (some (o,.lst xs)))
  (h:Eo (c E) (λE1 x=>∃(o:Own) (ys:List D) (k:Int) (d:D),E1[i]?=some (some (o,.lst ys))/\o≠.no/\x.2=.int k/\0<=k/\k<=1000/\ys[k.toNat]?=some d/\d.pure=true/\P (E1.set i (some (o,.lst (ys.eraseIdx k.toNat)))) (.dp,d)) X):Eo (wxs i c E) P X:=by
 unfold wxs;rw[h0,X8 (show isLst _=true from rfl),kw];refine h.mono ?_;rintro E1 ⟨o',d'⟩ ⟨o,ys,k,d,h1,h2,e,k0,k1,h3,h4,h5⟩;subst e;have hl:=(List.getElem?_eq_some_iff.mp h3).1;have hx:ixN ys.length k=some k.toNat:=by unfold ixN;rw[X8 k0,X8 ⋯]
 have hs:Jk k=true:=by unfold Jk;rw[X5 ⋯,X5 ⋯];ac_rfl
 rw[h1];dsimp only;rw[Xd h2,hx];dsimp only;rw[h3];dsimp only;rw[h4,hs,X8 ⋯,Wv];exact h5
theorem w_chain{f g a b c e}{E:En}{P X}:Eo (QK f g a b c (e::E)) P X=Eo (a (e::E)) (λE x=>Eo (b E) (λE y=>Wo (f x.2 y.2) E λE d=>wzt d (Eo (c E) (λE z=>Wo (g y.2 z.2) E λE d=>P E (.dp,d)) X) (P E (.dp,.bl false))) X) X:=by
 unfold QK;rw [kw]
 congr 1
 funext E x;rw [kw]
 congr 1
 funext E y;cases f x.2 y.2 with
 | none=>ac_rfl
 | some d=>
  rw[wo_some];cases d with
  | bl k=>
   rw[andP_bl];cases k with
   |false=>ac_rfl
   |true=>
    dsimp only;rw[kw]
    congr 1
    funext E z;rw[K7];exact vo_map
  |_=>ac_rfl
theorem w_rz{c:Str}{e:Option Sd}{E:En}{N C:En->Prop}{R:Sd->Prop}{X:XP}:Po (sRz c (e::E)) N C R X=X c:=nd (by ac_rfl)
noncomputable def Ox(f:Fn)(xs:List Sd)(E:En)(P:En->Sd->Prop)(Y:En->Str->Prop):Prop:=Oo f xs (P E) (Y E)
theorem Oo.ox{f:Fn}{xs:List Sd}{S:Sd->Prop}{W:XP}{E:En}{P:En->Sd->Prop}{Y:En->Str->Prop}(h:Oo f xs S W)(k:∀y,S y->P E y)(l:∀c,W c->Y E c):Ox f xs E P Y:=by
 unfold Ox Oo at *;cases hf:f xs with
 |none=>simp_all
 |some r=>rw[hf]at h;cases r with|ok E a=>exists k a h|exc E c=>exists l c h
theorem wvy{i:Nat}{m:Option Fl}{N C:En->Prop}{R:Sd->Prop}{X:XP}:Po (vxc i m) N C R X=Po m (λE=>N (E.set i none)) (λE=>C (E.set i none)) R noX:=by
 cases m with|none=>ac_rfl|some r=>cases r<;>ac_rfl
theorem w_tryE{cs:List Str}{i:Nat}{f:Fn}{as:List Ex}{h:Sm}{e:Option Sd}{E:En}{N C:En->Prop}{R:Sd->Prop}{X:XP}:Po (Vw cs i (W0 (qk2 f as)) h (e::E)) N C R X =
  Eo (vJ as (e::E)) (λE xs=>Ox f (letAll xs) E (λE _=>N E) (λE c=>c∈cs/\Po (h (E.set i (some (.no,.obj c [])))) (λE=>N (E.set i none)) (λE=>C (E.set i none)) R noX)) noX:=by
 unfold Vw W0 qk2;cases vJ as _ with
 | none=>ac_rfl
 | some r=>
  cases r with
  | exc E1 c=>ac_rfl
  | ok E1 xs=>
   rw [Wv];unfold Ox Oo;dsimp only;cases f _ with
   | none=>ac_rfl
   | some r=>
    cases r with
    | ok E2 y=>ac_rfl
    | exc E2 c=>
     dsimp only[ofE]
     by_cases hc:c∈cs
     ·rw[X8 hc,wvy]
      simp_all
     ·rw[Xd hc]
      with_unfolding_all exact propext #[λz=>(z).elim,λz=>absurd z.1 hc]
theorem vxx{t:List _}{c:Str}{k:Bool}{fs:List _}(h:t.lookup c=some k):zY t (.obj c fs)=some (.bl k):=by unfold zY;dsimp only;rw[h];rfl
theorem Oo.any{f xs P X}(h:Oo f xs P noX):Oo f xs P X:=by
 unfold Oo at *;cases hf:f xs with
 |none=>simp_all
 |some r=>rw[hf]at h;cases r with|ok E a=>simp_all|exc E c=>exists (h).elim
section
variable {c kc vc:Ex}{e:Option Sd}{E:En}{X:XP}{N C:En->Prop}{R:Sd->Prop}
theorem wqk{g0 g}{i:Nat}(h:Eo (vc E) (λE1 v=>g0 E1[i]?=true/\Eo (kc E1) (λE2 k=>∃s d,E2[i]?=some (some s)/\g s k.2 v.2=some d/\N (E2.set i (some (.rt,d)))) X) X):Po (wzm g0 g i kc vc E) N C R X:=by
 unfold wzm;rw[J1];refine h.mono λE1 v hz=>?_
 rw[X8 hz.1,J1];refine hz.2.mono λE2 k hz=>?_
 obtain⟨s,d,e2,h3,h4⟩:=hz;rw[e2];dsimp only
 rwa [h3,Option.map_some,wje]
end
section
variable {a b c kc vc:Ex}{e:Option Sd}{E:En}{X:XP}{N C:En->Prop}{R:Sd->Prop}{P:En->Sd->Prop}
theorem Q7{z}:Eo (Vj z c (e::E)) P X=Eo (c (e::E)) (λE x=>Wo (xk z x.2) E (λE d=>P E (.dp,d))) X:=by
 unfold Vj;rw[kw];congr 1;funext E x;rw[K7];exact vo_map
theorem vj6{i:Nat}(h:Eo (vc E) (λE1 v=>isLst E1[i]?=true/\Eo (kc E1) (λE2 k=>∃(o:Own) (xs:List D) (j:Int) (n:Nat),E2[i]?=some (some (o,.lst xs))/\o≠.no/\k.2=.int j/\ixN xs.length j=some n/\N (E2.set i (some (.rt,.lst (xs.set n v.2))))) X) X):Po (wqs i kc vc E) N C R X:=by
 refine wqk (h.mono λE1 v hz=>#[hz.1,hz.2.mono λE2 k hz=>?_]);obtain⟨o,xs,j,n,e2,ho,hk,hn,h4⟩:=hz;exact#[_,_,e2,by unfold xkd;rw[hk];dsimp only;rw[Xd ho,hn];rfl,h4]
end
section
variable {a b c kc vc:Ex}{e:Option Sd}{E:En}{X:XP}{N C:En->Prop}{R:Sd->Prop}{P:En->Sd->Prop}
theorem wq9:Eo (vwz a b (e::E)) P X=Eo (a (e::E)) (λE x=>qvz x.2=true/\Eo (b E) (λE y=>Wo (vky x.2 y.2) E (λE d=>P E (.dp,d))) X) X:=by
 unfold vwz;rw[kw];congr 1;funext E x;rw[kxm];congr 1;rw[kw];congr 1;funext E y;rw[K7];exact vo_map
end
section
variable {a b c:Ex}{cs:List Ex}{e:Option Sd}{E:En}{X:XP}{N C:En->Prop}{R:Sd->Prop}{P:En->Sd->Prop}{i r:Nat}{p:List Nat}{d:D}{ds:List D}
theorem qz3:Eo (Qv c (e::E)) P X=Eo (c (e::E)) (λE x=>wkz x=true/\P E (.dp,x.2)) X:=by
 unfold Qv;rw[kw];congr 1;funext E x;rw[kxm,Wv]
theorem qz2:Eo (vj .dp cs (e::E)) P X=Eo (vJ cs (e::E)) (λE xs=>xs.all vK=true/\P E (.dp,.tup (xs.map (·.2)))) X:=by
 unfold vj;rw[kw];congr 1;funext E x;rw[X8 rfl,kxm,Wv]
theorem xju(h0:E[i]?=some (some (.dp,d)))(nu:D.at p d=some (.lst ds))(hl:ds.length<10000)(h:Eo (c (E.set i none)) (λE1 x=>x.2.pure=true/\N (E1.set i (some (.dp,D.put (.lst (ds++[x.2])) p d)))) X):Po (sPA i p c E) N C R X:=by
 unfold sPA;rw[h0];dsimp only;rw[nu];dsimp only;rw[X8 (by unfold big;lia),J1];refine h.mono ?_;rintro E1 x ⟨hp,hn⟩;rw[X8 hp,wje];exact hn
end
end Q
local macro_rules
 | `(tactic| simp![$ts,*])=>do
  let f:=λ(p s:String)=>((s.splitOn " ").map λs=>Lean.mkIdent (p++s).toName).toArray
  let a:=f "_root_.Q." "w_seq w_asg w_expr w_ret w_pass w_if w_vV w_cV w_cMv w_cC w_vE w_cH w_f1 w_f2 w_ix w_tE w_tEQ w_tNot w_tAnd w_tOr w_tYes w_cIf w_cAnd w_cOr w_cNotQ w_call w_callB w_partN w_partS w_sl w_itS w_chain w_rz w_tryE w_R1 ie_i andP_bl vo_some vo_map wo_some wo_map args_nil args_cons eo_tup eo_lst"
  let b:=f "_root_." "Q.rng_ok true_and Q.lst_dp0 Q.sl_some Q.letAll Q.pu2 Q.pu1 Q.f2First Q.fIsNon Q.fNotNon Q.isNon List.map_cons List.map_nil List.cons_append List.nil_append Xg List.length_nil X1 List.replicate List.set_cons_zero List.set_cons_succ List.getElem?_cons_zero List.getElem?_cons_succ Q.len_l Q.len_t Q.lt_ii Q.gt_ii Q.le_ii Q.ge_ii Q.add_i Q.div_i Q.mod_i Q.mulT_i Q.mul_l Option.map_some Q.truth Q.truthQ Q.D.pure if_true if_false ite_true ite_false Q.sub_no Q.sub_rt Q.sub_dp Bool.false_eq_true Bool.not_true Bool.not_false Q.Tg.put Q.setAll Q.seqOf Q.lstOf"
  `(tactic| simp(config:={maxSteps:=1000000,failIfUnchanged:=false,implicitDefEqProofs:=true}) (disch:=lia) only[$[↓$a:ident],*,$[$b:ident],*,Nat.reduceAdd,Nat.reduceSub,↓reduceIte,reduceCtorEq,$ts,*])
namespace C
open Q PySem
abbrev most:Int:=1000*10 ^ 64
abbrev iL(ns:List Int):D:=.lst (ns.map D.int)
noncomputable def Each(G:D->Sd->Prop):List D->List Sd->Prop
 |[],[]=>True|d::ds,y::ys=>G d y/\Each G ds ys|_,_=>False
theorem Each.snoc{G d y}(h:G d y):∀{ds ys},Each G ds ys->Each G (ds++[d]) (ys++[y])
 |[],[],_=>#[h,trivial]|_::_,_::_,r=>#[r.1,Each.snoc h r.2]
theorem vw{X E o}{r:List Nat}{it c P}(b6:En) G (h0:Eo (it E) (λE1 ds=>r.map (at' E1)=b6/\(∀d∈ds,Eo (c (some (.no,d)::b6)) (λB y=>(∃q,B=q::b6)/\G d y) X)/\∀ys,Each G ds ys->Eo (mkL o (back r b6 (clr r E1)) ys) P X) X):Eo (cLC o 1 r it (.n 0) tYes c E) P X:=by
 refine vwo (λE1 B vh acc=>∃ds ds1 q,ds=ds1++vh/\B=q::b6/\Each G ds1 acc/\(∀d∈ds,Eo (c (some (.no,d)::b6)) (λB y=>(∃q,B=q::b6)/\G d y) X)/\∀ys,Each G ds ys->Eo (mkL o (back r b6 (clr r E1)) ys) P X) ?_ ?_ ?_
 ·refine h0.mono λE1 ds hz=>by obtain⟨h1,h2,h3⟩:=hz;exact#[ds,[],none,rfl,by rw[<-h1];rfl,trivial,h2,h3]
 ·rintro E1 B d vh acc ⟨ds,ds1,q,e,rfl,hE,h2,h3⟩;have hp:(Tg.n 0).put d (q::b6)=some _:=rfl;rw[hp,vo_some,show tYes _=some _ from rfl,Wv];refine(h2 d (by rw[e];simp)).mono ?_;rintro B y ⟨⟨q',rfl⟩,hG⟩;exact#[ds,ds1++[d],q',by rw[e];simp,rfl,hE.snoc hG,h2,h3]
 ·rintro E1 B acc ⟨ds,ds1,q,e,rfl,hE,h2,h3⟩;rw[Xr]at e;subst e;exact h3 acc hE
theorem qjy{G}{S:Int->Prop}(hG:∀d y,G d y->∃i,y.2=.int i/\S i):∀{ds ys},Each G ds ys->∃ps:List Int,ys.map (·.2)=ps.map D.int/\ps.length=ds.length/\∀p∈ps,S p
 |[],[],_=>#[[],rfl,rfl,λ_ h=>nomatch h]
 |d::ds,y::ys,r=>by
  obtain⟨i,e,s⟩:=hG d y r.1;obtain⟨ps,h1,h2,h3⟩:=qjy hG r.2;exact#[i::ps,by simp[e,h1],by simp[h2],λp hp=>(aD hp).elim (λz=>z▸s) (h3 p)]
theorem qwc{G:D->Sd->Prop}{S:D->Prop}(hG:∀d y,G d y->S y.2):∀{ds:List D} {ys:List Sd},Each G ds ys->∀z∈ys.map (·.2),S z
 |[],[],_,_,h=>nomatch h
 |d::ds,y::ys,r,z,h=>by
  rcases aD h with rfl|h
  ·exact hG d y r.1
  ·exact qwc hG r.2 z h
theorem qzx{n}:qv n n=[]:=by unfold qv;rw[Int.sub_self];rfl
theorem kw3{k n}(h:k<n):qv k n=.int k::qv (k+1) n:=by
 unfold qv;have:(n - k).toNat=(n - (k+1)).toNat+1:=by
  obtain⟨m,hm⟩:=Int.eq_ofNat_of_zero_le (show 0<=n - (k+1)by lia);rw[hm,show n - k=(m+1:Nat)by lia];rfl
 rw[this,List.range_succ_eq_map,List.map_cons,Xu]
 congr 1
 ·simp
 ·apply Z2;intro i _
  grind
theorem kzr{k n d ds}(hk:k<=n)(h:d::ds=qv k n):k<n/\d=.int k/\ds=qv (k+1) n:=by
 by_cases hl:k<n
 ·rw[kw3 hl]at h;injection h with h1 h2;exact#[hl,h1,h2]
 ·have:k=n:=⋯
  subst this;rw[qzx]at h
  grind
theorem kzs{k n}(hk:k<=n)(h:[]=qv k n):k=n:=by
 by_cases hl:k<n
 ·rw[kw3 hl]at h;cases h
 ·lia
theorem Q2{k n d}(h:d∈qv k n):∃i,k<=i/\i<n/\d=.int i:=by
 obtain⟨j,hj,rfl⟩:=aE h;have:=List.mem_range.mp hj;exact#[k+j,⋯,⋯,rfl]
theorem kqk{k n}(h:k<=n):((qv k n).length:Int)=n - k:=by
 unfold qv;rw[X1,Yd];lia
theorem VJ{o1 o2 a b}(h:a.cps.size+b.cps.size<=10000):jZ (o1,.str a) (o2,.str b)=some (.dp,.str (a++b)):=by
 show(if a.cps.size+b.cps.size<=big then _ else _)=_;rw[X8 (by unfold big;lia)]
theorem VW(a b:Str):(a++b).cps.size=a.cps.size+b.cps.size:=by
 exact Array.size_append
theorem YQ:∀ss,Jv (ss.map D.str)=some ss
 |[]=>rfl|s::ss=>by rw[List.map_cons,Jv,YQ ss];rfl
abbrev sL(ss:List Str):D:=.lst (ss.map D.str)
theorem ixI ks (S:Int->Prop)(hS:∀k∈ks,S k) i (h0:0<=i)(h1:i<ks.length):∃v,jw (iL ks) (.int i)=some (.int v)/\S v/\ks[i.toNat]?=some v:=by
 have hl:i.toNat<ks.length:=⋯
 refine#[ks[i.toNat],kQ h0 (by rw[Xi,X3 hl];rfl),hS _ (Yj hl),X3 hl]
theorem zK{n}:∀{ks},(∀k∈ks,k.flat n=true)->D.flats n ks=true
 |[],_=>by cases n<;>simp[D.flats]|k::ks,h=>by rw[D.flats,h k X2,zK λe he=>h e (lc9 _ he)];rfl
mutual
theorem ZW:∀{n} (d),d.flat n=true->peq d d=true
 |n,.non,_=>by simp[peq]|n,.bl b,_=>by simp[peq]|n,.int b,_=>by simp[peq]|n,.str b,_=>by simp[peq]|n+1,.tup xs,h=>peqs_refl xs (by simpa [D.flat]using h)|n+1,.lst xs,h=>peqs_refl xs (by simpa [D.flat]using h)|n,.dct _,h=>by cases n<;>simp[D.flat]at h|n,.obj _ _,h=>by cases n<;>simp[D.flat]at h
theorem peqs_refl:∀{n} ds,D.flats n ds=true->peqs ds ds=true
 |_,[],_=>by simp[peqs]
 |n,d::ds,h=>by
  rw[D.flats,Bool.and_eq_true]at h;rw[peqs,ZW d h.1,peqs_refl ds h.2];rfl
end
theorem eq_self{d}(h:d.flat 40=true):fEq d d=some (.bl true):=by unfold fEq;rw[h,ZW d h];rfl
theorem ix1(c g r f:D):jw (.tup [c,g,r,f]) (.int 1)=some g:=rfl
theorem ix2(c g r f:D):jw (.tup [c,g,r,f]) (.int 2)=some r:=rfl
theorem p1(a b:D):jw (.tup [a,b]) (.int 1)=some b:=rfl
theorem t0(a b c:D):jw (.tup [a,b,c]) (.int 0)=some a:=rfl
theorem t1(a b c):jw (.tup [a,b,c]) (.int 1)=some b:=rfl
theorem t2(a b c):jw (.tup [a,b,c]) (.int 2)=some c:=rfl
theorem xq{G h}(hG:∀d y,G d y->y.2=h d):∀{ds ys},Each G ds ys->ys.map (·.2)=ds.map h
 |[],[],_=>rfl|d::ds,y::ys,r=>by rw[List.map_cons,List.map_cons,hG d y r.1,xq hG r.2]
abbrev Qw(ss:List Str)(rs:List D):D:=.tup [sL ss,.lst rs]
theorem wkk{G:D->Sd->Prop}(hG:∀d y,G d y->y.2=d){ds:List D}{ys:List Sd}(h:Each G ds ys):ys.map (·.2)=ds:=by
 rw[xq (h:=id) hG h,List.map_id]
theorem xk1{z ss}:K0 (.str z) (sL ss)=some (.bl (!ss.any λw=>w==z)):=by
 show qjs _ _=_;unfold qjs;have:fIn (.str z) (sL ss)=some (.bl (ss.any λw=>w==z)):=by
  show(if(D.str z).flat 30&&D.flats 30 _ then some _ else none)=_;rw[zK (λk hk=>by obtain⟨w,_,rfl⟩:=aE hk;rfl),List.any_map];rfl
 rw[this];rfl
theorem xqn{z ss}:wj (.str z) (sL ss)=some (.bl (ss.any λw=>w==z)):=by
 show(if(D.str z).flat 30&&D.flats 30 _ then some _ else none)=_;rw[zK (λk hk=>by obtain⟨w,_,rfl⟩:=aE hk;rfl),List.any_map];rfl
noncomputable section
end
noncomputable section
end
end C
namespace B
open Q PySem C
theorem eqi{a b k}(h:(a==b)=k):fEq (.int a) (.int b)=some (.bl k):=by rw[<-h];rfl
end B
namespace B
open PySem Q
noncomputable def m__law_cell_at:Fn:=fn 2
  (j6 (sIf (tE (cF2 (pu2 fLt) (vV 1) (vE (cF1 (pu1 jx) (vV 0))))) (jv (cH (j8 (vV 0) (vV 1)))) k7)
  (jv (cC (.int 0))))
end B
namespace B
open Q PySem C
def qk1(ns:List Int)(k:Nat):Int:=ns.getD k 0
theorem cell_ok ns (k:Nat)(hn:ns.length<=10000):Oo m__law_cell_at [(.no,iL ns),(.no,.int k)] (λy=>∃o',y=(o',.int (qk1 ns k))/\True) noX:=by
 refine kz ?_;simp![]
 by_cases h:(k:Int)<ns.length
 ·have hx:jw (iL ns) (.int k)=some (.int (qk1 ns k)):=by
   refine kQ ⋯ ?_;unfold qk1;rw[Int.toNat_natCast,Xi,Xa,X3 ⋯];rfl
  have hd:=X5 h;rw[X8 hd];simp![hx];exact#[_,rfl,trivial]
 ·have hd:¬decide ((k:Int)<ns.length)=true:=by rw[X6 h];decide
  rw[Xd hd];refine#[.dp,?_,trivial];rw[show qk1 ns k=0 by unfold qk1;rw[Xa,Yl ⋯];rfl]
theorem qv2:∀{ps:List Str},(∀p∈ps,p.length=1)->(ps.map (·.length)).sum=ps.length
 |[],_=>rfl|p::ps,h=>by rw[List.map_cons,Xx,h p X2,qv2 λq hq=>h q (lc9 _ hq),Xg];lia
theorem sl_s{o z lo hi}(h:z.cps.size<=100):fSl (o,.str z) lo hi=some (.dp,.str (Txt.slice z lo hi)):=by
 have hl:=Txt.slice_le z lo hi;have h:z.length<=100:=h;show(if(Txt.slice z lo hi).length<=big then _ else none)=_;rw[X8 (by unfold big;lia)]
end B
namespace A
open PySem Q
noncomputable def m__law_mixed:Fn:=fn 3
  (j6 (sIf (tE (cF2 (pu2 fEq) (vE (cF2 (pu2 jQ) (vV 0) (C9 2))) (C9 0))) (jv (cF2 (pu2 vX) (vV 0) (vE (cF2 (pu2 xkg) (C9 2) (vE (cF2 Jw (C9 8) (vV 1))))))) k7)
  (j6 (jz 2 (cF2 (pu2 jQ) (vE (cF2 Jw (vE (cF2 jZ (vE (cF2 jZ (vE (cF2 (pu2 jQ) (vV 0) (C9 2147483647))) (vE (cF2 Jw (C9 69621) (vV 1))))) (C9 7919))) (C9 48271))) (C9 2147483647)))
  (j6 (jz 2 (cF2 (pu2 jQ) (vE (cF2 Jw (vV 2) (vV 2))) (C9 2147483629)))
  (jv (cF2 (pu2 jQ) (vE (cF2 jZ (vE (cF2 Jw (vV 2) (vV 2))) (vE (cF2 Jw (C9 16807) (vV 1))))) (C9 2147483587))))))
noncomputable def m__law_words:Fn:=fn 9
  (j6 (jz 2 (cC (.str "abcdefghijklmnopqrstuvwxyz")))
  (j6 (jz 3 (Vj "" (vE (cLC .rt 1 [2,0] (wx (C9 8)) (.n 0) tYes (cH (j8 (vV 1) (vE (cF2 (pu2 jQ) (vE (jq m__law_mixed [(cV 2),(cV 0)])) (C9 26)))))))))
  (j6 (sIf (tE (cF2 (pu2 fEq) (vE (cF2 (pu2 jQ) (vV 0) (C9 3))) (C9 1))) (jv (cLC .rt 1 [3,0] (wx (vV 1)) (.n 0) tYes (cSl (vV 1) none (some (vE (cF2 jZ (C9 1) (vE (cF2 (pu2 jQ) (vE (cF2 jZ (vV 0) (vE (cF2 (pu2 vX) (vV 2) (C9 3))))) (C9 8))))))))) k7)
  (j6 (jz 4 (cF2 jZ (C9 1) (vE (cF2 (pu2 jQ) (vE (cF2 (pu2 vX) (vV 0) (C9 3))) (C9 8)))))
  (j6 (jz 5 (cF2 (pu2 jQ) (vE (cF2 (pu2 vX) (vV 0) (C9 24))) (vV 4)))
  (j6 (jz 6 (qw .rt []))
  (j6 (z7 (wx (vV 1)) (.n 7) (j6 (jz 8 (cF2 (pu2 jQ) (vE (cF2 jZ (vE (vwz (vV 2) (j8 (vV 3) (vV 5)))) (vE (cF2 Jw (vV 7) (vE (cF2 jZ (C9 1) (vE (cF2 (pu2 jQ) (vE (cF2 (pu2 vX) (vV 0) (C9 192))) (C9 5))))))))) (C9 26)))
  (wq xj 6 (cF2 jZ (vE (cF2 jZ (vE (cSl (vV 3) none (some (vV 5)))) (j8 (vV 2) (vV 8)))) (vE (cSl (vV 3) (some (vE (cF2 jZ (vV 5) (C9 1)))) (some (vV 4))))))))
  (jv (cMv 6)))))))))
end A
namespace A
open Q PySem C B
theorem wvu{n}(h:n<=8000):((2:Int)*2 ^ n).natAbs.log2<9000:=by
 have e:((2:Int)*2 ^ n).natAbs=2 ^ (n+1):=by
  rw[Int.natAbs_mul,Nat.mul_comm];rfl
 rw[e,Nat.log2_two_pow];lia
theorem xj5{n}(h0:0<=n)(h1:n<=8000):xkg (.int 2) (.int n)=some (.int (2*2 ^ n.toNat)):=by
 show(if 0<=n/\n<=1000000/\(2:Int).natAbs<2 ^ 64 then some _ else none).map D.int=_;rw[X8 #[h0,⋯,⋯]];rfl
theorem xkm{c n:Int}(h1:n<=8000):vX (.int c) (.int (2*2 ^ n.toNat))=some (.int (c / (2*2 ^ n.toNat))):=by
 show(if 0<2*2 ^ n.toNat/\((2:Int)*2 ^ n.toNat).natAbs.log2<9000 then some _ else none).map D.int=_;rw[X8 #[Int.mul_pos ⋯ (Int.pow_pos ⋯),wvu ⋯]];rfl
theorem mixed_ok(c k)(h0:0<=k)(h1:k<=100):Oo m__law_mixed [(.no,.int c),(.no,.int k)] (λy=>∃v,y=(.dp,.int v)/\True) noX:=by
 refine kz ?_
 by_cases h:c % 2=0
 ·have hd:(c % 2==0)=true:=by simp[h]
  simp![eqi hd,xj5 (n:=8*k) ⋯ ⋯,xkm (c:=c) (n:=8*k) ⋯];exact#[_,rfl,trivial]
 ·have hd:(c % 2==0)=false:=beq_false_of_ne h;have m0:=Xm c (show(2147483647:Int)≠0 by decide);have m1:=Xj c (show(0:Int)<2147483647 by decide);generalize hu:c % 2147483647=u at m0 m1;simp![eqi hd,hu,(mul_l (o1:=.no) (o2:=.no) (a:=u+69621*k+7919) (b:=48271) ⋯ ⋯)]
  grind
abbrev AZ:Str:="abcdefghijklmnopqrstuvwxyz"
theorem az_found:∀ch∈AZ.cps.toList,∃i:Nat,vky (.str AZ) (.str #[(List.toArray [ch])])=some (.int i):=by
 have h:∀ch∈AZ.cps.toList,(Builtin.Str.occurrences AZ #[(List.toArray [ch])] 0 AZ.length 1).isEmpty=false:=by decide +kernel
 intro ch hc;have:=h ch hc;unfold vky;dsimp only;cases e:Builtin.Str.occurrences AZ _ 0 AZ.length 1 with|nil=>rw[e]at this;cases this|cons i r=>exact#[i,rfl]
theorem ix_strM z i (h0:0<=i)(h1:i<z.cps.size):∃c∈z.cps.toList,jw (.str z) (.int i)=some (.str #[(List.toArray [c])]):=by
 have:i.toNat<z.cps.toList.length:=by rw[Xb];lia
 refine#[z.cps.toList[i.toNat],Yj _,?_];show((Q.ixN z.cps.size i).bind λj=>(z.cps.toList[j]?).map λc=>D.str #[(List.toArray [c])])=_;unfold Q.ixN;rw[X8 h0,X8 h1];show((z.cps.toList[i.toNat]?).map λc=>D.str #[(List.toArray [c])])=_;rw[X3 this];rfl
theorem list_app(a b:Str):(a++b).cps.toList=a.cps.toList++b.cps.toList:=by
 exact Array.toList_append
theorem qvv{L:List Nat}:∀{ps},(∀p∈ps,∃c∈L,p=#[(List.toArray [c])])->(Str.join "" ps).cps.toList.length=ps.length/\∀c∈(Str.join "" ps).cps.toList,c∈L
 | [],_=>#[rfl,λc h=>absurd h (by simp[Str.join,Str.empty])]
 | [x],h=>by
  obtain⟨c,hc,rfl⟩:=h x X2;refine#[rfl,λd hd=>?_];have:d=c:=by simpa [Str.join]using hd
  rw[this];exact hc
 | x::y::r,h=>by
  obtain⟨c,hc,rfl⟩:=h x X2;obtain⟨i1,i2⟩:=qvv λp hp=>h p (lc9 _ hp)
  have e:(Str.join "" ((#[(List.toArray [c])]:Str)::y::r)).cps.toList=c::(Str.join "" (y::r)).cps.toList:=by
   show(_++""++Str.join "" _).cps.toList=_;rw[list_app];rfl
  rw[e];refine#[by rw[Xg,i1];rfl,λd hd=>?_];rcases aD hd with rfl|hd
  ·exact hc
  ·exact i2 d hd
theorem each_one{L:List Nat}{G}(hG:∀d y,G d y->∃c∈L,y.2=.str #[(List.toArray [c])]):∀{ds ys},Each G ds ys->∃ps:List Str,ys.map (·.2)=ps.map D.str/\ps.length=ds.length/\∀p∈ps,∃c∈L,p=#[(List.toArray [c])]
 |[],[],_=>#[[],rfl,rfl,λ_ h=>nomatch h]
 |d::ds,y::ys,r=>by
  obtain⟨i,hi,e⟩:=hG d y r.1;obtain⟨ps,h1,h2,h3⟩:=each_one hG r.2;exact#[#[(List.toArray [i])]::ps,by simp[e,h1],by simp[h2],λp hp=>(aD hp).elim (λz=>z▸#[i,hi,rfl]) (h3 p)]
theorem join_az{ps:List Str}(h:∀p∈ps,∃c∈AZ.cps.toList,p=#[(List.toArray [c])])(h1:ps.length<=100):∃z,xk "" (.lst (ps.map D.str))=some (.str z)/\z.cps.size=ps.length/\∀c∈z.cps.toList,c∈AZ.cps.toList:=by
 have hz:("":Str).length=0:=rfl;obtain⟨j1,j2⟩:=qvv h;refine#[Txt.join "" ps,?_,?_,?_]
 ·unfold xk;dsimp only;rw[YQ];dsimp only;rw[X8 (by rw[(qv2 λp hp=>by obtain⟨c,_,rfl⟩:=h p hp;rfl),hz];lia)]
 ·unfold Txt.join;rw[StrLaws.glued_eq_join,<-j1,Xb]
 ·unfold Txt.join
  rwa [StrLaws.glued_eq_join]
end A
namespace Kp
open Q PySem C
theorem bk(E:En):back [] [] (clr [] E)=E:=rfl
end Kp
namespace Nk13
open PySem Q
noncomputable def jwc:Fn:=fn 1
  (jv (x6 (vE (cF1 (pu1 (jX "int")) (vV 0))) (Zw (vE (cF1 (pu1 (jX "bool")) (vV 0))))))
noncomputable def jxa:Fn:=fn 1
  (j6 (sIf (tOr (tNot (tEQ (vE (cF1 (pu1 (jX "str")) (vV 0))))) (tNot (tE (QK fLe fLe (C9 1) (vE (cF1 (pu1 jx) (vV 0))) (C9 8))))) (jv (cC (.bl false))) k7)
  (jv (cF1 (pu1 K1) (vE (cLC .rt 1 [] (itS (cV 0)) (.n 0) tYes (cF2 (pu2 wj) (vV 0) (vE (cC (.str "abcdefghijklmnopqrstuvwxyz")))))))))
noncomputable def VV:Fn:=fn 2
  (jv (x6 (vE (cF1 (pu1 (jX "tuple")) (vV 0))) (cF2 (pu2 fEq) (vE (cF1 (pu1 jx) (vV 0))) (vV 1))))
noncomputable def jve:Fn:=fn 1
  (j6 (sIf (tOr (tNot (tEQ (vE (cF1 (pu1 (jX "list")) (vV 0))))) (tNot (tE (QK fLe fLe (C9 1) (vE (cF1 (pu1 jx) (vV 0))) (C9 3))))) (jv (cC (.bl false))) k7)
  (j6 (sIf (tNot (tEQ (vE (cF1 (pu1 K1) (vE (cLC .rt 1 [] (itS (cV 0)) (.n 0) tYes (jq jxa [(cV 0)]))))))) (jv (cC (.bl false))) k7)
  (jv (cF2 (pu2 fEq) (vV 0) (vE (cF1 K5 (vV 0)))))))
noncomputable def YY:Fn:=fn 2
  (jv (x6 (vE (cF1 (pu1 (jX "str")) (vV 0))) (cF2 (pu2 wj) (vV 0) (vV 1))))
noncomputable def VY:Fn:=fn 2
  (jv (x6 (vE (jq jwc [(cV 0)])) (QK fLe fLt (C9 0) (vV 0) (vV 1))))
noncomputable def jxb:Fn:=fn 2
  (jv (cOr (vE (cF2 (f2First fIsNon) (vV 0) (vE (cC .non)))) (cOr (vE (jq YY [(cV 0),(vj .no [(cC (.str "new"))])])) (jq VY [(cV 0),(cV 1)]))))
noncomputable def jvg:Fn:=fn 3
  (jv (x6 (vE (jq VV [(cV 0),(cV 2)])) (cF1 (pu1 K1) (vE (cLC .rt 1 [1] (itS (cV 0)) (.n 0) tYes (jq jxb [(cV 0),(cV 1)]))))))
noncomputable def jzx:Fn:=fn 2
  (jv (cOr (vE (jq YY [(cV 0),(vj .no [(cC (.str "fresh")),(cC (.str "any"))])])) (jq VY [(cV 0),(cV 1)])))
noncomputable def jx9:Fn:=fn 4
  (j6 (sIf (tNot (tEQ (vE (jq VV [(cV 0),(cC (.int 4))])))) (jv (cC (.bl false))) k7)
  (j6 (sIf (tOr (tNot (tEQ (vE (jq YY [(cH (j8 (vV 0) (C9 0))),(cV 2)])))) (tOr (tNot (tEQ (vE (jq jzx [(cH (j8 (vV 0) (C9 1))),(cV 1)])))) (tNot (tEQ (vE (jq VY [(cH (j8 (vV 0) (C9 2))),(cF1 (pu1 jx) (vV 3))])))))) (jv (cC (.bl false))) k7)
  (jv (jq jvg [(cH (j8 (vV 0) (C9 3))),(cV 1),(cH (j8 (vV 3) (j8 (vV 0) (C9 2))))]))))
noncomputable def jvd:Fn:=fn 4
  (jv (cF1 (pu1 K1) (vE (cLC .rt 1 [1,2,3] (itS (cV 0)) (.n 0) tYes (jq jx9 [(cV 0),(cV 1),(cV 2),(cV 3)])))))
noncomputable def jkm:Fn:=fn 1
  (j6 (sIf (tNot (tEQ (vE (jq VV [(cV 0),(cC (.int 3))])))) (jv (cC (.bl false))) k7)
  (jv (x6 (vE (jq VY [(cH (j8 (vV 0) (C9 0))),(cF2 jZ (C9 3) (C9 1))])) (x6 (vE (cF1 (pu1 (jX "bool")) (j8 (vV 0) (C9 1)))) (cF1 (pu1 (jX "list")) (j8 (vV 0) (C9 2)))))))
noncomputable def jvf:Fn:=fn 3
  (j6 (sIf (tOr (tNot (tEQ (vE (cF1 (pu1 (jX "list")) (vV 0))))) (tNot (tE (QK fLe fLe (C9 1) (vE (cF1 (pu1 jx) (vV 0))) (C9 12))))) (jv (cC (.bl false))) k7)
  (j6 (sIf (tNot (tEQ (vE (cF1 (pu1 K1) (vE (cLC .rt 1 [] (itS (cV 0)) (.n 0) tYes (jq jkm [(cV 0)]))))))) (jv (cC (.bl false))) k7)
  (j6 (sIf (tE (cF2 (pu2 fGt) (vE (cF1 (pu1 wxh) (vE (cLC .rt 1 [] (itS (cV 0)) (.n 0) tYes (cF1 (pu1 jx) (j8 (vV 0) (C9 2))))))) (C9 120))) (jv (cC (.bl false))) k7)
  (j6 (jz 2 (cLC .rt 1 [] (itS (cV 0)) (.n 0) tYes (cH (j8 (vV 0) (C9 0)))))
  (jv (cF1 (pu1 K1) (vE (cLC .rt 1 [1,2] (itS (cV 0)) (.n 0) tYes (jq jvd [(cH (j8 (vV 0) (C9 2))),(cH (j8 (vV 0) (C9 0))),(cV 1),(cV 2)])))))))))
noncomputable def jqk:Fn:=fn 1
  (jv (x6 (vE (jq VV [(cV 0),(cC (.int 2))])) (x6 (vE (jq jve [(cH (j8 (vV 0) (C9 0)))])) (jq jvf [(cH (j8 (vV 0) (C9 1))),(cH (j8 (vV 0) (C9 0)))]))))
noncomputable def jkf:Fn:=fn 1
  (j6 (sIf (tOr (tE (cF2 (pu2 fEq) (vV 0) (vE (cC (.str ""))))) (tNot (tEQ (vE (cF1 (pu1 K1) (vE (cLC .rt 1 [] (itS (cV 0)) (.n 0) tYes (cF2 (pu2 wj) (vV 0) (vE (cC (.str "0123456789"))))))))))) (jv (cC (.bl false))) k7)
  (jv (cOr (vE (cF2 (pu2 fEq) (vV 0) (vE (cC (.str "0"))))) (Zw (vE (cF1 (pu1 (Zx "0")) (vV 0)))))))
noncomputable def jkr:Fn:=fn 1
  (jv (x6 (vE (cF2 (pu2 fEq) (j8 (vV 0) (C9 0)) (vE (cC (.str "room"))))) (cOr (vE (cF2 (pu2 fEq) (vE (cF1 (pu1 jx) (vV 0))) (C9 2))) (cF2 (pu2 fEq) (vE (cSl (vV 0) (some (C9 2)) none)) (vE (qw .rt [(cC (.str "good"))]))))))
noncomputable def W6:Fn:=fn 1
  (j6 (sIf (tOr (tNot (tEQ (vE (jq jkf [(cV 0)])))) (tE (cF2 (pu2 fGt) (vE (cF1 (pu1 jx) (vV 0))) (C9 2)))) (sRz "NoText") k7)
  (jv (cF1 (pu1 xv) (vV 0))))
noncomputable def jvb:Fn:=fn 1
  (jv (vj .dp [(Qv (jq W6 [(cH (j8 (vV 0) (C9 1)))])),(cF2 (pu2 fEq) (vE (cF1 (pu1 jx) (vV 0))) (C9 3)),(Qv (qw .rt []))]))
noncomputable def jwb:Fn:=fn 1
  (jv (cIf (tE (cF2 (pu2 wj) (vV 0) (vE (vj .no [(cC (.str "fresh")),(cC (.str "any"))])))) (cV 0) (jq W6 [(cV 0)])))
noncomputable def jvc:Fn:=fn 1
  (j6 (sIf (tE (cF2 (pu2 fEq) (vV 0) (vE (cC (.str "none"))))) (jv (cC .non)) k7)
  (jv (cIf (tE (cF2 (pu2 fEq) (vV 0) (vE (cC (.str "new"))))) (cV 0) (jq W6 [(cV 0)]))))
noncomputable def jva:Fn:=fn 1
  (j6 (sIf (tE (cF2 (pu2 fLt) (vE (cF1 (pu1 jx) (vV 0))) (C9 3))) (sRz "NoText") k7)
  (jv (vj .no [(cH (j8 (vV 0) (C9 0))),(jq jwb [(cH (j8 (vV 0) (C9 1)))]),(jq W6 [(cH (j8 (vV 0) (C9 2)))]),(cF1 Vv (vE (cLC .rt 1 [] (itS (cSl (vV 0) (some (C9 3)) none)) (.n 0) tYes (jq jvc [(cV 0)]))))])))
noncomputable def jqj:Fn:=fn 3
  (j6 (jz 1 (qw .dp []))
  (j6 (z7 (itS (cV 0)) (.n 2) (sIf (tEQ (vE (jq jkr [(cV 2)]))) (wq xj 1 (jq jvb [(cV 2)])) (sIf (tE (cF2 (pu2 fEq) (vE (cF1 (pu1 jx) (vV 1))) (C9 0))) (sRz "NoText") (wqt 1 [.inl (-1),.inl 2] (jq jva [(cV 2)])))))
  (jv (cMv 1))))
noncomputable def Wq:Fn:=fn 3
  (j6 (jz 1 (cLC .rt 1 [] (itS (cF1 (J8 10) (vV 0))) (.n 0) tYes (cF1 (J8 32) (vV 0))))
  (j6 (sIf (tE (cF2 (pu2 fNe) (j8 (j8 (vV 1) (C9 0)) (C9 0)) (vE (cC (.str "signs"))))) (sRz "NoText") k7)
  (j6 (jz 2 (vj .dp [(Qv (cSl (j8 (vV 1) (C9 0)) (some (C9 1)) none)),(Qv (jq jqj [(cSl (vV 1) (some (C9 1)) none)]))]))
  (j6 (sIf (tNot (tEQ (vE (qk3 jqk [(vV 2)])))) (sRz "NoText") k7)
  (jv (cMv 2))))))
def m__law_cell_at : Fn:= B.m__law_cell_at
def m__law_mixed : Fn:= A.m__law_mixed
def m__law_words : Fn:= A.m__law_words
noncomputable def jq0:Fn:=fn 2
  (j6 (sIf (tE (cF2 (pu2 fEq) (vE (cF2 (pu2 jQ) (vV 0) (C9 4))) (C9 1))) (j6 (jz 1 (qw .rt [(cC (.str "any")),(cC (.str "fresh")),(cC (.str "good")),(cC (.str "new")),(cC (.str "none")),(cC (.str "room")),(cC (.str "signs"))]))
  (jv (cF1 K5 (vE (qw .rt [(cH (j8 (vV 1) (vE (cF2 (pu2 jQ) (vE (cF2 (pu2 vX) (vV 0) (C9 4))) (C9 7))))),(cH (j8 (vV 1) (vE (cF2 (pu2 jQ) (vE (cF2 (pu2 vX) (vV 0) (C9 28))) (C9 7))))),(cH (j8 (vV 1) (vE (cF2 (pu2 jQ) (vE (cF2 (pu2 vX) (vV 0) (C9 196))) (C9 7)))))]))))) k7)
  (jv (cF1 kqt (vE (jq m__law_words [(cF2 (pu2 vX) (vV 0) (C9 4)),(cF2 jZ (C9 1) (vE (cF2 (pu2 jQ) (vE (cF2 (pu2 vX) (vV 0) (C9 32))) (C9 3))))])))))
noncomputable def jvi:Fn:=fn 2
  (j6 (sIf (tOr (tE (cF2 (pu2 fEq) (vE (cF2 (pu2 jQ) (vV 0) (C9 4))) (C9 0))) (tAnd (tE (cF2 (pu2 fEq) (vE (cF2 (pu2 jQ) (vV 0) (C9 4))) (C9 1))) (tE (cF2 (pu2 fEq) (vV 1) (C9 0))))) (jv (cC .non)) k7)
  (j6 (sIf (tAnd (tE (cF2 (pu2 fLt) (vE (cF2 (pu2 jQ) (vV 0) (C9 4))) (C9 3))) (tE (cF2 (pu2 fGt) (vV 1) (C9 0)))) (jv (cF2 (pu2 jQ) (vE (cF2 (pu2 vX) (vV 0) (C9 4))) (vV 1))) k7)
  (jv (cC (.str "new")))))
noncomputable def jqg:Fn:=fn 8
  (j6 (jz 4 (jq m__law_mixed [(cV 0),(cC (.int 0))]))
  (j6 (jz 5 (cF2 (pu2 jQ) (vE (cF2 (pu2 vX) (vV 4) (C9 3))) (vE (cF1 (pu1 jx) (vV 3)))))
  (j6 (jz 6 (cH (j8 (vE (cF2 jZ (vE (qw .rt [(cC (.str "fresh")),(cC (.str "any")),(cC (.str "fresh"))])) (vE (cLC .rt 1 [] (wx (j8 (vV 3) (vV 2))) (.n 0) tYes (cV 0))))) (vE (cF2 (pu2 jQ) (vE (cF2 (pu2 vX) (vV 4) (C9 60))) (vE (cF2 jZ (C9 3) (j8 (vV 3) (vV 2)))))))))
  (j6 (jz 7 (cF1 Vv (vE (cLC .rt 1 [4,3,2] (wx (j8 (vV 3) (vV 5))) (.n 0) tYes (jq jvi [(cF2 (pu2 vX) (vV 1) (j8 (vE (qw .rt [(cC (.int 720)),(cC (.int 46080)),(cC (.int 2949120))])) (vV 0))),(cH (j8 (vV 2) (vV 3)))])))))
  (jv (vj .no [(cH (j8 (vV 1) (vE (cF2 (pu2 jQ) (vV 4) (vE (cF1 (pu1 jx) (vV 1))))))),(cV 6),(cV 5),(cV 7)]))))))
noncomputable def jkt:Fn:=fn 10
  (j6 (jz 2 (jq m__law_mixed [(jq m__law_cell_at [(cV 0),(cC (.int 0))]),(cC (.int 0))]))
  (j6 (jz 3 (jq jq0 [(jq m__law_cell_at [(cV 0),(cC (.int 1))])]))
  (j6 (jz 4 (cF2 jZ (C9 1) (vE (cF2 (pu2 jQ) (vV 2) (C9 4)))))
  (j6 (sIf (tE (cF2 (pu2 fEq) (vE (cF2 (pu2 jQ) (vE (cF2 (pu2 vX) (vV 2) (C9 4))) (C9 6))) (C9 1))) (jz 4 (cF2 jZ (C9 5) (vE (cF2 (pu2 jQ) (vE (cF2 (pu2 vX) (vV 2) (C9 24))) (C9 8))))) k7)
  (j6 (jz 5 (cLC .rt 1 [0] (wx (vV 4)) (.n 0) tYes (cF2 (pu2 jQ) (vE (jq m__law_mixed [(jq m__law_cell_at [(cV 1),(cC (.int 2))]),(cV 0)])) (C9 4))))
  (j6 (jz 6 (cLC .dp 1 [] (wx (vV 4)) (.n 0) tYes (qw .dp [])))
  (j6 (z7 (itS (cSl (vV 0) (some (vV 1)) (some (vE (cF2 jZ (vV 1) (C9 50)))))) (.n 7) (j6 (jz 8 (cF2 (pu2 jQ) (vE (jq m__law_mixed [(cV 7),(cC (.int 12))])) (vV 4)))
  (j6 (Vk 6 (vV 8) (jq jqg [(cV 7),(cV 3),(cV 8),(cV 5)]))
  (sIf (tAnd (tE (cF2 (pu2 fEq) (vE (cF2 (pu2 jQ) (vE (cF2 (pu2 vX) (vV 2) (C9 200))) (C9 4))) (C9 1))) (tE (cF2 (pu2 fEq) (vE (cF2 (pu2 jQ) (vV 7) (C9 3))) (C9 1)))) (Vk 6 (vV 8) (cH (j8 (j8 (vV 6) (vV 8)) (C9 0)))) k7))))
  (j6 (jz 9 (cLC .rt 1 [0] (wx (vV 4)) (.n 0) tYes (cF2 (pu2 fEq) (vE (cF2 (pu2 jQ) (vE (jq m__law_mixed [(jq m__law_cell_at [(cV 1),(cC (.int 3))]),(cV 0)])) (C9 2))) (C9 1))))
  (sFz 6 (jv (vj .no [(cV 3),(cLC .rt 1 [5,9,6] (wx (vV 4)) (.n 0) tYes (vj .no [(cH (j8 (vV 1) (vV 0))),(cH (j8 (vV 2) (vV 0))),(cH (j8 (vV 3) (vV 0)))]))])))))))))))
noncomputable def jvh:Fn:=fn 10
  (j6 (jz 1 (qw .rt [(cF2 jZ (vE (cC (.str "signs "))) (vE (Vj " " (j8 (vV 0) (C9 0)))))]))
  (j6 (z7 (itS (cH (j8 (vV 0) (C9 1)))) (.t [2,3,4]) (j6 (wq xj 1 (cF2 jZ (vE (cF2 jZ (vE (cC (.str "room "))) (vE (cF1 (pu1 Q0) (vV 2))))) (j8 (vE (qw .rt [(cC (.str "")),(cC (.str " good"))])) (vE (cF1 (pu1 xv) (vV 3))))))
  (z7 (itS (cV 4)) (.t [5,6,7,8]) (j6 (jz 9 (cF2 jZ (vE (qw .rt [(cV 5),(cF1 (pu1 Q0) (vV 6)),(cF1 (pu1 Q0) (vV 7))])) (vE (cLC .rt 1 [] (itS (cV 8)) (.n 0) tYes (cH (j8 (vE (qw .rt [(cC (.str "none")),(cF1 (pu1 Q0) (vV 0))])) (vE (cF1 (pu1 xv) (vE (cF2 (f2First fNotNon) (vV 0) (vE (cC .non))))))))))))
  (wq xj 1 (Vj " " (vV 9)))))))
  (jv (Vj "\n" (vV 1)))))
noncomputable def zX:Fn:=fn 2
  (j6 (sIf (tOr (tE (cF2 (pu2 fEq) (vV 0) (vE (cC (.str ""))))) (tOr (tE (cF2 (pu2 fGt) (vE (cF1 (pu1 jx) (vV 0))) (C9 2))) (tAnd (tE (cF2 (pu2 fEq) (vE (cF1 (pu1 jx) (vV 0))) (C9 2))) (tE (cF2 (pu2 fEq) (j8 (vV 0) (C9 0)) (vE (cC (.str "0")))))))) (jv (cF1 (pu1 xJ) (C9 1))) k7)
  (j6 (sIf (tOr (tE (cF2 (pu2 fGt) (vE (cF1 (pu1 jx) (vE (cLC .rt 1 [] (itS (cV 0)) (.n 0) (tE (cF2 (pu2 K0) (vV 0) (vE (cC (.str "0123456789"))))) (cV 0))))) (C9 0))) (tE (cF2 (pu2 fGe) (vE (cF1 (pu1 xv) (vV 0))) (vV 1)))) (jv (cF1 (pu1 xJ) (C9 1))) k7)
  (jv (cF1 (pu1 xv) (vV 0)))))
noncomputable def Zz:Fn:=fn 2
  (j6 (sIf (tOr (tE (cF2 (pu2 fNe) (j8 (vV 0) (C9 0)) (vE (cC (.str "signs"))))) (tOr (tE (cF2 (pu2 fLt) (vE (cF1 (pu1 jx) (vV 0))) (C9 2))) (tOr (tE (cF2 (pu2 fGt) (vE (cF1 (pu1 jx) (vV 0))) (C9 4))) (tE (cF2 (pu2 fNe) (vE (cF1 K5 (vE (cSl (vV 0) (some (C9 1)) none)))) (vE (cSl (vV 0) (some (C9 1)) none))))))) (jv (cC .non)) k7)
  (j6 (z7 (itS (cSl (vV 0) (some (C9 1)) none)) (.n 1) (j6 (sIf (tOr (tE (cF2 (pu2 fLt) (vE (cF1 (pu1 jx) (vV 1))) (C9 1))) (tE (cF2 (pu2 fGt) (vE (cF1 (pu1 jx) (vV 1))) (C9 8)))) (jv (cC .non)) k7)
  (sIf (tE (cF2 (pu2 fGt) (vE (cF1 (pu1 jx) (vE (cLC .rt 1 [] (itS (cV 1)) (.n 0) (tE (cF2 (pu2 K0) (vV 0) (vE (cC (.str "abcdefghijklmnopqrstuvwxyz"))))) (cV 0))))) (C9 0))) (jv (cC .non)) k7)))
  (jv (cSl (vV 0) (some (C9 1)) none))))
noncomputable def jkj:Fn:=fn 8
  (j6 (sIf (tOr (tE (cF2 (pu2 fLt) (vE (cF1 (pu1 jx) (vV 0))) (C9 3))) (tE (cF2 (pu2 K0) (j8 (vV 0) (C9 0)) (vV 1)))) (jv (cC .non)) k7)
  (j6 (jz 4 (cH (j8 (vV 0) (C9 1))))
  (j6 (sIf (tAnd (tE (cF2 (pu2 fNe) (vV 4) (vE (cC (.str "fresh"))))) (tE (cF2 (pu2 fNe) (vV 4) (vE (cC (.str "any")))))) (jz 4 (jq zX [(cH (j8 (vV 0) (C9 1))),(cH (j8 (vV 3) (vV 2)))])) k7)
  (j6 (jz 5 (jq zX [(cH (j8 (vV 0) (C9 2))),(cF1 (pu1 jx) (vV 3))]))
  (j6 (sIf (tOr (tE (cF2 (pu2 fEq) (vV 4) (vE (cF1 (pu1 xJ) (C9 1))))) (tOr (tE (cF2 (pu2 fEq) (vV 5) (vE (cF1 (pu1 xJ) (C9 1))))) (tE (cF2 (pu2 fNe) (vE (cF1 (pu1 jx) (vV 0))) (vE (cF2 jZ (C9 3) (j8 (vV 3) (vV 5)))))))) (jv (cC .non)) k7)
  (j6 (jz 6 (qw .rt []))
  (j6 (z7 (itS (cSl (vV 0) (some (C9 3)) none)) (.n 7) (sIf (tOr (tE (cF2 (pu2 fEq) (vV 7) (vE (cC (.str "none"))))) (tE (cF2 (pu2 fEq) (vV 7) (vE (cC (.str "new")))))) (wq xj 6 (cH (j8 (vE (qw .rt [(cC .non),(cC (.str "new"))])) (vE (cF1 (pu1 xv) (vE (cF2 (pu2 fEq) (vV 7) (vE (cC (.str "new")))))))))) (sIf (tE (cF2 (pu2 fEq) (vE (jq zX [(cV 7),(cH (j8 (vV 3) (vV 2)))])) (vE (cF1 (pu1 xJ) (C9 1))))) (jv (cC .non)) (wq xj 6 (jq zX [(cV 7),(cH (j8 (vV 3) (vV 2)))])))))
  (jv (vj .no [(cH (j8 (vV 0) (C9 0))),(cV 4),(cV 5),(cF1 Vv (vV 6))])))))))))
noncomputable def ZV:Fn:=fn 3
  (j6 (jz 1 (qw .dp []))
  (j6 (wqu 1 2 (itS (cV 0)) (tAnd (tE (cF2 (pu2 fEq) (j8 (vV 2) (C9 0)) (vE (cC (.str "room"))))) (tOr (tE (cF2 (pu2 fEq) (vE (cF1 (pu1 jx) (vV 2))) (C9 2))) (tAnd (tE (cF2 (pu2 fEq) (vE (cF1 (pu1 jx) (vV 2))) (C9 3))) (tE (cF2 (pu2 fEq) (j8 (vV 2) (C9 2)) (vE (cC (.str "good")))))))) (tE (cF2 (pu2 fEq) (vE (jq zX [(cH (j8 (vV 2) (C9 1))),(cC (.int 4))])) (vE (cF1 (pu1 xJ) (C9 1))))) (vj .dp [(Qv (jq zX [(cH (j8 (vV 2) (C9 1))),(cC (.int 4))])),(cF2 (pu2 fEq) (vE (cF1 (pu1 jx) (vV 2))) (C9 3)),(Qv (qw .rt []))]))
  (jv (cMv 1))))
noncomputable def jjr:Fn:=fn 8
  (j6 (jz 1 (cLC .rt 1 [] (itS (cF1 (J8 10) (vV 0))) (.n 0) tYes (cF1 (J8 32) (vV 0))))
  (j6 (jz 2 (jq Zz [(cH (j8 (vV 1) (C9 0)))]))
  (j6 (jz 3 (jq ZV [(cSl (vV 1) (some (C9 1)) none)]))
  (j6 (sIf (tOr (tE (cF2 (f2First fIsNon) (vV 2) (vE (cC .non)))) (tOr (tE (cF2 (f2First fIsNon) (vV 3) (vE (cC .non)))) (tOr (tE (cF2 (pu2 fLt) (vE (cF1 (pu1 jx) (vV 3))) (C9 1))) (tE (cF2 (pu2 fGt) (vE (cF1 (pu1 jx) (vV 3))) (C9 12)))))) (jv (cC .non)) k7)
  (j6 (jz 4 (cLC .rt 1 [] (itS (cV 3)) (.n 0) tYes (cH (j8 (vV 0) (C9 0)))))
  (j6 (jz 5 (qw .rt []))
  (j6 (z7 (wx (vE (cF1 (pu1 jx) (vV 3)))) (.n 6) (j6 (jz 7 (cLC .rt 1 [2,6,4] (itS (cH (j8 (j8 (vV 3) (vV 6)) (C9 2)))) (.n 0) tYes (jq jkj [(cV 0),(cV 1),(cV 2),(cV 3)])))
  (j6 (sIf (tE (cF2 (pu2 wj) (vE (cC .non)) (vV 7))) (jv (cC .non)) k7)
  (wq xj 5 (vj .no [(cH (j8 (vV 4) (vV 6))),(cH (j8 (j8 (vV 3) (vV 6)) (C9 1))),(cV 7)])))))
  (jv (vj .no [(cV 2),(cV 5)])))))))))
noncomputable def jjx:Fn:=fn 7
  (j6 (jz 2 (cF1 (J8 10) (vV 0)))
  (j6 (jz 3 (cF2 (pu2 jQ) (vE (jq m__law_mixed [(cV 1),(cC (.int 2))])) (vE (cF1 (pu1 jx) (vV 2)))))
  (j6 (jz 4 (cF2 (pu2 jQ) (vE (jq m__law_mixed [(cV 1),(cC (.int 3))])) (vE (cF1 (pu1 jx) (vV 2)))))
  (j6 (jz 5 (cF2 (pu2 jQ) (vE (jq m__law_mixed [(cV 1),(cC (.int 4))])) (C9 4)))
  (j6 (sIf (tE (cF2 (pu2 fEq) (vV 5) (C9 0))) (W0 (wxs 2 (vV 3))) (sIf (tE (cF2 (pu2 fEq) (vV 5) (C9 1))) (wky 2 (cV 3) (cH (j8 (vV 2) (vV 4)))) (sIf (tE (cF2 (pu2 fEq) (vV 5) (C9 2))) (wky 2 (cV 3) (cH (j8 (vE (qw .rt [(cC (.str "room 0")),(cC (.str "room 4")),(cC (.str "")),(cC (.str "room")),(cC (.str "signs")),(cC (.str "room 1 good")),(cC (.str "a fresh 0")),(cC (.str "room 0 bad"))])) (vE (cF2 (pu2 jQ) (vV 4) (C9 8)))))) (j6 (jz 6 (cH (j8 (vV 2) (vV 3))))
  (j6 (wqs 2 (vV 3) (cH (j8 (vV 2) (vV 4))))
  (wqs 2 (vV 4) (cV 6)))))))
  (jv (Vj "\n" (vV 2))))))))
noncomputable def jku:Fn:=fn 8
  (j6 (jz 2 (cF2 (pu2 jQ) (vE (jq m__law_mixed [(cV 1),(cC (.int 1))])) (C9 8)))
  (j6 (jz 3 (cF2 (pu2 jQ) (vE (jq m__law_mixed [(cV 1),(cC (.int 2))])) (vE (cF2 jZ (vE (cF1 (pu1 jx) (vV 0))) (C9 1)))))
  (j6 (jz 4 (cC (.str "ab z019 n\n.A_+-:=,fr2;")))
  (j6 (jz 5 (cH (j8 (vV 4) (vE (cF2 (pu2 jQ) (vE (jq m__law_mixed [(cV 1),(cC (.int 3))])) (vE (cF1 (pu1 jx) (vV 4))))))))
  (j6 (sIf (tE (cF2 (pu2 fLt) (vV 2) (C9 2))) (jv (cF2 jZ (vE (cF2 jZ (vE (cSl (vV 0) none (some (vV 3)))) (vV 5))) (vE (cSl (vV 0) (some (vE (cF2 jZ (vV 3) (C9 1)))) none)))) k7)
  (j6 (sIf (tE (cF2 (pu2 fEq) (vV 2) (C9 2))) (jv (cF2 jZ (vE (cF2 jZ (vE (cSl (vV 0) none (some (vV 3)))) (vV 5))) (vE (cSl (vV 0) (some (vV 3)) none)))) k7)
  (j6 (sIf (tE (cF2 (pu2 fEq) (vV 2) (C9 3))) (jv (cF2 jZ (vE (cSl (vV 0) none (some (vV 3)))) (vE (cSl (vV 0) (some (vE (cF2 jZ (vV 3) (C9 1)))) none)))) k7)
  (j6 (sIf (tE (cF2 (pu2 fLt) (vV 2) (C9 6))) (j6 (jz 6 (cF1 (J8 32) (vV 0)))
  (j6 (jz 7 (cF2 jZ (vV 6) (vE (qw .rt [(cC (.str "none")),(cC (.str "new")),(cC (.str "fresh")),(cC (.str "any")),(cC (.str "0")),(cC (.str "1")),(cC (.str "3")),(cC (.str "00")),(cC (.str "12")),(cC (.str "-1")),(cC (.str "good")),(cC (.str "room"))]))))
  (j6 (wqs 6 (vE (cF2 (pu2 jQ) (vV 3) (vE (cF1 (pu1 jx) (vV 6))))) (cH (j8 (vV 7) (vE (cF2 (pu2 jQ) (vE (jq m__law_mixed [(cV 1),(cC (.int 5))])) (vE (cF1 (pu1 jx) (vV 7))))))))
  (jv (Vj " " (vV 6)))))) k7)
  (jv (jq jjx [(cV 0),(cV 1)]))))))))))
noncomputable def jks:Fn:=fn 3
  (j6 (jz 1 (cC (.bl false)))
  (j6 (Vw ["NoText"] 2 (W0 (qk2 Wq [(cV 0)])) (j6 (jz 1 (x6 (vE (cF1 (pu1 (zY [("NoText",true)])) (vV 2))) (cF1 (pu1 (zY [("NoText",true)])) (vV 2))))
  (j6 (jz 1 (x6 (vV 1) (Zw (vE (cF1 (pu1 (zY [("NoText",false)])) (vV 2))))))
  (jz 1 (x6 (vV 1) (Zw (vE (cF1 (pu1 (zY [("NoText",false)])) (vV 2)))))))))
  (jv (cMv 1))))
noncomputable def m_law:Fn:=fn 6
  (j6 (jz 1 (jq jkt [(cSl (vV 0) none (some (C9 11))),(cC (.int 5))]))
  (j6 (jz 2 (jq jvh [(cV 1)]))
  (j6 (z7 (itS (cSl (vV 0) (some (C9 12)) (some (C9 42)))) (.n 3) (j6 (jz 4 (jq jku [(cV 2),(cV 3)]))
  (j6 (jz 5 (jq jjr [(cV 4)]))
  (j6 (sIf (tAnd (tE (cF2 (f2First fIsNon) (vV 5) (vE (cC .non)))) (tNot (tEQ (vE (jq jks [(cV 4)]))))) (jv (cC (.bl false))) k7)
  (sIf (tAnd (tE (cF2 (f2First fNotNon) (vV 5) (vE (cC .non)))) (tE (cF2 (pu2 fNe) (vE (jq Wq [(cV 4)])) (vV 5)))) (jv (cC (.bl false))) k7)))))
  (jv (x6 (vE (cF2 (pu2 fEq) (vE (jq Wq [(cV 2)])) (vV 1))) (cF2 (pu2 fEq) (vE (jq jjr [(cV 2)])) (vV 1)))))))
end Nk13
namespace Nk13
open Q PySem C
abbrev Is(f:Fn)(xs:List Sd)(b:Bool):Prop:=Oo f xs (λy=>∃o':Own,y=(o',.bl b)/\True) noX
theorem vxy{n:Nat}{d:D}(h:d.flat n=true)(u:String):jX u d=some (.bl (xqm (kind d) u)):=by
 cases d with|dct _=>cases n<;>simp[D.flat]at h|obj _ _=>cases n<;>simp[D.flat]at h|_=>rfl
def xk9:D->Bool
 |.int _=>true|_=>false
theorem vv1{n:Nat}{d:D}(h:d.flat n=true):Is jwc [(.no,d)] (xk9 d):=by
 have i1:=vxy h "int";have i2:=vxy h "bool";unfold jwc;refine kz ?_;cases d with
 |int i=>
  have i1:jX "int" (.int i)=some (.bl true):=rfl;have i2:jX "bool" (.int i)=some (.bl false):=rfl;simp![i1,i2];exact#[_,rfl,trivial]
 |bl b=>
  have i1:jX "int" (.bl b)=some (.bl true):=rfl;have i2:jX "bool" (.bl b)=some (.bl true):=rfl;simp![i1,i2];exact#[_,rfl,trivial]
 |non=>
  have i1:jX "int" .non=some (.bl false):=rfl;simp![i1];exact#[_,rfl,trivial]
 |str z=>
  have i1:jX "int" (.str z)=some (.bl false):=rfl;simp![i1];exact#[_,rfl,trivial]
 |tup z=>
  have i1:jX "int" (.tup z)=some (.bl false):=rfl;simp![i1];exact#[_,rfl,trivial]
 |lst z=>
  have i1:jX "int" (.lst z)=some (.bl false):=rfl;simp![i1];exact#[_,rfl,trivial]
 |dct _=>cases n<;>simp[D.flat]at h|obj _ _=>cases n<;>simp[D.flat]at h
noncomputable def qJ(d:D)(n:Int):Bool:=match d with
 |.int i=>decide (0<=i)&&decide (i<n)|_=>false
theorem kkq{k:Nat}{d:D}{n:Int}(h:d.flat k=true):Is VY [(.no,d),(.no,.int n)] (qJ d n):=by
 unfold VY;refine kz ?_;simp![];refine(vv1 h).use ?_;intro _ _;cases d with
 | int i=>
  have e0:xk9 (.int i)=true:=rfl
  by_cases h0:0<=i
  ·by_cases h1:i<n
   ·have e1:fLe (.int 0) (.int i)=some (.bl true):=by rw[le_ii];simp[h0]
    have e2:fLt (.int i) (.int n)=some (.bl true):=by rw[lt_ii];simp[h1]
    simp![e0,e1,e2];exact#[_,by simp[qJ,h0,h1];rfl,trivial]
   ·have e1:fLe (.int 0) (.int i)=some (.bl true):=by rw[le_ii];simp[h0]
    have e2:fLt (.int i) (.int n)=some (.bl false):=by rw[lt_ii];simp[h1]
    simp![e0,e1,e2];exact#[_,by simp[qJ,h0,h1];rfl,trivial]
  ·have e1:fLe (.int 0) (.int i)=some (.bl false):=by rw[le_ii];simp[h0]
   simp![e0,e1];exact#[_,by simp[qJ,h0];rfl,trivial]
 |dct _=>cases k<;>simp[D.flat]at h|obj _ _=>cases k<;>simp[D.flat]at h
 |_=>
  simp![xk9];exact#[_,rfl,trivial]
noncomputable def wqb(d:D)(n:Nat):Bool:=match d with
 |.tup ds=>decide (ds.length=n)|_=>false
theorem kke {k : Nat} {d : D} {n : Nat} (h : d.flat k = true): Is VV [(.no,d),(.no,.int n)] (wqb d n):= by
  unfold VV;refine kz ?_;cases d with
  | tup ds =>
    have i1 : jX "tuple" (.tup ds) = some (.bl true):= rfl;have e : fEq (.int ds.length) (.int n) = some (.bl (decide (ds.length = n))):= by rw[wv]; congr 2; exact decide_eq_decide.mpr (by omega)
    simp![i1,e];exact #[_,rfl,trivial]
  | dct _ => cases k <;> simp[D.flat]at h| obj _ _ =>cases k <;> simp[D.flat]at h
  | non => have i1 : jX "tuple" .non = some (.bl false):= rfl
           simp![i1]; exact#[_,rfl,trivial]
  | bl b => have i1 : jX "tuple" (.bl b) = some (.bl false):= rfl
            simp![i1]; exact#[_,rfl,trivial]
  | int b => have i1 : jX "tuple" (.int b) = some (.bl false):= rfl
             simp![i1]; exact#[_,rfl,trivial]
  | str b => have i1 : jX "tuple" (.str b) = some (.bl false):= rfl
             simp![i1]; exact#[_,rfl,trivial]
  | lst b => have i1 : jX "tuple" (.lst b) = some (.bl false):= rfl
             simp![i1]; exact#[_,rfl,trivial]
noncomputable def K9(d:D)(ss:List Str):Bool:=match d with
 |.str z=>ss.any λw=>w==z|_=>false
theorem vjs {k : Nat} {d q : D} {ss : List Str} (h : d.flat k = true) (hq : ∀z,wj (.str z) q = some (.bl (ss.any λw=>w==z))): Is YY [(.no,d),(.no,q)] (K9 d ss):= by
  unfold YY;refine kz ?_;cases d with
  | str z=>
    have i1 : jX "str" (.str z) = some (.bl true):= rfl;simp![i1,hq z];exact #[_,rfl,trivial]
  | dct _ => cases k <;> simp[D.flat]at h| obj _ _ =>cases k <;> simp[D.flat]at h
  | non => have i1 : jX "str" .non = some (.bl false):= rfl
           simp![i1]; exact#[_,rfl,trivial]
  | bl b => have i1 : jX "str" (.bl b) = some (.bl false):= rfl
            simp![i1]; exact#[_,rfl,trivial]
  | int b => have i1 : jX "str" (.int b) = some (.bl false):= rfl
             simp![i1]; exact#[_,rfl,trivial]
  | tup b => have i1 : jX "str" (.tup b) = some (.bl false):= rfl
             simp![i1]; exact#[_,rfl,trivial]
  | lst b => have i1 : jX "str" (.lst b) = some (.bl false):= rfl
             simp![i1]; exact#[_,rfl,trivial]
theorem wkd{z:Str}{ss:List Str}:wj (.str z) (.tup (ss.map D.str))=some (.bl (ss.any λw=>w==z)):=by
 have:=@xqn z ss;unfold wj at this ⊢;dsimp only[sL]at this ⊢;exact this
def J9(own:Int)(d:D):Bool:=isNon d||(K9 d ["new"]||qJ d own)
theorem wkg{k:Nat}{own:Int}{d:D}(h:d.flat k=true):Is jxb [(.no,d),(.no,.int own)] (J9 own d):=by
 have q:∀z,wj (.str z) (.tup [.str "new"])=some (.bl ((["new"]:List Str).any λw=>w==z)):=λz=>wkd (ss:=["new"])
 unfold jxb;refine kz ?_;cases hn:isNon d with
 | true=>
  cases d with|non=>simp![];exact#[_,rfl,trivial]|_=>cases hn
 | false=>
  have e:fIsNon d=some (.bl false):=by unfold fIsNon;rw[hn]
  unfold J9;rw[hn];simp![e];rw[Xd (by intro h';exact absurd (hn.symm.trans h') ⋯)];refine(vjs h q).use ?_;intro _ _;cases ho:K9 d ["new"]with
  |true=>simp![];exact#[_,rfl,trivial]
  |false=>
   simp![];refine(kkq h).use ?_;intro _ _;simp![];exact#[_,rfl,trivial]
def Q1(own:Int)(d:D):Bool:=K9 d ["fresh","any"]||qJ d own
theorem wz0{k:Nat}{own:Int}{d:D}(h:d.flat k=true):Is jzx [(.no,d),(.no,.int own)] (Q1 own d):=by
 have q:∀z,wj (.str z) (.tup [.str "fresh",.str "any"])=some (.bl ((["fresh","any"]:List Str).any λw=>w==z)):=λz=>wkd (ss:=["fresh","any"])
 unfold jzx Q1;refine kz ?_;simp![];refine(vjs h q).use ?_;intro _ _;cases ho:K9 d ["fresh","any"]with
 |true=>simp![];exact#[_,rfl,trivial]
 |false=>
  simp![];refine(kkq h).use ?_;intro _ _;simp![];exact#[_,rfl,trivial]
theorem vqi(g:D->Bool):∀ds:List D,bls (ds.map λd=>D.bl (g d))=some (ds.map g)
 |[]=>rfl
 |d::ds=>by
  rw[List.map_cons,bls,vqi g ds];rfl
theorem QX(g:D->Bool)(ds:List D):K1 (.lst (ds.map λd=>D.bl (g d)))=some (.bl (ds.all g)):=by
 show(bls (ds.map λd=>D.bl (g d))).map _=_;rw[vqi];simp[List.all_map,Function.comp_def]
theorem kxk{n:Nat}:∀{ds:List D},D.flats n ds=true->∀d∈ds,d.flat n=true
 |a::x,h,d,hd=>by
  rw[D.flats,Bool.and_eq_true]at h;rcases aD hd with rfl|hd
  ·exact h.1
  ·exact kxk h.2 d hd
theorem Kj{n:Nat}{ds:List D}(h:(D.tup ds).flat n=true):∀d∈ds,d.flat (n - 1)=true:=by
 cases n with|zero=>simp[D.flat]at h|succ n=>exact kxk (by simpa [D.flat]using h)
theorem kko{n:Nat}{ds:List D}(h:(D.lst ds).flat n=true):∀d∈ds,d.flat (n - 1)=true:=by
 cases n with|zero=>simp[D.flat]at h|succ n=>exact kxk (by simpa [D.flat]using h)
noncomputable def JV(d:D)(own:Int)(ay:Nat):Bool:=match d with
 |.tup fs=>decide (fs.length=ay)&&fs.all (J9 own)|_=>false
theorem vwm {k : Nat} {own : Int} {ay : Nat} {d : D} (h : d.flat k = true): Is jvg [(.no,d),(.no,.int own),(.no,.int ay)] (JV d own ay):= by
  unfold jvg;refine kz ?_;simp![];refine(kke h).use ?_;intro _ _;cases ht : wqb d ay with
  | false=>
    simp![];refine#[.dp,?_,trivial];cases d with
    | tup fs => have : decide (fs.length = ay) = false:= ht
                simp only[JV,this]; rfl
    | _ =>rfl
  | true=>
    cases d with
    | tup fs=>
      have ht : decide (fs.length = ay) = true:= ht;simp![];refine vw [some (.no,.int own)] (λd y=>y.2 = .bl (J9 own d)) ?_;simp![];refine#[rfl,λd hd=> ?_,λys hy=> ?_]
      · simp![]
        refine(wkg (Kj h d hd)).use ?_;intro _ _;exact#[#[_,rfl],rfl]
      · rw[qV,xq (h:= λd=>.bl (J9 own d)) (λ_ _ h=>h) hy]
        simp![QX];exact#[_,by simp only[JV,ht]; rfl,trivial]
    |_=>cases ht
def atK(ks:List Int):D->Int
 |.int t=>ks.getD t.toNat 0|_=>0
noncomputable def qx(ss:List Str)(own:Int)(ks:List Int)(d:D):Bool:=match d with
 |.tup [a,b,c,e]=>K9 a ss&&Q1 own b&&qJ c ks.length&&JV e own (atK ks c).toNat|_=>false
theorem vzn {k:Nat} {ss:List Str} {own:Int} {ks:List Int} {d:D} (hk:∀k∈ks,0<=k) (h:d.flat k=true):Is jx9 [(.no,d),(.no,.int own),(.no,sL ss),(.no,iL ks)] (qx ss own ks d):=by
 have j0:∀a b c d:D,jw (.tup [a,b,c,d]) (.int 0)=some a:=λ_ _ _ _=>rfl
 have j1:∀a b c d:D,jw (.tup [a,b,c,d]) (.int 1)=some b:=λ_ _ _ _=>rfl
 have j2:∀a b c d:D,jw (.tup [a,b,c,d]) (.int 2)=some c:=λ_ _ _ _=>rfl
 have j3:∀a b c d:D,jw (.tup [a,b,c,d]) (.int 3)=some d:=λ_ _ _ _=>rfl
 unfold jx9;refine kz ?_;simp![];refine (kke (n:=4) h).use ?_;intro _ _;cases ht:wqb d 4 with
 | false=>
  simp![];refine#[.dp,?_,trivial];cases d with
  | tup fs=>
   match fs,ht with
   | [],_=>rfl| [_],_=>rfl| [_,_],_=>rfl| [_,_,_],_=>rfl| _ :: _::_::_::_::_,_=>rfl
  | _=>rfl
 | true =>
  cases d with
  | tup fs=>
   match fs,ht,h with
   | [a,b,c,e],_,h=>
    have fa:=Kj h a (by simp);have fb:=Kj h b (by simp);have fc:=Kj h c (by simp);have fe:=Kj h e (by simp);simp![j0];refine(vjs fa λz=>xqn).use ?_;intro _ _;cases h1:K9 a ss with
    | false=>simp![];exact#[_,by simp only[qx,h1];rfl,trivial]
    | true=>
     simp![j1];refine(wz0 fb).use ?_;intro _ _;cases h2:Q1 own b with
     | false=>simp![];exact#[_,by simp only[qx,h1,h2];rfl,trivial]
     | true=>
      simp![j2];refine(kkq fc).use ?_;intro _ _;cases h3:qJ c ks.length with
      | false=>simp![];exact#[_,by simp only[qx,h1,h2,h3];rfl,trivial]
      | true=>
       cases c with
       |int t=>
        have tm:(decide (0<=t)&&decide (t<ks.length))=true:=h3;have t0:0<=t:=by simp at tm;omega
        have t1:t<ks.length:=by simp at tm;omega
        have hg:ks[t.toNat]?=some (ks.getD t.toNat 0):=by rw[Xa,X3 (by omega)];rfl
        have hx:jw (iL ks) (.int t)=some (.int (ks.getD t.toNat 0)):=kQ t0 (by rw[Xi,hg];rfl);have hn:ks.getD t.toNat 0=((ks.getD t.toNat 0).toNat:Int):=by have:=hk _ (Ya hg);omega
        simp![j2,j3,hx];rw[hn];refine(vwm fe).use ?_;intro _ _;simp![];exact#[_,by simp only[qx,h1,h2,h3,atK];rfl,trivial]
       |_=>cases h3
  |_=>cases ht
theorem vv9{k:Nat}{ss:List Str}{own:Int}{ks:List Int}{st:List D}(hk:∀k∈ks,0<=k)(h:∀d∈st,d.flat k=true):Is jvd [(.no,.lst st),(.no,.int own),(.no,sL ss),(.no,iL ks)] (st.all (qx ss own ks)):=by
 unfold jvd;refine kz ?_;simp![];refine vw [some (.no,.int own),some (.no,sL ss),some (.no,iL ks)] (λd y=>y.2=.bl (qx ss own ks d)) ?_;simp![];refine#[rfl,λd hd=>?_,λys hy=>?_]
 ·simp![];refine(vzn hk (h d hd)).use ?_;intro _ _;exact#[#[_,rfl],rfl]
 ·rw[qV,xq (h:=λd=>.bl (qx ss own ks d)) (λ_ _ h=>h) hy];simp![QX];exact#[_,rfl,trivial]
def ZQ:D->Bool
 |.bl _=>true|_=>false
def isLst:D->Bool
 |.lst _=>true|_=>false
noncomputable def J0(d:D):Bool:=match d with
 |.tup [a,b,c]=>qJ a 4&&ZQ b&&isLst c|_=>false
theorem vxz{n:Nat}{d:D}(h:d.flat n=true):jX "bool" d=some (.bl (ZQ d)):=by
 cases d with|dct _=>cases n<;>simp[D.flat]at h|obj _ _=>cases n<;>simp[D.flat]at h|_=>rfl
theorem qqb{n:Nat}{d:D}(h:d.flat n=true):jX "list" d=some (.bl (isLst d)):=by
 cases d with|dct _=>cases n<;>simp[D.flat]at h|obj _ _=>cases n<;>simp[D.flat]at h|_=>rfl
theorem vwk{k:Nat}{d:D}(h:d.flat k=true):Is jkm [(.no,d)] (J0 d):=by
 have j0:∀a b c:D,jw (.tup [a,b,c]) (.int 0)=some a:=λ_ _ _=>rfl
 have j1:∀a b c:D,jw (.tup [a,b,c]) (.int 1)=some b:=λ_ _ _=>rfl
 have j2:∀a b c:D,jw (.tup [a,b,c]) (.int 2)=some c:=λ_ _ _=>rfl
 unfold jkm;refine kz ?_;simp![];refine(kke (n:=3) h).use ?_;intro _ _;cases ht:wqb d 3 with
 | false=>
  simp![];refine#[.dp,?_,trivial];cases d with
  | tup fs=>
   match fs,ht with
   | [],_=>rfl| [_],_=>rfl| [_,_],_=>rfl| _::_::_::_::_,_=>rfl
  | _=>rfl
 | true=>
  cases d with
  | tup fs=>
   match fs,ht,h with
   | [a,b,c],_,h=>
    have fa:=Kj h a (by simp);have fb:=Kj h b (by simp);have fc:=Kj h c (by simp);simp![j0];refine(kkq fa).use ?_;intro _ _;cases h1:qJ a 4 with
    | false=>
     have oi:qJ a (3+1)=false:=h1;simp![oi];exact#[_,by simp only[J0,h1];rfl,trivial]
    | true=>
     have oi:qJ a (3+1)=true:=h1;cases h2:ZQ b with
     |false=>
      simp![oi,j1,vxz fb,h2];exact#[_,by simp only[J0,h1,h2];rfl,trivial]
     |true=>
      simp![oi,j1,j2,vxz fb,h2,qqb fc];exact#[_,by simp only[J0,h1,h2];rfl,trivial]
  |_=>cases ht
def vx:D->Int
 |.tup [.int k,_,_]=>k|_=>0
def qz:D->List D
 |.tup [_,_,.lst s]=>s|_=>[]
def wV(rs:List D):Nat:=(rs.map λr=>(qz r).length).sum
noncomputable def Q8(ss:List Str)(rs:List D):Bool:=decide (1<=rs.length)&&decide (rs.length<=12)&&rs.all J0&&decide (wV rs<=120)&&rs.all λr=>(qz r).all (qx ss (vx r) (rs.map vx))
theorem kxi{d:D}(h:J0 d=true):∃k g st,d=.tup [.int k,.bl g,.lst st]/\0<=k/\k<=3:=by
 match d,h with
 | .tup [a,b,c],h=>
  simp only[J0,Bool.and_eq_true]at h;obtain⟨⟨h1,h2⟩,h3⟩:=h;cases a with
  | int k=>
   cases b with
   | bl g=>
    cases c with
    |lst st=>
     have h1:(decide (0<=k)&&decide (k<4))=true:=h1;simp at h1;exact#[k,g,st,rfl,h1.1,by omega]
    |_=>cases h3
   |_=>cases h2
  |_=>cases h1
theorem qw0:∀n8:List D,Kw (n8.map λd=>D.int (qz d).length)=some (n8.map λd=>((qz d).length:Int))
 |[]=>rfl|d::r=>by rw[List.map_cons,Kw,qw0 r];rfl
theorem qv4:∀n8:List D,(n8.map λd=>((qz d).length:Int)).sum=(wV n8:Nat)
 |[]=>rfl
 |d::r=>by
  have e:wV (d::r)=(qz d).length+wV r:=by simp[wV]
  rw[e,List.map_cons,Xx,qv4 r];omega
theorem qzd{n8:List D}(h:∀m∈n8,(qz m).length<=1000)(hl:n8.length<=1000):wxh (.lst (n8.map λd=>D.int (qz d).length))=some (.int (wV n8:Nat)):=by
 unfold wxh;dsimp only;rw[qw0];dsimp only;have hs:kzb (n8.map λd=>((qz d).length:Int))=true:=by
  unfold kzb;rw[Yi];intro x hx;obtain⟨m,hm,rfl⟩:=aE hx;have:=h m hm;rw[X5 (by omega),X5 (by omega)];rfl
 rw[X8 #[hs,by rw[X1];omega],qv4]
theorem bk(E:En):back [] [] (clr [] E)=E:=rfl
noncomputable def Q4(ss:List Str)(d:D):Bool:=match d with
 |.lst rs=>Q8 ss rs|_=>false
theorem vvj {k : Nat} {ss : List Str} {d : D} (h : d.flat k = true) (hl : ∀rs,d = .lst rs -> ∀r ∈ rs,(qz r).length<=1000): Is jvf [(.no,d),(.no,sL ss)] (Q4 ss d):= by
  have j0 : ∀a b c : D,jw (.tup [a,b,c]) (.int 0) = some a:= λ_ _ _=>rfl
  have j2 : ∀a b c : D,jw (.tup [a,b,c]) (.int 2) = some c:= λ_ _ _=>rfl
  have i1 := qqb h;unfold jvf;refine kz ?_;cases d with
  | lst rs =>
    have i1 : jX "list" (.lst rs) = some (.bl true):= i1
    by_cases h1 : 1<=rs.length
    rotate_left
    · have e1 : fLe (.int 1) (.int rs.length) = some (.bl false):= by rw[le_ii]; simp; omega
      simp![i1,e1];exact #[_,by simp only[Q4,Q8,X6 h1]; rfl,trivial]
    have e1 : fLe (.int 1) (.int rs.length) = some (.bl true):= by rw[le_ii]; simp; omega
    by_cases h2 : rs.length<=12
    rotate_left
    · have e2 : fLe (.int rs.length) (.int 12) = some (.bl false):= by rw[le_ii]; simp; omega
      simp![i1,e1,e2];exact #[_,by simp only[Q4,Q8,X6 h2,Bool.and_false,Bool.false_and]; rfl,trivial]
    have e2 : fLe (.int rs.length) (.int 12) = some (.bl true):= by rw[le_ii]; simp; omega
    have hl := hl rs rfl;simp![i1,e1,e2];refine vw [] (λd y=>y.2 = .bl (J0 d)) ?_;simp![];refine #[λd hd=> ?_,λys hy=> ?_]
    · simp![]
      refine (vwk (kko h d hd)).use ?_;intro _ _;exact #[#[_,rfl],rfl]
    rw [qV,xq (h:= λd=>.bl (J0 d)) (λ_ _ h=>h) hy,bk];cases i' : rs.all J0 with
    | false =>
      simp![QX,i'];exact #[_,by simp only[Q4,Q8,i',Bool.and_false,Bool.false_and]; rfl,trivial]
    | true =>
      have fk : ∀r ∈ rs,J0 r = true:= λr hr=>List.all_eq_true.mp i' r hr
      simp![QX,i'];refine vw [] (λd y=>y.2 = .int (qz d).length) ?_;simp![];refine #[λd hd=> ?_,λys hy=> ?_]
      · obtain⟨k',g,st,rfl,_⟩:= kxi (fk d hd)
        simp![j2];exact#[#[_,rfl],rfl]
      rw [qV,xq (h:= λd=>D.int (qz d).length) (λ_ _ h=>h) hy,bk]
      by_cases h3 : wV rs<=120
      rotate_left
      · have e3 : fGt (.int (wV rs : Nat)) (.int 120) = some (.bl true):= by rw[gt_ii]; simp; omega
        simp![qzd hl (by omega),e3];exact#[_,by simp only[Q4,Q8,X6 h3,Bool.and_false,Bool.false_and]; rfl,trivial]
      have e3 : fGt (.int (wV rs : Nat)) (.int 120) = some (.bl false):= by rw[gt_ii]; simp; omega
      simp![qzd hl (by omega),e3];refine vw [] (λd y=>y.2 = .int (vx d)) ?_;simp![];refine #[λd hd=> ?_,λys hy=> ?_]
      · obtain⟨k',g,st,rfl,_⟩:= kxi (fk d hd)
        simp![j0];exact#[#[_,rfl],rfl]
      have ek : rs.map (λd=>D.int (vx d)) = (rs.map vx).map D.int:= by rw[Xu]; rfl
      rw [qV,xq (h:= λd=>D.int (vx d)) (λ_ _ h=>h) hy,bk,ek];have hk0 : ∀k ∈ rs.map vx,0<=k:= λk hk=>by
        obtain⟨r,hr,rfl⟩:= aE hk;obtain⟨k',g,st,rfl,a,_⟩:= kxi (fk r hr);exact a
      simp![];refine vwo (λE1 B ds acc=> ∃(o : Own) (q : Option Sd) (as : List D),(o = .rt \/ o = .no) /\ B = [q,some (.no,sL ss),some (o,iL (rs.map vx))] /\ rs = as ++ ds /\ acc.map (·.2) = as.map λr=>D.bl ((qz r).all (qx ss (vx r) (rs.map vx)))) ?_ ?_ ?_
      · simp![]
        exact#[.rt,_,[],.inl rfl,rfl,rfl,rfl]
      · rintro E1 B d ds acc ⟨o,q,as,ho,rfl,f8,hn⟩
        have hd : d ∈ rs:= by rw[f8]; simp
        obtain⟨k',g,st,e,_⟩:= kxi (fk d hd);have ck : ∀x ∈ st,x.flat (k - 1 - 1 - 1) = true:= by
          have:= kko h d hd;rw [e]at this;exact kko (Kj this (.lst st) (by simp))
        have jp : D.bl ((qz d).all (qx ss (vx d) (rs.map vx))) = .bl (st.all (qx ss k' (rs.map vx))):= by rw[e]; rfl
        rcases ho with rfl|rfl
        all_goals
          rw [e];simp![j0,j2];refine(vv9 hk0 ck).use ?_;intro _ _;exact#[.no,_,as ++ [d],.inr rfl,rfl,by rw[f8,Xn]; rfl,by rw[Xq,hn,Xq,List.map_cons,List.map_cons,jp]; rfl]
      · rintro E1 B acc ⟨o,q,as,ho,rfl,f8,hn⟩
        rw [Xr]at f8;rw [qV,hn,<-f8];simp![QX (λr=>(qz r).all (qx ss (vx r) (rs.map vx)))];exact#[_,by simp only[Q4,Q8,i',X5 h1,X5 h2,X5 h3]; rfl,trivial]
  | non => have i1 : jX "list" .non = some (.bl false):= i1
           simp![i1]; exact#[_,rfl,trivial]
  | bl b => have i1 : jX "list" (.bl b) = some (.bl false):= i1
            simp![i1]; exact#[_,rfl,trivial]
  | int b => have i1 : jX "list" (.int b) = some (.bl false):= i1
             simp![i1]; exact#[_,rfl,trivial]
  | str b => have i1 : jX "list" (.str b) = some (.bl false):= i1
             simp![i1]; exact#[_,rfl,trivial]
  | tup b => have i1 : jX "list" (.tup b) = some (.bl false):= i1
             simp![i1]; exact#[_,rfl,trivial]
  |dct _=>cases k <;> simp[D.flat]at h|obj _ _=>cases k <;> simp[D.flat]at h
abbrev AZ:Str:="abcdefghijklmnopqrstuvwxyz"
noncomputable def zj(d:D):Bool:=match d with
 |.str z=>decide (1<=z.cps.size)&&decide (z.cps.size<=8)&&z.cps.toList.all λc=>Jq #[(List.toArray [c])] AZ|_=>false
theorem wz3(z:Str):K1 (.lst (((z.cps.toList.map λc=>D.str #[(List.toArray [c])])).map λd=>D.bl (match d with|.str y=>Jq y AZ|_=>false)))=some (.bl (z.cps.toList.all λc=>Jq #[(List.toArray [c])] AZ)):=by
 rw[QX,List.all_map];rfl
theorem vzr {k : Nat} {d : D} (h : d.flat k = true): Is jxa [(.no,d)] (zj d):= by
  unfold jxa;refine kz ?_;cases d with
  | str z=>
    have i1 : jX "str" (.str z) = some (.bl true):= rfl;have l : jx (.str z) = some (.int z.cps.size):= rfl
    by_cases h1 : 1<=z.cps.size
    rotate_left
    · have e1 : fLe (.int 1) (.int z.cps.size) = some (.bl false):= by rw[le_ii]; simp; omega
      simp![i1,l,e1];exact #[_,by simp only[zj,X6 h1]; rfl,trivial]
    have e1 : fLe (.int 1) (.int z.cps.size) = some (.bl true):= by rw[le_ii]; simp; omega
    by_cases h8 : z.cps.size<=8
    rotate_left
    · have e2 : fLe (.int z.cps.size) (.int 8) = some (.bl false):= by rw[le_ii]; simp; omega
      simp![i1,l,e1,e2];exact #[_,by simp only[zj,X6 h8,Bool.and_false,Bool.false_and]; rfl,trivial]
    have e2 : fLe (.int z.cps.size) (.int 8) = some (.bl true):= by rw[le_ii]; simp; omega
    have hb : z.cps.size<=big:= by unfold big; omega
    simp![i1,l,e1,e2];refine vw [] (λd y=>y.2 = .bl (match d with|.str y=>Jq y AZ|_=>false)) ?_;simp![hb];refine #[λd hd=> ?_,λys hy=> ?_]
    · obtain ⟨c,hc,rfl⟩:= aE hd
      have e : wj (.str #[(List.toArray [c])]) (.str "abcdefghijklmnopqrstuvwxyz") = some (.bl (Jq #[(List.toArray [c])] AZ)):= rfl;simp![e];exact #[#[_,rfl],trivial]
    · rw[qV,xq (h:= λd=>.bl (match d with|.str y=>Jq y AZ|_=>false)) (λ_ _ h=>h) hy]
      simp![wz3];exact #[_,by simp only[zj,X5 h1,X5 h8]; rfl,trivial]
  | dct _ => cases k <;> simp[D.flat]at h| obj _ _ =>cases k <;> simp[D.flat]at h
  | non => have i1 : jX "str" .non = some (.bl false):= rfl
           simp![i1]; exact#[_,rfl,trivial]
  | bl b => have i1 : jX "str" (.bl b) = some (.bl false):= rfl
            simp![i1]; exact#[_,rfl,trivial]
  | int b => have i1 : jX "str" (.int b) = some (.bl false):= rfl
             simp![i1]; exact#[_,rfl,trivial]
  | tup b => have i1 : jX "str" (.tup b) = some (.bl false):= rfl
             simp![i1]; exact#[_,rfl,trivial]
  | lst b => have i1 : jX "str" (.lst b) = some (.bl false):= rfl
             simp![i1]; exact#[_,rfl,trivial]
noncomputable def txs(ds:List D):List Str:=ds.map λd=>match d with
 |.str z=>z|_=>""
theorem kks{ds:List D}(h:∀d∈ds,zj d=true):ds=(txs ds).map D.str:=by
 unfold txs;rw[Xu];refine(List.map_id ds).symm.trans (Z2 λd hd=>?_);have:=h d hd;cases d with|str z=>rfl|_=>cases this
theorem kww:∀a b:List Str,peqs (a.map D.str) (b.map D.str)=decide (a=b)
 | [],[]=>by simp[peqs]| [],_::_=>by simp[peqs]| _::_,[]=>by simp[peqs]
 | x::a,y::b=>by
  rw[List.map_cons,List.map_cons,peqs,kww a b,peq]
  by_cases h:x=y
  ·subst h;simp
  ·have:(x==y)=false:=by simpa using h
   rw[this];simp[h]
theorem kxj(ss:List Str):(sL ss).flat 40=true:=by
 show D.flats 39 (ss.map D.str)=true;exact zK λd hd=>by obtain⟨w,_,rfl⟩:=aE hd;rfl
theorem wxk(a b:List Str):fEq (sL a) (sL b)=some (.bl (decide (a=b))):=by
 unfold fEq;rw[kxj,kxj];show some (D.bl (peqs (a.map D.str) (b.map D.str)))=_;rw[kww]
noncomputable def wQ(d:D):Bool:=match d with
 |.lst ds=>decide (1<=ds.length)&&decide (ds.length<=3)&&ds.all zj&&decide (txs ds=kY (ddS (txs ds)))|_=>false
theorem vvc {k : Nat} {d : D} (h : d.flat k = true): Is jve [(.no,d)] (wQ d):= by
  have i1 := qqb h;unfold jve;refine kz ?_;cases d with
  | lst ds =>
    have i1 : jX "list" (.lst ds) = some (.bl true):= i1
    by_cases h1 : 1<=ds.length
    rotate_left
    · have e1 : fLe (.int 1) (.int ds.length) = some (.bl false):= by rw[le_ii]; simp; omega
      simp![i1,e1];exact #[_,by simp only[wQ,X6 h1]; rfl,trivial]
    have e1 : fLe (.int 1) (.int ds.length) = some (.bl true):= by rw[le_ii]; simp; omega
    by_cases h2 : ds.length<=3
    rotate_left
    · have e2 : fLe (.int ds.length) (.int 3) = some (.bl false):= by rw[le_ii]; simp; omega
      simp![i1,e1,e2];exact #[_,by simp only[wQ,X6 h2,Bool.and_false,Bool.false_and]; rfl,trivial]
    have e2 : fLe (.int ds.length) (.int 3) = some (.bl true):= by rw[le_ii]; simp; omega
    simp![i1,e1,e2];refine vw [] (λd y=>y.2 = .bl (zj d)) ?_;simp![];refine #[λd hd=> ?_,λys hy=> ?_]
    · simp![]
      refine (vzr (kko h d hd)).use ?_;intro _ _;exact #[#[_,rfl],rfl]
    rw [qV,xq (h:= λd=>.bl (zj d)) (λ_ _ h=>h) hy,bk];cases hs : ds.all zj with
    | false =>
      simp![QX,hs];exact #[_,by simp only[wQ,hs,Bool.and_false,Bool.false_and]; rfl,trivial]
    | true =>
      have nh:= kks λd hd=>List.all_eq_true.mp hs d hd
      have e3 : K5 (.no,.lst ds) = some (.rt,sL (kY (ddS (txs ds)))):= by
        unfold K5;dsimp only;rw [nh,YQ];dsimp only;have h64 : (txs ds).length<64:= by rw[show(txs ds).length = ds.length by unfold txs; rw[X1]]; omega
        rw [X8 h64,<-nh]
      have e4 : fEq (.lst ds) (sL (kY (ddS (txs ds)))) = some (.bl (decide (txs ds = kY (ddS (txs ds))))):= by
        have := wxk (txs ds) (kY (ddS (txs ds)));rw [show sL (txs ds) = .lst ds from congrArg D.lst nh.symm]at this;exact this
      simp![QX,hs,e3,e4];exact #[_,by simp only[wQ,hs,X5 h1,X5 h2]; rfl,trivial]
  | non => have i1 : jX "list" .non = some (.bl false):= i1
           simp![i1]; exact#[_,rfl,trivial]
  | bl b => have i1 : jX "list" (.bl b) = some (.bl false):= i1
            simp![i1]; exact#[_,rfl,trivial]
  | int b => have i1 : jX "list" (.int b) = some (.bl false):= i1
             simp![i1]; exact#[_,rfl,trivial]
  | str b => have i1 : jX "list" (.str b) = some (.bl false):= i1
             simp![i1]; exact#[_,rfl,trivial]
  | tup b => have i1 : jX "list" (.tup b) = some (.bl false):= i1
             simp![i1]; exact#[_,rfl,trivial]
  |dct _=>cases k <;> simp[D.flat]at h|obj _ _=>cases k <;> simp[D.flat]at h
def ssD:D->List Str
 |.lst ds=>txs ds|_=>[]
noncomputable def x8(d:D):Bool:=match d with
 |.tup [a,b]=>wQ a&&Q4 (ssD a) b|_=>false
noncomputable def xqs(d:D):Prop:=∀a rs,d=.tup [a,.lst rs]->∀r∈rs,(qz r).length<=1000
theorem qxc{k:Nat}{d:D}(h:d.flat k=true)(hl:xqs d):Is jqk [(.no,d)] (x8 d):=by
 have j0:∀a b:D,jw (.tup [a,b]) (.int 0)=some a:=λ_ _=>rfl
 have j1:∀a b:D,jw (.tup [a,b]) (.int 1)=some b:=λ_ _=>rfl
 unfold jqk;refine kz ?_;simp![];refine(kke (n:=2) h).use ?_;intro _ _;cases ht:wqb d 2 with
 | false=>
  simp![];refine#[.dp,?_,trivial];cases d with
  | tup fs=>
   match fs,ht with
   | [],_=>rfl| [_],_=>rfl| _::_::_::_,_=>rfl
  | _=>rfl
 | true=>
  cases d with
  | tup fs=>
   match fs,ht,h,hl with
   | [a,b],_,h,hl=>
    have fa:=Kj h a (by simp);have fb:=Kj h b (by simp);simp![j0];refine(vvc fa).use ?_;intro _ _;cases hs:wQ a with
    | false=>
     simp![];exact#[_,by simp only[x8,hs];rfl,trivial]
    | true=>
     cases a with
     |lst ss=>
      have nt:=hs;simp only[wQ,Bool.and_eq_true]at nt;have nh:=kks λd hd=>List.all_eq_true.mp nt.1.2 d hd
      have ea:D.lst ss=sL (txs ss):=congrArg D.lst nh;simp![j0,j1];rw[ea];refine(vvj fb λrs e r hr=>hl (.lst ss) rs (by rw[e]) r hr).use ?_;intro _ _;simp![];exact#[_,by simp only[x8,<-ea,hs];rfl,trivial]
     |_=>cases hs
  |_=>cases ht
noncomputable def Sg(z:Str):Prop:=1<=z.cps.size/\z.cps.size<=8/\∀c∈z.cps.toList,c∈AZ.cps.toList
theorem xku:∀c∈AZ.cps.toList,Jq #[(List.toArray [c])] AZ=true:=by decide +kernel
theorem Sg.b{z:Str}(h:Sg z):zj (.str z)=true:=by
 obtain⟨h1,h2,h3⟩:=h;simp only[zj,X5 h1,X5 h2,Bool.true_and];rw[Yi];exact λc hc=>xku c (h3 c hc)
noncomputable def Fil(own:Int)(d:D):Prop:=d=.non\/d=.str "new"\/∃i,d=.int i/\0<=i/\i<own
theorem Fil.b{own:Int}{d:D}(h:Fil own d):J9 own d=true:=by
 rcases h with rfl|rfl|⟨i,rfl,h0,h1⟩
 ·rfl
 ·rfl
 ·have:qJ (.int i) own=true:=by simp[qJ,h0,h1]
  simp[J9,this]
noncomputable def Ask(own:Int)(d:D):Prop:=d=.str "fresh"\/d=.str "any"\/∃i,d=.int i/\0<=i/\i<own
theorem Ask.b{own:Int}{d:D}(h:Ask own d):Q1 own d=true:=by
 rcases h with rfl|rfl|⟨i,rfl,h0,h1⟩
 ·rfl
 ·rfl
 ·have:qJ (.int i) own=true:=by simp[qJ,h0,h1]
  simp[Q1,this]
noncomputable def Stp(ss:List Str)(own:Int)(ks:List Int)(d:D):Prop:=∃(sg:Str) (im:D) (to:Int) (fs:List D),d=.tup [.str sg,im,.int to,.tup fs]/\sg∈ss/\Ask own im/\0<=to/\to<ks.length/\(fs.length:Int)=ks.getD to.toNat 0/\∀f∈fs,Fil own f
theorem Stp.b{ss:List Str}{own:Int}{ks:List Int}{d:D}(h:Stp ss own ks d):qx ss own ks d=true:=by
 obtain⟨sg,im,to,fs,rfl,hs,ha,t0,t1,hf,fk⟩:=h;have e1:K9 (.str sg) ss=true:=List.any_eq_true.mpr #[sg,hs,by simp];have e2:qJ (.int to) ks.length=true:=by simp[qJ,t0,t1]
 have e3:JV (.tup fs) own (atK ks (.int to)).toNat=true:=by
  simp only[JV,atK,Bool.and_eq_true,decide_eq_true_eq];exact#[X5 (show fs.length=(ks.getD to.toNat 0).toNat by omega),List.all_eq_true.mpr λf hf=>(fk f hf).b]
 simp only[qx,e1,ha.b,e2,e3,Bool.and_self]
noncomputable def Rm(ss:List Str)(ks:List Int)(r:D):Prop:=∃(k:Int) (gd:Bool) (st:List D),r=.tup [.int k,.bl gd,.lst st]/\0<=k/\k<=3/\st.length<=120/\∀d∈st,Stp ss k ks d
def Q9:D->D
 |.tup [k,_,_]=>k|d=>d
structure Mc (ss:List Str)(ks:List Int)(rs:List D):Prop where
 s1:1<=ss.length
 s3:ss.length<=3
 sg:∀z∈ss,Sg z
 so:kY (ddS ss)=ss
 r1:1<=rs.length
 r12:rs.length<=12
 ky:rs.map Q9=ks.map D.int
 rm:∀r∈rs,Rm ss ks r
 ln:wV rs<=12
theorem kwj(ss:List Str):txs (ss.map D.str)=ss:=by
 unfold txs;rw[Xu];exact List.map_id ss
theorem Mc.sgn{ss:List Str}{ks:List Int}{rs:List D}(h:Mc ss ks rs):wQ (sL ss)=true:=by
 simp only[wQ,sL,X1,kwj,h.so,X5 h.s1,X5 h.s3,Bool.true_and,Bool.and_eq_true,Yi];refine#[λd hd=>?_,by simp];obtain⟨z,hz,rfl⟩:=aE hd;exact(h.sg z hz).b
theorem Rm.frm{ss:List Str}{ks:List Int}{r:D}(h:Rm ss ks r):J0 r=true:=by
 obtain⟨k,gd,st,rfl,h0,h3,_⟩:=h;have:qJ (.int k) 4=true:=by simp[qJ,h0];omega
 simp[J0,this,ZQ,isLst]
theorem Mc.keys{ss:List Str}{ks:List Int}{rs:List D}(h:Mc ss ks rs):rs.map vx=ks:=by
 have:=h.ky;have e:∀rs:List D,(∀r∈rs,Rm ss ks r)->rs.map Q9=(rs.map vx).map D.int:=λrs h=>by
  rw[Xu];refine Z2 λr hr=>?_
  obtain⟨k,gd,st,rfl,_⟩:=h r hr;rfl
 rw[e rs h.rm]at this;exact(List.map_inj_right λa b h=>by injection h).mp this
theorem Mc.b{ss:List Str}{ks:List Int}{rs:List D}(h:Mc ss ks rs):x8 (.tup [sL ss,.lst rs])=true:=by
 have e:ssD (sL ss)=ss:=kwj ss;simp only[x8,h.sgn,Bool.true_and,e,Q4,Q8,X5 h.r1,X5 h.r12,X5 (show wV rs<=120 from Xs h.ln ⋯),Bool.and_eq_true,Yi,and_true,h.keys];refine#[λr hr=>(h.rm r hr).frm,λr hr=>?_];obtain⟨k,gd,st,rfl,_,_,_,ck⟩:=h.rm r hr;exact λd hd=>(ck d hd).b
theorem qvi{xs:List D}(h:∀x∈xs,x.pure=true):D.pures xs=true:=by rw[D.pures_all,Yi];exact h
theorem Fil.pure{own:Int}{d:D}(h:Fil own d):d.pure=true:=by rcases h with rfl|rfl|⟨i,rfl,_⟩<;>rfl
theorem Stp.pure{ss:List Str}{own:Int}{ks:List Int}{d:D}(h:Stp ss own ks d):d.pure=true:=by
 obtain⟨sg,im,to,fs,rfl,hs,ha,t0,t1,hf,fk⟩:=h;have h1:im.pure=true:=by rcases ha with rfl|rfl|⟨i,rfl,_⟩<;>rfl
 have h2:D.pures fs=true:=qvi λf hf=>(fk f hf).pure
 show(D.pure (.str sg)&&(im.pure&&(D.pure (.int to)&&(D.pures fs&&true))))=true;rw[h1,h2];rfl
theorem kxn:m__law_mixed=A.m__law_mixed:=rfl
theorem wkl:m__law_words=A.m__law_words:=rfl
theorem wxm:m__law_cell_at=B.m__law_cell_at:=rfl
theorem qws(l:List Str):kY (kY l)=kY l:=List.Perm.eq_of_pairwise (λa b _ _ h1 h2=>qvt h1 h2) kki kki (Kv _)
set_option tactic.hygienic true in
theorem wxp:∀(l acc:List Str),acc.Nodup->(l.foldl (λl k=>if l.any (· == k)then l else l++[k]) acc).Nodup
 | [],acc,h=>h
 | k::l,acc,h=>by
  rw[List.foldl_cons];refine wxp l _ ?_
  split
  ·exact h
  ·rename_i hn;refine List.nodup_append.mpr #[h,by simp,λa ha b hb e=>hn (List.any_eq_true.mpr #[a,ha,?_])];rw[List.mem_singleton]at hb;rw[e,hb];exact beq_self_eq_true _
theorem vwq(l:List Str):(ddS l).Nodup:=wxp l [] Yg
theorem vq2:∀(l acc:List Str),(acc++l).Nodup->l.foldl (λl k=>if l.any (· == k)then l else l++[k]) acc=acc++l
 | [],acc,_=>by simp
 | k::l,acc,h=>by
  have hk:k∉acc:=λhm=>(List.nodup_append.mp h).2.2 k hm k X2 rfl
  rw[List.foldl_cons,Xd (λhh=>by
   obtain⟨y,hy,e⟩:=List.any_eq_true.mp hh;rw[eq_of_beq e]at hy;exact hk hy),vq2 l (acc++[k]) (by rw[Xn];exact h),Xn]
  rfl
theorem xkn{l:List Str}(h:l.Nodup):ddS l=l:=vq2 l [] h
theorem qzo{l:List Str}(h:l.Nodup):kY (ddS (kY l))=kY l:=by
 rw[xkn ((Kv l).nodup_iff.mpr h),qws]
theorem wkh(n own:Int)(h0:0<=own):Oo jvi [(.no,.int n),(.no,.int own)] (λy=>Fil own y.2) noX:=by
 have e1:∀a b:Int,fEq (.int a) (.int b)=some (.bl (a==b)):=λa b=>wv
 unfold jvi;refine kz ?_;have q0:=Xm n (show(4:Int)≠0 by decide);have q1:=Xj n (show(0:Int)<4 by decide);have hm:jQ (.int n) (.int 4)=some (.int (n % 4)):=mod_i ⋯;generalize n % 4=t at q0 q1 hm
 by_cases hz:own=0
 ·subst hz;rcases(show t=0\/t=1\/t=2\/t=3 by omega)with rfl|rfl|rfl|rfl
  all_goals
   simp![hm,e1]
   first|exact .inl rfl|exact .inr (.inl rfl)
 ·have hp:0<own:=by omega
  have w0:=Xm (n / 4) (show own≠0 by omega);have w1:=Xj (n / 4) hp;have ez:(own==0)=false:=beq_false_of_ne hz;have eg:decide (own>0)=true:=X5 hp;rcases(show t=0\/t=1\/t=2\/t=3 by omega)with rfl|rfl|rfl|rfl
  all_goals
   simp![hm,e1,ez,eg,mod_i (a:=n / 4) (b:=own) hp]
   first|exact .inl rfl|exact .inr (.inl rfl)|exact .inr (.inr #[_,rfl,w0,w1])
theorem wjw{xs:List D}{t:Int}(h0:0<=t)(h1:t<xs.length):∃a∈xs,jw (.lst xs) (.int t)=some a:=
 #[xs[t.toNat]'(by omega),Yj _,kQ h0 (X3 (by omega))]
theorem qwa{G:D->Sd->Prop}:∀{ds:List D} {ys:List Sd},Each G ds ys->ys.length=ds.length
 |[],[],_=>rfl|d::ds,y::ys,r=>congrArg (· + 1) (qwa r.2)
theorem vzo{ss:List Str}{ks:List Int}(c here:Int)(hs:1<=ss.length)(hs3:ss.length<=3)(hk:∀k∈ks,0<=k/\k<=3)(jg:ks.length<=12)(h0:0<=here)(h1:here<ks.length):
  Oo jqg [(.no,.int c),(.no,sL ss),(.no,.int here),(.no,iL ks)] (λy=>∃d,y=(.no,d)/\Stp ss (ks.getD here.toNat 0) ks d) noX:=by
 obtain⟨own,ho,⟨o0,o3⟩,eo⟩:=ixI ks (λk=>0<=k/\k<=3) hk here h0 h1;have eo':ks.getD here.toNat 0=own:=by rw[Xa,eo];rfl
 rw[eo'];unfold jqg;rw[kxn];refine kz ?_;simp![];refine(A.mixed_ok c 0 ⋯ ⋯).use ?_;intro m _;have t0:=Xm (m / 3) (show(ks.length:Int)≠0 by omega);have t1:=Xj (m / 3) (show(0:Int)<ks.length by omega);have a0:=Xm (m / 60) (show 3+own≠0 by omega);have a1:=Xj (m / 60) (show 0<3+own by omega);have g0:=Xm m (show(ss.length:Int)≠0 by omega);have g1:=Xj m (show(0:Int)<ss.length by omega);obtain⟨kt,ht,⟨k0,k3⟩,et⟩:=ixI ks (λk=>0<=k/\k<=3) hk (m / 3 % ks.length) t0 t1;have et':ks.getD (m / 3 % ks.length).toNat 0=kt:=by rw[Xa,et];rfl
 simp![mod_i (a:=m / 3) (b:=(ks.length:Int)) (by omega),ho];refine vw [] (λd y=>y.2=d) ?_;refine Q3 ?_;simp![ho];refine#[own,rfl,by omega,by omega,λd hd=>#[#[_,rfl],trivial],λys hy=>?_];have bk:∀E:En,back [] [] (clr [] E)=E:=λ_=>rfl
 have hlr:=kqk (k:=0) (n:=own) (by omega);have ad:jZ (.no,.lst [D.str "fresh",.str "any",.str "fresh"]) (.no,.lst (qv 0 own))=some (.rt,.lst (D.str "fresh" :: .str "any" :: .str "fresh" :: qv 0 own)):=vqn ⋯ ⋯ (by simp only[Xg,List.length_nil];omega);obtain⟨im,hmem,jc⟩:=wjw (xs:=D.str "fresh" :: .str "any" :: .str "fresh" :: qv 0 own) a0 (by simp only[Xg];omega);have hA:Ask own im:=by
  simp only[Y5]at hmem;rcases hmem with rfl|rfl|rfl|hm
  ·exact .inl rfl
  ·exact .inr (.inl rfl)
  ·exact .inl rfl
  ·obtain⟨i,i0,i1,rfl⟩:=Q2 hm;exact .inr (.inr #[i,rfl,i0,i1])
 rw[qV,wkk (λ_ _ h=>h) hy,bk];simp![ad,mod_i (a:=m / 60) (b:=3+own) (by omega),jc,ho];refine vw [some (.dp,.int m),some (.no,iL ks),some (.no,.int here)] (λ_ y=>Fil own y.2) ?_;refine Q3 ?_;simp![ht];refine#[kt,rfl,by omega,by omega,rfl,λd hd=>?_,λys hy=>?_]
 ·obtain⟨i,i0,i1,rfl⟩:=Q2 hd;have hdv:∃dv:Int,jw (.lst [.int 720,.int 46080,.int 2949120]) (.int i)=some (.int dv)/\0<dv/\dv<10 ^ 70:=by
   rcases(show i=0\/i=1\/i=2 by omega)with rfl|rfl|rfl
   ·exact#[720,rfl,⋯,⋯]
   ·exact#[46080,rfl,⋯,⋯]
   ·exact#[2949120,rfl,⋯,⋯]
  obtain⟨dv,hdv,d0,d1⟩:=hdv;simp![hdv,div_i (a:=m) (b:=dv) d0 d1,ho];refine(wkh (m / dv) own o0).via ?_;rintro ⟨o,y⟩ hy;exact#[#[_,rfl],hy]
 have fk:∀z∈ys.map (·.2),Fil own z:=qwc (S:=Fil own) (λ_ _ h=>h) hy;have mh:((ys.map (·.2)).length:Int)=kt:=by rw[X1,qwa hy,kqk (by omega)];omega
 rw[qV];generalize ys.map (·.2)=fs at fk mh;have esg:jw (sL ss) (.int (m % ss.length))=some (.str (ss[(m % ss.length).toNat]'(by omega))):=kQ g0 (by rw[Xi,X3 (by omega)];rfl);have hsgm:ss[(m % ss.length).toNat]'(by omega)∈ss:=Yj _;simp only[back,clr,at',List.map_cons,List.map_nil,List.set_cons_zero,List.set_cons_succ];simp![vzg (o:=.no) (xs:=fs) ⋯,mod_i (a:=m) (b:=(ss.length:Int)) (by omega),esg];exact#[_,rfl,_,im,_,fs,rfl,hsgm,hA,t0,t1,by rw[et',mh],fk]
def W2:D->Nat
 |.lst st=>st.length|_=>0
def J3(ls:List D):Nat:=(ls.map W2).sum
theorem qzc:∀(ls:List D) (n:Nat) (st:List D) (d:D),ls[n]?=some (.lst st)->J3 (ls.set n (.lst (st++[d])))=J3 ls+1
 |[],n,st,d,h=>nomatch h
 |a::ls,0,st,d,h=>by
  cases oq9 h;show(st++[d]).length+J3 ls=st.length+J3 ls+1;rw[Xf];simp only[Xg,List.length_nil];omega
 |a::ls,n+1,st,d,h=>by
  have h:ls[n]?=some (.lst st):=h;show W2 a+J3 (ls.set n (.lst (st++[d])))=W2 a+J3 ls+1;rw[qzc ls n st d h];omega
theorem qkj:∀(ls:List D) (n:Nat) (x:D),ls[n]?=some x->W2 x<=J3 ls
 |[],n,x,h=>nomatch h
 |a::ls,0,x,h=>by
  cases oq9 h;show W2 a<=W2 a+J3 ls;omega
 |a::ls,n+1,x,h=>by
  have:=qkj ls n x h;show W2 x<=W2 a+J3 ls;omega
structure Bs (ss:List Str)(ks:List Int)(ls:List D)(b:Nat):Prop where
 ln:ls.length=ks.length
 ok:∀j:Nat,j<ks.length->∃st:List D,ls[j]?=some (.lst st)/\∀d∈st,Stp ss (ks.getD j 0) ks d
 sm:J3 ls<=b
theorem Bs.put{ss:List Str}{ks:List Int}{ls:List D}{b n:Nat}{st:List D}{d:D}(h:Bs ss ks ls b)(hn:n<ks.length)(e:ls[n]?=some (.lst st))(hd:Stp ss (ks.getD n 0) ks d):Bs ss ks (ls.set n (.lst (st++[d]))) (b+1):=by
 refine#[by rw[Y8];exact h.ln,λj hj=>?_,by rw[qzc ls n st d e];have:=h.sm;omega]
 by_cases hjn:j=n
 ·subst hjn;obtain⟨dq,e',lc⟩:=h.ok j hj;rw[e]at e';cases oq9 e';refine#[st++[d],by rw[Y0 (by rw[h.ln];exact hj)],λx hx=>?_];rcases aA hx with hx|hx
  ·exact lc x hx
  ·rw[aC hx];exact hd
 ·obtain⟨dq,e',lc⟩:=h.ok j hj;exact#[dq,by rw[Y6 (Z9 hjn)];exact e',lc]
theorem Bs.first{ss:List Str}{ks:List Int}{n:Nat}:Bs ss ks (List.replicate ks.length (.lst [])) 0:=by
 refine#[Yt,λj hj=>#[[],by rw[List.getElem?_replicate,X8 hj],λd h=>nomatch h],?_];unfold J3;rw[List.map_replicate];show(List.replicate ks.length 0).sum<=0;simp
noncomputable def J6(ks:List Int)(gs:List Bool)(ls:List D):List D:=(List.range ks.length).map λj=>.tup [.int (ks.getD j 0),.bl (gs.getD j false),ls.getD j .non]
theorem xk3{ss:List Str}{ks:List Int}{gs:List Bool}{ls:List D}(s1:1<=ss.length)(s3:ss.length<=3)(sg:∀z∈ss,Sg z)(so:kY (ddS ss)=ss)(k1:1<=ks.length)(k12:ks.length<=12)(hk:∀k∈ks,0<=k/\k<=3)(h:Bs ss ks ls 12):Mc ss ks (J6 ks gs ls):=by
 have gl:∀j,j<ks.length->∃st,ls.getD j .non=.lst st/\st.length<=12/\∀d∈st,Stp ss (ks.getD j 0) ks d:=λj hj=>by
  obtain⟨st,e,ck⟩:=h.ok j hj;refine#[st,by rw[Xa,e];rfl,?_,ck];exact Xs (qkj ls j _ e) h.sm
 refine#[s1,s3,sg,so,?_,?_,?_,λr hr=>?_,?_]
 ·unfold J6;rw[X1,Yd];exact k1
 ·unfold J6;rw[X1,Yd];exact k12
 ·unfold J6;rw[Xu];apply List.ext_getElem
  ·simp
  ·intro j h1 h2;have hj:j<ks.length:=by simpa using h2
   simp only[List.getElem_map,List.getElem_range,Function.comp];show D.int (ks.getD j 0)=D.int ks[j];rw[Xa,X3 hj];rfl
 ·unfold J6 at hr;obtain⟨j,hj,rfl⟩:=aE hr;have hj:=List.mem_range.mp hj;obtain⟨st,e,hl,ck⟩:=gl j hj;have hm:ks.getD j 0∈ks:=by rw[Xa,X3 hj];exact Yj _
  exact#[_,_,st,by rw[e],(hk _ hm).1,(hk _ hm).2,by omega,ck]
 ·have:wV (J6 ks gs ls)=J3 ls:=by
   unfold wV J3 J6;rw[Xu]
   congr 1
   apply List.ext_getElem
   ·simp[h.ln]
   ·intro j h1 h2;have hj:j<ks.length:=by simpa using h1
    obtain⟨st,e,_⟩:=h.ok j hj;obtain⟨dl,e2⟩:=List.getElem?_eq_some_iff.mp e;simp only[List.getElem_map,List.getElem_range,Function.comp];have e3:ls.getD j .non=.lst st:=by rw[Xa,e];rfl
    rw[e2,e3];rfl
  rw[this];have:=h.sm;omega
noncomputable def wzf(ss:List Str):Prop:=1<=ss.length/\ss.length<=3/\(∀z∈ss,Sg z)/\kY (ddS ss)=ss
theorem qw8{G:D->Sd->Prop}{v:Sd}(hG:∀d y,G d y->y=v):∀{ds:List D} {ys:List Sd},Each G ds ys->ys=List.replicate ds.length v
 |[],[],_=>rfl
 |d::ds,y::ys,r=>by
  rw[hG d y r.1,qw8 hG r.2];rfl
theorem kz8{ss:List Str}{own:Int}{ks:List Int}{d:D}{o:Own}(h:Stp ss own ks d):vK (o,d)=true:=by
 unfold vK;rw[h.pure,Bool.or_true]
theorem qwb{G:D->Sd->Prop}(hG:∀d y,G d y->∃b,y.2=.bl b):∀{ds:List D} {ys:List Sd},Each G ds ys->∃gs:List Bool,ys.map (·.2)=gs.map D.bl/\gs.length=ds.length
 |[],[],_=>#[[],rfl,rfl]
 |d::ds,y::ys,r=>by
  obtain⟨b,e⟩:=hG d y r.1;obtain⟨gs,h1,h2⟩:=qwb hG r.2;exact#[b::gs,by rw[List.map_cons,e,h1];rfl,by simp[h2]]
noncomputable def hD(ks:List Int)(gs:List Bool)(ls:List D):D->D
 |.int i=>.tup [.int (ks.getD i.toNat 0),.bl (gs.getD i.toNat false),ls.getD i.toNat .non]|d=>d
theorem qzt{ns:List Int}{ss:List Str}{head ay:Int}(um:ns.length<=11)(hs:wzf ss)(m1:1<=ay)(m12:ay<=12):
Eo
  (cLC Own.rt 1 [0] (wx (vV 4)) (Tg.n 0) tYes
   (cF2 (pu2 jQ) (vE (jq A.m__law_mixed [jq B.m__law_cell_at [cV 1,cC (D.int 2)],cV 0]))
    (vE (cC (D.int 4))))
   [some (Own.no,iL ns),some (Own.no,D.int 5),some (Own.dp,D.int head),some (Own.rt,sL ss),
    some (Own.dp,D.int ay),none,none,none,none,none])
  (fun E x =>
   Po
    (j6 (jz 6 (cLC Own.dp 1 [] (wx (vV 4)) (Tg.n 0) tYes (qw Own.dp [])))
     (j6
      (z7 (itS (cSl (vV 0) (some (vV 1)) (some (vE (cF2 jZ (vV 1) (vE (cC (D.int 50)))))))) (Tg.n 7)
       (j6 (jz 8 (cF2 (pu2 jQ) (vE (jq A.m__law_mixed [cV 7,cC (D.int 12)])) (vV 4)))
        (j6 (Vk 6 (vV 8) (jq jqg [cV 7,cV 3,cV 8,cV 5]))
         (sIf
          (tAnd
           (tE
            (cF2 (pu2 fEq)
             (vE (cF2 (pu2 jQ) (vE (cF2 (pu2 vX) (vV 2) (vE (cC (D.int 200))))) (vE (cC (D.int 4)))))
             (vE (cC (D.int 1)))))
           (tE (cF2 (pu2 fEq) (vE (cF2 (pu2 jQ) (vV 7) (vE (cC (D.int 3))))) (vE (cC (D.int 1))))))
          (Vk 6 (vV 8) (cH (j8 (j8 (vV 6) (vV 8)) (vE (cC (D.int 0)))))) k7))))
      (j6
       (jz 9
        (cLC Own.rt 1 [0] (wx (vV 4)) (Tg.n 0) tYes
         (cF2 (pu2 fEq)
          (vE
           (cF2 (pu2 jQ) (vE (jq A.m__law_mixed [jq B.m__law_cell_at [cV 1,cC (D.int 3)],cV 0]))
            (vE (cC (D.int 2)))))
          (vE (cC (D.int 1))))))
       (sFz 6
        (jv
         (vj Own.no
          [cV 3,
           cLC Own.rt 1 [5,9,6] (wx (vV 4)) (Tg.n 0) tYes
            (vj Own.no [cH (j8 (vV 1) (vV 0)),cH (j8 (vV 2) (vV 0)),cH (j8 (vV 3) (vV 0))])])))))
     (List.set E 5 (some x)))
    (λx=>∃z:List Str×List Int×List D,(Own.dp,D.non)=(Own.no,Qw z.1 z.2.2)/\Mc z.1 z.2.1 z.2.2) (λx=>False)
    (λy=>∃z:List Str×List Int×List D,y=(Own.no,Qw z.1 z.2.2)/\Mc z.1 z.2.1 z.2.2) noX)
  noX:=by
 have bk:∀E:En,back [] [] (clr [] E)=E:=λ_=>rfl
 obtain⟨s1,s3,sg,so⟩:=hs;refine vw [some (.no,iL ns)] (λ_ y=>∃i,y.2=.int i/\0<=i/\i<=3) ?_;refine Q3 ?_;simp![];refine#[ay,rfl,by omega,by omega,rfl,λd hd=>?_,λys hy=>?_]
 ·obtain⟨i,i0,i1,rfl⟩:=Q2 hd;simp![];refine(B.cell_ok ns 2 (by omega)).use ?_;intro _ _;simp![];refine(A.mixed_ok _ i i0 (by omega)).use ?_;intro v _;have t0:=Xm v (show(4:Int)≠0 by decide);have t1:=Xj v (show(0:Int)<4 by decide);simp![];exact#[#[_,rfl],_,rfl,t0,by omega]
 obtain⟨ks,e1,e2,hk⟩:=qjy (S:=λi=>0<=i/\i<=3) (λd y #[i,h,s]=>#[i,h,s]) hy;have jg:(ks.length:Int)=ay:=by rw[e2,kqk (by omega)];omega
 rw [qV,e1];simp only[back,clr,at',List.map_cons,List.map_nil,List.set_cons_zero,List.set_cons_succ];simp![];refine vw [] (λ_ y=>y=(.dp,.lst [])) ?_;refine Q3 ?_;simp![];refine#[ay,rfl,by omega,by omega,λd hd=>?_,λys hy=>?_]
 ·exact#[#[_,rfl],trivial]
 rw [qw8 (λ_ _ h=>h) hy,wwq (List.all_eq_true.mpr λy hy=>by rw[List.eq_of_mem_replicate hy];rfl),List.map_replicate,bk];rw [show(qv 0 ay).length=ks.length by have:=kqk (k:=0) (n:=ay) (by omega);omega];simp![qwu (o:=.no) (xs:=ns.map D.int) (lo:=some 5) (hi:=some (5+50)) ⋯];obtain⟨cells,hc1,hc3⟩:∃cells:List Int,K3 (ns.map D.int) (some 5) (some (5+50))=cells.map D.int/\cells.length<=6:=by
  refine#[(ns.drop _).take _,by unfold K3;rw[List.map_take,List.map_drop],?_];rw [Y1,Yn,X1];show min (min (55:Int).toNat ns.length - min (5:Int).toNat ns.length) (ns.length - min (5:Int).toNat ns.length)<=6;have h1:(55:Int).toNat=55:=rfl;have h2:(5:Int).toNat=5:=rfl;rw [h1,h2];omega
 refine V9 (λE b6=>∃(ls:List D) (n:Nat) (o3 o5:Own) (l7 l8:Option Sd) (cs:List Int),(o3=.rt\/o3=.no)/\(o5=.rt\/o5=.no)/\E=[some (.no,iL ns),some (.no,.int 5),some (.dp,.int head),some (o3,sL ss),some (.dp,.int ay),some (o5,iL ks),some (.dp,.lst ls),l7,l8,none]/\b6=cs.map D.int/\n+2*cs.length<=12/\Bs ss ks ls n) ?_ ?_ ?_
 ·simp![qwu (o:=.no) (xs:=ns.map D.int) (lo:=some 5) (hi:=some (5+50)) ⋯,hc1];exact#[_,0,.rt,.rt,_,_,cells,.inl rfl,.inl rfl,rfl,rfl,by omega,Bs.first (n:=0)]
 ·rintro E d b6 ⟨ls,n,o3,o5,l7,l8,cs,sh,ho5,rfl,he,hn,hb⟩;cases cs with
  | nil=>cases he
  | cons c cs=>
   have he:d::b6=.int c::cs.map D.int:=he;injection he with e1 e2;subst e1 e2;have w0:=λv=>Xm v (show ay≠0 by omega)
   have w1:=λv=>Xj v (show 0<ay by omega)
   have qr:∀(v:Int),0<=v % ay->v % ay<ay->∃st,ls[(v % ay).toNat]?=some (.lst st)/\∀d∈st,Stp ss (ks.getD (v % ay).toNat 0) ks d:=λv a b=>hb.ok _ (by omega)
   have r1:fEq (.int (head / 200 % 4)) (.int 1)=some (.bl (head / 200 % 4==1)):=wv;have r2:fEq (.int (c % 3)) (.int 1)=some (.bl (c % 3==1)):=wv;simp![];refine(A.mixed_ok c 12 ⋯ ⋯).use ?_;intro v _;obtain⟨st,est,ck⟩:=qr v (w0 v) (w1 v);have hsm:=hb.sm;have az:=qkj ls _ _ est;have az:st.length<=J3 ls:=az;simp![mod_i (a:=v) (b:=ay) (by omega)];refine vjn rfl ?_;simp![];refine#[_,st,rfl,w0 v,est,by omega,?_];rcases sh with rfl|rfl<;>rcases ho5 with rfl|rfl
   all_goals
    simp![];refine(vzo c (v % ay) s1 s3 hk (by omega) (w0 v) (by have:=w1 v;omega)).use ?_;intro d hd;have i7:=hb.put (n:=(v % ay).toNat) (by have:=w1 v;have:=w0 v;omega) est hd;have hfst:∃x,(st++[d])[0]?=some x/\Stp ss (ks.getD (v % ay).toNat 0) ks x:=by
     cases st with|nil=>exact#[d,rfl,hd]|cons a st=>exact#[a,rfl,ck a X2]
    obtain⟨x,ex,hx⟩:=hfst;refine#[rfl,kz8 hd,?_];have ne:∀o:Own,∃l7 l8:Option Sd,True:=λ_=>#[none,none,trivial]
    cases hq1:(head / 200 % 4==1)with
    | false=>
     rw[hq1]at r1;simp![r1];exact#[_,n+1,.no,.no,_,_,cs,.inr rfl,.inr rfl,rfl,rfl,by simp only[Xg]at hn;omega,i7]
    | true=>
     rw[hq1]at r1;cases hq2:(c % 3==1)with
     |false=>
      rw[hq2]at r2;simp![r1,r2];exact#[_,n+1,.no,.no,_,_,cs,.inr rfl,.inr rfl,rfl,rfl,by simp only[Xg]at hn;omega,i7]
     |true=>
      rw[hq2]at r2;have qy:(ls.set (v % ay).toNat (.lst (st++[d])))[(v % ay).toNat]?=some (.lst (st++[d])):=Y0 (List.getElem?_eq_some_iff.mp est).1;have ix1:jw (.lst (ls.set (v % ay).toNat (.lst (st++[d])))) (.int (v % ay))=some (.lst (st++[d])):=kQ (w0 v) qy;have ix2:jw (.lst (st++[d])) (.int 0)=some x:=kQ ⋯ ex;have hb3:=i7.put (n:=(v % ay).toNat) (by have:=w1 v;have:=w0 v;omega) qy hx;simp![r1,r2];refine vjn rfl ?_;simp![];refine#[_,_,rfl,w0 v,qy,by rw[Xf];simp only[Xg,List.length_nil];omega,?_];simp![ix1,ix2];rw[X8 hx.pure];exact#[kz8 hx,_,n+2,.no,.no,_,_,cs,.inr rfl,.inr rfl,rfl,rfl,by simp only[Xg]at hn;omega,hb3]
 ·rintro E ⟨ls,n,o3,o5,l7,l8,cs,sh,ho5,rfl,he,hn,hb⟩;simp![];refine vw [some (.no,iL ns)] (λ_ y=>∃b,y.2=.bl b) ?_;refine Q3 ?_;simp![];refine#[ay,rfl,by omega,by omega,rfl,λd hd=>?_,λys hy=>?_]
  ·obtain⟨i,i0,i1,rfl⟩:=Q2 hd;simp![];refine(B.cell_ok ns 3 (by omega)).use ?_;intro _ _;simp![];refine(A.mixed_ok _ i i0 (by omega)).use ?_;intro v _;have r1:fEq (.int (v % 2)) (.int 1)=some (.bl (v % 2==1)):=wv;simp![r1];exact#[#[_,rfl],_,rfl]
  obtain⟨gs,f1,f2⟩:=qwb (λ_ _ h=>h) hy;have hgl:gs.length=ks.length:=by rw[f2];have:=kqk (k:=0) (n:=ay) (by omega);omega
  rw[qV,f1];simp only[back,clr,at',List.map_cons,List.map_nil,List.set_cons_zero,List.set_cons_succ];simp![];rw[w_fz,xke rfl];have hM:Mc ss ks (J6 ks gs ls):=xk3 s1 s3 sg so (by omega) (by omega) hk #[hb.ln,hb.ok,Xs hb.sm (by omega)];have hR:(qv 0 ay).map (hD ks gs ls)=J6 ks gs ls:=by
   unfold qv J6;rw[Xu,show(ay - 0).toNat=ks.length by omega]
   congr 1
   funext k;show D.tup [.int (ks.getD (0+(k:Int)).toNat 0),.bl (gs.getD (0+(k:Int)).toNat false),ls.getD (0+(k:Int)).toNat .non]=_;rw[show(0+(k:Int)).toNat=k by omega]
  rcases ho5 with rfl|rfl<;>rcases sh with rfl|rfl
  rotate_left 2
  ·simp![];refine vw [some (.no,iL ks),some (.rt,.lst (gs.map D.bl)),some (.no,.lst ls)] (λd y=>y.2=hD ks gs ls d) ?_;refine Q3 ?_;simp![];refine#[ay,rfl,by omega,by omega,rfl,λd hd=>?_,λys hy=>?_]
   ·obtain⟨i,i0,i1,rfl⟩:=Q2 hd;have hi:i.toNat<ks.length:=by omega
    have x1:jw (iL ks) (.int i)=some (.int (ks.getD i.toNat 0)):=kQ i0 (by rw[Xi,Xa,X3 hi];rfl);have x2:jw (.lst (gs.map D.bl)) (.int i)=some (.bl (gs.getD i.toNat false)):=kQ i0 (by rw[Xi,Xa,X3 (by omega)];rfl);have x3:jw (.lst ls) (.int i)=some (ls.getD i.toNat .non):=kQ i0 (by rw[Xa,X3 (by rw[hb.ln];exact hi)];rfl);simp![x1,x2,x3];exact#[#[_,rfl],rfl]
   rw[qV,xq (h:=hD ks gs ls) (λ_ _ h=>h) hy,hR];simp only[back,clr,at',List.map_cons,List.map_nil,List.set_cons_zero,List.set_cons_succ];simp![];exact#[(ss,ks,J6 ks gs ls),rfl,hM]
  ·simp![];refine vw [some (.no,iL ks),some (.rt,.lst (gs.map D.bl)),some (.no,.lst ls)] (λd y=>y.2=hD ks gs ls d) ?_;refine Q3 ?_;simp![];refine#[ay,rfl,by omega,by omega,rfl,λd hd=>?_,λys hy=>?_]
   ·obtain⟨i,i0,i1,rfl⟩:=Q2 hd;have hi:i.toNat<ks.length:=by omega
    have x1:jw (iL ks) (.int i)=some (.int (ks.getD i.toNat 0)):=kQ i0 (by rw[Xi,Xa,X3 hi];rfl);have x2:jw (.lst (gs.map D.bl)) (.int i)=some (.bl (gs.getD i.toNat false)):=kQ i0 (by rw[Xi,Xa,X3 (by omega)];rfl);have x3:jw (.lst ls) (.int i)=some (ls.getD i.toNat .non):=kQ i0 (by rw[Xa,X3 (by rw[hb.ln];exact hi)];rfl);simp![x1,x2,x3];exact#[#[_,rfl],rfl]
   rw[qV,xq (h:=hD ks gs ls) (λ_ _ h=>h) hy,hR];simp only[back,clr,at',List.map_cons,List.map_nil,List.set_cons_zero,List.set_cons_succ];simp![];exact#[(ss,ks,J6 ks gs ls),rfl,hM]
  ·simp![];refine vw [some (.rt,iL ks),some (.rt,.lst (gs.map D.bl)),some (.no,.lst ls)] (λd y=>y.2=hD ks gs ls d) ?_;refine Q3 ?_;simp![];refine#[ay,rfl,by omega,by omega,rfl,λd hd=>?_,λys hy=>?_]
   ·obtain⟨i,i0,i1,rfl⟩:=Q2 hd;have hi:i.toNat<ks.length:=by omega
    have x1:jw (iL ks) (.int i)=some (.int (ks.getD i.toNat 0)):=kQ i0 (by rw[Xi,Xa,X3 hi];rfl);have x2:jw (.lst (gs.map D.bl)) (.int i)=some (.bl (gs.getD i.toNat false)):=kQ i0 (by rw[Xi,Xa,X3 (by omega)];rfl);have x3:jw (.lst ls) (.int i)=some (ls.getD i.toNat .non):=kQ i0 (by rw[Xa,X3 (by rw[hb.ln];exact hi)];rfl);simp![x1,x2,x3];exact#[#[_,rfl],rfl]
   rw[qV,xq (h:=hD ks gs ls) (λ_ _ h=>h) hy,hR];simp only[back,clr,at',List.map_cons,List.map_nil,List.set_cons_zero,List.set_cons_succ];simp![];exact#[(ss,ks,J6 ks gs ls),rfl,hM]
  ·simp![];refine vw [some (.rt,iL ks),some (.rt,.lst (gs.map D.bl)),some (.no,.lst ls)] (λd y=>y.2=hD ks gs ls d) ?_;refine Q3 ?_;simp![];refine#[ay,rfl,by omega,by omega,rfl,λd hd=>?_,λys hy=>?_]
   ·obtain⟨i,i0,i1,rfl⟩:=Q2 hd;have hi:i.toNat<ks.length:=by omega
    have x1:jw (iL ks) (.int i)=some (.int (ks.getD i.toNat 0)):=kQ i0 (by rw[Xi,Xa,X3 hi];rfl);have x2:jw (.lst (gs.map D.bl)) (.int i)=some (.bl (gs.getD i.toNat false)):=kQ i0 (by rw[Xi,Xa,X3 (by omega)];rfl);have x3:jw (.lst ls) (.int i)=some (ls.getD i.toNat .non):=kQ i0 (by rw[Xa,X3 (by rw[hb.ln];exact hi)];rfl);simp![x1,x2,x3];exact#[#[_,rfl],rfl]
   rw[qV,xq (h:=hD ks gs ls) (λ_ _ h=>h) hy,hR];simp only[back,clr,at',List.map_cons,List.map_nil,List.set_cons_zero,List.set_cons_succ];simp![];exact#[(ss,ks,J6 ks gs ls),rfl,hM]
theorem qxd(ns:List Int)(um:ns.length<=11)(hS:∀c:Int,Oo jq0 [(.no,.int c)] (λy=>∃ss,y=(.rt,sL ss)/\wzf ss) noX):
  Oo jkt [(.no,iL ns),(.no,.int 5)] (λy=>∃(z:List Str×List Int×List D),y=(.no,Qw z.1 z.2.2)/\Mc z.1 z.2.1 z.2.2) noX:=by
 unfold jkt;rw[kxn,wxm];refine kz ?_;simp![];refine(B.cell_ok ns 0 (by omega)).use ?_;intro _ _;simp![];refine(A.mixed_ok _ 0 ⋯ ⋯).use ?_;intro head _;simp![];refine(B.cell_ok ns 1 (by omega)).use ?_;intro _ _;simp![];refine(hS _).use ?_;rintro ss ⟨s1,s3,sg,so⟩;have q0:=Xm head (show(4:Int)≠0 by decide);have q1:=Xj head (show(0:Int)<4 by decide);have u0:=Xm (head / 24) (show(8:Int)≠0 by decide);have u1:=Xj (head / 24) (show(0:Int)<8 by decide);have hbr:∃ay:Int,1<=ay/\ay<=12/\((head / 4 % 6=1/\ay=5+head / 24 % 8)\/(head / 4 % 6≠1/\ay=1+head % 4)):=by
  by_cases hc:head / 4 % 6=1
  ·exact#[_,by omega,by omega,.inl #[hc,rfl]]
  ·exact#[_,by omega,by omega,.inr #[hc,rfl]]
 obtain⟨ay,m1,m12,pz⟩:=hbr;have hj:∀P:Int->Prop,P ay->(head / 4 % 6=1->P (5+head / 24 % 8))/\(head / 4 % 6≠1->P (1+head % 4)):=λP h=>by
  rcases pz with⟨hc,e⟩|⟨hc,e⟩
  ·exact#[λ_=>e▸h,λz=>absurd hc z]
  ·exact#[λz=>absurd z hc,λ_=>e▸h]
 have hq:∀(b:Bool),b=(head / 4 % 6==1)->fEq (.int (head / 4 % 6)) (.int 1)=some (.bl b):=λb e=>by rw[wv,e]
 rcases pz with⟨hc,hmv⟩|⟨hc,hmv⟩
 ·simp![hq true (by simp[hc])];rw[<-hmv];exact qzt um #[s1,s3,sg,so] m1 m12
 ·simp![hq false (by simp[hc])];rw[<-hmv];exact qzt um #[s1,s3,sg,so] m1 m12
theorem kqv:∀z∈(["any","fresh","good","new","none","room","signs"]:List Str),Sg z:=by
 intro z hz;simp only[Y5,Y9,or_false]at hz;have h:∀z:Str,(decide (1<=z.cps.size)&&decide (z.cps.size<=8)&&z.cps.toList.all λc=>AZ.cps.toList.any (· == c))=true->Sg z:=λz h=>by
  rw[Bool.and_eq_true,Bool.and_eq_true]at h;refine#[Y7 h.1.1,Y7 h.1.2,λc hc=>?_];obtain⟨x,hx,e⟩:=List.any_eq_true.mp (List.all_eq_true.mp h.2 c hc);rw[<-eq_of_beq e];exact hx
 rcases hz with rfl|rfl|rfl|rfl|rfl|rfl|rfl<;>exact h _ (by decide +kernel)
theorem kvw{l:List Str}(h1:1<=l.length)(h3:l.length<=3)(hn:l.Nodup)(hs:∀z∈l,Sg z):wzf (kY l):=
 #[by rw[(Kv l).length_eq];exact h1,by rw[(Kv l).length_eq];exact h3,λz hz=>hs z ((Kv l).mem_iff.mp hz),qzo hn]
theorem vvd(c:Int)(hw:∀(c ay:Int),1<=ay->ay<=3->Oo m__law_words [(.no,.int c),(.no,.int ay)] (λy=>∃l,y=(.rt,sL l)/\(l.length:Int)=ay/\l.Nodup/\∀z∈l,Sg z) noX):
  Oo jq0 [(.no,.int c)] (λy=>∃ss,y=(.rt,sL ss)/\wzf ss) noX:=by
 unfold jq0;refine kz ?_;have q0:=Xm (c / 32) (show(3:Int)≠0 by decide);have q1:=Xj (c / 32) (show(0:Int)<3 by decide)
 by_cases h:c % 4=1
 ·have e:fEq (.int (c % 4)) (.int 1)=some (.bl true):=by rw[h];rfl
  have ix:∀v:Int,∃z∈(["any","fresh","good","new","none","room","signs"]:List Str),jw (.lst [.str "any",.str "fresh",.str "good",.str "new",.str "none",.str "room",.str "signs"]) (.int (v % 7))=some (.str z):=λv=>by
   have t0:=Xm v (show(7:Int)≠0 by decide);have t1:=Xj v (show(0:Int)<7 by decide);generalize v % 7=t at t0 t1;rcases(show t=0\/t=1\/t=2\/t=3\/t=4\/t=5\/t=6 by omega)with rfl|rfl|rfl|rfl|rfl|rfl|rfl
   ·exact#["any",by simp,rfl]
   ·exact#["fresh",by simp,rfl]
   ·exact#["good",by simp,rfl]
   ·exact#["new",by simp,rfl]
   ·exact#["none",by simp,rfl]
   ·exact#["room",by simp,rfl]
   ·exact#["signs",by simp,rfl]
  obtain⟨z1,m1,x1⟩:=ix (c / 4);obtain⟨z2,m2,x2⟩:=ix (c / 28);obtain⟨z3,m3,x3⟩:=ix (c / 196);have es:K5 (.no,.lst [.str z1,.str z2,.str z3])=some (.rt,sL (kY (ddS [z1,z2,z3]))):=rfl;have hd:wzf (kY (ddS [z1,z2,z3])):=by
   refine kvw ?_ (Sw.dd_le [z1,z2,z3]) (vwq _) λz hz=>?_
   ·rcases(PyProof.Rows.foldl_step_dedup_nil_zero_or_pos [z1,z2,z3])with h|h
    ·cases h
    ·exact h
   ·have:=vz5 hz;simp only[Y5,Y9,or_false]at this;rcases this with rfl|rfl|rfl
    ·exact kqv _ m1
    ·exact kqv _ m2
    ·exact kqv _ m3
  simp![e,x1,x2,x3,es];exact#[_,rfl,hd]
 ·have e:fEq (.int (c % 4)) (.int 1)=some (.bl false):=by rw[wv];simp[h]
  simp![e];refine(hw (c / 4) (1+c / 32 % 3) (by omega) (by omega)).use ?_;rintro l ⟨l1,l2,l3⟩;have es:kqt (.no,sL l)=some (.rt,sL (kY l)):=by
   unfold kqt;dsimp only;rw[YQ];dsimp only;rw[X8 (by omega)]
  simp![es];exact#[_,rfl,kvw (by omega) (by omega) l2 l3]
theorem qjc{n:Nat}{f:Nat->Str}(h:∀i j,i<j->j<n->f i≠f j):((List.range n).map f).Nodup:=by
 unfold List.Nodup;rw[List.pairwise_map];exact List.pairwise_lt_range.imp_of_mem λ_ hj dl=>h _ _ dl (List.mem_range.mp hj)
theorem wqp{z:Str}{j:Int}(h0:0<=j)(h1:j<=z.cps.size):(Txt.slice z none (some j)).cps.toList=z.cps.toList.take j.toNat:=by
 have:=StrLaws.sliceText_to (x:=z) (j:=j) #[h0,by rw[Xb];exact h1];rw[show Txt.slice z none (some j)=StrLaws.sliceText z none (some j)from rfl,this];simp
theorem wqr{z:Str}{i j:Int}(h0:0<=i)(hij:i<=j)(h1:j<=z.cps.size):(Txt.slice z (some i) (some j)).cps.toList=(z.cps.toList.drop i.toNat).take (j - i).toNat:=by
 have:=StrLaws.sliceText_plain (x:=z) (i:=i) (j:=j) #[h0,hij,by rw[Xb];exact h1];rw[show Txt.slice z (some i) (some j)=StrLaws.sliceText z (some i) (some j)from rfl,this]
def chr(t:Int):Nat:=AZ.cps.toList.getD t.toNat 0
theorem wx7{t:Int}(h0:0<=t)(h1:t<26):jw (.str AZ) (.int t)=some (.str #[(List.toArray [chr t])])/\chr t∈AZ.cps.toList:=by
 have hl:AZ.cps.toList.length=26:=by decide +kernel
 have hs:AZ.cps.size=26:=by decide +kernel
 have e:AZ.cps.toList[t.toNat]?=some (chr t):=by
  unfold chr;rw[Xa,X3 (by omega)];rfl
 refine#[?_,Ya e];show((Q.ixN AZ.cps.size t).bind λj=>(AZ.cps.toList[j]?).map λc=>D.str #[(List.toArray [c])])=_;unfold Q.ixN;rw[X8 h0,X8 (by omega)];show((AZ.cps.toList[t.toNat]?).map λc=>D.str #[(List.toArray [c])])=_;rw[e];rfl
theorem wkn{t u:Int}(h0:0<=t)(h1:t<26)(g0:0<=u)(g1:u<26)(e:chr t=chr u):t=u:=by
 have h:∀i:Fin 26,∀j:Fin 26,AZ.cps.toList.getD i 0=AZ.cps.toList.getD j 0->i=j:=by decide +kernel
 have:=h #[t.toNat,by omega] #[u.toNat,by omega] e;have:=congrArg Fin.val this;have:t.toNat=u.toNat:=this;omega
noncomputable def wdA(z:Str)(c:Int)(k:Nat):Str:=Txt.slice z none (some (1+((k:Int)+c / 3) % 8))
theorem qxz{z:Str}{c:Int}(hz:z.cps.size=8)(hl:∀x∈z.cps.toList,x∈AZ.cps.toList)(k:Nat):Sg (wdA z c k)/\((wdA z c k).cps.size:Int)=1+((k:Int)+c / 3) % 8:=by
 have t0:=Xm ((k:Int)+c / 3) (show(8:Int)≠0 by decide);have t1:=Xj ((k:Int)+c / 3) (show(0:Int)<8 by decide);have e:=wqp (z:=z) (j:=1+((k:Int)+c / 3) % 8) (by omega) (by omega);have hs:((wdA z c k).cps.size:Int)=1+((k:Int)+c / 3) % 8:=by
  unfold wdA;rw[<-Xb,e,Y1,Xb];omega
 refine#[#[by omega,by omega,λx hx=>hl x ?_],hs];unfold wdA at hx;rw[e]at hx;exact List.mem_of_mem_take hx
theorem qz0{z:Str}{c:Int}(hz:z.cps.size=8)(hl:∀x∈z.cps.toList,x∈AZ.cps.toList){n:Nat}(hn:n<=3):((List.range n).map (wdA z c)).Nodup:=qjc λi j hij hj e=>by
 have h1:=(qxz (c:=c) hz hl i).2;have h2:=(qxz (c:=c) hz hl j).2;rw[e]at h1;omega
noncomputable def wdB(w1 w2:Str)(ii s:Int)(k:Nat):Str:=w1++#[(List.toArray [chr ((ii+(k:Int)*s) % 26)])]++w2
theorem kkd(w1 w2:Str)(ii s:Int)(k:Nat):(wdB w1 w2 ii s k).cps.toList=w1.cps.toList++(chr ((ii+(k:Int)*s) % 26)::w2.cps.toList):=by
 unfold wdB;rw[A.list_app,A.list_app,Xn];rfl
theorem wq8{w1 w2:Str}{ii s:Int}(hs:w1.cps.size+w2.cps.size<=7)(h1:∀x∈w1.cps.toList,x∈AZ.cps.toList)(h2:∀x∈w2.cps.toList,x∈AZ.cps.toList)(k:Nat):Sg (wdB w1 w2 ii s k):=by
 have t0:=Xm (ii+(k:Int)*s) (show(26:Int)≠0 by decide);have t1:=Xj (ii+(k:Int)*s) (show(0:Int)<26 by decide);have hz:(wdB w1 w2 ii s k).cps.size=w1.cps.size+w2.cps.size+1:=by
  rw[<-Xb,kkd,Xf,Xg,Xb,Xb];omega
 refine#[by omega,by omega,λx hx=>?_];rw[kkd]at hx;rcases aA hx with hx|hx
 ·exact h1 x hx
 ·rcases aD hx with rfl|hx
  ·exact(wx7 t0 t1).2
  ·exact h2 x hx
theorem qxy{w1 w2:Str}{ii s:Int}(s1:1<=s)(s5:s<=5){n:Nat}(hn:n<=3):((List.range n).map (wdB w1 w2 ii s)).Nodup:=qjc λi j hij hj e=>by
 have e:(wdB w1 w2 ii s i).cps.toList=(wdB w1 w2 ii s j).cps.toList:=by rw[e]
 rw[kkd,kkd]at e;have e:=List.append_cancel_left e;injection e with e _;have b:=λk:Nat=>Xm (ii+(k:Int)*s) (show(26:Int)≠0 by decide)
 have d:=λk:Nat=>Xj (ii+(k:Int)*s) (show(0:Int)<26 by decide)
 have e:=wkn (b i) (d i) (b j) (d j) e;have hi:i=0\/i=1:=by omega
 have hj:j=1\/j=2:=by omega
 rcases hi with rfl|rfl<;>rcases hj with rfl|rfl<;>omega
def hW(f:Nat->Str):D->D
 |.int k=>.str (f k.toNat)|d=>d
theorem qxl{G:D->Sd->Prop}{f:Nat->Str}{n:Int}{ys:List Sd}(hG:∀d y,G d y->y.2=hW f d)(h:Each G (qv 0 n) ys):ys.map (·.2)=((List.range n.toNat).map f).map D.str:=by
 rw[xq (h:=hW f) hG h];unfold qv;rw[Xu,Xu,Int.sub_zero]
 congr 1
 funext k;show D.str (f (0+(k:Int)).toNat)=_;rw[show(0+(k:Int)).toNat=k by omega];rfl
theorem wq7(c ay:Int)(h0:1<=ay)(h1:ay<=3):Oo m__law_words [(.no,.int c),(.no,.int ay)] (λy=>∃l,y=(.rt,sL l)/\(l.length:Int)=ay/\l.Nodup/\∀z∈l,Sg z) noX:=by
 rw [wkl];unfold A.m__law_words;refine kz ?_;simp![↓Q7];refine vw [some (.dp,.str AZ),some (.no,.int c)] (λ_ y=>∃ch∈AZ.cps.toList,y.2=.str #[(List.toArray [ch])]) ?_;simp![];refine#[rfl,λd hd=>?_,λys hys=>?_]
 ·obtain⟨j,j0,j1,rfl⟩:=Q2 hd;simp![];refine(A.mixed_ok c j j0 (by omega)).use ?_;intro v _;have t0:=Xm v (show(26:Int)≠0 by decide);have t1:=Xj v (show(0:Int)<26 by decide);obtain⟨ch,jy,hc⟩:=A.ix_strM AZ (v % 26) t0 t1;simp![hc];exact#[#[_,rfl],ch,jy,rfl]
 obtain⟨ps,g1,g2,g3⟩:=A.each_one (λd y h=>h) hys;have bv:ps.length=8:=by rw[g2];rfl
 obtain⟨z,hz,z0,z1⟩:=A.join_az g3 (by omega);rw [qV,g1];simp only[back,clr,at',List.map_cons,List.map_nil,List.set_cons_zero,List.set_cons_succ];have zs:z.cps.size<=100:=by omega
 have z8:z.cps.size=8:=by omega
 by_cases h3:c % 3=1
 ·have hd:fEq (.int (c % 3)) (.int 1)=some (.bl true):=by rw[h3];rfl
  simp![hz,hd];refine vw [some (.dp,.str z),some (.no,.int c)] (λd y=>y.2=hW (wdA z c) d) ?_;simp![];refine#[rfl,λd hd=>?_,λys hys=>?_]
  ·obtain⟨j,j0,j1,rfl⟩:=Q2 hd;have s1:=B.sl_s (o:=.no) (z:=z) (lo:=none) (hi:=some (1+(j+c / 3) % 8)) zs;have s1':=B.sl_s (o:=.dp) (z:=z) (lo:=none) (hi:=some (1+(j+c / 3) % 8)) zs;simp![s1,s1'];refine#[#[_,rfl],?_];show _=D.str (wdA z c j.toNat);unfold wdA;rw[show((j.toNat:Nat):Int)=j by omega]
  ·rw[qV,qxl (λ_ _ h=>h) hys];exact#[_,rfl,by rw[X1,Yd];omega,qz0 z8 z1 (by omega),λw hw=>by
    obtain⟨k,_,rfl⟩:=aE hw;exact(qxz z8 z1 k).1]
 ·have hd:fEq (.int (c % 3)) (.int 1)=some (.bl false):=by rw[wv];simp[h3]
  have a0:=Xm (c / 3) (show(8:Int)≠0 by decide);have a1:=Xj (c / 3) (show(0:Int)<8 by decide);have b0:=Xm (c / 24) (show 1+c / 3 % 8≠0 by omega);have b1:=Xj (c / 24) (show 0<1+c / 3 % 8 by omega);simp![hz,hd,mod_i (a:=c / 24) (b:=1+c / 3 % 8) (by omega)];generalize c / 24 % (1+c / 3 % 8)=b8 at b0 b1;obtain⟨lg,hlg⟩:∃lg,lg=1+c / 3 % 8:=#[_,rfl];rw[<-hlg]at b1 ⊢;have c0:=Xm (c / 192) (show(5:Int)≠0 by decide);have c1:=Xj (c / 192) (show(0:Int)<5 by decide);obtain⟨ch,jy,hix⟩:=A.ix_strM z b8 b0 (by omega);obtain⟨ii,hii⟩:=A.az_found ch (z1 ch jy);have e1:=wqp (z:=z) (j:=b8) b0 (by omega);have e2:=wqr (z:=z) (i:=b8+1) (j:=lg) (by omega) (by omega) (by omega);have s1:=λo=>B.sl_s (o:=o) (z:=z) (lo:=none) (hi:=some b8) zs
  have s2:=λo=>B.sl_s (o:=o) (z:=z) (lo:=some (b8+1)) (hi:=some lg) zs
  generalize Txt.slice z none (some b8)=w1 at e1 s1;generalize Txt.slice z (some (b8+1)) (some lg)=w2 at e2 s2;have n1:(w1.cps.size:Int)=b8:=by rw[<-Xb,e1,Y1,Xb];omega
  have n2:(w2.cps.size:Int)=lg - (b8+1):=by rw[<-Xb,e2,Y1,Yn,Xb];omega
  have v1:∀x∈w1.cps.toList,x∈AZ.cps.toList:=λx hx=>z1 x (by rw[e1]at hx;exact List.mem_of_mem_take hx)
  have v2:∀x∈w2.cps.toList,x∈AZ.cps.toList:=λx hx=>z1 x (by rw[e2]at hx;exact List.mem_of_mem_drop (List.mem_of_mem_take hx))
  refine V9 (λE b6=>∃(j:Nat) (l7 l8:Option Sd) (o2 o3 o4 o5:Own),E=[some (.no,.int c),some (.no,.int ay),some (o2,.str AZ),some (o3,.str z),some (o4,.int lg),some (o5,.int b8),some (.rt,sL ((List.range j).map (wdB w1 w2 ii (1+c / 192 % 5)))),l7,l8]/\(j:Int)<=ay/\b6=qv j ay) ?_ ?_ ?_
  ·simp![];exact#[0,_,_,_,_,_,_,rfl,by omega,rfl]
  ·rintro E d ds ⟨j,l7,l8,o2,o3,o4,o5,rfl,j1,hr⟩;obtain⟨hj,rfl,rfl⟩:=kzr j1 hr;have m1:=mul_l (o1:=.no) (o2:=.no) (a:=(j:Int)) (b:=1+c / 192 % 5) (by omega) (by omega);have t0:=Xm ((ii:Int)+j*(1+c / 192 % 5)) (show(26:Int)≠0 by decide);have t1:=Xj ((ii:Int)+j*(1+c / 192 % 5)) (show(0:Int)<26 by decide);simp![↓wq9,hix,hii,m1,show qvz (.str AZ)=true from rfl];have hx:=(wx7 t0 t1).1;have nw:((#[(List.toArray [chr (((ii:Int)+j*(1+c / 192 % 5)) % 26)])]:Str).cps.size)=1:=rfl;have a1:=VJ (o1:=.no) (o2:=.no) (a:=w1) (b:=#[(List.toArray [chr (((ii:Int)+j*(1+c / 192 % 5)) % 26)])]) (by rw[nw];omega);have a2:=VJ (o1:=.no) (o2:=.no) (a:=w1++#[(List.toArray [chr (((ii:Int)+j*(1+c / 192 % 5)) % 26)])]) (b:=w2) (by rw[VW,nw];omega);have a1':=VJ (o1:=.no) (o2:=sub o2) (a:=w1) (b:=#[(List.toArray [chr (((ii:Int)+j*(1+c / 192 % 5)) % 26)])]) (by rw[nw];omega);refine XZ rfl ?_;simp![s1,s2,hx,a1,a2,a1'];refine#[_,rfl,by rw[X1,X1,Yd];omega,?_];rw[show((List.range j).map (wdB w1 w2 ii (1+c / 192 % 5))).map D.str++[D.str (w1++#[(List.toArray [chr (((ii:Int)+j*(1+c / 192 % 5)) % 26)])]++w2)]=((List.range (j+1)).map (wdB w1 w2 ii (1+c / 192 % 5))).map D.str by rw[List.range_succ,Xq,Xq];rfl];exact#[j+1,_,_,_,_,_,_,rfl,by omega,by rw[show((j:Int)+1)=((j+1:Nat):Int)by omega]]
  ·rintro E ⟨j,l7,l8,o2,o3,o4,o5,rfl,j1,hr⟩;have:=kzs j1 hr;simp![];exact#[_,rfl,by rw[X1,Yd];omega,qxy (by omega) (by omega) (by omega),λw hw=>by
    obtain⟨k,_,rfl⟩:=aE hw;exact wq8 (by omega) v1 v2 k]
theorem Fil.flat{own:Int}{n:Nat}{d:D}(h:Fil own d):d.flat (n+1)=true:=by rcases h with rfl|rfl|⟨i,rfl,_⟩<;>rfl
theorem Ask.flat{own:Int}{n:Nat}{d:D}(h:Ask own d):d.flat (n+1)=true:=by rcases h with rfl|rfl|⟨i,rfl,_⟩<;>rfl
theorem Stp.flat{ss:List Str}{own:Int}{ks:List Int}{d:D}{n:Nat}(h:Stp ss own ks d):d.flat (n+4)=true:=by
 obtain⟨sg,im,to,fs,rfl,hs,ha,t0,t1,hf,fk⟩:=h;refine zK λx hx=>?_
 simp only[Y5,Y9,or_false]at hx;rcases hx with rfl|rfl|rfl|rfl
 ·rfl
 ·exact ha.flat
 ·rfl
 ·exact zK λf hf=>(fk f hf).flat
theorem Rm.flat{ss:List Str}{ks:List Int}{r:D}{n:Nat}(h:Rm ss ks r):r.flat (n+7)=true:=by
 obtain⟨k,gd,st,rfl,h0,h3,hl,ck⟩:=h;refine zK λx hx=>?_
 simp only[Y5,Y9,or_false]at hx;rcases hx with rfl|rfl|rfl
 ·rfl
 ·rfl
 ·exact zK λd hd=>(ck d hd).flat (n:=n+1)
theorem Mc.k3{ss:List Str}{ks:List Int}{rs:List D}(h:Mc ss ks rs):∀k∈ks,k<=3:=λk hm=>by
 have:D.int k∈rs.map Q9:=by rw[h.ky];exact List.mem_map.mpr #[k,hm,rfl]
 obtain⟨r,hr,e⟩:=aE this;obtain⟨k',gd,st,rfl,_,k3,_⟩:=h.rm r hr;have e:D.int k'=.int k:=e;injection e with e;omega
abbrev ls(z:Str):List Nat:=z.cps.toList
def nmS(i:Int):Str:=Str.ofString (toString i)
def wT:D->Str
 |.int i=>nmS i|.str z=>z|_=>"none"
noncomputable def stS:D->List Str
 |.tup [.str sg,a,to,.tup fs]=>sg::wT a::wT to::fs.map wT|_=>[]
def gdS:Bool->List Str
 |true=>["good"]|false=>[]
noncomputable def rmS:D->List Str
 |.tup [k,.bl gd,_]=>"room" :: wT k::gdS gd|_=>[]
noncomputable def lnS:List D->List (List Str)
 |[]=>[]|r::rs=>rmS r::((qz r).map stS++lnS rs)
def JB(ws:List Str):Str:=Txt.join " " ws
noncomputable def mtS(ss:List Str)(rs:List D):List (List Str):=("signs" :: ss)::lnS rs
noncomputable def mtT(ss:List Str)(rs:List D):Str:=Txt.join "\n" ((mtS ss rs).map JB)
theorem W5(ws:List Str):ls (JB ws)=L3.joinL 32 (ws.map ls):=L3.joinS_cps 32 ws
structure Num (i:Int):Prop where
 n:L3.numL (ls (nmS i))=true
 l:(nmS i).cps.size<=2
 v:PySem.intText? (nmS i)=some i
 c:∀c∈ls (nmS i),48<=c/\c<=57
theorem Vq{i:Int}(h0:0<=i)(h1:i<12):Num i:=by
 have h:∀m:Fin 12,(L3.numL (ls (nmS (m.val:Int)))&&decide ((nmS (m.val:Int)).cps.size<=2)&&decide (PySem.intText? (nmS (m.val:Int))=some (m.val:Int))&&(ls (nmS (m.val:Int))).all λc=>decide (48<=c)&&decide (c<=57))=true:=by decide +kernel
 have h:=h #[i.toNat,by omega];have e:((#[i.toNat,by omega]:Fin 12).val:Int)=i:=by show((i.toNat:Nat):Int)=i;omega
 rw[e,Bool.and_eq_true,Bool.and_eq_true,Bool.and_eq_true]at h;refine#[h.1.1.1,Y7 h.1.1.2,Y7 h.1.2,λc hc=>?_];have:=List.all_eq_true.mp h.2 c hc;rw[Bool.and_eq_true]at this;exact#[Y7 this.1,Y7 this.2]
theorem wwu{i:Int}(h0:0<=i)(h1:i<12):i.natAbs.log2<1920:=by
 rcases Nat.eq_zero_or_pos i.natAbs with z|z
 ·rw[z];decide
 ·exact(Nat.log2_lt (by omega)).mpr (Xp (show i.natAbs<2 ^ 4 by omega) (Nat.pow_le_pow_right ⋯ ⋯))
theorem vv8{i:Int}(h0:0<=i)(h1:i<12):Q0 (.int i)=some (.str (nmS i)):=by
 have hl:=(Vq h0 h1).l;show(if i.natAbs.log2<1920/\(nmS i).length<=sizeLine then _ else _)=_;exact X8 #[wwu h0 h1,Xs (show(nmS i).length<=2 from hl) ⋯]
theorem vzm{z:Str}(h:z.cps.size<=8):Q0 (.str z)=some (.str z):=X8 (Xs (show z.length<=8 from h) ⋯)
structure Wrd (w:Str):Prop where
 l:w.cps.size<=8
 b:32∉ls w
 n:10∉ls w
theorem Wz{w:Str}(h:(decide (w.cps.size<=8) && !decide (32∈ls w) && !decide (10∈ls w))=true):Wrd w:=by
 rw[Bool.and_eq_true,Bool.and_eq_true]at h;exact#[Y7 h.1.1,by simpa using h.1.2,by simpa using h.2]
theorem Sg.w{z:Str}(h:Sg z):Wrd z:=#[h.2.1,λhm=>by have:=L3.let_range _ (h.2.2 _ hm);omega,λhm=>by have:=L3.let_range _ (h.2.2 _ hm);omega]
theorem Num.w{i:Int}(h:Num i):Wrd (nmS i):=#[by have:=h.l;omega,λhm=>by have:=h.c _ hm;omega,λhm=>by have:=h.c _ hm;omega]
theorem Fil.w{own:Int}{d:D}(ho:own<=3)(h:Fil own d):Wrd (wT d):=by
 rcases h with rfl|rfl|⟨i,rfl,h0,h1⟩
 ·exact Wz (by decide +kernel)
 ·exact Wz (by decide +kernel)
 ·exact(Vq h0 (by omega)).w
theorem Ask.w{own:Int}{d:D}(ho:own<=3)(h:Ask own d):Wrd (wT d):=by
 rcases h with rfl|rfl|⟨i,rfl,h0,h1⟩
 ·exact Wz (by decide +kernel)
 ·exact Wz (by decide +kernel)
 ·exact(Vq h0 (by omega)).w
structure Ln (ws:List Str):Prop where
 w:∀w∈ws,Wrd w
 l:ws.length<=6
 e:ws≠[]
theorem Stp.ln{ss:List Str}{own:Int}{ks:List Int}{d:D}(hs:∀z∈ss,Sg z)(ho:own<=3)(hk:∀k∈ks,k<=3)(jg:ks.length<=12)(h:Stp ss own ks d):Ln (stS d):=by
 obtain⟨sg,im,to,fs,rfl,hsg,ha,t0,t1,hf,fk⟩:=h;have hg:ks[to.toNat]?=some (ks.getD to.toNat 0):=by rw[Xa,X3 (by omega)];rfl
 have h3:ks.getD to.toNat 0<=3:=hk _ (Ya hg);refine#[λw hw=>?_,?_,λe=>nomatch e]
 ·simp only[stS,Y5]at hw;rcases hw with rfl|rfl|rfl|hw
  ·exact(hs _ hsg).w
  ·exact ha.w ho
  ·exact(Vq t0 (by omega)).w
  ·obtain⟨f,hf,rfl⟩:=aE hw;exact(fk f hf).w ho
 ·simp only[stS,Xg,X1];omega
theorem Rm.ln{ss:List Str}{ks:List Int}{r:D}(h:Rm ss ks r):Ln (rmS r):=by
 obtain⟨k,gd,st,rfl,h0,h3,hl,ck⟩:=h;refine#[λw hw=>?_,?_,λe=>nomatch e]
 ·simp only[rmS,Y5]at hw;rcases hw with rfl|rfl|hw
  ·exact Wz (by decide +kernel)
  ·exact(Vq h0 (by omega)).w
  ·cases gd with
   |false=>cases hw
   |true=>
    rw[aC hw];exact Wz (by decide +kernel)
 ·cases gd<;>simp[rmS,gdS]
theorem vxt{ss:List Str}{ks:List Int}(hs:∀z∈ss,Sg z)(hk:∀k∈ks,k<=3)(jg:ks.length<=12):∀{rs:List D},(∀r∈rs,Rm ss ks r)->(∀ws∈lnS rs,Ln ws)/\(lnS rs).length=rs.length+wV rs
 | [],_=>#[λ_ h=>(nomatch h),rfl]
 | r::rs,h=>by
  obtain⟨i1,i2⟩:=vxt hs hk jg λr hr=>h r (lc9 _ hr)
  have hr:=h r X2;have iu:=hr.ln;obtain⟨k,gd,st,rfl,h0,h3,hl,ck⟩:=hr;refine#[λws hw=>?_,?_]
  ·simp only[lnS,Y5,List.mem_append]at hw;rcases hw with rfl|hw|hw
   ·exact iu
   ·obtain⟨d,hd,rfl⟩:=aE hw;exact(ck d hd).ln hs h3 hk jg
   ·exact i1 ws hw
  ·simp only[lnS,Xg,Xf,X1,i2];show st.length+(rs.length+wV rs)+1=rs.length+1+(st.length+wV rs);omega
theorem Mc.kl{ss:List Str}{ks:List Int}{rs:List D}(h:Mc ss ks rs):ks.length<=12:=by
 have:=congrArg List.length h.ky;rw[X1,X1]at this;have:=h.r12;omega
theorem Mc.lines{ss:List Str}{ks:List Int}{rs:List D}(h:Mc ss ks rs):(∀ws∈mtS ss rs,Ln ws)/\(mtS ss rs).length<=25:=by
 obtain⟨h1,h2⟩:=vxt h.sg h.k3 h.kl h.rm;refine#[λws hw=>?_,?_]
 ·rcases aD hw with rfl|hw
  ·refine#[λw hw=>?_,?_,λe=>nomatch e]
   ·rcases aD hw with rfl|hw
    ·exact Wz (by decide +kernel)
    ·exact(h.sg w hw).w
   ·have:=h.s3;rw[Xg];omega
  ·exact h1 ws hw
 ·have:=h.r12;have:=h.ln;unfold mtS;rw[Xg];omega
theorem qje{c x:Nat}:∀{ps:List (List Nat)},c∈L3.joinL x ps->c=x\/∃p∈ps,c∈p
 | [],h=>nomatch h| [p],h=>.inr #[p,X2,h]
 | p::q::r,h=>by
  have h:c∈p++x::L3.joinL x (q::r):=h;rcases aA h with h|h
  ·exact .inr #[p,X2,h]
  ·rcases aD h with h|h
   ·exact .inl h
   ·rcases qje h with h|⟨p',hp,h⟩
    ·exact .inl h
    ·exact .inr #[p',lc9 _ hp,h]
theorem kvq{c:Nat}{ps:List Str}(h0:ps≠[])(h:∀p∈ps,c∉ls p):Txt.split (Txt.join #[(List.toArray [c])] ps) #[(List.toArray [c])]=ps:=by
 have q:=L3.split_list (Txt.join #[(List.toArray [c])] ps) c;rw[L3.joinS_cps,L3.splitL_join (λe=>h0 (List.map_eq_nil_iff.mp e)) (λp hp=>by
  obtain⟨z,hz,rfl⟩:=aE hp;exact h z hz)]at q
 exact(List.map_inj_right λa b h=>L3.str_ext h).mp q
theorem qv3{n:Nat}:∀{ps:List Str},(∀p∈ps,p.cps.size<=n)->(ps.map (·.length)).sum<=ps.length*n
 |[],_=>Ys _
 |p::ps,h=>by
  have h1:p.length<=n:=h p X2;have h2:=qv3 (ps:=ps) λq hq=>h q (lc9 _ hq)
  rw[List.map_cons,Xx,Xg,Nat.add_one_mul];omega
theorem vkf{z:Str}{ps:List Str}{n:Nat}(hz:z.length=1)(h:∀p∈ps,p.cps.size<=n)(hb:ps.length*n+ps.length<=100000):xk z (sL ps)=some (.str (Txt.join z ps)):=by
 have hs:=qv3 h;unfold xk;dsimp only[sL];rw[YQ];dsimp only;rw[X8 (by rw[hz];omega)]
theorem kxf{c:Nat}{ps:List Str}{n:Nat}(h:∀p∈ps,p.cps.size<=n):(Txt.join #[(List.toArray [c])] ps).cps.size<=ps.length*(n+1):=by
 have:=L3.joinL_len (c:=c) (k:=n) (ps:=ps.map ls) λp hp=>by
  obtain⟨y,hy,rfl⟩:=aE hp;rw[Xb];exact h y hy
 rw[X1,<-L3.joinS_cps,Xb]at this;exact this
theorem Ln.jb{ws:List Str}(h:Ln ws):xk " " (sL ws)=some (.str (JB ws)):=vkf (n:=8) rfl (λp hp=>(h.w p hp).l) (by have:=h.l;omega)
theorem Ln.len{ws:List Str}(h:Ln ws):(JB ws).cps.size<=54:=by
 have h1:(JB ws).cps.size<=ws.length*(8+1):=kxf λp hp=>(h.w p hp).l
 have:=h.l;omega
theorem Ln.nl{ws:List Str}(h:Ln ws):10∉ls (JB ws):=by
 rw[W5];intro hm;rcases qje hm with e|⟨p,hp,hm⟩
 ·cases e
 ·obtain⟨w,hw,rfl⟩:=aE hp;exact(h.w w hw).n hm
theorem Ln.back{ws:List Str}(h:Ln ws):Txt.split (JB ws) #[(List.toArray [32])]=ws:=kvq h.e λp hp=>(h.w p hp).b
theorem Mc.text{ss:List Str}{ks:List Int}{rs:List D}(h:Mc ss ks rs):xk "\n" (sL ((mtS ss rs).map JB))=some (.str (mtT ss rs))/\(mtT ss rs).cps.size<=10000/\Txt.split (mtT ss rs) #[(List.toArray [10])]=(mtS ss rs).map JB:=by
 obtain⟨h1,h2⟩:=h.lines;have hl:((mtS ss rs).map JB).length<=25:=by rw[X1];exact h2
 have hp:∀p∈(mtS ss rs).map JB,p.cps.size<=54:=λp hp=>by
  obtain⟨ws,hw,rfl⟩:=aE hp;exact(h1 ws hw).len
 refine#[vkf (n:=54) rfl hp (by omega),?_,kvq (λe=>nomatch e) λp hp=>?_]
 ·have h3:(mtT ss rs).cps.size<=((mtS ss rs).map JB).length*(54+1):=kxf hp;omega
 ·obtain⟨ws,hw,rfl⟩:=aE hp;exact(h1 ws hw).nl
abbrev FG:Str:="0123456789"
theorem vkq(y:Str)(c:Nat):Jq #[(List.toArray [c])] y=decide (c∈ls y):=StrLaws.found_one y c
def wzr:D->Bool
 |.str y=>Jq y FG|_=>false
theorem wz2(z:Str):K1 (.lst (((ls z).map λc=>D.str #[(List.toArray [c])]).map λd=>D.bl (wzr d)))=some (.bl ((ls z).all L3.figC)):=by
 rw[QX,List.all_map]
 congr 3
 funext c;exact vkq FG c
theorem vx5(a b:Str):(a==b)=decide (ls a=ls b):=by
 by_cases h:a=b
 ·subst h;simp
 ·have h2:¬ls a=ls b:=λe=>h (L3.str_ext e)
  rw[X6 h2]
  simpa using h
theorem vwn(a b:Str):fEq (.str a) (.str b)=some (.bl (decide (ls a=ls b))):=by rw[wxj,vx5]
theorem Zj(a b:Str):fEq (.str a) (.str b)=some (.bl (decide (a=b))):=by
 rw[wxj]
 by_cases h:a=b
 ·subst h;simp
 ·rw[X6 h]
  simpa using h
theorem vw8(a b:Str):fNe (.str a) (.str b)=some (.bl (!decide (a=b))):=by
 have e:(a==b)=decide (a=b):=by
  by_cases h:a=b
  ·subst h;simp
  ·rw[X6 h]
   simpa using h
 rw[<-e];rfl
theorem xj0(z:Str)(c:Nat):Zx #[(List.toArray [c])] (.str z)=some (.bl (decide ((ls z).head?=some c))):=by
 show some (D.bl (Txt.startswith z #[(List.toArray [c])]))=_;rw[L3.starts_list]
theorem wwo(z:Str)(hz:z.cps.size<=1000000):Is jkf [(.no,.str z)] (L3.numL (ls z)):=by
 unfold jkf;refine kz ?_;have hb:z.cps.size<=big:=by unfold big;omega
 have e0:=vwn z "";have e1:=vwn z "0";have e2:Zx "0" (.str z)=some (.bl (decide ((ls z).head?=some 48))):=xj0 z 48;have a0:ls ""=[]:=rfl;have a1:ls "0"=[48]:=⋯
 rw [a0]at e0;rw [a1]at e1;unfold L3.numL
 by_cases h0:ls z=[]
 ·rw[X5 h0]at e0;simp![e0];exact#[_,by rw[X5 h0];rfl,trivial]
 rw [X6 h0]at e0;simp![e0];refine vw [] (λd y=>y.2=.bl (wzr d)) ?_;simp![hb];refine#[λd hd=>?_,λys hy=>?_]
 ·obtain⟨c,hc,rfl⟩:=aE hd;have e:wj (.str #[(List.toArray [c])]) (.str "0123456789")=some (.bl (wzr (.str #[(List.toArray [c])]))):=rfl;simp![e];exact#[#[_,rfl],trivial]
 ·rw[qV,xq (h:=λd=>.bl (wzr d)) (λ_ _ h=>h) hy];simp![wz2];rw[X6 h0];simp only[back,clr];cases ha:(ls z).all L3.figC with
  | false=>
   simp![];exact#[_,rfl,trivial]
  | true=>
   by_cases h1:ls z=[48]
   ·rw[X5 h1]at e1;simp![e1];exact#[_,by rw[X5 h1];rfl,trivial]
   ·rw[X6 h1]at e1;simp![e1,e2];exact#[_,by rw[X6 h1];rfl,trivial]
noncomputable def kZ(w:Str):Option Int:=if L3.numL (ls w)=true/\w.cps.size<=2 then some (L3.valL (ls w))else none
theorem qq3{cs:List Nat}(h:L3.numL cs=true):cs≠[]/\cs.all L3.figC=true:=by
 unfold L3.numL at h;rw[Bool.and_eq_true,Bool.and_eq_true]at h;exact#[by simpa using h.1.1,h.1.2]
theorem vx7{cs:List Nat}(h:cs.all L3.figC=true):cs.head?≠some 45:=λe=>by
 cases cs with
 |nil=>cases e
 |cons c r=>
  have ec:c=45:=by simpa using e
  subst ec;rw[Z3,Bool.and_eq_true]at h;have:=(L3.fig_iff 45).mp h.1;omega
theorem kx6{w:Str}(ha:(ls w).all L3.figC=true)(h0:ls w≠[])(h2:w.cps.size<=2):xv (.str w)=some (.int (L3.valL (ls w)))/\0<=L3.valL (ls w):=by
 have hh:=vx7 ha;have hv:L3.valL (ls w)=NumText.digitsVal (ls w):=by unfold L3.valL;rw[Xd hh]
 refine#[?_,by rw[hv];omega];have i1:PySem.intText? w=some (L3.valL (ls w)):=by
  rw[hv];exact PySem.intText_digits (λc hc=>(L3.fig_iff c).mp (List.all_eq_true.mp ha c hc)) h0 (by have:w.length=w.cps.size:=rfl;omega)
 show(if w.length<=640 then(PySem.intText? w).map D.int else none)=_;have hl:w.length=w.cps.size:=rfl;rw[X8 (by omega),i1];rfl
set_option tactic.hygienic true in
theorem vw6{w:Str}{v:Int}(h:kZ w=some v):0<=v:=by
 unfold kZ at h
 split at h
 ·rename_i hh;obtain⟨h0,ha⟩:=qq3 hh.1;cases h;exact(kx6 ha h0 hh.2).2
 ·cases h
theorem kwr(w:Str)(hw:w.cps.size<=1000000):Oo W6 [(.no,.str w)] (λy=>∃p:Own×Int,y=(p.1,.int p.2)/\kZ w=some p.2) (λc=>c="NoText"/\kZ w=none):=by
 have l:jx (.str w)=some (.int w.cps.size):=rfl;unfold W6;refine kz ?_;simp![];refine(wwo w hw).any.use ?_;intro _ _;cases hn:L3.numL (ls w)with
 | false=>
  have e:kZ w=none:=Xd λh=>by rw[hn]at h;exact absurd h.1 ⋯
  simp![e]
 | true=>
  by_cases h2:w.cps.size<=2
  ·obtain⟨h0,ha⟩:=qq3 hn;have g:fGt (.int w.cps.size) (.int 2)=some (.bl false):=by rw[gt_ii];simp;omega
   have e:kZ w=some (L3.valL (ls w)):=X8 #[hn,h2];simp![l,g,(kx6 ha h0 h2).1];exact#[(_,_),rfl,e]
  ·have g:fGt (.int w.cps.size) (.int 2)=some (.bl true):=by rw[gt_ii];simp;omega
   have e:kZ w=none:=Xd λh=>h2 h.2
   simp![l,g,e]
noncomputable def v8(w:Str)(most:Int):Int:=match kZ w with
 |some v=>if v<most then v else -1|none=>-1
theorem qw6(y:Str):∀l:List Nat,((l.filter λc=>!decide (c∈ls y)).length=0)=(l.all (λc=>decide (c∈ls y))=true)
 | []=>by simp
 | c::l=>by
  have ih:=qw6 y l;rw[List.filter_cons,Z3]
  by_cases h:c∈ls y
  ·rw[X5 h,Bool.true_and];exact ih
  ·rw[X6 h,Bool.false_and];simp
theorem kzx{X:XP}{y z:Str}{E:En}(E2:En){it:Ev (List D)}{P:En->Sd->Prop}(jo:Eo (it E) (λE1 ds=>E1=E2/\ds=(ls z).map λc=>D.str #[(List.toArray [c])]) X)
  (h:∀ys:List D,(ys.length=0)=((ls z).all (λc=>decide (c∈ls y))=true)->P E2 (.rt,.lst ys)):
  Eo (cLC .rt 1 [] it (.n 0) (tE (cF2 (pu2 K0) (vV 0) (vE (cC (.str y))))) (cV 0) E) P X:=by
 refine vwo (λE1 B ds acc=>E1=E2/\∃l1 l2 q,ls z=l1++l2/\B=[q]/\ds=l2.map (λc=>D.str #[(List.toArray [c])])/\acc.length=(l1.filter λc=>!decide (c∈ls y)).length) ?_ ?_ ?_
 ·refine jo.mono ?_;rintro E1 ds ⟨rfl,rfl⟩;exact#[rfl,[],ls z,none,rfl,rfl,rfl,rfl]
 ·rintro E1 B d ds acc ⟨rfl,l1,l2,q,e,rfl,f8,ha⟩;cases l2 with
  | nil=>cases f8
  | cons c l2=>
   injection f8 with e1 e2;subst e1 e2;have en:K0 (.str #[(List.toArray [c])]) (.str y)=some (.bl (!decide (c∈ls y))):=by
    rw[<-vkq];rfl
   have hl:(List.filter (λc=>!decide (c∈ls y)) (l1++[c])).length=(List.filter (λc=>!decide (c∈ls y)) l1).length+if c∈ls y then 0 else 1:=by
    rw[List.filter_append,Xf]
    congr 1
    rw[List.filter_cons]
    by_cases hc:c∈ls y
    ·rw[X5 hc,X8 hc];rfl
    ·rw[X6 hc,Xd hc];rfl
   simp![en]
   by_cases hc:c∈ls y
   ·rw[X5 hc];simp![];exact#[l1++[c],l2,_,by rw[e];simp,rfl,rfl,by rw[hl,X8 hc];exact ha]
   ·rw[X6 hc];simp![];exact#[l1++[c],l2,_,by rw[e];simp,rfl,rfl,by rw[hl,Xd hc,Xf,ha];rfl]
 ·rintro E1 B acc ⟨rfl,l1,l2,q,e,rfl,f8,ha⟩;have:l2=[]:=by cases l2 with|nil=>rfl|cons _ _=>cases f8
  subst this;rw[qV];refine h _ ?_;rw[X1,ha,qw6,e,Xr]
noncomputable def vzv:Sm:=
  (j6 (sIf (tOr (tE (cF2 (pu2 fGt) (vE (cF1 (pu1 jx) (vE (cLC .rt 1 [] (itS (cV 0)) (.n 0) (tE (cF2 (pu2 K0) (vV 0) (vE (cC (.str "0123456789"))))) (cV 0))))) (C9 0))) (tE (cF2 (pu2 fGe) (vE (cF1 (pu1 xv) (vV 0))) (vV 1)))) (jv (cF1 (pu1 xJ) (C9 1))) k7)
  (jv (cF1 (pu1 xv) (vV 0))))
theorem wxl:zX=fn 2 (j6 (sIf (tOr (tE (cF2 (pu2 fEq) (vV 0) (vE (cC (.str ""))))) (tOr (tE (cF2 (pu2 fGt) (vE (cF1 (pu1 jx) (vV 0))) (C9 2))) (tAnd (tE (cF2 (pu2 fEq) (vE (cF1 (pu1 jx) (vV 0))) (C9 2))) (tE (cF2 (pu2 fEq) (j8 (vV 0) (C9 0)) (vE (cC (.str "0")))))))) (jv (cF1 (pu1 xJ) (C9 1))) k7) vzv):=rfl
theorem kjq(w:Str)(hw:w.cps.size<=1000000)(most:Int):Oo zX [(.no,.str w),(.no,.int most)] (λy=>∃o:Own,y=(o,.int (v8 w most))/\True) noX:=by
 have l:jx (.str w)=some (.int w.cps.size):=rfl;have gw:(ls w).length=w.cps.size:=Xb;have e0:=vwn w "";rw [show ls ""=[]from rfl]at e0;have hb:w.cps.size<=big:=by unfold big;omega
 have ng:xJ (.int 1)=some (.int (-1)):=rfl;have no:L3.numL (ls w)=false->v8 w most=-1:=λh=>by unfold v8 kZ;rw[Xd λz=>by rw[h]at z;exact absurd z.1 ⋯]
 rw [wxl];refine kz ?_
 by_cases h0:ls w=[]
 ·rw [X5 h0]at e0;simp![e0,ng];exact#[_,by rw[no (by rw[h0];rfl)],trivial]
 rw [X6 h0]at e0
 by_cases h2:w.cps.size<=2
 rotate_left
 ·have g:fGt (.int w.cps.size) (.int 2)=some (.bl true):=by rw[gt_ii];simp;omega
  have e:v8 w most=-1:=by unfold v8 kZ;rw[Xd λh=>h2 h.2]
  simp![e0,l,g,ng];exact#[_,by rw[e],trivial]
 have g:fGt (.int w.cps.size) (.int 2)=some (.bl false):=by rw[gt_ii];simp;omega
 have vb:∀b,(ls w).all L3.figC=b->(w.cps.size=2->(ls w).head?=some 48->False)->L3.numL (ls w)=b:=λb hb hh=>by
  unfold L3.numL;rw [X6 h0,hb,Bool.not_false,Bool.true_and];cases b with
  | false=>rfl
  | true=>
   rw [Bool.true_and]
   by_cases e:ls w=[48]
   ·rw [X5 e];rfl
   ·rw [X6 e,Bool.false_or]
    by_cases hd:(ls w).head?=some 48
    ·exfalso;cases hq:ls w with
     | nil=>exact h0 hq
     | cons c r=>
      rw[hq]at hd;have ec:c=48:=by simpa using hd
      subst ec;cases r with
      |nil=>exact e hq
      |cons c' r=>
       rw[hq]at gw;simp only[Xg]at gw;exact hh (by omega) (by rw[hq];rfl)
    ·rw[X6 hd];rfl
 have fin:(w.cps.size=2->(ls w).head?=some 48->False)->∀{N C:En->Prop},Po (vzv [some (.no,.str w),some (.no,.int most)]) N C (λy=>∃o:Own,y=(o,.int (v8 w most))/\True) noX:=λhh N C=>by
  unfold vzv;simp![];refine kzx (y:="0123456789") (z:=w) [some (.no,.str w),some (.no,.int most)] ?_ ?_
  ·simp![hb]
  ·intro ys hy;have hy:(ys.length=0)=((ls w).all L3.figC=true):=hy;have lg:fGt (.int ys.length) (.int 0)=some (.bl (decide (0<ys.length))):=by rw[gt_ii];congr 2;exact decide_eq_decide.mpr (by omega)
   cases ha:(ls w).all L3.figC with
   | false=>
    rw[ha]at hy;have:0<ys.length:=Nat.pos_of_ne_zero λe=>by rw[hy]at e;cases e
    rw[X5 this]at lg;simp![lg,ng];exact#[_,by rw[no (vb false ha hh)],trivial]
   | true=>
    rw[ha]at hy;have:¬0<ys.length:=λe=>by have:=hy.mpr rfl;omega
    rw[X6 this]at lg;obtain⟨i1,i2⟩:=kx6 ha h0 h2;have ev:v8 w most=if L3.valL (ls w)<most then L3.valL (ls w)else -1:=by
     have e:kZ w=some (L3.valL (ls w)):=X8 #[vb true ha hh,h2];unfold v8;rw[e]
    have ge:fGe (.int (L3.valL (ls w))) (.int most)=some (.bl (decide (most<=L3.valL (ls w)))):=ge_ii
    by_cases hm:L3.valL (ls w)<most
    ·rw[X6 (by omega)]at ge;simp![lg,i1,ge];exact#[_,by rw[ev,X8 hm],trivial]
    ·rw[X5 (by omega)]at ge;simp![lg,i1,ge,ng];exact#[_,by rw[ev,Xd hm],trivial]
 have q2:fEq (.int w.cps.size) (.int 2)=some (.bl (decide (w.cps.size=2))):=by rw[wv];congr 2;exact decide_eq_decide.mpr (by omega)
 by_cases hz:w.cps.size=2
 ·rw[X5 hz]at q2;obtain⟨c,hc,ix⟩:∃c,(ls w).head?=some c/\jw (.str w) (.int 0)=some (.str #[(List.toArray [c])]):=by
   have h1:0<w.cps.toList.length:=by rw[Xb];omega
   refine#[w.cps.toList[0],by rw[List.head?_eq_getElem?,X3 h1],?_];show((Q.ixN w.cps.size 0).bind λj=>(w.cps.toList[j]?).map λc=>D.str #[(List.toArray [c])])=_;unfold Q.ixN;rw[X8 ⋯,X8 (by omega)];show((w.cps.toList[0]?).map λc=>D.str #[(List.toArray [c])])=_;rw[X3 h1];rfl
  have e1:=vwn #[(List.toArray [c])] "0";rw[show ls "0"=[48]by decide,show ls #[(List.toArray [c])]=[c]from rfl]at e1
  by_cases h48:c=48
  ·subst h48;rw[X5 rfl]at e1;have nl:L3.numL (ls w)=false:=by
    unfold L3.numL;rw[X5 hc,X6 (show ¬ls w=[48]from λe=>by rw[e]at gw;simp at gw;omega)];exact Bool.and_false _
   simp![e0,l,g,q2,ix,e1,ng];exact#[_,by rw[no nl],trivial]
  ·rw[X6 (λe=>h48 (by simpa using e))]at e1;simp![e0,l,g,q2,ix,e1];exact fin λ_ h=>by rw[hc]at h;exact h48 (by simpa using h)
 ·rw[X6 hz]at q2;simp![e0,l,g,q2];exact fin λh _=>hz h
theorem _root_.Q.Oo.oe{f:Fn}{xs:List Sd}{S:Sd->Prop}{W X:XP}{E:En}{P:En->Sd->Prop}(h:Oo f xs S W)(k:∀y,S y->P E y)(l:∀c,W c->X c):Oe f xs E P X:=Oo.ox (Y:=λ_=>X) h k l
noncomputable def wW(w:Str):Option D:=if w="fresh"\/w="any" then some (.str w)else(kZ w).map D.int
noncomputable def v9(w:Str):Option D:=if w="none" then some .non else if w="new" then some (.str "new")else(kZ w).map D.int
noncomputable def qZ:List Str->Option D
 |a::b::c::fs=>(wW b).bind λx=>(kZ c).bind λv=>(fs.mapM v9).map λys=>.tup [.str a,x,.int v,.tup ys]|_=>none
theorem kku{a b c:Str}{fs:List Str}:qZ (a::b::c::fs)=(wW b).bind λx=>(kZ c).bind λv=>(fs.mapM v9).map λys=>.tup [.str a,x,.int v,.tup ys]:=rfl
theorem kkt{a b c:Str}{fs:List Str}{d:D}(h:qZ (a::b::c::fs)=some d):∃x v ys,wW b=some x/\kZ c=some v/\fs.mapM v9=some ys/\d=.tup [.str a,x,.int v,.tup ys]:=by
 rw [kku]at h;cases h1:wW b with
 | none=>rw[h1]at h;cases h
 | some x=>
  rw[h1]at h;cases h2:kZ c with
  | none=>rw[h2]at h;cases h
  | some v=>
   rw[h2]at h;cases h3:fs.mapM v9 with
   |none=>rw[h3]at h;cases h
   |some ys=>
    rw[h3]at h;cases h;exact#[x,v,ys,rfl,rfl,rfl,rfl]
theorem kwl{a b c:Str}{fs:List Str}{x:D}{v:Int}{ys:List D}(h1:wW b=some x)(h2:kZ c=some v)(h3:fs.mapM v9=some ys):qZ (a::b::c::fs)=some (.tup [.str a,x,.int v,.tup ys]):=by
 rw[kku,h1,h2,h3];rfl
theorem qwk{w:Str}{x:D}(h:wW w=some x):x.pure=true/\∀n,x.flat (n+1)=true:=by
 unfold wW at h
 split at h
 ·cases h;exact#[rfl,λ_=>rfl]
 ·cases hn:kZ w with|none=>rw[hn]at h;cases h|some v=>rw[hn]at h;cases h;exact#[rfl,λ_=>rfl]
theorem vkx{w:Str}{x:D}(h:v9 w=some x):x.pure=true/\∀n,x.flat (n+1)=true:=by
 unfold v9 at h
 split at h
 ·cases h;exact#[rfl,λ_=>rfl]
 ·split at h
  ·cases h;exact#[rfl,λ_=>rfl]
  ·cases hn:kZ w with|none=>rw[hn]at h;cases h|some v=>rw[hn]at h;cases h;exact#[rfl,λ_=>rfl]
theorem jxi{α β:Type}{f:α->Option β}:∀{l:List α} {r:List β},l.mapM f=some r->r.length=l.length/\∀y∈r,∃x∈l,f x=some y
 | [],r,h=>by cases h;exact#[rfl,λ_ h=>nomatch h]
 | x :: l,r,h=>by
  rw [Ym]at h;cases hx:f x with
  | none=>rw[hx]at h;cases h
  | some p=>
   rw[hx]at h;cases hl:l.mapM f with
   | none=>rw[hl]at h;cases h
   | some q=>
    rw[hl]at h;cases h;obtain⟨i1,i2⟩:=jxi hl;refine#[by rw[Xg,Xg,i1],λy hy=>?_];rcases aD hy with rfl|hy
    ·exact#[x,X2,hx]
    ·obtain⟨z,hz,e⟩:=i2 y hy;exact#[z,lc9 _ hz,e]
theorem qjf{α β:Type}{f:α->Option β}{x:α}(hx:f x=none):∀{l:List α},x∈l->l.mapM f=none
 | y::l,h=>by
  rw[Ym];rcases aD h with rfl|h
  ·rw[hx];rfl
  ·rw[qjf hx h];cases f y<;>rfl
theorem jx8{α β:Type}{f:α->Option β}{x:α}{y:β}(hx:f x=some y):∀{l:List α} {r:List β},l.mapM f=some r->(l++[x]).mapM f=some (r++[y])
 | [],r,h=>by cases h;rw[List.nil_append,Ym,hx];rfl
 | z::l,r,h=>by
  rw[Ym]at h;rw[List.cons_append,Ym];cases hz:f z with
  | none=>rw[hz]at h;cases h
  | some p=>
   rw[hz]at h;cases hl:l.mapM f with
   |none=>rw[hl]at h;cases h
   |some q=>
    rw[hl]at h;cases h;rw[jx8 hx hl];rfl
theorem kja{ws:List Str}{d:D}(h:qZ ws=some d):d.pure=true/\∀n,d.flat (n+3)=true:=by
 match ws,h with
 | a::b::c::fs,h=>
  obtain⟨x,v,ys,h1,h2,h3,rfl⟩:=kkt h;have hy:∀y∈ys,y.pure=true/\∀n,y.flat (n+1)=true:=λy hy=>by
   obtain⟨z,_,e⟩:=(jxi h3).2 y hy;exact vkx e
  have p1:D.pures ys=true:=qvi λy h=>(hy y h).1
  refine#[?_,λn=>?_]
  ·show(D.pure (.str a)&&(x.pure&&(D.pure (.int v)&&(D.pures ys&&true))))=true;rw[(qwk h1).1,p1];rfl
  ·have p2:D.flats (n+1) ys=true:=zK λy h=>(hy y h).2 n
   have p3:x.flat (n+2)=true:=(qwk h1).2 (n+1);show(D.flat (n+2) (.str a)&&(x.flat (n+2)&&(D.flat (n+2) (.int v)&&(D.flats (n+1) ys&&true))))=true;rw[p2,p3];rfl
theorem vzx(w:Str)(hw:w.cps.size<=1000000):Oo jwb [(.no,.str w)] (λy=>∃p:Own×D,y=(p.1,p.2)/\wW w=some p.2) (λc=>c="NoText"/\wW w=none):=by
 have q:wj (.str w) (.tup [.str "fresh",.str "any"])=some (.bl (decide (w="fresh"\/w="any"))):=by
  refine(wkd (ss:=["fresh","any"])).trans ?_
  congr 2
  by_cases h1:w="fresh"
  ·subst h1;decide
  ·by_cases h2:w="any"
   ·subst h2;decide
   ·simp[h1,h2,Z9 h1,Z9 h2]
 unfold jwb wW;refine kz ?_
 by_cases h:w="fresh"\/w="any"
 ·rw[X5 h]at q;simp![q];exact#[(_,_),rfl,by rw[X8 h]]
 ·rw[X6 h]at q;rw[Xd h];simp![q];refine(kwr w hw).oe ?_ ?_
  ·rintro y ⟨p,rfl,e⟩;rw[e];exact#[(p.1,.int p.2),rfl,rfl]
  ·rintro c ⟨rfl,e⟩;rw[e];exact#[rfl,rfl]
theorem vvk(w:Str)(hw:w.cps.size<=1000000):Oo jvc [(.no,.str w)] (λy=>∃p:Own×D,y=(p.1,p.2)/\v9 w=some p.2) (λc=>c="NoText"/\v9 w=none):=by
 have e1:=Zj w "none";have e2:=Zj w "new";unfold jvc v9;refine kz ?_
 by_cases h:w="none"
 ·rw[X5 h]at e1;simp![e1];exact#[(_,_),rfl,by rw[X8 h]]
 rw[X6 h]at e1;rw[Xd h]
 by_cases h2:w="new"
 ·rw[X5 h2]at e2;simp![e1,e2];exact#[(_,_),rfl,by rw[X8 h2,h2]]
 ·rw[X6 h2]at e2;rw[Xd h2];simp![e1,e2];refine(kwr w hw).oe ?_ ?_
  ·rintro y ⟨p,rfl,e⟩;rw[e];exact#[(p.1,.int p.2),rfl,rfl]
  ·rintro c ⟨rfl,e⟩;rw[e];exact#[rfl,rfl]
theorem qwe{xs:List D}{c:Nat}:K3 xs (some (c:Int)) none=xs.drop c:=by
 unfold K3;have e1:Qq xs.length 0 (some (c:Int))=min c xs.length:=by
  unfold Qq;dsimp only;rw[Xd (by omega)];omega
 have e2:Qq xs.length xs.length none=xs.length:=rfl;rw[e1,e2,Yq (by rw[Yn];omega)]
 by_cases h:c<=xs.length
 ·rw[Nat.min_eq_left h]
 ·rw[Nat.min_eq_right (by omega),List.drop_of_length_le (Xk _),List.drop_of_length_le (by omega)]
theorem slw{ws:List Str}{c:Nat}{o:Own}(ho:o≠.dp):fSl (o,sL ws) (some (c:Int)) none=some (.rt,sL (ws.drop c)):=by
 rw[sL,qwu ho,qwe,<-List.map_drop]
theorem qw9{f:Str->Option D}:∀{zs:List Str} {ys:List Sd},Each (λd y=>∃z,d=.str z/\f z=some y.2) (zs.map D.str) ys->zs.mapM f=some (ys.map (·.2))
 |[],[],_=>rfl
 |z::zs,y::ys,⟨⟨z',e,h1⟩,h⟩=>by
  injection e with e;subst e;rw[Ym,h1,qw9 h];rfl
theorem vvh(ws:List Str)(hw:∀w∈ws,w.cps.size<=1000000)(hl:ws.length<=100000):Oo jva [(.no,sL ws)] (λy=>∃p:Own×D,y=(p.1,p.2)/\qZ ws=some p.2) (λc=>c="NoText"/\qZ ws=none):=by
 have l:jx (sL ws)=some (.int ws.length):=congrArg (λn:Nat=>some (D.int n)) (X1 _);unfold jva;refine kz ?_
 by_cases h3:ws.length<3
 ·have g:fLt (.int ws.length) (.int 3)=some (.bl true):=by rw[lt_ii];simp;omega
  simp![l,g]
  match ws,h3 with
  | [],_=>rfl| [_],_=>rfl| [_,_],_=>rfl
 have g:fLt (.int ws.length) (.int 3)=some (.bl false):=by rw[lt_ii];simp;omega
 match ws,h3,hw,hl,l,g with
 | a::b::c::fs,h3,hw,hl,l,g=>
  have j0:jw (sL (a::b::c::fs)) (.int 0)=some (.str a):=kQ ⋯ rfl;have j1:jw (sL (a::b::c::fs)) (.int 1)=some (.str b):=kQ ⋯ rfl;have j2:jw (sL (a::b::c::fs)) (.int 2)=some (.str c):=kQ ⋯ rfl;have s3:fSl (.no,sL (a::b::c::fs)) (some 3) none=some (.rt,sL fs):=slw (c:=3) ⋯;have g2:decide (((fs.length+1+1+1:Nat):Int)<3)=false:=X6 (by omega);simp![l,g,g2,j0,j1];refine(vzx b (hw b (by simp))).oe ?_ ?_
  rotate_left
  ·rintro e ⟨rfl,h1⟩;exact#[rfl,by rw[kku,h1];rfl]
  rintro y ⟨p1,rfl,h1⟩;simp![j2];refine(kwr c (hw c (by simp))).oe ?_ ?_
  rotate_left
  ·rintro e ⟨rfl,h2⟩;exact#[rfl,by rw[kku,h1,h2];rfl]
  rintro y ⟨p2,rfl,h2⟩;simp![];refine vw [] (λd y=>∃z,d=.str z/\v9 z=some y.2) ?_;simp![s3];refine#[λd hd=>?_,λys hy=>?_]
  ·obtain⟨w,hw',rfl⟩:=aE hd;refine(vvk w (hw w (by simp[hw']))).oe ?_ ?_
   ·rintro y ⟨p,rfl,hp⟩;exact#[#[_,rfl],w,rfl,hp]
   ·rintro e ⟨rfl,hp⟩;exact#[rfl,by rw[kku,h1,h2,qjf hp hw'];rfl]
  ·have h4:=qw9 hy;rw[qV,bk];simp![vzg (o:=.no) ⋯];exact#[(_,_),rfl,kwl h1 h2 h4]
theorem jwd(w:Str)(m:Int):(v8 w m=-1/\∀v,kZ w=some v->¬v<m)\/∃v,v8 w m=v/\kZ w=some v/\0<=v/\v<m:=by
 unfold v8;cases h:kZ w with
 | none=>exact .inl #[rfl,λv e=>nomatch e]
 | some v=>
  dsimp only
  by_cases hm:v<m
  ·rw[X8 hm];exact .inr #[v,rfl,rfl,vw6 h,hm]
  ·rw[Xd hm];exact .inl #[rfl,λu e=>by cases e;exact hm]
noncomputable def qK(ss:List Str)(own:Int)(ks:List Int)(ws:List Str):D:=match qZ ws with
 |some d=>if qx ss own ks d=true then d else .non|none=>.non
theorem jzm{ss:List Str}{own:Int}{ks:List Int}{a b c:Str}{fs:List Str}(h:∀x v ys,wW b=some x->kZ c=some v->fs.mapM v9=some ys->K9 (.str a) ss=true->Q1 own x=true->qJ (.int v) ks.length=true->JV (.tup ys) own (atK ks (.int v)).toNat=true->False):qK ss own ks (a::b::c::fs)=.non:=by
 unfold qK;cases hp:qZ (a::b::c::fs)with
 |none=>rfl
 |some d=>
  obtain⟨x,v,ys,h1,h2,h3,rfl⟩:=kkt hp;dsimp only;refine Xd λhb=>?_
  simp only[qx,Bool.and_eq_true]at hb;exact h x v ys h1 h2 h3 hb.1.1.1 hb.1.1.2 hb.1.2 hb.2
theorem qzi{ss:List Str}{own:Int}{ks:List Int}{a b c:Str}{fs:List Str}{x:D}{v:Int}{ys:List D}(h1:wW b=some x)(h2:kZ c=some v)(h3:fs.mapM v9=some ys)(b1:K9 (.str a) ss=true)(b2:Q1 own x=true)(b3:qJ (.int v) ks.length=true)(b4:JV (.tup ys) own (atK ks (.int v)).toNat=true):qK ss own ks (a::b::c::fs)=.tup [.str a,x,.int v,.tup ys]:=by
 unfold qK;rw[kwl h1 h2 h3];exact X8 (by simp only[qx,b1,b2,b3,b4,Bool.and_self])
noncomputable def JX(own:Int)(w:Str):Option D:=(v9 w).bind λd=>if J9 own d=true then some d else none
set_option tactic.hygienic true in
theorem qjr{own:Int}:∀{fs:List Str} {ys:List D},fs.mapM (JX own)=some ys->fs.mapM v9=some ys/\ys.all (J9 own)=true
 | [],ys,h=>by cases h;exact#[rfl,rfl]
 | w :: fs,ys,h=>by
  rw [Ym]at h;cases hq:JX own w with
  | none=>rw[hq]at h;cases h
  | some d=>
   rw [hq]at h;cases hl:fs.mapM (JX own)with
   | none=>rw[hl]at h;cases h
   | some q=>
    rw[hl]at h;cases h;obtain⟨i1,i2⟩:=qjr hl;unfold JX at hq;cases hw:v9 w with
    | none=>rw[hw]at hq;cases hq
    | some d'=>
     rw[hw]at hq;have hq:(if J9 own d'=true then some d' else none)=some d:=hq
     split at hq
     ·rename_i hb;cases hq;rw[Ym,hw,i1,Z3,hb,i2];exact#[rfl,rfl]
     ·cases hq
theorem kwa{own:Int}{w:Str}(h:JX own w=none):∀{fs:List Str} {ys:List D},w∈fs->fs.mapM v9=some ys->ys.all (J9 own)=false
 | z :: fs,ys,hm,hy=>by
  rw [Ym]at hy;cases hz:v9 z with
  | none=>rw[hz]at hy;cases hy
  | some d=>
   rw [hz]at hy;cases hl:fs.mapM v9 with
   | none=>rw[hl]at hy;cases hy
   | some q=>
    rw[hl]at hy;cases hy;rw[Z3];rcases aD hm with rfl|hm
    ·unfold JX at h;rw[hz]at h;have:J9 own d=false:=by
      cases hb:J9 own d with|false=>rfl|true=>simp[hb]at h
     rw[this,Bool.false_and]
    ·rw[kwa h hm hl,Bool.and_false]
noncomputable def xW(b:Str)(own:Int):D:=if b="fresh"\/b="any" then .str b else .int (v8 b own)
set_option tactic.hygienic true in
theorem wxz{b:Str}{own:Int}(h:xW b own=.int (-1)):∀x,wW b=some x->Q1 own x=true->False:=λx hx hb=>by
 unfold xW at h;unfold wW at hx
 split at h
 ·cases h
 ·rename_i hn;rw[Xd hn]at hx;injection h with h;rcases jwd b own with⟨_,h2⟩|⟨v,e,_,h0,_⟩
  ·cases hp:kZ b with
   |none=>rw[hp]at hx;cases hx
   |some v=>
    rw[hp]at hx;cases hx;have:(decide (0<=v)&&decide (v<own))=true:=hb;simp at this;exact h2 v hp this.2
  ·rw[e]at h;omega
theorem wkt{b:Str}{own:Int}(h:xW b own≠.int (-1)):wW b=some (xW b own)/\Q1 own (xW b own)=true:=by
 unfold xW at h ⊢;unfold wW
 by_cases hn:b="fresh"\/b="any"
 ·rw[X8 hn,X8 hn];refine#[rfl,?_];rcases hn with rfl|rfl<;>rfl
 ·rw[Xd hn]at h ⊢;rw[Xd hn];rcases jwd b own with⟨e,_⟩|⟨v,e,hp,h0,h1⟩
  ·rw[e]at h;exact absurd rfl h
  ·rw[e,hp];refine#[rfl,?_];show(false||(decide (0<=v)&&decide (v<own)))=true;simp[h0,h1]
theorem qjq{ys:List D}{own:Int}{n:Nat}(h:JV (.tup ys) own n=true):ys.length=n/\ys.all (J9 own)=true:=by
 unfold JV at h;rw[Bool.and_eq_true]at h;exact#[Y7 h.1,h.2]
theorem qxh{own:Int}{w:Str}:(w="none"/\JX own w=some .non)\/(w≠"none"/\w="new"/\JX own w=some (.str "new"))\/(w≠"none"/\w≠"new"/\((v8 w own=-1/\JX own w=none)\/∃v,v8 w own=v/\0<=v/\JX own w=some (.int v))):=by
 unfold JX v9
 by_cases h1:w="none"
 ·rw[X8 h1];exact .inl #[h1,rfl]
 rw[Xd h1]
 by_cases h2:w="new"
 ·rw[X8 h2];exact .inr (.inl #[h1,h2,rfl])
 rw[Xd h2];refine .inr (.inr #[h1,h2,?_]);rcases jwd w own with⟨e,h⟩|⟨v,e,hp,h0,hv⟩
 ·refine .inl #[e,?_];cases hn:kZ w with
  |none=>rfl
  |some v=>
   refine Xd λhb=>?_
   have:(false||(false||(decide (0<=v)&&decide (v<own))))=true:=hb;simp at this;exact h v hn this.2
 ·refine .inr #[v,e,h0,?_];rw[hp];refine X8 ?_;show(false||(false||(decide (0<=v)&&decide (v<own))))=true;simp[h0,hv]
noncomputable def wwt:Sm:=
 (z7 (itS (cSl (vV 0) (some (C9 3)) none)) (.n 7) (sIf (tOr (tE (cF2 (pu2 fEq) (vV 7) (vE (cC (.str "none"))))) (tE (cF2 (pu2 fEq) (vV 7) (vE (cC (.str "new")))))) (wq xj 6 (cH (j8 (vE (qw .rt [(cC .non),(cC (.str "new"))])) (vE (cF1 (pu1 xv) (vE (cF2 (pu2 fEq) (vV 7) (vE (cC (.str "new")))))))))) (sIf (tE (cF2 (pu2 fEq) (vE (jq zX [(cV 7),(cH (j8 (vV 3) (vV 2)))])) (vE (cF1 (pu1 xJ) (C9 1))))) (jv (cC .non)) (wq xj 6 (jq zX [(cV 7),(cH (j8 (vV 3) (vV 2)))])))))
noncomputable def toQ:Sm:=
  (j6 (jz 5 (jq zX [(cH (j8 (vV 0) (C9 2))),(cF1 (pu1 jx) (vV 3))]))
  (j6 (sIf (tOr (tE (cF2 (pu2 fEq) (vV 4) (vE (cF1 (pu1 xJ) (C9 1))))) (tOr (tE (cF2 (pu2 fEq) (vV 5) (vE (cF1 (pu1 xJ) (C9 1))))) (tE (cF2 (pu2 fNe) (vE (cF1 (pu1 jx) (vV 0))) (vE (cF2 jZ (C9 3) (j8 (vV 3) (vV 5)))))))) (jv (cC .non)) k7)
  (j6 (jz 6 (qw .rt []))
  (j6 wwt
  (jv (vj .no [(cH (j8 (vV 0) (C9 0))),(cV 4),(cV 5),(cF1 Vv (vV 6))]))))))
theorem vq0:jkj=fn 8
  (j6 (sIf (tOr (tE (cF2 (pu2 fLt) (vE (cF1 (pu1 jx) (vV 0))) (C9 3))) (tE (cF2 (pu2 K0) (j8 (vV 0) (C9 0)) (vV 1)))) (jv (cC .non)) k7)
  (j6 (jz 4 (cH (j8 (vV 0) (C9 1))))
  (j6 (sIf (tAnd (tE (cF2 (pu2 fNe) (vV 4) (vE (cC (.str "fresh"))))) (tE (cF2 (pu2 fNe) (vV 4) (vE (cC (.str "any")))))) (jz 4 (jq zX [(cH (j8 (vV 0) (C9 1))),(cH (j8 (vV 3) (vV 2)))])) k7)
  toQ))):=rfl
set_option tactic.hygienic true in
theorem wqc{ss:List Str}{ks:List Int}{here:Int}{a b c:Str}{fs:List Str}{o1 o2 o3 o4:Own}(hw:∀w∈a::b::c::fs,w.cps.size<=1000000)(hl:fs.length<=5000)(hk:∀k∈ks,0<=k/\k<=3)(jg:ks.length<=12)(h0:0<=here)(h1:here<ks.length)(sh:sub o3=.no)(ha:K9 (.str a) ss=true){N C:En->Prop}{q5 q6 q7:Option Sd}:
  Po (toQ [some (.no,sL (a::b::c::fs)),some (o1,sL ss),some (o2,.int here),some (o3,iL ks),some (o4,xW b (ks.getD here.toNat 0)),q5,q6,q7]) N C (λy=>∃o:Own,y=(o,qK ss (ks.getD here.toNat 0) ks (a::b::c::fs))/\True) noX:=by
 have j0:jw (sL (a::b::c::fs)) (.int 0)=some (.str a):=kQ ⋯ rfl;have j2:jw (sL (a::b::c::fs)) (.int 2)=some (.str c):=kQ ⋯ rfl;have l3:jx (iL ks)=some (.int ks.length):=congrArg (λn:Nat=>some (D.int n)) (X1 _);have l0:jx (sL (a::b::c::fs))=some (.int (fs.length+3:Nat)):=congrArg (λn:Nat=>some (D.int n)) (by simp);have ixk:∀v:Int,0<=v->v<ks.length->jw (iL ks) (.int v)=some (.int (ks.getD v.toNat 0)):=λv v0 v1=>kQ v0 (by rw[Xi,Xa,X3 (by omega)];rfl)
 have ng:xJ (.int 1)=some (.int (-1)):=rfl;have s3:fSl (.no,sL (a::b::c::fs)) (some 3) none=some (.rt,sL fs):=slw (c:=3) ⋯;generalize hown:ks.getD here.toNat 0=own;have ixh:jw (iL ks) (.int here)=some (.int own):=by rw[ixk here h0 h1,hown]
 unfold toQ;simp![j2,l3];refine(kjq c (hw c (by simp)) ks.length).use ?_;intro o5 _
 by_cases jc:xW b own=.int (-1)
 ·have e4:fEq (xW b own) (.int (-1))=some (.bl true):=by rw[jc];rfl
  simp![ng,e4];exact#[_,by rw[jzm λx v ys h1 _ _ _ hb _ _=>wxz jc x h1 hb],trivial]
 obtain⟨p1,p2⟩:=wkt jc;have e4:fEq (xW b own) (.int (-1))=some (.bl false):=by
  unfold xW at jc ⊢
  split
  ·rfl
  ·rename_i hn;rw [Xd hn]at jc;rw [wv];have:v8 b own≠-1:=λe=>jc (by rw[e])
   simp[this]
 rcases jwd c ks.length with⟨ec,hc⟩|⟨v,ec,hc,v0,v1⟩
 ·rw [ec];have e5:fEq (.int (-1)) (.int (-1))=some (.bl true):=rfl;simp![ng,e4,e5];exact#[_,by
   rw [jzm λx v ys _ h2 _ _ _ hb _=>by
    have:(decide (0<=v)&&decide (v<(ks.length:Int)))=true:=hb;simp at this;exact hc v h2 this.2],trivial]
 rw [ec];have e5:fEq (.int v) (.int (-1))=some (.bl false):=by rw[wv];simp;omega
 have hkv:0<=ks.getD v.toNat 0:=by
  have hg:ks[v.toNat]?=some (ks.getD v.toNat 0):=by rw[Xa,X3 (by omega)];rfl
  exact(hk _ (Ya hg)).1
 have b3:qJ (.int v) ks.length=true:=by simp[qJ,v0,v1]
 by_cases az:(fs.length:Int)=ks.getD v.toNat 0
 rotate_left
 ·have n5:fNe (.int (fs.length+3:Nat)) (.int (3+ks.getD v.toNat 0))=some (.bl true):=by
   show some (D.bl (!(((fs.length+3:Nat):Int)==3+ks.getD v.toNat 0)))=_;rw [show(((fs.length+3:Nat):Int)==3+ks.getD v.toNat 0)=false from beq_eq_false_iff_ne.mpr (by omega)];rfl
  simp![ng,e4,e5,l0,ixk v v0 v1,n5];exact#[_,by
   rw [jzm λx v' ys _ h2 h3 _ _ _ hb=>by
    rw [hc]at h2;cases h2;have:=(qjq hb).1;rw [(jxi h3).1]at this;have e:atK ks (.int v)=ks.getD v.toNat 0:=rfl;rw [e]at this;omega],trivial]
 have n5:fNe (.int (fs.length+3:Nat)) (.int (3+ks.getD v.toNat 0))=some (.bl false):=by
  show some (D.bl (!(((fs.length+3:Nat):Int)==3+ks.getD v.toNat 0)))=_;rw [show(((fs.length+3:Nat):Int)==3+ks.getD v.toNat 0)=true from beq_iff_eq.mpr (by omega)];rfl
 simp![ng,e4,e5,l0,ixk v v0 v1,n5];unfold wwt;refine V9 (λE b6=>∃(o1 o2 o4 o5:Own) (q7:Option Sd) (pre post:List Str) (acc:List D),E=[some (.no,sL (a::b::c::fs)),some (o1,sL ss),some (o2,.int here),some (o3,iL ks),some (o4,xW b own),some (o5,.int v),some (.rt,.lst acc),q7]/\fs=pre++post/\b6=post.map D.str/\pre.mapM (JX own)=some acc) ?_ ?_ ?_
 ·simp![s3];exact#[_,_,_,_,_,[],fs,[],rfl,rfl,rfl,rfl]
 ·rintro E d b6 ⟨o1,o2,o4,o5,q7,pre,post,acc,rfl,fk,hr,ef⟩;cases post with
  | nil=>cases hr
  | cons w post=>
   have hr:d::b6=.str w::post.map D.str:=hr;injection hr with e1 e2;subst e1 e2;have hww:=hw w (by rw[fk];simp);have ml:acc.length<=5000:=by rw[(jxi ef).1];rw[fk]at hl;simp at hl;omega
   have q1:=Zj w "none";have q2:=Zj w "new";rcases qxh (own:=own) (w:=w)with⟨hn,hq⟩|⟨hn,oj,hq⟩|⟨hn,oj,hq⟩
   ·rw [X5 hn]at q1;rw [X6 (show ¬w="new" by rw[hn];decide)]at q2;have fi:xv (.bl false)=some (.int 0):=rfl;have ix:jw (.lst [.non,.str "new"]) (.int 0)=some .non:=rfl;simp![q1];refine XZ rfl ?_;simp![q2,fi,ix];exact#[acc,rfl,by omega,_,_,_,_,_,pre++[w],post,_,rfl,by rw[fk];simp,rfl,jx8 hq ef]
   ·rw [X6 hn]at q1;rw [X5 oj]at q2;have fi:xv (.bl true)=some (.int 1):=rfl;have ix:jw (.lst [.non,.str "new"]) (.int 1)=some (.str "new"):=rfl;simp![q1,q2];refine XZ rfl ?_;simp![q2,fi,ix];exact#[acc,rfl,by omega,_,_,_,_,_,pre++[w],post,_,rfl,by rw[fk];simp,rfl,jx8 hq ef]
   ·rw [X6 hn]at q1;rw [X6 oj]at q2;simp![q1,q2,sh,ixh];refine(kjq w hww own).use ?_;intro _ _;rcases hq with⟨ev,hq⟩|⟨u,ev,u0,hq⟩
    ·rw[ev];have e6:fEq (.int (-1)) (.int (-1))=some (.bl true):=rfl;simp![ng,e6];exact#[_,by
      rw[jzm λx v' ys _ _ h3 _ _ _ hb=>by
       have:=(qjq hb).2;rw[kwa hq (by rw[fk];simp) h3]at this;cases this],trivial]
    ·rw[ev];have e6:fEq (.int u) (.int (-1))=some (.bl false):=by rw[wv];simp;omega
     simp![ng,e6];refine XZ rfl ?_;simp![sh,ixh];refine(kjq w hww own).use ?_;intro _ _;rw[ev];exact#[acc,rfl,by omega,_,_,_,_,_,pre++[w],post,_,rfl,by rw[fk];simp,rfl,jx8 hq ef]
 ·rintro E ⟨o1,o2,o4,o5,q7,pre,post,acc,rfl,fk,hr,ef⟩;have:post=[]:=by cases post with|nil=>rfl|cons _ _=>cases hr
  subst this;rw[Xr]at fk;subst fk;obtain⟨f1,f2⟩:=qjr ef;have b4:JV (.tup acc) own (atK ks (.int v)).toNat=true:=by
   have e:atK ks (.int v)=ks.getD v.toNat 0:=rfl;have:=(jxi f1).1;simp only[JV,f2,e,Bool.and_true];exact X5 (by omega)
  simp![j0,vzg (o:=.rt) ⋯];exact#[_,by rw[qzi p1 hc f1 ha p2 b3 b4],trivial]
theorem qzh{ss:List Str}{ks:List Int}{here:Int}{ws:List Str}(hw:∀w∈ws,w.cps.size<=1000000)(hl:ws.length<=5000)(hk:∀k∈ks,0<=k/\k<=3)(jg:ks.length<=12)(h0:0<=here)(h1:here<ks.length):
  Oo jkj [(.no,sL ws),(.no,sL ss),(.no,.int here),(.no,iL ks)] (λy=>∃o:Own,y=(o,qK ss (ks.getD here.toNat 0) ks ws)/\True) noX:=by
 have l:jx (sL ws)=some (.int ws.length):=congrArg (λn:Nat=>some (D.int n)) (X1 _);have ixh:jw (iL ks) (.int here)=some (.int (ks.getD here.toNat 0)):=kQ h0 (by rw[Xi,Xa,X3 (by omega)];rfl);rw [vq0];refine kz ?_
 by_cases h3:ws.length<3
 ·have g:fLt (.int ws.length) (.int 3)=some (.bl true):=by rw[lt_ii];simp;omega
  simp![l,g];refine#[.dp,?_]
  match ws,h3 with
  | [],_=>exact#[rfl,trivial]| [_],_=>exact#[rfl,trivial]| [_,_],_=>exact#[rfl,trivial]
 have g:fLt (.int ws.length) (.int 3)=some (.bl false):=by rw[lt_ii];simp;omega
 match ws,h3,hw,hl,l,g with
 | a::b::c::fs,h3,hw,hl,l,g=>
  have g2:decide (((fs.length+1+1+1:Nat):Int)<3)=false:=X6 (by omega);have j0:jw (sL (a::b::c::fs)) (.int 0)=some (.str a):=kQ ⋯ rfl;have j1:jw (sL (a::b::c::fs)) (.int 1)=some (.str b):=kQ ⋯ rfl;have qu:=xk1 (z:=a) (ss:=ss);cases ha:ss.any λw=>w==a with
  | false=>
   rw[ha]at qu;simp![l,g,g2,j0,qu];exact#[_,by rw[jzm λx v ys _ _ _ hb _ _ _=>by have hb:(ss.any λw=>w==a)=true:=hb;rw[ha]at hb;cases hb],trivial]
  | true=>
   rw[ha]at qu;have n1:=vw8 b "fresh";have n2:=vw8 b "any";have fin:∀{o1 o4:Own} {N C:En->Prop},Po (toQ [some (.no,sL (a::b::c::fs)),some (o1,sL ss),some (.no,.int here),some (.no,iL ks),some (o4,xW b (ks.getD here.toNat 0)),none,none,none]) N C (λy=>∃o:Own,y=(o,qK ss (ks.getD here.toNat 0) ks (a::b::c::fs))/\True) noX:=fun {o1 o4 N C}=>wqc hw (by simp at hl;omega) hk jg h0 h1 rfl ha
   by_cases hf:b="fresh"
   ·rw[X5 hf]at n1;have ev:xW b (ks.getD here.toNat 0)=.str b:=X8 (.inl hf);rw[ev]at fin;simp![l,g,g2,j0,j1,qu,n1];exact fin
   rw[X6 hf]at n1
   by_cases sx:b="any"
   ·rw[X5 sx]at n2;have ev:xW b (ks.getD here.toNat 0)=.str b:=X8 (.inr sx);rw[ev]at fin;simp![l,g,g2,j0,j1,qu,n1,n2];exact fin
   rw[X6 sx]at n2;have ev:xW b (ks.getD here.toNat 0)=.int (v8 b (ks.getD here.toNat 0)):=Xd λh=>h.elim hf sx
   rw[ev]at fin;simp![l,g,g2,j0,j1,qu,n1,n2,ixh];refine(kjq b (hw b (by simp)) _).use ?_;intro _ _;exact fin
abbrev Bk(α:Type):=Int×Bool×List α
noncomputable def addLast{α:Type}:List (Bk α)->α->List (Bk α)
 |[],_=>[]|[b],x=>[(b.1,b.2.1,b.2.2++[x])]|b::c::bs,x=>b::addLast (c::bs) x
theorem W4{α:Type}{k:Int}{g:Bool}{l:List α}{x:α}:∀{b0:List (Bk α)},addLast (b0++[(k,g,l)]) x=b0++[(k,g,l++[x])]
 |[]=>rfl|[b]=>rfl
 |b::c::b0=>by
  have ih:=W4 (k:=k) (g:=g) (l:=l) (x:=x) (b0:=c::b0);show b::addLast (c::b0++[(k,g,l)]) x=_;rw[ih];rfl
theorem ZJ{α:Type}{l:List α}(h:l≠[]):∃a b,l=a++[b]:=#[l.dropLast,l.getLast h,(List.dropLast_concat_getLast h).symm]
noncomputable def zZ(ws:List Str):Bool:=decide (ws.head?=some ("room":Str))&&(decide (ws.length=2)||decide (ws.drop 2=[("good":Str)]))
def w1(ws:List Str):Str:=ws.getD 1 ""
noncomputable def Q5(bs:List (Bk (List Str)))(ws:List Str):Option (List (Bk (List Str))):=
 if zZ ws=true then(if v8 (w1 ws) 4=-1 then none else some (bs++[(v8 (w1 ws) 4,decide (ws.length=3),[])]))
 else if bs=[]then none else some (addLast bs ws)
noncomputable def x5(rs:List (Bk D))(ws:List Str):Option (List (Bk D)):=
 if zZ ws=true then(kZ (w1 ws)).map λv=>rs++[(v,decide (ws.length=3),[])]
 else if rs=[]then none else(qZ ws).map λd=>addLast rs d
noncomputable def wK:List (List Str)->List (Bk (List Str))->Option (List (Bk (List Str)))
 |[],bs=>some bs|ws::ls,bs=>(Q5 bs ws).bind (wK ls)
noncomputable def kq:List (List Str)->List (Bk D)->Option (List (Bk D))
 |[],rs=>some rs|ws::ls,rs=>(x5 rs ws).bind (kq ls)
noncomputable def Rl1(b:Bk (List Str))(r:Bk D):Prop:=b.1=r.1/\b.2.1=r.2.1/\b.2.2.mapM qZ=some r.2.2
noncomputable def Rel:List (Bk (List Str))->List (Bk D)->Prop
 |[],[]=>True|b::bs,r::rs=>Rl1 b r/\Rel bs rs|_,_=>False
theorem Rel.len:∀{bs rs},Rel bs rs->bs.length=rs.length
 |[],[],_=>rfl|b::bs,r::rs,h=>by rw[Xg,Xg,Rel.len h.2]
theorem Rel.snoc{b:Bk (List Str)}{r:Bk D}(h:Rl1 b r):∀{bs rs},Rel bs rs->Rel (bs++[b]) (rs++[r])
 |[],[],_=>#[h,trivial]|b'::bs,r'::rs,g=>#[g.1,Rel.snoc h g.2]
theorem Rel.addLast{ws:List Str}{d:D}(h:qZ ws=some d):∀{bs rs},Rel bs rs->Rel (addLast bs ws) (Nk13.addLast rs d)
 |[],[],_=>trivial|[b],[r],g=>#[#[g.1.1,g.1.2.1,jx8 h g.1.2.2],trivial]|b::c::bs,r::s::rs,g=>#[g.1,Rel.addLast h (bs:=c::bs) (rs:=s::rs) g.2]|[b],r::s::rs,g=>g.2.elim|b::c::bs,[r],g=>g.2.elim
theorem jzi{α:Type}{x:α}:∀{bs:List (Bk α)} {b},b∈bs->∃b'∈addLast bs x,b'.1=b.1/\∀y∈b.2.2,y∈b'.2.2
 | [c],b,h=>by
  rw[aC h];exact#[_,aB rfl,rfl,λy hy=>ll9 _ hy]
 | c::e::bs,b,h=>by
  rcases aD h with rfl|h
  ·exact#[b,X2,rfl,λy hy=>hy]
  ·obtain⟨b',h1,h2⟩:=jzi (x:=x) h;exact#[b',lc9 _ h1,h2]
theorem kv3{α:Type}{x:α}:∀{bs:List (Bk α)},bs≠[]->∃b∈addLast bs x,x∈b.2.2
 |[],h=>absurd rfl h|[c],_=>#[_,aB rfl,lr9 _ (aB rfl)]
 |c::e::bs,_=>by
  obtain⟨b,h1,h2⟩:=kv3 (x:=x) (bs:=e::bs) (λh=>nomatch h);exact#[b,lc9 _ h1,h2]
theorem kw1:∀{ls:List (List Str)} {rs fw:List (Bk D)},kq ls rs=some fw->∀r∈rs,∃r'∈fw,r'.1=r.1
 | [],rs,fw,h,r,hr=>by cases h;exact#[r,hr,rfl]
 | ws :: ls,rs,fw,h,r,hr=>by
  unfold kq at h;cases ha:x5 rs ws with
  | none=>rw[ha]at h;cases h
  | some r1=>
   rw [ha]at h;unfold x5 at ha;have:∃r'∈r1,r'.1=r.1:=by
    split at ha
    ·obtain⟨v,_,rfl⟩:=Option.map_eq_some_iff.mp ha;exact#[r,ll9 _ hr,rfl]
    ·split at ha
     ·cases ha
     ·obtain⟨d,_,rfl⟩:=Option.map_eq_some_iff.mp ha;obtain⟨r',h1,h2,_⟩:=jzi (x:=d) hr;exact#[r',h1,h2]
   obtain⟨r',h1,h2⟩:=this;obtain⟨r2,h3,h4⟩:=kw1 h r' h1;exact#[r2,h3,h4.trans h2]
theorem kv0:∀{ls:List (List Str)} {bs br:List (Bk (List Str))},wK ls bs=some br->∀b∈bs,∀ws∈b.2.2,∃b'∈br,ws∈b'.2.2
 | [],bs,br,h,b,hb,ws,hw=>by cases h;exact#[b,hb,hw]
 | l :: ls,bs,br,h,b,hb,ws,hw=>by
  unfold wK at h;cases ha:Q5 bs l with
  | none=>rw[ha]at h;cases h
  | some b1=>
   rw [ha]at h;unfold Q5 at ha;have:∃b'∈b1,ws∈b'.2.2:=by
    split at ha
    ·split at ha
     ·cases ha
     ·cases ha;exact#[b,ll9 _ hb,hw]
    ·split at ha
     ·cases ha
     ·cases ha;obtain⟨b',h1,_,h2⟩:=jzi (x:=l) hb;exact#[b',h1,h2 ws hw]
   obtain⟨b',h1,h2⟩:=this;exact kv0 h b' h1 ws h2
theorem kws:∀(ls:List (List Str)) (bs:List (Bk (List Str))) (rs:List (Bk D)),Rel bs rs ->
  (wK ls bs=none/\∀fw,kq ls rs=some fw->∃r∈fw,4<=r.1)\/∃br,wK ls bs=some br/\((∃fw,kq ls rs=some fw/\Rel br fw)\/kq ls rs=none/\∃b∈br,∃ws∈b.2.2,qZ ws=none)
 | [],bs,rs,h=>.inr #[bs,rfl,.inl #[rs,rfl,h]]
 | ws :: ls,bs,rs,h=>by
  unfold wK kq Q5 x5
  by_cases hr:zZ ws=true
  ·rw [X8 hr,X8 hr];rcases jwd (w1 ws) 4 with⟨e,hn⟩|⟨v,e,hp,v0,v4⟩
   ·rw[X8 e];refine .inl #[rfl,λfw iw=>?_];cases hp:kZ (w1 ws)with
    | none=>rw[hp]at iw;cases iw
    | some v=>
     rw[hp]at iw;obtain⟨r',h1,h2⟩:=kw1 (show kq ls (rs++[(v,decide (ws.length=3),[])])=some fw from iw) (v,decide (ws.length=3),[]) (by simp);refine#[r',h1,?_];rw[h2];have:=hn v hp;show 4<=v;omega
   ·rw[Xd (by omega),hp,e];exact kws ls _ _ (h.snoc #[rfl,rfl,rfl])
  ·rw [Xd hr,Xd hr]
   by_cases hb:bs=[]
   ·subst hb;cases rs with
    | nil=>
     rw[X8 rfl];exact .inl #[rfl,λfw h=>by cases h]
    | cons r rs=>exact h.elim
   ·have iw:rs≠[]:=λe=>by
     subst e;have:=h.len;exact hb (List.length_eq_zero_iff.mp this)
    rw[Xd hb,Xd iw];cases hp:qZ ws with
    | some d=>exact kws ls _ _ (h.addLast hp)
    | none=>
     cases mv:wK ls (addLast bs ws)with
     |none=>exact .inl #[mv,λfw h=>by cases h]
     |some br=>
      obtain⟨b,h1,h2⟩:=kv3 (x:=ws) hb;obtain⟨b',h3,h4⟩:=kv0 mv b h1 ws h2;exact .inr #[br,mv,.inr #[rfl,b',h3,ws,h4,hp]]
set_option tactic.hygienic true in
theorem kju:∀{ls:List (List Str)} {bs br:List (Bk (List Str))},wK ls bs=some br->(∀b∈bs,0<=b.1/\b.1<=3)->∀b∈br,0<=b.1/\b.1<=3
 | [],bs,br,h,hk=>by cases h;exact hk
 | l :: ls,bs,br,h,hk=>by
  unfold wK at h;cases ha:Q5 bs l with
  | none=>rw[ha]at h;cases h
  | some b1=>
   rw [ha]at h;refine kju h ?_;unfold Q5 at ha
   split at ha
   ·split at ha
    ·cases ha
    ·rename_i cg;cases ha;intro b hb;rcases aA hb with hb|hb
     ·exact hk b hb
     ·rw[aC hb];rcases jwd (w1 l) 4 with⟨e,_⟩|⟨v,e,_,v0,v4⟩
      ·exact absurd e cg
      ·show 0<=v8 (w1 l) 4/\v8 (w1 l) 4<=3;rw[e];omega
   ·split at ha
    ·cases ha
    ·rename_i cg;cases ha;obtain⟨b0,b',rfl⟩:=ZJ cg;rw[show b'=(b'.1,b'.2.1,b'.2.2)from rfl,W4];intro b hb;rcases aA hb with hb|hb
     ·exact hk b (ll9 _ hb)
     ·rw[aC hb];exact hk b' (lr9 _ (aB rfl))
noncomputable def tot{α:Type}(bs:List (Bk α)):Nat:=(bs.map λb=>b.2.2.length).sum
theorem kwi{α:Type}{bs:List (Bk α)}{b:Bk α}:tot (bs++[b])=tot bs+b.2.2.length:=by
 unfold tot;rw[Xq,List.sum_append];simp
set_option tactic.hygienic true in
theorem kq3:∀{ls:List (List Str)} {rs fw:List (Bk D)},kq ls rs=some fw->tot fw<=tot rs+ls.length
 | [],rs,fw,h=>by cases h;exact Xk _
 | l :: ls,rs,fw,h=>by
  unfold kq at h;cases ha:x5 rs l with
  | none=>rw[ha]at h;cases h
  | some r1=>
   rw [ha]at h;have ih:=kq3 h;have:tot r1<=tot rs+1:=by
    unfold x5 at ha
    split at ha
    ·obtain⟨v,_,rfl⟩:=Option.map_eq_some_iff.mp ha;rw[kwi];simp
    ·split at ha
     ·cases ha
     ·rename_i cg;obtain⟨d,_,rfl⟩:=Option.map_eq_some_iff.mp ha;obtain⟨b0,b',rfl⟩:=ZJ cg;rw[show b'=(b'.1,b'.2.1,b'.2.2)from rfl,W4,kwi,kwi];simp;omega
   rw[Xg];omega
set_option tactic.hygienic true in
theorem kw0:∀{ls:List (List Str)} {rs fw:List (Bk D)},kq ls rs=some fw->(∀r∈rs,∀d∈r.2.2,∃ws,qZ ws=some d)->∀r∈fw,∀d∈r.2.2,∃ws,qZ ws=some d
 | [],rs,fw,h,hk=>by cases h;exact hk
 | l :: ls,rs,fw,h,hk=>by
  unfold kq at h;cases ha:x5 rs l with
  | none=>rw[ha]at h;cases h
  | some r1=>
   rw [ha]at h;refine kw0 h ?_;unfold x5 at ha
   split at ha
   ·obtain⟨v,_,rfl⟩:=Option.map_eq_some_iff.mp ha;intro r hr d hd;rcases aA hr with hr|hr
    ·exact hk r hr d hd
    ·rw[aC hr]at hd;cases hd
   ·split at ha
    ·cases ha
    ·rename_i cg;obtain⟨d',hd',rfl⟩:=Option.map_eq_some_iff.mp ha;obtain⟨b0,b',rfl⟩:=ZJ cg;rw[show b'=(b'.1,b'.2.1,b'.2.2)from rfl,W4];intro r hr d hd;rcases aA hr with hr|hr
     ·exact hk r (ll9 _ hr) d hd
     ·rw[aC hr]at hd;rcases aA hd with hd|hd
      ·exact hk b' (lr9 _ (aB rfl)) d hd
      ·rw[aC hd];exact#[l,hd']
theorem qqk {i w:Nat} {T C:Ts} {c:Ex} {N Cc:En->Prop} {R:Sd->Prop} {X:XP} (I:En->List D->List D->Prop)
  (hs:∀ E bs d ds,I E bs (d::ds)->Eo (T (E.set w (some (.no,d)))) (λE1 k=>if k=true then Eo (C E1) (λE2 k2=>if k2=true then R (.dp,.non)else Eo (c E2) (λE3 x=>∃a b,x=(.dp,.tup [a,b,.lst []])/\a.pure=true/\b.pure=true/\bs.length<10000/\I E3 (bs++[.tup [a,b,.lst []]]) ds) noX) noX
   else (bs=[]/\R (.dp,.non))\/∃b0 a b ws o x,bs=b0++[.tup [a,b,.lst ws]]/\E1[w]?=some (some (o,x))/\ws.length<10000/\I (E1.set w (some (.no,x))) (b0++[.tup [a,b,.lst (ws++[x])]]) ds) noX)
  (h1:∀ E bs,I E bs []->N (E.set i (some (.rt,.lst bs)))):∀ds E bs,I E bs ds->Po (V3 i w T C c ds E bs) N Cc R X
 | [],E,bs,h=>by exists h1 E bs h
 | d :: ds,E,bs,h=>by
  have h2:=hs E bs d ds h;unfold V3;cases hT:T (E.set w (some (.no,d)))with
  | none=>rw[hT]at h2;exists (h2).elim
  | some r=>
   rw [hT]at h2;cases r with
   | exc E1 e=>exists (h2).elim
   | ok E1 k=>
    rw [Wv]at h2;cases k with
    | true=>
     rw [X8 rfl]at h2;dsimp only;cases hC:C E1 with
     | none=>rw[hC]at h2;exists (h2).elim
     | some r=>
      rw [hC]at h2;cases r with
      | exc E2 e=>exists (h2).elim
      | ok E2 k2=>
       rw [Wv]at h2;cases k2 with
       | true=>
        rw[X8 rfl]at h2;rw[wvx];exact h2
       | false=>
        rw[Xd ⋯]at h2;dsimp only;cases hc:c E2 with
        | none=>rw[hc]at h2;exists (h2).elim
        | some r=>
         rw[hc]at h2;cases r with
         |exc E3 e=>exists (h2).elim
         |ok E3 x=>
          rw[Wv]at h2;obtain⟨a,b,rfl,pa,pb,hl,hI⟩:=h2;dsimp only;rw[X8 #[pa,pb,by unfold big;omega]];exact qqk I hs h1 ds _ _ hI
    | false=>
     rw[Xd ⋯]at h2;dsimp only;rcases h2 with⟨rfl,hR⟩|⟨b0,a,b,ws,o,x,rfl,hw,hl,hI⟩
     ·rw[X8 rfl,wvx];exact hR
     ·rw[Xd (by simp),List.getLast?_concat];dsimp only;rw[hw];dsimp only;rw[X8 (by unfold big;omega),List.dropLast_concat];exact qqk I hs h1 ds _ _ hI
theorem wxw{E:En}{i w:Nat}{it:Ev (List D)}{T C:Ts}{c:Ex}{N Cc:En->Prop}{R:Sd->Prop}{X:XP}(I:En->List D->List D->Prop)(h0:E[i]?=some (some (.dp,.lst [])))(hi:Eo (it (E.set i none)) (λE1 ds=>I E1 [] ds) X)
  (hs:∀E bs d ds,I E bs (d::ds)->Eo (T (E.set w (some (.no,d)))) (λE1 k=>if k=true then Eo (C E1) (λE2 k2=>if k2=true then R (.dp,.non)else Eo (c E2) (λE3 x=>∃a b,x=(.dp,.tup [a,b,.lst []])/\a.pure=true/\b.pure=true/\bs.length<10000/\I E3 (bs++[.tup [a,b,.lst []]]) ds) noX) noX
   else(bs=[]/\R (.dp,.non))\/∃b0 a b ws o x,bs=b0++[.tup [a,b,.lst ws]]/\E1[w]?=some (some (o,x))/\ws.length<10000/\I (E1.set w (some (.no,x))) (b0++[.tup [a,b,.lst (ws++[x])]]) ds) noX)
  (h1:∀E bs,I E bs []->N (E.set i (some (.rt,.lst bs)))):Po (wqu i w it T C c E) N Cc R X:=by
 unfold wqu;rw[h0];dsimp only;rw[J1]
 exists hi.mono λE1 ds h=>qqk I hs h1 ds E1 [] h
theorem qkq{ws:List Str}{o:Str}{r:List Str}(e:ws=o::r):jw (sL ws) (.int 0)=some (.str o):=by
 subst e;exact kQ ⋯ rfl
theorem wk6{ws:List Str}(cg:ws≠[]):Is jkr [(.no,sL ws)] (zZ ws):=by
 obtain⟨o,r,e⟩:∃o r,ws=o::r:=by cases ws with|nil=>exact absurd rfl cg|cons o r=>exact#[o,r,rfl]
 have i0:=qkq e;have l:jx (sL ws)=some (.int ws.length):=congrArg (λn:Nat=>some (D.int n)) (X1 _);have jp:=Zj o "room";have q2:fEq (.int ws.length) (.int 2)=some (.bl (decide (ws.length=2))):=by rw[wv];congr 2;exact decide_eq_decide.mpr (by omega)
 have s2:fSl (.no,sL ws) (some 2) none=some (.rt,sL (ws.drop 2)):=slw (c:=2) ⋯;have q3:fEq (sL (ws.drop 2)) (.lst [.str "good"])=some (.bl (decide (ws.drop 2=[("good":Str)]))):=wxk (ws.drop 2) ["good"];have hd:ws.head?=some o:=by rw[e];rfl
 unfold jkr zZ;refine kz ?_;rw[hd]
 by_cases h1:o="room"
 ·rw[X5 h1]at jp;rw[X5 (by rw[h1])]
  by_cases h2:ws.length=2
  ·rw[X5 h2]at q2;simp![i0,jp,l,q2];exact#[_,by rw[X5 h2];rfl,trivial]
  ·rw[X6 h2]at q2;simp![i0,jp,l,q2,s2,q3];exact#[_,by rw[X6 h2];rfl,trivial]
 ·rw[X6 h1]at jp;rw[X6 (by intro h;exact h1 (oq9 h))];simp![i0,jp];exact#[_,rfl,trivial]
noncomputable def bkD(b:Bk (List Str)):D:=.tup [.int b.1,.bl b.2.1,.lst (b.2.2.map sL)]
def rmD(r:Bk D):D:=.tup [.int r.1,.bl r.2.1,.lst r.2.2]
theorem qvd{ws:List Str}(h:zZ ws=true):∃a b r,ws=a::b::r:=by
 unfold zZ at h;rw[Bool.and_eq_true,Bool.or_eq_true]at h;obtain⟨_,h⟩:=h
 match ws,h with
 |a::b::r,_=>exact#[a,b,r,rfl]|[a],h=>simp at h|[],h=>simp at h
theorem w1_of{a b:Str}{r:List Str}:w1 (a::b::r)=b:=rfl
theorem vqj{ls:List (List Str)}(cg:∀ws∈ls,ws≠[])(hw:∀ws∈ls,∀w∈ws,w.cps.size<=1000000)(hl:ls.length<=5000):
  Oo ZV [(.no,.lst (ls.map sL))] (λy=>(wK ls []=none/\y=(.dp,.non))\/∃bs,wK ls []=some bs/\y=(.rt,.lst (bs.map bkD))) noX:=by
 unfold ZV;refine kz ?_;simp![];refine wxw (λE bsD b6=>∃(bs:List (Bk (List Str))) (dn td:List (List Str)) (q:Option Sd),E=[some (.no,.lst (ls.map sL)),none,q]/\ls=dn++td/\b6=td.map sL/\bsD=bs.map bkD/\wK ls []=wK td bs/\bs.length<=dn.length/\∀b∈bs,b.2.2.length<=dn.length) rfl ?_ ?_ ?_
 ·simp![];exact#[[],[],ls,_,rfl,rfl,rfl,rfl,rfl,Xk _,λb h=>nomatch h]
 ·rintro E bsD d ds ⟨bs,dn,td,q,rfl,gw,hr,rfl,mv,ow,i7⟩;cases td with
  | nil=>cases hr
  | cons ws td=>
   have hr:d::ds=sL ws::td.map sL:=hr;injection hr with e1 e2;subst e1 e2;have hm:ws∈ls:=by rw[gw];simp
   have hdl:dn.length+1+td.length<=5000:=by rw[gw]at hl;simp at hl;omega
   obtain⟨o,r,e⟩:∃o r,ws=o::r:=by cases ws with|nil=>exact absurd rfl (cg _ hm)|cons o r=>exact#[o,r,rfl]
   have i0:=qkq e;have l:jx (sL ws)=some (.int ws.length):=congrArg (λn:Nat=>some (D.int n)) (X1 _);have jp:=Zj o "room";have q2:fEq (.int ws.length) (.int 2)=some (.bl (decide (ws.length=2))):=by rw[wv];congr 2;exact decide_eq_decide.mpr (by omega)
   have q3:fEq (.int ws.length) (.int 3)=some (.bl (decide (ws.length=3))):=by rw[wv];congr 2;exact decide_eq_decide.mpr (by omega)
   have hd:ws.head?=some o:=by rw[e];rfl
   have main:∀{P:En->Bool->Prop},P [some (.no,.lst (ls.map sL)),none,some (.no,sL ws)] (zZ ws)->Eo ((tAnd (tE (cF2 (pu2 fEq) (j8 (vV 2) (C9 0)) (vE (cC (.str "room"))))) (tOr (tE (cF2 (pu2 fEq) (vE (cF1 (pu1 jx) (vV 2))) (C9 2))) (tAnd (tE (cF2 (pu2 fEq) (vE (cF1 (pu1 jx) (vV 2))) (C9 3))) (tE (cF2 (pu2 fEq) (j8 (vV 2) (C9 2)) (vE (cC (.str "good")))))))) [some (.no,.lst (ls.map sL)),none,some (.no,sL ws)]) P noX:=fun {P} hP=>by
    unfold zZ at hP;rw [hd]at hP
    by_cases h1:o="room"
    ·rw[X5 h1]at jp;rw[X5 (by rw[h1])]at hP
     by_cases h2:ws.length=2
     ·rw[X5 h2]at q2 hP;simp![i0,jp,l,q2];exact hP
     rw[X6 h2]at q2 hP
     by_cases h3:ws.length=3
     ·rw[X5 h3]at q3;obtain⟨a,b,c,e3⟩:∃a b c,ws=[a,b,c]:=by
       match ws,h3 with
       |[a,b,c],_=>exact#[a,b,c,rfl]
      have i2:jw (sL ws) (.int 2)=some (.str c):=by rw[e3];exact kQ ⋯ rfl
      have eq2:=Zj c "good";have hc:decide (ws.drop 2=[("good":Str)])=decide (c="good"):=decide_eq_decide.mpr (by rw[e3];simp);rw[hc]at hP;cases hd:decide (c="good")with
      |true=>
       rw[hd]at eq2 hP;simp![i0,jp,l,q2,q3,i2,eq2];exact hP
      |false=>
       rw[hd]at eq2 hP;simp![i0,jp,l,q2,q3,i2,eq2];exact hP
     ·rw[X6 h3]at q3;have hn:decide (ws.drop 2=[("good":Str)])=false:=X6 λh=>by
       have:=congrArg List.length h;rw[Yn]at this;simp at this;omega
      rw[hn]at hP;simp![i0,jp,l,q2,q3];exact hP
    ·rw[X6 h1]at jp;rw[X6 (by intro h;exact h1 (oq9 h))]at hP;simp![i0,jp];exact hP
   refine main ?_;have step:wK ls []=(Q5 bs ws).bind (wK td):=mv;unfold Q5 at step
   by_cases hr:zZ ws=true
   ·rw [X8 hr];rw [X8 hr]at step;obtain⟨a,b,r',e'⟩:=qvd hr;have i1:jw (sL ws) (.int 1)=some (.str b):=by subst e';exact kQ ⋯ rfl
    have hb:w1 ws=b:=by subst e';rfl
    rw [hb]at step;have ng:xJ (.int 1)=some (.int (-1)):=rfl;have t8:=hw ws hm b (by rw[e'];simp);simp![i1];refine(kjq b t8 4).use ?_;intro of _
    by_cases hf:v8 b 4=-1
    ·rw[X8 hf]at step;rw[hf];have e6:fEq (.int (-1)) (.int (-1))=some (.bl true):=rfl;simp![ng,e6];exact .inl #[step,trivial]
    ·rw[Xd hf]at step;have e6:fEq (.int (v8 b 4)) (.int (-1))=some (.bl false):=by rw[wv];simp[hf]
     simp![ng,e6,qz2,qz3,i1];refine(kjq b t8 4).use ?_;intro of _;refine#[by cases of<;>rfl,?_];simp![l,q3,qz3];refine#[rfl,rfl,_,_,rfl,rfl,rfl,by omega,bs++[(v8 b 4,decide (ws.length=3),[])],dn++[ws],td,_,rfl,by rw[gw];simp,rfl,by rw[Xq];rfl,step,by simp;omega,λb' fm=>?_];rcases aA fm with h|h
     ·have:=i7 b' h;rw[Xf];omega
     ·rw[aC h];exact Ys _
   ·rw [Xd hr];rw [Xd hr]at step
    by_cases hb:bs=[]
    ·subst hb;rw[X8 rfl]at step;exact .inl #[rfl,.inl #[step,rfl]]
    ·rw[Xd hb]at step;obtain⟨b0,b',rfl⟩:=ZJ hb;rw[show b'=(b'.1,b'.2.1,b'.2.2)from rfl,W4]at step;have hbl2:=i7 b' (lr9 _ (aB rfl));refine .inr #[b0.map bkD,_,_,_,_,_,by rw[Xq];rfl,rfl,by rw[X1];omega,b0++[(b'.1,b'.2.1,b'.2.2++[ws])],dn++[ws],td,_,rfl,by rw[gw];simp,rfl,?_,step,?_,λb fm=>?_]
     ·rw[Xq];simp only[List.map_cons,List.map_nil,bkD,Xq]
     ·rw[Xf]at ow ⊢;rw[Xf];simp at ow ⊢;omega
     ·rw[Xf];rcases aA fm with h|h
      ·have:=i7 b (ll9 _ h);omega
      ·rw[aC h];show(b'.2.2++[ws]).length<=_;rw[Xf];simp;omega
 ·rintro E bsD ⟨bs,dn,td,q,rfl,gw,hr,rfl,mv,ow,i7⟩;have:td=[]:=by cases td with|nil=>rfl|cons _ _=>cases hr
  subst this;simp![];exact .inr #[bs,mv,rfl]
theorem wz1{i:Nat}{c:Ex}{E:En}{xs:List D}{N C:En->Prop}{R:Sd->Prop}{X:XP}(h0:E[i]?=some (some (.dp,.lst xs)))
  (h:Eo (c E) (λE1 x=>∃ys,E1[i]?=some (some (.dp,.lst ys))/\ys.length<10000/\x.1=.dp/\N (E1.set i (some (.dp,.lst (ys++[x.2]))))) X):Po (wq xj i c E) N C R X:=
 vz7 h0 (h.mono λE1 x #[ys,h1,h2,h3,h4]=>#[.dp,ys,h1,⋯,h2,by rw[X8 #[rfl,by unfold vK;rw[h3];rfl]];exists h4])
theorem ww8{E:En}{i:Nat}{ps:List (Int ⊕ Nat)}{c:Ex}{d:D}{zs:List Int}{p:List Nat}{ds:List D}{N C:En->Prop}{R:Sd->Prop}{X:XP}(h0:E[i]?=some (some (.dp,d)))(hz:WX E ps=some zs)(hn:Qx zs d=some p)(nu:D.at p d=some (.lst ds))(hl:ds.length<10000)
  (h:Eo (c (E.set i none)) (λE1 x=>x.2.pure=true/\N (E1.set i (some (.dp,D.put (.lst (ds++[x.2])) p d)))) X):Po (wqt i ps c E) N C R X:=by
 unfold wqt;rw[h0,hz];dsimp only;rw[hn];exact xju h0 nu hl h
theorem vjm{pre:List D}{a b:D}{st:List D}:Qx [-1,2] (.lst (pre++[.tup [a,b,.lst st]]))=some [pre.length,2]/\D.at [pre.length,2] (.lst (pre++[.tup [a,b,.lst st]]))=some (.lst st)/\∀y,D.put y [pre.length,2] (.lst (pre++[.tup [a,b,.lst st]]))=.lst (pre++[.tup [a,b,y]]):=by
 have hg:(pre++[D.tup [a,b,.lst st]])[pre.length]?=some (.tup [a,b,.lst st]):=by simp
 have hi:Q.ixN (pre++[D.tup [a,b,.lst st]]).length (-1)=some pre.length:=by
  unfold Q.ixN;rw[Xd ⋯,Xf];simp;omega
 refine#[?_,?_,λy=>?_]
 ·unfold Qx;rw[hi];dsimp only;rw[hg];rfl
 ·show(match (pre++[D.tup [a,b,.lst st]])[pre.length]? with|some d=>D.at [2] d|none=>none)=_;rw[hg];rfl
 ·show(match (pre++[D.tup [a,b,.lst st]])[pre.length]? with|some d=>Q.D.lst ((pre++[D.tup [a,b,.lst st]]).set pre.length (D.put y [2] d))|none=>_)=_;rw[hg];show D.lst ((pre++[D.tup [a,b,.lst st]]).set pre.length (.tup [a,b,y]))=_;rw[List.set_append_right _ _ (Xk _),Nat.sub_self];rfl
theorem wwb{xs:List D}(h:D.pures xs=true):wkz (.rt,.lst xs)=true:=by
 unfold wkz;dsimp only;rw[h];rfl
theorem vvi{ws:List Str}(hr:zZ ws=true)(hw:∀w∈ws,w.cps.size<=1000000):Oo jvb [(.no,sL ws)] (λy=>∃v,y=(.dp,.tup [.int v,.bl (decide (ws.length=3)),.lst []])/\kZ (w1 ws)=some v) (λc=>c="NoText"/\kZ (w1 ws)=none):=by
 obtain⟨a,b,r,e⟩:=qvd hr;have i1:jw (sL ws) (.int 1)=some (.str b):=by subst e;exact kQ ⋯ rfl
 have l:jx (sL ws)=some (.int ws.length):=congrArg (λn:Nat=>some (D.int n)) (X1 _);have q3:fEq (.int ws.length) (.int 3)=some (.bl (decide (ws.length=3))):=by rw[wv];congr 2;exact decide_eq_decide.mpr (by omega)
 have hb:w1 ws=b:=by subst e;rfl
 rw[hb];unfold jvb;refine kz ?_;simp![i1,qz2,qz3];refine(kwr b (hw b (by rw[e];simp))).oe ?_ ?_
 rotate_left
 ·exact λc h=>h
 rintro y ⟨⟨o,v⟩,rfl,hv⟩;refine#[by cases o<;>rfl,?_];simp![l,q3,qz3];exact#[rfl,rfl,v,rfl,hv]
theorem qzs {ls:List (List Str)} (cg:∀ws∈ls,ws≠[]) (hw:∀ws∈ls,∀w∈ws,w.cps.size<=1000000) (qp:∀ws∈ls,ws.length<=100000) (hl:ls.length<=5000):
  Oo jqj [(.no,.lst (ls.map sL))] (λy=>∃rs,y=(.dp,.lst (rs.map rmD))/\kq ls []=some rs) (λc=>c="NoText"/\kq ls []=none):=by
 unfold jqj;refine kz ?_;simp![];refine V9 (λE b6=>∃(rs:List (Bk D)) (dn td:List (List Str)) (q:Option Sd) (o0:Own),E=[some (o0,.lst (ls.map sL)),some (.dp,.lst (rs.map rmD)),q]/\ls=dn++td/\b6=td.map sL/\kq ls []=kq td rs/\rs.length<=dn.length/\∀r∈rs,r.2.2.length<=dn.length) ?_ ?_ ?_
 ·simp![];exact #[[],[],ls,_,_,rfl,rfl,rfl,rfl,Xk _,λb h=>nomatch h]
 ·rintro E d ds ⟨rs,dn,td,q,o0,rfl,gw,hr,hrp,ow,i7⟩;cases td with
  | nil=>cases hr
  | cons ws td=>
   have hr:d::ds=sL ws::td.map sL:=hr;injection hr with e1 e2;subst e1 e2;have hm:ws∈ls:=by rw[gw];simp
   have hdl:dn.length+1+td.length<=5000:=by rw[gw]at hl;simp at hl;omega
   have step:kq ls []=(x5 rs ws).bind (kq td):=hrp;unfold x5 at step;simp![];refine(wk6 (cg ws hm)).any.use ?_;intro _ _;cases hro:zZ ws with
   | true=>
    rw [X8 hro]at step;simp![];refine wz1 rfl ?_;simp![];refine(vvi hro (hw ws hm)).oe ?_ ?_
    ·rintro y ⟨v,rfl,hv⟩;rw [hv]at step;refine#[_,rfl,by rw[X1];omega,rfl,rs++[(v,decide (ws.length=3),[])],dn++[ws],td,_,_,by rw[Xq];rfl,by rw[gw];simp,rfl,step,by simp;omega,λr pd=>?_];rcases aA pd with h|h
     ·have:=i7 r h;rw[Xf];omega
     ·rw[aC h];exact Ys _
    ·rintro c ⟨rfl,hv⟩;rw [hv]at step;exact#[rfl,step]
   | false=>
    rw [Xd (by rw[hro];decide)]at step;have l1:jx (.lst (rs.map rmD))=some (.int rs.length):=congrArg (λn:Nat=>some (D.int n)) (X1 _)
    by_cases hb:rs=[]
    ·subst hb;rw [X8 rfl]at step;have ez:fEq (.int (0:Nat)) (.int 0)=some (.bl true):=rfl;simp![l1,ez];exact step
    ·rw [Xd hb]at step;have ez:fEq (.int rs.length) (.int 0)=some (.bl false):=by
      rw[wv];have:rs.length≠0:=λe=>hb (List.length_eq_zero_iff.mp e)
      rw[show(((rs.length:Nat):Int)==0)=false from beq_eq_false_iff_ne.mpr (by omega)]
     obtain⟨r0,r',rfl⟩:=ZJ hb;have hrd:(r0++[r']).map rmD=r0.map rmD++[.tup [.int r'.1,.bl r'.2.1,.lst r'.2.2]]:=by rw[Xq];rfl
     obtain⟨p1,p2,p3⟩:=vjm (pre:=r0.map rmD) (a:=.int r'.1) (b:=.bl r'.2.1) (st:=r'.2.2);rw [<-hrd,X1]at p1 p2 p3;have hrl:=i7 r' (lr9 _ (aB rfl));simp![l1,ez];refine ww8 rfl rfl p1 p2 (by omega) ?_;simp![];refine(vvh ws (hw ws hm) (qp ws hm)).oe ?_ ?_
     ·rintro y ⟨⟨o,d⟩,rfl,hd⟩;have hd:qZ ws=some d:=hd;rw[hd,show r'=(r'.1,r'.2.1,r'.2.2)from rfl]at step;have step:kq ls []=kq td (addLast (r0++[(r'.1,r'.2.1,r'.2.2)]) d):=step;rw[W4]at step;have pe:D.put (.lst (r'.2.2++[d])) [r0.length,2] (.lst ((r0++[r']).map rmD))=.lst ((r0++[(r'.1,r'.2.1,r'.2.2++[d])]).map rmD):=by rw[p3,Xq];rfl
      refine#[(kja hd).1,?_];simp![pe];refine#[r0++[(r'.1,r'.2.1,r'.2.2++[d])],dn++[ws],td,_,_,rfl,by rw[gw];simp,rfl,step,?_,λr pd=>?_]
      ·rw[Xf]at ow ⊢;rw[Xf];simp at ow ⊢;omega
      ·rw[Xf];rcases aA pd with h|h
       ·have:=i7 r (ll9 _ h);omega
       ·rw[aC h];show(r'.2.2++[d]).length<=_;rw[Xf];simp;omega
     ·rintro c ⟨rfl,hd⟩;rw[hd]at step;exact#[rfl,step]
 ·rintro E ⟨rs,dn,td,q,o0,rfl,gw,hr,hrp,ow,i7⟩;have:td=[]:=by cases td with|nil=>rfl|cons _ _=>cases hr
  subst this;simp![];exact#[rs,rfl,hrp]
noncomputable def wX(z:Str):List (List Str):=(Txt.split z #[(List.toArray [10])]).map λl=>Txt.split l #[(List.toArray [32])]
noncomputable def qX(w0:List Str)(rs:List (Bk D)):D:=.tup [sL (w0.drop 1),.lst (rs.map rmD)]
noncomputable def xZ:List (List Str)->Option D
 |[]=>none
 |w0::ls=>if w0.head?=some ("signs":Str)then(match kq ls []with
  |some rs=>if x8 (qX w0 rs)=true then some (qX w0 rs)else none
  |none=>none)else none
theorem kkh(z:Str)(c:Nat):Txt.split z #[(List.toArray [c])]≠[]:=λe=>by
 have:=L3.split_list z c;rw[e]at this;exact L3.splitL_ne c _ this.symm
theorem kwm(z:Str)(c:Nat):(∀w∈Txt.split z #[(List.toArray [c])],w.cps.size<=z.cps.size)/\(Txt.split z #[(List.toArray [c])]).length<=z.cps.size+1:=by
 refine#[λw hw=>Q.split_parts hw,?_];have:=congrArg List.length (L3.split_list z c);rw[X1]at this;rw[this];have h:=L3.splitL_len c (ls z);rw[Xb]at h;exact h
structure Tx (z:Str):Prop where
 s:z.cps.size<=4000
 l:(wX z).length<=110
theorem Tx.lines{z:Str}(h:Tx z):(∃w0 ls,wX z=w0::ls)/\∀ws∈wX z,ws≠[]/\(∀w∈ws,w.cps.size<=4000)/\ws.length<=4001:=by
 have hs:=h.s;refine#[?_,λws j'=>?_]
 ·cases hl:wX z with|cons w0 ls=>exact#[w0,ls,rfl]|nil=>exact absurd (List.map_eq_nil_iff.mp hl) (kkh z 10)
 ·obtain⟨l,hl,rfl⟩:=aE j';have h1:=(kwm z 10).1 l hl;have h2:=kwm l 32;exact#[kkh l 32,λw hw=>Xs (h2.1 w hw) (by omega),by have:=h2.2;omega]
theorem qvs:∀rs:List (Bk D),wV (rs.map rmD)=tot rs
 |[]=>rfl
 |r::rs=>by
  have ih:=qvs rs;unfold wV tot at ih ⊢;rw[List.map_cons,List.map_cons,List.map_cons,Xx,Xx,ih];rfl
theorem qz9{α:Type}{r:Bk α}:∀{rs:List (Bk α)},r∈rs->r.2.2.length<=tot rs
 | a::rs,h=>by
  unfold tot;rw[List.map_cons,Xx];rcases aD h with rfl|h
  ·omega
  ·have:=qz9 h;unfold tot at this;omega
theorem vk2{w0:List Str}{rs:List (Bk D)}(h:∀r∈rs,∀d∈r.2.2,∃ws,qZ ws=some d):(qX w0 rs).flat 40=true:=by
 refine zK λx hx=>?_
 simp only[Y5,Y9,or_false]at hx;rcases hx with rfl|rfl
 ·exact zK λd hd=>by obtain⟨w,_,rfl⟩:=aE hd;rfl
 ·refine zK λd hd=>?_
  obtain⟨r,hr,rfl⟩:=aE hd;refine zK λx hx=>?_
  simp only[Y5,Y9,or_false]at hx;rcases hx with rfl|rfl|rfl
  ·rfl
  ·rfl
  ·refine zK λd hd=>?_
   obtain⟨ws,e⟩:=h r hr d hd;exact(kja e).2 33
def lnD:D->D
 |.str z=>sL (Txt.split z #[(List.toArray [32])])|d=>d
theorem qw1(z:Str)(c:Nat)(hz:z.cps.size<=4000)(o:Own):J8 c (o,.str z)=some (.rt,sL (Txt.split z #[(List.toArray [c])])):=by
 have hz:z.length<=4000:=hz;show(if z.length<sizeLine then _ else _)=_;rw[X8 (Nat.lt_of_le_of_lt hz ⋯)]
theorem qvq{X:XP}{z:Str}(hz:z.cps.size<=4000){q:List (Option Sd)}{P:En->Sd->Prop}(h:P (some (.no,.str z)::q) (.rt,.lst ((wX z).map sL))):
  Eo (cLC .rt 1 [] (itS (cF1 (J8 10) (vV 0))) (.n 0) tYes (cF1 (J8 32) (vV 0)) (some (.no,.str z)::q)) P X:=by
 have s1:=qw1 z 10 hz;refine vw [] (λd y=>y.2=lnD d) ?_;simp![s1];refine#[λd hd=>?_,λys hy=>?_]
 ·obtain⟨l,hl,rfl⟩:=aE hd;have s2:=qw1 l 32 (Xs ((kwm z 10).1 l hl) hz);simp![s2];exact#[#[_,rfl],rfl]
 ·rw[qV,xq (h:=lnD) (λ_ _ h=>h) hy,bk];have e:((Txt.split z #[(List.toArray [10])]).map D.str).map lnD=(wX z).map sL:=by
   unfold wX;rw[Xu,Xu];rfl
  rw[e];exact h
theorem xqq{w0:List Str}{ls:List (List Str)}{o:Own}(ho:o≠.dp):fSl (o,.lst ((w0::ls).map sL)) (some 1) none=some (.rt,.lst (ls.map sL)):=by
 rw[qwu ho];exact congrArg (λx=>some (Own.rt,D.lst x)) (qwe (c:=1))
theorem vk1{z:Str}(h:Tx z):Oo Wq [(.no,.str z)] (λy=>∃d,y=(.dp,d)/\xZ (wX z)=some d/\d.flat 40=true) (λc=>c="NoText"/\xZ (wX z)=none):=by
 obtain⟨⟨w0,ls,gw⟩,iu⟩:=h.lines;have rj:=h.l;rw[gw]at iu rj;obtain⟨h01,h02,h03⟩:=iu w0 X2;obtain⟨x,r,e⟩:∃x r,w0=x::r:=by cases w0 with|nil=>exact absurd rfl h01|cons x r=>exact#[x,r,rfl]
 have i00:jw (.lst (sL w0::ls.map sL)) (.int 0)=some (sL w0):=kQ ⋯ rfl;have i0:=qkq e;have ne:=vw8 x "signs";have hd:w0.head?=some x:=by rw[e];rfl
 have c1:∀o,o≠Own.dp->fSl (o,sL w0) (some 1) none=some (.rt,sL (w0.drop 1)):=λo ho=>slw (c:=1) ho
 have c2:∀o,o≠Own.dp->fSl (o,.lst (sL w0::ls.map sL)) (some 1) none=some (.rt,.lst (ls.map sL)):=λo ho=>xqq ho
 unfold Wq;refine kz ?_;simp![];refine qvq h.s ?_;rw[gw]
 by_cases hx:x="signs"
 rotate_left
 ·rw[X6 hx]at ne;have ep:xZ (w0::ls)=none:=Xd λq=>by rw[hd]at q;exact hx (oq9 q)
  simp![i00,i0,ne];exact ep
 rw[X5 hx]at ne;have ep:xZ (w0::ls)=(match kq ls []with
  |some rs=>if x8 (qX w0 rs)=true then some (qX w0 rs)else none
  |none=>none):=X8 (by rw[hd,hx])
 rw[ep];simp![i00,i0,ne,c1 .no ⋯,qz2,qz3];refine#[wwb (D.pures_map _ _ λ_ _=>rfl),?_];simp![c2 .rt ⋯];refine(qzs (λws j'=>(iu ws (lc9 _ j')).1) (λws j' w hw=>Xs ((iu ws (lc9 _ j')).2.1 w hw) ⋯) (λws j'=>Xs (iu ws (lc9 _ j')).2.2 ⋯) (by simp at rj;omega)).oe ?_ ?_
 rotate_left
 ·rintro c ⟨rfl,hn⟩;rw[hn];exact#[rfl,rfl]
 rintro y ⟨rs,rfl,iw⟩;have hp:=kw0 iw λr hr=>nomatch hr
 have ht:=kq3 iw;have mh:=vk2 (w0:=w0) hp;have hsh:xqs (qX w0 rs):=by
  rintro a fw e r hr;injection e with e;injection e with _ e;injection e with e _;injection e with e;rw[<-e]at hr;obtain⟨r',pd,rfl⟩:=aE hr;have:=qz9 pd;have e0:tot ([]:List (Bk D))=0:=rfl;simp at rj;show r'.2.2.length<=1000;omega
 rw[iw];simp![];refine#[rfl,rfl,?_];simp![];refine(qxc mh hsh).any.use ?_;intro _ _;have mh:D.flat 40 (.tup [sL (w0.drop 1),.lst (rs.map rmD)])=true:=mh;show D.pure _=true/\_;cases hb:x8 (qX w0 rs)with
 |false=>
  refine#[rfl,?_];simp![]
 |true=>
  refine#[rfl,?_];simp![];exact#[_,rfl,rfl,mh]
theorem jwy(ss:List Str):wQ (sL ss)=(decide (1<=ss.length)&&decide (ss.length<=3)&&ss.all (λz=>zj (.str z))&&decide (ss=kY (ddS ss))):=by
 simp only[wQ,sL,X1,kwj,List.all_map];rfl
theorem xk2(a b:List Str):fNe (sL a) (sL b)=some (.bl (!decide (a=b))):=by
 unfold fNe;rw[kxj,kxj];show some (D.bl (!peqs (a.map D.str) (b.map D.str)))=_;rw[kww]
theorem vzp{ss:List Str}(h:ss.length<64)(o:Own):K5 (o,sL ss)=some (.rt,sL (kY (ddS ss))):=by
 unfold K5;dsimp only[sL];rw[YQ];dsimp only;rw[X8 h]
theorem vve(z:Str):zj (.str z)=(decide (1<=z.cps.size)&&decide (z.cps.size<=8)&&(ls z).all λc=>decide (c∈ls AZ)):=by
 show(decide (1<=z.cps.size)&&decide (z.cps.size<=8)&&(ls z).all λc=>Jq #[(List.toArray [c])] AZ)=_
 congr 2
 funext c;exact vkq AZ c
theorem qwv{ws:List Str}(cg:ws≠[])(hw:∀w∈ws,w.cps.size<=4000)(hl:ws.length<=5000):
  Oo Zz [(.no,sL ws)] (λy=>(y=(.dp,.non)/\∀ss,ws=("signs":Str)::ss->wQ (sL ss)=false)\/∃ss,ws=("signs":Str)::ss/\wQ (sL ss)=true/\y=(.rt,sL ss)) noX:=by
 obtain⟨x,ss,rfl⟩:∃x r,ws=x::r:=by cases ws with|nil=>exact absurd rfl cg|cons x r=>exact#[x,r,rfl]
 have i0:jw (sL (x::ss)) (.int 0)=some (.str x):=kQ ⋯ rfl;have ne:=vw8 x "signs";have l:jx (sL (x::ss))=some (.int (ss.length+1:Nat)):=congrArg (λn:Nat=>some (D.int n)) (X1 _);have s1:fSl (.no,sL (x::ss)) (some 1) none=some (.rt,sL ss):=slw (c:=1) ⋯;unfold Zz;refine kz ?_
 by_cases hx:x="signs"
 rotate_left
 ·rw [X6 hx]at ne;simp![i0,ne];exact .inl λkh e=>absurd (by injection e) hx
 rw [X5 hx]at ne;subst hx;have inj:∀{kh:List Str},(Str.ofString "signs")::ss=(Str.ofString "signs")::kh->kh=ss:=λe=>by injection e with _ e;exact e.symm
 by_cases h1:1<=ss.length
 rotate_left
 ·have g1:fLt (.int (ss.length+1:Nat)) (.int 2)=some (.bl true):=by rw[lt_ii];simp;omega
  simp![i0,ne,l,g1];refine .inl λkh e=>?_
  rw [inj e,jwy,X6 h1];simp
 have g1:fLt (.int (ss.length+1:Nat)) (.int 2)=some (.bl false):=by rw[lt_ii];simp;omega
 by_cases h3:ss.length<=3
 rotate_left
 ·have g2:fGt (.int (ss.length+1:Nat)) (.int 4)=some (.bl true):=by rw[gt_ii];simp;omega
  simp![i0,ne,l,g1,g2];refine .inl λkh e=>?_
  rw [inj e,jwy,X6 h3];simp
 have g2:fGt (.int (ss.length+1:Nat)) (.int 4)=some (.bl false):=by rw[gt_ii];simp;omega
 have st:=λo=>vzp (ss:=ss) (by omega) o
 have nq:=xk2 (kY (ddS ss)) ss
 by_cases hs:kY (ddS ss)=ss
 rotate_left
 ·rw [X6 hs]at nq;simp![i0,ne,l,g1,g2,s1,st,nq];refine .inl λkh e=>?_
  rw [inj e,jwy,X6 (show ¬ss=kY (ddS ss)from λe=>hs e.symm),Bool.and_false]
 rw [X5 hs]at nq;simp![i0,ne,l,g1,g2,s1,st,nq];refine V9 (λE b6=>∃(q:Option Sd) (pre post:List Str),E=[some (.no,sL ("signs" :: ss)),q]/\ss=pre++post/\b6=post.map D.str/\∀z∈pre,zj (.str z)=true) ?_ ?_ ?_
 ·simp![s1];exact#[_,[],ss,rfl,rfl,rfl,λz h=>nomatch h]
 ·rintro E d b6 ⟨q,pre,post,rfl,nh,hr,hp⟩;cases post with
  | nil=>cases hr
  | cons z post=>
   have hr:d::b6=.str z::post.map D.str:=hr;injection hr with e1 e2;subst e1 e2;have hz:z∈ss:=by rw[nh];simp
   have hzs:=hw z (lc9 _ hz);have lz:jx (.str z)=some (.int z.cps.size):=rfl;have hb:z.cps.size<=big:=by unfold big;omega
   have sg:=vve z;have no:zj (.str z)=false->∀kh,(Str.ofString "signs")::ss=(Str.ofString "signs")::kh->wQ (sL kh)=false:=λh kh e=>by
    rw[inj e,jwy];have:ss.all (λz=>zj (.str z))=false:=by
     rw[List.all_eq_false];exact#[z,hz,by rw[h];decide]
    rw[this,Bool.and_false,Bool.false_and]
   by_cases z1:1<=z.cps.size
   rotate_left
   ·have q1:fLt (.int z.cps.size) (.int 1)=some (.bl true):=by rw[lt_ii];simp;omega
    rw[X6 z1]at sg;simp![lz,q1];exact .inl (no sg)
   have q1:fLt (.int z.cps.size) (.int 1)=some (.bl false):=by rw[lt_ii];simp;omega
   by_cases z8:z.cps.size<=8
   rotate_left
   ·have q2:fGt (.int z.cps.size) (.int 8)=some (.bl true):=by rw[gt_ii];simp;omega
    rw[X6 z8,Bool.and_false]at sg;simp![lz,q1,q2];exact .inl (no sg)
   have q2:fGt (.int z.cps.size) (.int 8)=some (.bl false):=by rw[gt_ii];simp;omega
   rw [X5 z1,X5 z8]at sg;simp![lz,q1,q2];refine kzx (y:=AZ) (z:=z) [some (.no,sL ("signs" :: ss)),some (.no,.str z)] ?_ ?_
   ·simp![hb]
   ·intro ys hy;have lg:fGt (.int ys.length) (.int 0)=some (.bl (decide (0<ys.length))):=by rw[gt_ii];congr 2;exact decide_eq_decide.mpr (by omega)
    cases ha:(ls z).all λc=>decide (c∈ls AZ)with
    | false=>
     rw[ha]at hy sg;have:0<ys.length:=Nat.pos_of_ne_zero λe=>by rw[hy]at e;cases e
     rw[X5 this]at lg;simp![lg];exact .inl (no sg)
    | true=>
     rw[ha]at hy sg;have:¬0<ys.length:=λe=>by have:=hy.mpr rfl;omega
     rw[X6 this]at lg;simp![lg];refine#[_,pre++[z],post,rfl,by rw[nh];simp,rfl,λw hw=>?_];rcases aA hw with h|h
     ·exact hp w h
     ·rw[aC h];exact sg
 ·rintro E ⟨q,pre,post,rfl,nh,hr,hp⟩;have:post=[]:=by cases post with|nil=>rfl|cons _ _=>cases hr
  subst this;rw[Xr]at nh;subst nh;simp![s1];refine .inr #[ss,rfl,?_,rfl];rw[jwy,X5 h1,X5 h3,X5 hs.symm,List.all_eq_true.mpr hp];rfl
def wwd:Option D->D
 |some d=>d|none=>.non
theorem qzg{ss:List Str}{own:Int}{ks:List Int}:∀{l:List (List Str)} {ds:List D},l.mapM qZ=some ds->(ds.all (qx ss own ks)=true/\l.map (qK ss own ks)=ds)\/(ds.all (qx ss own ks)=false/\D.non∈l.map (qK ss own ks))
 | [],ds,h=>by cases h;exact .inl #[rfl,rfl]
 | w :: l,ds,h=>by
  rw [Ym]at h;cases hw:qZ w with
  | none=>rw[hw]at h;cases h
  | some d=>
   rw[hw]at h;cases hl:l.mapM qZ with
   | none=>rw[hl]at h;cases h
   | some q=>
    rw[hl]at h;cases h;have hq:qK ss own ks w=if qx ss own ks d=true then d else .non:=by unfold qK;rw[hw]
    cases hb:qx ss own ks d with
    |false=>
     rw[hb,Xd ⋯]at hq;refine .inr #[by rw[Z3,hb];rfl,?_];rw[List.map_cons,hq];exact X2
    |true=>
     rw[hb,X8 rfl]at hq;rw[List.map_cons,hq,Z3,hb,Bool.true_and];rcases qzg (ss:=ss) (own:=own) (ks:=ks) hl with⟨a,b⟩|⟨a,b⟩
     ·exact .inl #[a,by rw[b]]
     ·exact .inr #[a,lc9 _ b]
theorem qzj{ws:List Str}{d:D}(h:qZ ws=some d):d≠.non:=λe=>by
 match ws,h with
 |a::b::c::fs,h=>
  obtain⟨x,v,ys,_,_,_,rfl⟩:=kkt h;cases e
theorem wwp{ds:List D}(hf:∀d∈ds,d.flat 30=true):wj .non (.lst ds)=some (.bl (ds.any λz=>peq z .non)):=by
 show(if D.flat 30 .non&&D.flats 30 ds then _ else none)=_;rw[show(D.flat 30 .non&&D.flats 30 ds)=true from by rw[Bool.and_eq_true];exact#[rfl,zK hf]];rfl
theorem qkk(ss:List Str)(own:Int)(ks:List Int)(ws:List Str):qK ss own ks ws=.non\/qZ ws=some (qK ss own ks ws):=by
 unfold qK;cases h:qZ ws with
 | none=>exact .inl rfl
 | some d=>
  dsimp only
  by_cases hb:qx ss own ks d=true
  ·rw[X8 hb];exact .inr rfl
  ·rw[Xd hb];exact .inl rfl
theorem peq_non{d:D}:peq d .non=true↔d=.non:=by
 cases d<;>simp[peq]
theorem wku{ss:List Str}{own:Int}{ks:List Int}{l:List (List Str)}:wj .non (.lst (l.map (qK ss own ks)))=some (.bl (decide (D.non∈l.map (qK ss own ks)))):=by
 rw[wwp λd hd=>by
  obtain⟨ws,_,rfl⟩:=aE hd;rcases qkk ss own ks ws with h|h
  ·rw[h];rfl
  ·exact(kja h).2 27]
 congr 2
 rw[Bool.eq_iff_iff,List.any_eq_true,decide_eq_true_iff];constructor
 ·rintro ⟨d,h1,h2⟩;rw[peq_non.mp h2]at h1;exact h1
 ·exact λh=>#[_,h,peq_non.mpr rfl]
theorem qvg:∀{bs:List (Bk (List Str))} {rs:List (Bk D)},Rel bs rs->(rs.map rmD).map vx=bs.map (·.1)
 |[],[],_=>rfl
 |b::bs,r::rs,h=>by
  rw[List.map_cons,List.map_cons,List.map_cons,qvg h.2,h.1.1];rfl
theorem vzw:∀{bs:List (Bk (List Str))} {rs:List (Bk D)} {j:Nat} {b},Rel bs rs->bs[j]?=some b->∃r,rs[j]?=some r/\Rl1 b r
 |b::bs,r::rs,0,b',h,e=>by cases oq9 e;exact#[r,rfl,h.1]|b::bs,r::rs,j+1,b',h,e=>vzw (bs:=bs) (rs:=rs) h.2 e
noncomputable def qRm(ss:List Str)(ks:List Int)(b:Bk (List Str)):D:=.tup [.int b.1,.bl b.2.1,.lst (b.2.2.map (qK ss b.1 ks))]
theorem wxn {w0:List Str} {ls:List (List Str)} {ss:List Str} {bs:List (Bk (List Str))} (hw:w0=("signs":Str)::ss) (hs:wQ (sL ss)=true) (hb:wK ls []=some bs) (hl:ls.length<=110):
  xZ (w0::ls)=if 1<=bs.length/\bs.length<=12/\∀b∈bs,D.non∉b.2.2.map (qK ss b.1 (bs.map (·.1)))then some (.tup [sL ss,.lst (bs.map (qRm ss (bs.map (·.1))))])else none:=by
 have hp:xZ (w0::ls)=(match kq ls []with
  | some rs=>if x8 (qX w0 rs)=true then some (qX w0 rs)else none
  | none=>none):=X8 (by rw[hw];rfl)
 have hd:w0.drop 1=ss:=by rw[hw];rfl
 have hk:=kju hb λb h=>nomatch h
 rcases kws ls [] [] trivial with⟨h1,_⟩|⟨br,h1,h2⟩
 ·rw [hb]at h1;cases h1
 rw [hb]at h1;cases h1;rcases h2 with⟨rs,hr,hrel⟩|⟨hr,b,tq,ws,hwm,hn⟩
 ·rw [hp,hr];dsimp only;have az:=hrel.len;have pi:=qvg hrel;have htot:=kq3 hr;have e0:tot ([]:List (Bk D))=0:=rfl;have i':(rs.map rmD).all J0=true:=List.all_eq_true.mpr λd hd=>by
   obtain⟨r,pd,rfl⟩:=aE hd;have:r.1∈bs.map (·.1):=by
    rw [<-pi];exact List.mem_map.mpr #[_,hd,rfl]
   obtain⟨b,fm,e⟩:=aE this;have:=hk b fm;show (qJ (.int r.1) 4&&ZQ _&&isLst _)=true;have hb4:qJ (.int r.1) 4=true:=by
    show(decide (0<=r.1)&&decide (r.1<4))=true;rw [<-e];simp;omega
   rw [hb4];rfl
  have hmB:x8 (qX w0 rs)=(decide (1<=rs.length)&&decide (rs.length<=12)&&(rs.map rmD).all λr=>(qz r).all (qx ss (vx r) (bs.map (·.1)))):=by
   have e1:ssD (sL (w0.drop 1))=ss:=by rw[hd];exact kwj ss
   have e2:wQ (sL (w0.drop 1))=true:=by rw[hd];exact hs
   have e3:wV (rs.map rmD)<=120:=by rw[qvs];omega
   simp only[x8,qX,e1,e2,Q4,Q8,pi,i',X5 e3,X1,Bool.true_and,Bool.and_true]
  have qr:∀(je:List (Bk (List Str))) (nj:List (Bk D)),Rel je nj->(((nj.map rmD).all λr=>(qz r).all (qx ss (vx r) (bs.map (·.1))))=true/\(∀b∈je,D.non∉b.2.2.map (qK ss b.1 (bs.map (·.1))))/\je.map (qRm ss (bs.map (·.1)))=nj.map rmD)\/(((nj.map rmD).all λr=>(qz r).all (qx ss (vx r) (bs.map (·.1))))=false/\¬∀b∈je,D.non∉b.2.2.map (qK ss b.1 (bs.map (·.1)))):=by
   intro je
   induction je with
   | nil=>
    intro nj h;cases nj with| nil=>exact .inl #[rfl,(λb h=>nomatch h),rfl]| cons r nj=>exact h.elim
   | cons b je ih=>
    intro nj h;cases nj with
    | nil=>exact h.elim
    | cons r nj=>
     obtain⟨⟨g1,g2,g3⟩,h⟩:=h;have ck:(qz (rmD r)).all (qx ss (vx (rmD r)) (bs.map (·.1)))=r.2.2.all (qx ss b.1 (bs.map (·.1))):=by rw[g1];rfl
     rw [List.map_cons,Z3,ck];rcases qzg (ss:=ss) (own:=b.1) (ks:=bs.map (·.1)) g3 with⟨a1,a2⟩|⟨a1,a2⟩
     ·rw[a1,Bool.true_and];have hnon:D.non∉b.2.2.map (qK ss b.1 (bs.map (·.1))):=λhm=>by
       rw[a2]at hm;obtain⟨ws,_,e⟩:=(jxi g3).2 _ hm;exact qzj e rfl
      rcases ih nj h with⟨b1,b2,b3⟩|⟨b1,b2⟩
      ·refine .inl #[b1,λc hc=>?_,?_]
       ·rcases aD hc with rfl|hc
        ·exact hnon
        ·exact b2 c hc
       ·rw[List.map_cons,b3];unfold qRm rmD;rw[a2,g1,g2]
      ·exact .inr #[b1,λhh=>b2 λc hc=>hh c (lc9 _ hc)]
     ·rw[a1,Bool.false_and];exact .inr #[rfl,λhh=>hh b X2 a2]
  rw [hmB,<-az];rcases qr bs rs hrel with⟨k1,k2,k3⟩|⟨k1,k2⟩
  ·rw[k1,Bool.and_true]
   by_cases c1:1<=bs.length
   ·by_cases c2:bs.length<=12
    ·rw[X5 c1,X5 c2,X8 (show(true&&true)=true from rfl),X8 #[c1,c2,k2],k3];unfold qX;rw[hd]
    ·rw[X6 c2,Bool.and_false,Xd ⋯,Xd λh=>c2 h.2.1]
   ·rw[X6 c1,Bool.false_and,Xd ⋯,Xd λh=>c1 h.1]
  ·rw[k1,Bool.and_false,Xd ⋯,Xd λh=>k2 h.2.2]
 ·rw[hp,hr];dsimp only;rw[Xd λh=>h.2.2 b tq (List.mem_map.mpr #[ws,hwm,by unfold qK;rw[hn]])]
theorem qwd{w0:List Str}{ls:List (List Str)}(h:wK ls []=none\/∀ss,w0=("signs":Str)::ss->wQ (sL ss)=false):xZ (w0::ls)=none:=by
 by_cases hh:w0.head?=some ("signs":Str)
 ·refine(X8 hh).trans ?_;cases hr:kq ls []with
  | none=>rfl
  | some rs=>
   dsimp only;refine Xd λhm=>?_
   unfold x8 qX at hm;dsimp only at hm;rw[Bool.and_eq_true]at hm;rcases h with h|h
   ·rcases kws ls [] [] trivial with⟨_,h2⟩|⟨br,h1,_⟩
    ·obtain⟨r,pd,h4⟩:=h2 rs hr;have:=hm.2;unfold Q4 Q8 at this;dsimp only at this;simp only[Bool.and_eq_true]at this;have hf:=List.all_eq_true.mp this.1.1.2 (rmD r) (List.mem_map.mpr #[r,pd,rfl]);have hf:(qJ (.int r.1) 4&&ZQ (.bl r.2.1)&&isLst (.lst r.2.2))=true:=hf;rw[Bool.and_eq_true,Bool.and_eq_true]at hf;have hf:(decide (0<=r.1)&&decide (r.1<4))=true:=hf.1.1;simp at hf;omega
    ·rw[h]at h1;cases h1
   ·cases w0 with
    |nil=>cases hh
    |cons x ss=>
     have hx:x="signs":=oq9 hh;have:=h ss (by rw[hx]);have h2:wQ (sL ss)=true:=hm.1;rw[this]at h2;cases h2
 ·exact Xd hh
set_option tactic.hygienic true in
theorem kwe:∀{ls:List (List Str)} {bs br:List (Bk (List Str))} {Pr:List Str->Prop},wK ls bs=some br->(∀ws∈ls,Pr ws)->(∀b∈bs,∀ws∈b.2.2,Pr ws)->∀b∈br,∀ws∈b.2.2,Pr ws
 | [],bs,br,Pr,h,_,hk=>by cases h;exact hk
 | l :: ls,bs,br,Pr,h,hl,hk=>by
  unfold wK at h;cases ha:Q5 bs l with
  | none=>rw[ha]at h;cases h
  | some b1=>
   rw [ha]at h;refine kwe h (λws hw=>hl ws (lc9 _ hw)) ?_;unfold Q5 at ha
   split at ha
   ·split at ha
    ·cases ha
    ·cases ha;intro b hb ws hw;rcases aA hb with hb|hb
     ·exact hk b hb ws hw
     ·rw[aC hb]at hw;cases hw
   ·split at ha
    ·cases ha
    ·rename_i cg;cases ha;obtain⟨b0,b',rfl⟩:=ZJ cg;rw[show b'=(b'.1,b'.2.1,b'.2.2)from rfl,W4];intro b hb ws hw;rcases aA hb with hb|hb
     ·exact hk b (ll9 _ hb) ws hw
     ·rw[aC hb]at hw;rcases aA hw with hw|hw
      ·exact hk b' (lr9 _ (aB rfl)) ws hw
      ·rw[aC hw];exact hl l X2
noncomputable def vzu:Sm:=
  (j6 (jz 4 (cLC .rt 1 [] (itS (cV 3)) (.n 0) tYes (cH (j8 (vV 0) (C9 0)))))
  (j6 (jz 5 (qw .rt []))
  (j6 (z7 (wx (vE (cF1 (pu1 jx) (vV 3)))) (.n 6) (j6 (jz 7 (cLC .rt 1 [2,6,4] (itS (cH (j8 (j8 (vV 3) (vV 6)) (C9 2)))) (.n 0) tYes (jq jkj [(cV 0),(cV 1),(cV 2),(cV 3)])))
  (j6 (sIf (tE (cF2 (pu2 wj) (vE (cC .non)) (vV 7))) (jv (cC .non)) k7)
  (wq xj 5 (vj .no [(cH (j8 (vV 4) (vV 6))),(cH (j8 (j8 (vV 3) (vV 6)) (C9 1))),(cV 7)])))))
  (jv (vj .no [(cV 2),(cV 5)])))))
theorem xkk:jjr=fn 8
  (j6 (jz 1 (cLC .rt 1 [] (itS (cF1 (J8 10) (vV 0))) (.n 0) tYes (cF1 (J8 32) (vV 0))))
  (j6 (jz 2 (jq Zz [(cH (j8 (vV 1) (C9 0)))]))
  (j6 (jz 3 (jq ZV [(cSl (vV 1) (some (C9 1)) none)]))
  (j6 (sIf (tOr (tE (cF2 (f2First fIsNon) (vV 2) (vE (cC .non)))) (tOr (tE (cF2 (f2First fIsNon) (vV 3) (vE (cC .non)))) (tOr (tE (cF2 (pu2 fLt) (vE (cF1 (pu1 jx) (vV 3))) (C9 1))) (tE (cF2 (pu2 fGt) (vE (cF1 (pu1 jx) (vV 3))) (C9 12)))))) (jv (cC .non)) k7)
  vzu)))):=rfl
theorem vvl{bs:List (Bk (List Str))}{ss:List Str}{o0 o1:Own}{z1 z2:D}(h1:1<=bs.length)(h12:bs.length<=12)(hk:∀b∈bs,0<=b.1/\b.1<=3)(hb:∀b∈bs,∀ws∈b.2.2,(∀w∈ws,w.cps.size<=1000000)/\ws.length<=5000){N C:En->Prop}:
  Po (vzu [some (o0,z1),some (o1,z2),some (.rt,sL ss),some (.rt,.lst (bs.map bkD)),none,none,none,none]) N C
   (λy=>∃o:Own,y=(o,wwd (if 1<=bs.length/\bs.length<=12/\∀b∈bs,D.non∉b.2.2.map (qK ss b.1 (bs.map (·.1)))then some (.tup [sL ss,.lst (bs.map (qRm ss (bs.map (·.1))))])else none))/\True) noX:=by
 generalize pi:bs.map (·.1)=ks;have jg:ks.length=bs.length:=by rw[<-pi,X1]
 have hk3:∀k∈ks,0<=k/\k<=3:=λk hm=>by
  rw [<-pi]at hm;obtain⟨b,fm,rfl⟩:=aE hm;exact hk b fm
 have i0:∀b,jw (bkD b) (.int 0)=some (.int b.1):=λ_=>rfl
 have i1:∀b,jw (bkD b) (.int 1)=some (.bl b.2.1):=λ_=>rfl
 have i2:∀b,jw (bkD b) (.int 2)=some (.lst (b.2.2.map sL)):=λ_=>rfl
 have l3:jx (.lst (bs.map bkD))=some (.int bs.length):=congrArg (λn:Nat=>some (D.int n)) (X1 _);have hkD:(bs.map bkD).map Q9=ks.map D.int:=by
  rw [<-pi,Xu,Xu];rfl
 unfold vzu;simp![];refine vw [] (λd y=>y.2=Q9 d) ?_;simp![];refine#[λd hd=>?_,λys hy=>?_]
 ·obtain⟨b,_,rfl⟩:=aE hd;simp![i0];exact#[#[_,rfl],rfl]
 rw [qV,xq (h:=Q9) (λ_ _ h=>h) hy,bk,hkD];simp![];refine V9 (λE b6=>∃(j:Int) (o0 o1 o2 o4:Own) (l6 l7:Option Sd),E=[some (o0,z1),some (o1,z2),some (o2,sL ss),some (.no,.lst (bs.map bkD)),some (o4,iL ks),some (.rt,.lst ((bs.take j.toNat).map (qRm ss ks))),l6,l7]/\0<=j/\j<=bs.length/\b6=qv j bs.length/\sub o4=.no/\∀b∈bs.take j.toNat,D.non∉b.2.2.map (qK ss b.1 ks)) ?_ ?_ ?_
 ·refine Q3 ?_;simp![l3];exact#[_,rfl,by omega,by omega,0,_,_,_,_,_,_,rfl,by omega,by omega,rfl,rfl,λb h=>nomatch h]
 ·rintro E d b6 ⟨j,o0,o1,o2,o4,l6,l7,rfl,j0,j1,hr,hs4,hok⟩;obtain⟨hj,rfl,rfl⟩:=kzr j1 hr;have hjn:j.toNat<bs.length:=by omega
  obtain⟨b,u4⟩:∃b,bs[j.toNat]?=some b:=#[_,X3 hjn];have tq:b∈bs:=Ya u4;have x3:jw (.lst (bs.map bkD)) (.int j)=some (bkD b):=kQ j0 (by rw[Xi,u4];rfl);have hkj:ks.getD j.toNat 0=b.1:=by rw[<-pi,Xa,Xi,u4];rfl
  have x4:jw (iL ks) (.int j)=some (.int b.1):=kQ j0 (by rw[<-pi,Xi,Xi,u4];rfl);have tk:bs.take (j+1).toNat=bs.take j.toNat++[b]:=by
   rw[show(j+1).toNat=j.toNat+1 by omega,List.take_add_one,u4];rfl
  simp![];refine vwo (λE1 B ds acc=>E1=[some (o0,z1),some (o1,z2),some (o2,sL ss),some (.no,.lst (bs.map bkD)),some (o4,iL ks),some (.rt,.lst ((bs.take j.toNat).map (qRm ss ks))),some (.no,.int j),l7]/\∃(p1 p2 p3:Own) (q:Option Sd) (pre post:List (List Str)),B=[q,some (p1,sL ss),some (p2,.int j),some (p3,iL ks)]/\sub p3=.no/\b.2.2=pre++post/\ds=post.map sL/\acc.map (·.2)=pre.map (qK ss b.1 ks)) ?_ ?_ ?_
  ·simp![x3,i2];exact#[_,_,_,_,[],b.2.2,rfl,hs4,rfl,rfl,rfl]
  ·rintro E1 B d ds acc ⟨rfl,p1,p2,p3,q,pre,post,rfl,hp3,qg,f8,ef⟩;cases post with
   | nil=>cases f8
   | cons ws post=>
    have f8:d::ds=sL ws::post.map sL:=f8;injection f8 with e1 e2;subst e1 e2;have hwb:=hb b tq ws (by rw[qg];simp);simp![];refine(qzh (ss:=ss) (ks:=ks) (here:=j) hwb.1 hwb.2 hk3 (by omega) j0 (by omega)).use ?_;intro o _;rw[hkj];exact#[.no,.no,.no,_,pre++[ws],post,rfl,rfl,by rw[qg];simp,rfl,by rw[Xq,ef,Xq];rfl]
  ·rintro E1 B acc ⟨rfl,p1,p2,p3,q,pre,post,rfl,hp3,qg,f8,ef⟩;have:post=[]:=by cases post with|nil=>rfl|cons _ _=>cases f8
   subst this;rw[Xr]at qg;subst qg;rw[qV,ef];simp only[XJ,back,clr,at',List.drop,List.map_cons,List.map_nil,List.set_cons_zero,List.set_cons_succ];have an:=wku (ss:=ss) (own:=b.1) (ks:=ks) (l:=b.2.2)
   by_cases hn:D.non∈b.2.2.map (qK ss b.1 ks)
   ·rw[X5 hn]at an;simp![an];exact#[_,by rw[Xd λh=>h.2.2 b tq hn];rfl,trivial]
   ·rw[X6 hn]at an;simp![an];refine XZ rfl ?_;simp![hp3,x4,x3,i1];have e:(bs.take j.toNat).map (qRm ss ks)++[D.tup [.int b.1,.bl b.2.1,.lst (b.2.2.map (qK ss b.1 ks))]]=(bs.take (j+1).toNat).map (qRm ss ks):=by
     rw[tk,Xq];rfl
    refine#[_,rfl,by rw[X1,Y1];omega,?_];simp![e];refine#[j+1,_,_,_,_,_,_,rfl,by omega,by omega,rfl,hp3,λc hc=>?_];rw[tk]at hc;rcases aA hc with h|h
    ·exact hok c h
    ·rw[aC h];exact hn
 ·rintro E ⟨j,o0,o1,o2,o4,l6,l7,rfl,j0,j1,hr,hs4,hok⟩;have:=kzs j1 hr;have e:bs.take j.toNat=bs:=Yq (by omega);rw[e]at hok ⊢;simp![];exact#[_,by rw[X8 #[h1,h12,hok]];rfl,trivial]
theorem qjg{z:Str}(h:Tx z):Oo jjr [(.no,.str z)] (λy=>∃o:Own,y=(o,wwd (xZ (wX z)))/\True) noX:=by
 obtain⟨⟨w0,ls,gw⟩,iu⟩:=h.lines;have rj:=h.l;rw[gw]at iu rj;have rj:ls.length<=109:=by simp at rj;omega
 obtain⟨h01,h02,h03⟩:=iu w0 X2;have i00:jw (.lst (sL w0::ls.map sL)) (.int 0)=some (sL w0):=kQ ⋯ rfl;have c2:∀o,o≠Own.dp->fSl (o,.lst (sL w0::ls.map sL)) (some 1) none=some (.rt,.lst (ls.map sL)):=λo ho=>xqq ho
 rw[xkk];refine kz ?_;simp![];refine qvq h.s ?_;rw[gw];simp![i00];refine(qwv h01 h02 (by omega)).oe ?_ (λc hc=>hc);intro y2 hy2;simp![c2 .rt ⋯];refine(vqj (λws j'=>(iu ws (lc9 _ j')).1) (λws j' w hw=>Xs ((iu ws (lc9 _ j')).2.1 w hw) ⋯) (by omega)).oe ?_ (λc hc=>hc);intro y3 hy3;rcases hy2 with⟨rfl,hs⟩|⟨ss,hw,hs,rfl⟩
 ·rw[qwd (.inr hs)];simp![];exact#[_,rfl,trivial]
 rcases hy3 with⟨hb,rfl⟩|⟨bs,hb,rfl⟩
 ·rw[qwd (.inl hb)];simp![sL];exact#[_,rfl,trivial]
 rw[wxn hw hs hb (by omega)];have l3:jx (.lst (bs.map bkD))=some (.int bs.length):=congrArg (λn:Nat=>some (D.int n)) (X1 _);have n2:isNon (sL ss)=false:=rfl
 by_cases c1:1<=bs.length
 rotate_left
 ·have g1:fLt (.int bs.length) (.int 1)=some (.bl true):=by rw[lt_ii];simp;omega
  simp![n2,l3,g1];exact#[_,by rw[Xd λh=>c1 h.1];rfl,trivial]
 have g1:fLt (.int bs.length) (.int 1)=some (.bl false):=by rw[lt_ii];simp;omega
 by_cases c12:bs.length<=12
 rotate_left
 ·have g2:fGt (.int bs.length) (.int 12)=some (.bl true):=by rw[gt_ii];simp;omega
  simp![n2,l3,g1,g2];exact#[_,by rw[Xd λh=>c12 h.2.1];rfl,trivial]
 have g2:fGt (.int bs.length) (.int 12)=some (.bl false):=by rw[gt_ii];simp;omega
 have hk:=kju hb λb h=>nomatch h
 have hbw:=kwe (Pr:=λws=>(∀w∈ws,w.cps.size<=1000000)/\ws.length<=5000) hb (λws j'=>#[λw hw=>Xs ((iu ws (lc9 _ j')).2.1 w hw) ⋯,Xs (iu ws (lc9 _ j')).2.2 ⋯]) λb h=>nomatch h
 simp![n2,l3,g1,g2];exact vvl c1 c12 hk hbw
theorem xx(a b:Str):ls (a++b)=ls a++ls b:=A.list_app a b
theorem kw6{c:Nat}{p:List Nat}:∀{ps:List (List Nat)},ps≠[]->L3.joinL c (ps++[p])=L3.joinL c ps++c::p
 |[],h=>absurd rfl h|[_],_=>rfl
 |a::b::r,_=>by
  show a++c::L3.joinL c ((b::r)++[p])=(a++c::L3.joinL c (b::r))++c::p;rw[kw6 (ps:=b::r) (λe=>nomatch e),Xn];rfl
theorem xk6{ws:List Str}(w:Str)(h:ws≠[]):JB ws++" "++w=JB (ws++[w]):=L3.str_ext (by
 show ls (JB ws++" "++w)=ls (JB (ws++[w]));rw[xx,xx,W5,W5,Xq,List.map_cons,List.map_nil,kw6 (λe=>h (List.map_eq_nil_iff.mp e)),Xn];rfl)
theorem xql(w:Str):JB [w]=w:=L3.str_ext (W5 [w])
theorem vwg{ss:List Str}(h:1<=ss.length):"signs "++JB ss=JB ("signs" :: ss):=L3.str_ext (by
 show ls ("signs "++JB ss)=ls (JB ("signs" :: ss));have e:ls "signs "=ls "signs"++[32]:=⋯
 cases ss with
 |nil=>simp at h
 |cons a r=>
  rw[xx,W5,W5,e,Xn];rfl)
theorem vzt(k:Int):Str.empty++"room "++nmS k++" good"=JB ["room",nmS k,"good"]:=L3.str_ext (by
 show ls (Str.empty++"room "++nmS k++" good")=ls (JB ["room",nmS k,"good"]);rw[xx,xx,xx,W5];show ls Str.empty++ls "room "++ls (nmS k)++ls " good"=ls "room"++32::(ls (nmS k)++32::ls "good");have e0:ls Str.empty=[]:=rfl;have e1:ls "room "=ls "room"++[32]:=⋯
 have e2:ls " good"=32::ls "good":=⋯
 rw[e0,e1,e2];simp)
theorem wqw(k:Int):Str.empty++"room "++nmS k=JB ["room",nmS k]:=L3.str_ext (by
 show ls (Str.empty++"room "++nmS k)=ls (JB ["room",nmS k]);rw[xx,xx,W5];show ls Str.empty++ls "room "++ls (nmS k)=ls "room"++32::ls (nmS k);have e0:ls Str.empty=[]:=rfl;have e1:ls "room "=ls "room"++[32]:=⋯
 rw[e0,e1];simp)
theorem wjx(k:Int):"room "++nmS k++" good"=JB ["room",nmS k,"good"]:=by
 rw[<-vzt];refine L3.str_ext ?_;show ls ("room "++nmS k++" good")=ls (Str.empty++"room "++nmS k++" good");rw[xx,xx,xx,xx,xx];rfl
theorem wws(k:Int):"room "++nmS k++""=JB ["room",nmS k]:=by
 rw[<-wqw];refine L3.str_ext ?_;show ls ("room "++nmS k++"")=ls (Str.empty++"room "++nmS k);rw[xx,xx,xx,xx];show _++[]=_;rw[Xr];rfl
theorem qq4:∀a b:List D,lnS (a++b)=lnS a++lnS b
 |[],_=>rfl
 |r::a,b=>by
  show rmS r::((qz r).map stS++lnS (a++b))=rmS r::((qz r).map stS++lnS a)++lnS b;rw[qq4 a b,List.cons_append,Xn]
theorem Ask.s{own:Int}{d:D}(ho:own<=3)(h:Ask own d):Q0 d=some (.str (wT d)):=by
 rcases h with rfl|rfl|⟨i,rfl,h0,h1⟩
 ·exact vzm ⋯
 ·exact vzm ⋯
 ·exact vv8 h0 (by omega)
theorem vz8{o1 o2:Own}{a b c:Str}(e:a++b=c)(h:a.cps.size+b.cps.size<=10000):jZ (o1,.str a) (o2,.str b)=some (.dp,.str c):=by rw[<-e];exact VJ h
theorem wkj{fs:List D}{ys:List Sd}(h:Each (λd y=>y.2=.str (wT d)) fs ys):ys.map (·.2)=(fs.map wT).map D.str:=by
 rw[xq (h:=λd=>.str (wT d)) (λ_ _ h=>h) h,Xu];rfl
theorem vzj{ss:List Str}{ks:List Int}{rs:List D}(h:Mc ss ks rs):Oo jvh [(.no,Qw ss rs)] (λy=>∃o':Own,y=(o',.str (mtT ss rs))/\True) noX:=by
 obtain⟨m1,m2,m3⟩:=h.text;obtain⟨ln1,ln2⟩:=h.lines;have j0:∀a b:D,jw (.tup [a,b]) (.int 0)=some a:=λ_ _=>rfl
 have j1:∀a b:D,jw (.tup [a,b]) (.int 1)=some b:=λ_ _=>rfl
 have s3:=h.s3;have s1:=h.s1;have hS:Ln ss:=#[λw hw=>(h.sg w hw).w,by omega,λe=>by rw[e]at s1;simp at s1];have hS1:=hS.len;have z6:("signs ":Str).cps.size=6:=⋯
 have as:∀o1 o2,jZ (o1,.str "signs ") (o2,.str (JB ss))=some (.dp,.str (JB ("signs" :: ss))):=λo1 o2=>vz8 (vwg h.s1) (by omega)
 have hln2:(lnS rs).length+1<=25:=ln2;unfold jvh;refine kz ?_;simp![j0,↓Q7,hS.jb,as];refine V9 (λE b6=>∃(l2 l3 l4 l5 l6 l7 l8 l9:Option Sd) (pre:List D),E=[some (.no,Qw ss rs),some (.rt,sL (JB ("signs" :: ss)::(lnS pre).map JB)),l2,l3,l4,l5,l6,l7,l8,l9]/\rs=pre++b6) ?_ ?_ ?_
 ·simp![j1];exact#[_,_,_,_,_,_,_,_,[],rfl,rfl]
 ·rintro E r post ⟨l2,l3,l4,l5,l6,l7,l8,l9,pre,rfl,iw⟩;have hr:=h.rm r (by rw[iw];simp);have az:(lnS rs).length=(lnS pre).length+(1+((qz r).length+(lnS post).length)):=by
   rw[iw,qq4];simp only[lnS,Xf,Xg,X1];omega
  obtain⟨k,gd,st,rfl,h0,h3,hl,ck⟩:=hr;have lc:(qz (D.tup [.int k,.bl gd,.lst st])).length=st.length:=rfl;have ek:=vv8 h0 (show k<12 by omega);have nk:=(Vq h0 (show k<12 by omega)).l;have z5:("room ":Str).cps.size=5:=⋯
  have a1:∀o1 o2,jZ (o1,.str "room ") (o2,.str (nmS k))=some (.dp,.str ("room "++nmS k)):=λo1 o2=>VJ (by omega)
  have nz:∃t:Str,jw (.lst [.str "",.str " good"]) (.int (if gd then 1 else 0))=some (.str t)/\t.cps.size<=5/\"room "++nmS k++t=JB (rmS (.tup [.int k,.bl gd,.lst st])):=by
   cases gd with| true=>exact#[" good",rfl,⋯,wjx k]| false=>exact#["",rfl,⋯,wws k]
  obtain⟨t,g1,g2,g3⟩:=nz;have a2:∀o1 o2,jZ (o1,.str ("room "++nmS k)) (o2,.str t)=some (.dp,.str (JB (rmS (.tup [.int k,.bl gd,.lst st])))):=λo1 o2=>vz8 g3 (by rw[VW];omega)
  have ei:xv (.bl gd)=some (.int (if gd then 1 else 0)):=rfl;simp![];refine XZ rfl ?_;simp![ek,a1,ei,g1,a2];refine#[_,rfl,by simp only[X1,Xg];omega,?_];refine V9 (λE ni=>∃(l5 l6 l7 l8 l9:Option Sd) (o2 o3 o4:Own) (jd:List D),E=[some (.no,Qw ss rs),some (.rt,sL (JB ("signs" :: ss)::((lnS pre).map JB++JB (rmS (.tup [.int k,.bl gd,.lst st]))::jd.map λd=>JB (stS d)))),some (o2,.int k),some (o3,.bl gd),some (o4,.lst st),l5,l6,l7,l8,l9]/\st=jd++ni) ?_ ?_ ?_
  ·have e0:D.lst (D.str (JB ("signs" :: ss))::(((lnS pre).map JB).map D.str++[D.str (JB (rmS (.tup [.int k,.bl gd,.lst st])))]))=sL (JB ("signs" :: ss)::((lnS pre).map JB++JB (rmS (.tup [.int k,.bl gd,.lst st]))::([]:List D).map λd=>JB (stS d))):=by
    simp only[sL,List.map_cons,Xq,List.map_nil]
   simp![];rw[e0];exact#[_,_,_,_,_,_,_,_,[],rfl,rfl]
  ·rintro E d ni ⟨l5,l6,l7,l8,l9,o2,o3,o4,jd,rfl,hst2⟩;have hd:=ck d (by rw[hst2];simp);have iu:=hd.ln h.sg h3 h.k3 h.kl;have hstl:st.length=jd.length+(ni.length+1):=by rw[hst2];simp
   obtain⟨sg,im,to,fs,rfl,hsg,ha,t0,t1,hf,fk⟩:=hd;have kl:=h.kl;have ea:=ha.s h3;have et:=vv8 t0 (show to<12 by omega);have mh:fs.length<=3:=by
    have:=iu.l;simp only[stS,Xg,X1]at this;omega
   simp![ea,et];refine vw [] (λd y=>y.2=.str (wT d)) ?_;simp![];refine#[λf hfm=>?_,λys hy=>?_]
   ·have hff:=fk f hfm;have n0:jw (.lst [.str "none",.str "None"]) (.int 0)=some (.str "none"):=rfl;have i0:xv (.bl false)=some (.int 0):=rfl;have i1:xv (.bl true)=some (.int 1):=rfl;rcases hff with rfl|rfl|⟨i,rfl,i0',i1'⟩
    ·have en:Q0 .non=some (.str "None"):=rfl;simp![en,i0,n0];exact#[#[_,rfl],rfl]
    ·have x1:jw (.lst [.str "none",.str "new"]) (.int 1)=some (.str "new"):=rfl;simp![vzm (z:="new") ⋯,i1,x1];exact#[#[_,rfl],rfl]
    ·have x1:jw (.lst [.str "none",.str (nmS i)]) (.int 1)=some (.str (nmS i)):=rfl;simp![vv8 i0' (show i<12 by omega),i1,x1];exact#[#[_,rfl],rfl]
   rw[qV,wkj hy,bk];have al:∀o1 o2:Own,o1≠.dp->o2≠.dp->jZ (o1,.lst [.str sg,.str (wT im),.str (nmS to)]) (o2,.lst ((fs.map wT).map D.str))=some (.rt,sL (stS (.tup [.str sg,im,.int to,.tup fs]))):=λo1 o2 q1 q2=>by
    rw[vqn q1 q2 (by simp;omega)];rfl
   simp![al .no .no ⋯ ⋯];refine XZ rfl ?_;simp![↓Q7,iu.jb];have e0:D.lst ((JB ("signs" :: ss)::((lnS pre).map JB++JB (rmS (.tup [.int k,.bl gd,.lst st]))::jd.map λd=>JB (stS d))).map D.str++[D.str (JB (stS (.tup [.str sg,im,.int to,.tup fs])))])=sL (JB ("signs" :: ss)::((lnS pre).map JB++JB (rmS (.tup [.int k,.bl gd,.lst st]))::(jd++[D.tup [.str sg,im,.int to,.tup fs]]).map λd=>JB (stS d))):=by
    simp only[sL,List.map_cons,Xq,List.cons_append,Xn,List.map_nil]
   refine#[_,rfl,by simp only[X1,Xg,Xf];omega,?_];rw[e0];exact#[_,_,_,_,_,_,_,_,jd++[.tup [.str sg,im,.int to,.tup fs]],rfl,by rw[hst2];simp]
  ·rintro E ⟨l5,l6,l7,l8,l9,o2,o3,o4,jd,rfl,hst2⟩;rw[Xr]at hst2;subst hst2;have e0:(lnS pre).map JB++JB (rmS (.tup [.int k,.bl gd,.lst st]))::st.map (λd=>JB (stS d))=(lnS (pre++[.tup [.int k,.bl gd,.lst st]])).map JB:=by
    rw[qq4];simp only[lnS,qz,Xr,Xq,List.map_cons,Xu,Function.comp_def]
   rw[e0];exact#[_,_,_,_,_,_,_,_,pre++[.tup [.int k,.bl gd,.lst st]],rfl,by rw[iw];simp]
 ·rintro E ⟨l2,l3,l4,l5,l6,l7,l8,l9,pre,rfl,iw⟩;rw[Xr]at iw;subst iw;have m1:xk "\n" (sL (JB ("signs" :: ss)::(lnS rs).map JB))=some (.str (mtT ss rs)):=m1;simp![↓Q7,m1];exact#[_,rfl,trivial]
theorem jwh{c x:Nat}{r:List Nat}:∃p ps,L3.splitL c r=p::ps/\L3.splitL c (x::r)=if x=c then[]::p::ps else(x::p)::ps:=by
 cases h:L3.splitL c r with
 |nil=>exact absurd h (L3.splitL_ne c r)
 |cons p ps=>
  refine#[p,ps,rfl,?_];rw[L3.splitL,h]
theorem kvr(c:Nat):∀l,((L3.splitL c l).map List.length).sum+(L3.splitL c l).length=l.length+1
 | []=>rfl
 | x::r=>by
  obtain⟨p,ps,h1,h2⟩:=jwh (c:=c) (x:=x) (r:=r);have ih:=kvr c r;rw[h1]at ih;rw[h2]
  by_cases h:x=c
  ·rw[X8 h];simp at ih ⊢;omega
  ·rw[Xd h];simp at ih ⊢;omega
theorem kvu(c y:Nat):∀l,((L3.splitL c l).map (List.count y)).sum<=l.count y
 | []=>Xk _
 | x::r=>by
  obtain⟨p,ps,h1,h2⟩:=jwh (c:=c) (x:=x) (r:=r);have ih:=kvu c y r;rw[h1]at ih;rw[h2]
  by_cases h:x=c
  ·rw[X8 h,List.count_cons];simp at ih ⊢;omega
  ·rw[Xd h,List.count_cons];simp[List.count_cons]at ih ⊢;omega
theorem kvt(c:Nat):∀l,(L3.splitL c l).length=l.count c+1
 | []=>rfl
 | x::r=>by
  obtain⟨p,ps,h1,h2⟩:=jwh (c:=c) (x:=x) (r:=r);have ih:=kvt c r;rw[h1]at ih;rw[h2,List.count_cons]
  by_cases h:x=c
  ·rw[X8 h];simp[h]at ih ⊢;omega
  ·rw[Xd h];simp[h]at ih ⊢;omega
theorem kza(c:Nat):∀l,∀p∈L3.splitL c l,c∉p
 | [],p,hp=>by
  rw[aC (show p∈[[]]from hp)];exact λh=>nomatch h
 | x::r,p,hp=>by
  obtain⟨q,ps,h1,h2⟩:=jwh (c:=c) (x:=x) (r:=r);have ih:=kza c r;rw[h1]at ih;rw[h2]at hp
  by_cases h:x=c
  ·rw[X8 h]at hp;rcases aD hp with rfl|hp
   ·exact λh=>nomatch h
   ·exact ih p hp
  ·rw[Xd h]at hp;rcases aD hp with rfl|hp
   ·intro hm;rcases aD hm with e|hm
    ·exact h e.symm
    ·exact ih q X2 hm
   ·exact ih p (lc9 _ hp)
theorem kw7(c:Nat):∀ps:List (List Nat),(L3.joinL c ps).length<=(ps.map List.length).sum+ps.length
 |[]=>Xk _|[p]=>by show p.length<=_;simp
 |p::q::r=>by
  have ih:=kw7 c (q::r);show(p++c::L3.joinL c (q::r)).length<=_;simp at ih ⊢;omega
theorem qjn(c y:Nat):∀ps:List (List Nat),(L3.joinL c ps).count y<=(ps.map (List.count y)).sum+if c=y then ps.length - 1 else 0
 | []=>Ys _| [p]=>by show p.count y<=_;simp
 | p::q::r=>by
  have ih:=qjn c y (q::r);show(p++c::L3.joinL c (q::r)).count y<=_;rw[List.count_append,List.count_cons]
  by_cases h:c=y
  ·simp[h]at ih ⊢;omega
  ·simp[h]at ih ⊢;omega
def cnt(z:Str):Nat:=(ls z).count 10
def szs(ws:List Str):Nat:=(ws.map λw=>w.cps.size).sum
def cts(ws:List Str):Nat:=(ws.map cnt).sum
theorem vxe(ws:List Str):szs ws=((ws.map ls).map List.length).sum:=by
 unfold szs;rw[Xu]
 congr 1
theorem vq4(ws:List Str):cts ws=((ws.map ls).map (List.count 10)).sum:=by
 unfold cts;rw[Xu];rfl
structure Prt (c:Nat)(z:Str)(ws:List Str):Prop where
 s:szs ws+ws.length=z.cps.size+1
 n:cts ws<=cnt z
 l:c=10->ws.length=cnt z+1/\cts ws=0
theorem jzo(z:Str)(c:Nat):Prt c z (Txt.split z #[(List.toArray [c])]):=by
 have q:=L3.split_list z c;generalize Txt.split z #[(List.toArray [c])]=ws at q
 have q:ws.map ls=L3.splitL c (ls z):=q;have hl:ws.length=(L3.splitL c (ls z)).length:=by rw[<-q,X1]
 refine#[?_,?_,λe=>#[?_,?_]]
 ·rw[vxe,q,hl,kvr,Xb]
 ·rw[vq4,q];exact kvu c 10 (ls z)
 ·subst e;rw[hl,kvt];rfl
 ·subst e;rw[vq4,q];have h:=kza 10 (ls z);generalize L3.splitL 10 (ls z)=ps at h
  induction ps with
  |nil=>rfl
  |cons p ps ih=>
   rw[List.map_cons,Xx,ih λp hp=>h p (lc9 _ hp),List.count_eq_zero.mpr (h p X2)]
theorem qz6{z:Str}(h:z.cps.size<=4000)(hc:cnt z<=109):Tx z:=by
 refine#[h,?_];unfold wX;rw[X1];have:=((jzo z 10).l rfl).1;omega
theorem qq9{c:Nat}{ws:List Str}(h:szs ws+ws.length<=4000)(hc:cts ws+(if c=10 then ws.length - 1 else 0)<=109):xk #[(List.toArray [c])] (sL ws)=some (.str (Txt.join #[(List.toArray [c])] ws))/\Tx (Txt.join #[(List.toArray [c])] ws):=by
 have e:(Txt.join #[(List.toArray [c])] ws).cps.toList=L3.joinL c (ws.map ls):=L3.joinS_cps c ws;refine#[?_,qz6 ?_ ?_]
 ·unfold xk;dsimp only[sL];rw[YQ];dsimp only;have:(ws.map (·.length)).sum=szs ws:=rfl;rw[X8 (by rw[this];show szs ws+ws.length*1<=_ ;omega)]
 ·rw[<-Xb,e];have:=kw7 c (ws.map ls);rw[<-vxe,X1]at this;omega
 ·unfold cnt ls;rw[e];have:=qjn c 10 (ws.map ls);rw[<-vq4,X1]at this;omega
theorem jzk{α:Type}{f:α->Nat}{a:α}:∀{l:List α} {i:Nat},((l.set i a).map f).sum<=(l.map f).sum+f a
 |[],i=>Ys _
 |b::l,0=>by
  rw[List.set_cons_zero,List.map_cons,Xx,List.map_cons,Xx];omega
 |b::l,i+1=>by
  have:=jzk (f:=f) (a:=a) (l:=l) (i:=i);rw[List.set_cons_succ,List.map_cons,Xx,List.map_cons,Xx];omega
theorem qki{α:Type}{f:α->Nat}{a b:α}:∀{l:List α} {i:Nat},l[i]?=some b->((l.set i a).map f).sum+f b=(l.map f).sum+f a
 |c::l,0,h=>by
  cases oq9 h;rw[List.set_cons_zero,List.map_cons,Xx,List.map_cons,Xx];omega
 |c::l,i+1,h=>by
  have:=qki (f:=f) (a:=a) (l:=l) (i:=i) h;rw[List.set_cons_succ,List.map_cons,Xx,List.map_cons,Xx];omega
theorem kj8{α:Type}{f:α->Nat}:∀{l:List α} {i:Nat},((l.eraseIdx i).map f).sum<=(l.map f).sum
 |[],i=>Ys _
 |b::l,0=>by
  rw[List.eraseIdx_cons_zero,List.map_cons,Xx];omega
 |b::l,i+1=>by
  have:=kj8 (f:=f) (l:=l) (i:=i);rw[List.eraseIdx_cons_succ,List.map_cons,Xx,List.map_cons,Xx];omega
theorem kkf{α:Type}{f:α->Nat}{a:α}{l:List α}{i:Nat}:((l.take i++a::l.drop i).map f).sum=(l.map f).sum+f a:=by
 have:((l.take i++l.drop i).map f).sum=(l.map f).sum:=by rw[List.take_append_drop]
 rw[Xq,List.sum_append]at this ⊢;rw[List.map_cons,Xx];omega
theorem kwh{α:Type}{f:α->Nat}{a:α}:∀{l:List α},a∈l->f a<=(l.map f).sum
 | b::l,h=>by
  rw[List.map_cons,Xx];rcases aD h with rfl|h
  ·omega
  ·have:=kwh (f:=f) h;omega
theorem kqw(a b:Str):cnt (a++b)=cnt a+cnt b:=by
 unfold cnt;rw[xx,List.count_append]
theorem wxq{z:Str}{j:Int}(h0:0<=j)(h1:j<=z.cps.size):cnt (Txt.slice z none (some j))<=cnt z/\(Txt.slice z none (some j)).cps.size<=z.cps.size:=by
 refine#[?_,Txt.slice_le z none (some j)];unfold cnt ls;rw[show Txt.slice z none (some j)=StrLaws.sliceText z none (some j)from rfl,StrLaws.sliceText_to #[h0,by rw[Xb];exact h1]];exact((List.take_sublist _ _).trans (List.drop_sublist _ _)).count_le _
theorem qwf{z:Str}{j:Int}(h0:0<=j)(h1:j<=z.cps.size+1):cnt (Txt.slice z (some j) none)<=cnt z/\(Txt.slice z (some j) none).cps.size<=z.cps.size:=by
 refine#[?_,Txt.slice_le z (some j) none];have main:∀j:Int,0<=j->j<=z.cps.size->cnt (Txt.slice z (some j) none)<=cnt z:=λj h0 h1=>by
  unfold cnt ls;rw [show Txt.slice z (some j) none=StrLaws.sliceText z (some j) none from rfl,StrLaws.sliceText_from #[h0,by rw[Xb];exact h1]];exact((List.take_sublist _ _).trans (List.drop_sublist _ _)).count_le _
 by_cases h:j<=z.cps.size
 ·exact main j h0 h
 ·have e:Txt.slice z (some j) none=Txt.slice z (some (z.cps.size:Int)) none:=by
   have e2:Builtin.Str.strSliceIndices (some j) none 1 z.length=Builtin.Str.strSliceIndices (some (z.cps.size:Int)) none 1 z.length:=by
    unfold Builtin.Str.strSliceIndices;dsimp only;have oi:(1:Int)>0:=⋯
    simp only[X8 oi,Xd (show ¬j<0 by omega),Xd (show ¬(z.cps.size:Int)<0 by omega)];have e3:min j (z.length:Int)=min (z.cps.size:Int) (z.length:Int):=by
     have:z.length=z.cps.size:=rfl;rw[this];omega
    rw[e3]
   unfold Txt.slice;rw[e2]
  rw[e];exact main _ (by omega) (Int.le_refl _)
theorem vz1{E:En}{j:Nat}{kc vc ds N Cc R X}(h0:E[j]?=some (some (.rt,.lst ds)))
  (h:Eo (kc E) (λE1 x=>∃k:Int,x.2=.int k/\E1[j]?=some (some (.rt,.lst ds))/\Eo (vc E1) (λE2 y=>E2[j]?=some (some (.rt,.lst ds))/\(0<=k/\k<=ds.length/\ds.length<10000)/\N (E2.set j (some (.rt,.lst (ds.take k.toNat++y.2::ds.drop k.toNat))))) X) X):Po (wky j kc vc E) N Cc R X:=by
 unfold wky;rw[h0,X8 (show Q.isLst _=true from rfl),J1];refine h.mono ?_;rintro E1 ⟨ox,dx⟩ ⟨k,hk,h1,h2⟩;subst hk;show Po (wq _ j vc E1) N Cc R X;unfold wq;rw[h1,X8 (show Q.isLst _=true from rfl),J1];refine h2.mono ?_;rintro E2 y ⟨h3,⟨k0,k1,k2⟩,h5⟩;rw[h3];dsimp only;have hg:wzq k ds y.2=some (ds.take k.toNat++y.2::ds.drop k.toNat):=by unfold wzq;rw[X8 #[k0,k1,by unfold big;omega]]
 rw[Xd ⋯,hg];dsimp only;rw[wje];exact h5
theorem qkm{o:Own}{z:Str}{lo hi:Option Int}(h:z.cps.size<=1000000):fSl (o,.str z) lo hi=some (.dp,.str (Txt.slice z lo hi)):=by
 have hl:(Txt.slice z lo hi).length<=z.length:=Txt.slice_le z lo hi;have h:z.length<=1000000:=h;show(if(Txt.slice z lo hi).length<=big then _ else none)=_;rw[X8 (by unfold big;omega)]
structure Bt (z:Str):Prop where
 s:z.cps.size<=1400
 n:cnt z<=24
theorem Bt.tx{z:Str}(h:Bt z):Tx z:=qz6 (by have:=h.s;omega) (by have:=h.n;omega)
def Chg(y:Sd):Prop:=∃p:Own×Str,y=(p.1,.str p.2)/\Tx p.2
theorem qju{α β:Type}{f:α->β}:∀{l:List α} {i:Nat},(l.map f).eraseIdx i=(l.eraseIdx i).map f
 |[],_=>rfl|_::_,0=>rfl
 |a::l,i+1=>by
  have ih:=qju (f:=f) (l:=l) (i:=i);show f a::(l.map f).eraseIdx i=f a::(l.eraseIdx i).map f;rw[ih]
theorem wzp{ws:List Str}{i:Int}(h0:0<=i)(h1:i<ws.length):∃w∈ws,ws[i.toNat]?=some w/\jw (sL ws) (.int i)=some (.str w):=by
 have hl:i.toNat<ws.length:=by omega
 exact#[ws[i.toNat],Yj _,X3 hl,kQ h0 (by rw[Xi,X3 hl];rfl)]
theorem qku{c:Nat}{z w:Str}{ws:List Str}(h:Prt c z ws)(hw:w∈ws):w.cps.size<=szs ws/\cnt w<=cts ws:=#[kwh (f:=λw=>w.cps.size) hw,kwh (f:=cnt) hw]
noncomputable def consts:List Str:=["room 0","room 4","","room","signs","room 1 good","a fresh 0","room 0 bad"]
theorem qxm:∀w∈consts,w.cps.size<=20/\cnt w=0:=by decide +kernel
noncomputable def K4:List Str:=["none","new","fresh","any","0","1","3","00","12","-1","good","room"]
theorem wjr:∀w∈K4,w.cps.size<=20/\cnt w=0:=by decide +kernel
theorem kxc{z:Str}{ws ws1:List Str}(hz:Bt z)(hp:Prt 10 z ws)(h1:szs ws1<=szs ws+szs ws+20)(h2:cts ws1=0)(h3:ws1.length<=ws.length+1):xk "\n" (sL ws1)=some (.str (Txt.join "\n" ws1))/\Tx (Txt.join "\n" ws1):=by
 have:=hz.s;have:=hz.n;have:=hp.s;have:=(hp.l rfl).1;exact qq9 (c:=10) (by omega) (by rw[X8 rfl];omega)
theorem vw3{z:Str}(hz:Bt z)(c:Int):Oo jjx [(.no,.str z),(.no,.int c)] Chg noX:=by
 have hs:=hz.s;have hp:=jzo z 10;have iy:=qw1 z 10 (by omega) .no;have cg:=kkh z 10;generalize Txt.split z #[(List.toArray [10])]=ws at hp iy cg
 have hl:=(hp.l rfl).1;have hc0:=(hp.l rfl).2;have hn:=hz.n;have jl:1<=ws.length:=by omega
 have l:jx (sL ws)=some (.int ws.length):=congrArg (λn:Nat=>some (D.int n)) (X1 _);unfold jjx;rw[kxn];refine kz ?_;simp![iy];refine(A.mixed_ok c 2 ⋯ ⋯).use ?_;intro v2 _;have a0:=Xm v2 (show(ws.length:Int)≠0 by omega);have a1:=Xj v2 (show(0:Int)<ws.length by omega);have m2:jQ (.int v2) (.int ws.length)=some (.int (v2 % ws.length)):=mod_i (by omega);generalize v2 % (ws.length:Int)=b8 at a0 a1 m2;simp![l,m2];refine(A.mixed_ok c 3 ⋯ ⋯).use ?_;intro v3 _;have b0:=Xm v3 (show(ws.length:Int)≠0 by omega);have b1:=Xj v3 (show(0:Int)<ws.length by omega);have m3:jQ (.int v3) (.int ws.length)=some (.int (v3 % ws.length)):=mod_i (by omega);generalize v3 % (ws.length:Int)=ot at b0 b1 m3;simp![l,m3];refine(A.mixed_ok c 4 ⋯ ⋯).use ?_;intro v4 _;have c0:=Xm v4 (show(4:Int)≠0 by decide);have c1:=Xj v4 (show(0:Int)<4 by decide);have m4:jQ (.int v4) (.int 4)=some (.int (v4 % 4)):=mod_i ⋯;generalize v4 % 4=wy at c0 c1 m4;obtain⟨wa,ha,ga,xa⟩:=wzp a0 a1;obtain⟨wo,ho,go,xo⟩:=wzp b0 b1;have oa:=qku hp ha;have oo:=qku hp ho;have d0:=Xm ot (show(8:Int)≠0 by decide);have d1:=Xj ot (show(0:Int)<8 by decide);have m8:jQ (.int ot) (.int 8)=some (.int (ot % 8)):=mod_i ⋯;generalize ot % 8=o8 at d0 d1 m8;rcases(show wy=0\/wy=1\/wy=2\/wy=3 by omega)with rfl|rfl|rfl|rfl
 ·have q:fEq (.int 0) (.int 0)=some (.bl true):=rfl;simp![m4,q];refine wvv rfl ?_;simp![];refine#[.rt,_,b8,.str wa,rfl,⋯,rfl,a0,by omega,by rw[Xi,ga];rfl,rfl,?_];have e:(ws.map D.str).eraseIdx b8.toNat=(ws.eraseIdx b8.toNat).map D.str:=qju;obtain⟨j1,j2⟩:=kxc (ws1:=ws.eraseIdx b8.toNat) hz hp (Xs kj8 (show szs ws<=_ by omega)) (Nat.le_zero.mp (Xs kj8 (Nat.le_of_eq hc0))) (by rw[List.length_eraseIdx];split<;>omega);have j1:xk "\n" (.lst ((ws.map D.str).eraseIdx b8.toNat))=some (.str (Txt.join "\n" (ws.eraseIdx b8.toNat))):=by rw[e];exact j1
  simp![↓Q7,j1];exact#[(_,_),rfl,j2]
 ·have q:fEq (.int 1) (.int 0)=some (.bl false):=rfl;have q1:fEq (.int 1) (.int 1)=some (.bl true):=rfl;simp![m4,q,q1];refine vz1 rfl ?_;simp![xo];refine#[b8,rfl,#[a0,by omega,by omega],?_];have e:(ws.map D.str).take b8.toNat++.str wo::(ws.map D.str).drop b8.toNat=(ws.take b8.toNat++wo::ws.drop b8.toNat).map D.str:=by rw[Xq,List.map_cons,List.map_take,List.map_drop]
  have e1:szs (ws.take b8.toNat++wo::ws.drop b8.toNat)=szs ws+wo.cps.size:=kkf;have e2:cts (ws.take b8.toNat++wo::ws.drop b8.toNat)=cts ws+cnt wo:=kkf;obtain⟨j1,j2⟩:=kxc (ws1:=ws.take b8.toNat++wo::ws.drop b8.toNat) hz hp (by omega) (by omega) (by rw[Xf,Xg,Y1,Yn];omega);have j1:xk "\n" (.lst ((ws.map D.str).take b8.toNat++.str wo::(ws.map D.str).drop b8.toNat))=some (.str (Txt.join "\n" (ws.take b8.toNat++wo::ws.drop b8.toNat))):=by rw[e];exact j1
  simp![↓Q7,j1];exact#[(_,_),rfl,j2]
 ·have q:fEq (.int 2) (.int 0)=some (.bl false):=rfl;have q1:fEq (.int 2) (.int 1)=some (.bl false):=rfl;have q2:fEq (.int 2) (.int 2)=some (.bl true):=rfl;obtain⟨wc,hc,gc,xc⟩:=wzp (ws:=consts) d0 (show o8<consts.length from d1);have xc:jw (.lst [.str "room 0",.str "room 4",.str "",.str "room",.str "signs",.str "room 1 good",.str "a fresh 0",.str "room 0 bad"]) (.int o8)=some (.str wc):=xc;have oc:=qxm wc hc;simp![m4,q,q1,q2];refine vz1 rfl ?_;simp![m8,xc];refine#[b8,rfl,#[a0,by omega,by omega],?_];have e:(ws.map D.str).take b8.toNat++.str wc::(ws.map D.str).drop b8.toNat=(ws.take b8.toNat++wc::ws.drop b8.toNat).map D.str:=by rw[Xq,List.map_cons,List.map_take,List.map_drop]
  have e1:szs (ws.take b8.toNat++wc::ws.drop b8.toNat)=szs ws+wc.cps.size:=kkf;have e2:cts (ws.take b8.toNat++wc::ws.drop b8.toNat)=cts ws+cnt wc:=kkf;obtain⟨j1,j2⟩:=kxc (ws1:=ws.take b8.toNat++wc::ws.drop b8.toNat) hz hp (by omega) (by omega) (by rw[Xf,Xg,Y1,Yn];omega);have j1:xk "\n" (.lst ((ws.map D.str).take b8.toNat++.str wc::(ws.map D.str).drop b8.toNat))=some (.str (Txt.join "\n" (ws.take b8.toNat++wc::ws.drop b8.toNat))):=by rw[e];exact j1
  simp![↓Q7,j1];exact#[(_,_),rfl,j2]
 ·have q:fEq (.int 3) (.int 0)=some (.bl false):=rfl;have q1:fEq (.int 3) (.int 1)=some (.bl false):=rfl;have q2:fEq (.int 3) (.int 2)=some (.bl false):=rfl;have ixa:ixN ws.length b8=some b8.toNat:=by unfold ixN;rw[X8 a0,X8 a1]
  have ixo:ixN ws.length ot=some ot.toNat:=by unfold ixN;rw[X8 b0,X8 b1]
  simp![m4,q,q1,q2,xa];refine vj6 ?_;simp![xo];refine#[rfl,.rt,_,b8,b8.toNat,rfl,⋯,rfl,by rw[X1];exact ixa,?_];simp![];refine vj6 ?_;simp![];refine#[rfl,.rt,_,ot,ot.toNat,rfl,⋯,rfl,by rw[Y8,X1];exact ixo,?_];have e:((ws.map D.str).set b8.toNat (.str wo)).set ot.toNat (.str wa)=((ws.set b8.toNat wo).set ot.toNat wa).map D.str:=by rw[List.map_set,List.map_set]
  have go':(ws.set b8.toNat wo)[ot.toNat]?=some wo:=by
   by_cases h:b8.toNat=ot.toNat
   ·rw[h,Y0 (List.getElem?_eq_some_iff.mp go).1]
   ·rw[Y6 h,go]
  have e1:szs ((ws.set b8.toNat wo).set ot.toNat wa)+wo.cps.size=szs (ws.set b8.toNat wo)+wa.cps.size:=qki (f:=λw=>w.cps.size) go';have e2:szs (ws.set b8.toNat wo)+wa.cps.size=szs ws+wo.cps.size:=qki (f:=λw=>w.cps.size) ga;have e3:cts ((ws.set b8.toNat wo).set ot.toNat wa)<=cts (ws.set b8.toNat wo)+cnt wa:=jzk;have e4:cts (ws.set b8.toNat wo)<=cts ws+cnt wo:=jzk;have e5:=hp.s;have hz3:=hz.n;obtain⟨j1,j2⟩:=qq9 (c:=10) (ws:=(ws.set b8.toNat wo).set ot.toNat wa) (by rw[Y8,Y8];omega) (by rw[X8 rfl,Y8,Y8];omega);have j1:xk "\n" (.lst (((ws.map D.str).set b8.toNat (.str wo)).set ot.toNat (.str wa)))=some (.str (Txt.join "\n" ((ws.set b8.toNat wo).set ot.toNat wa))):=by rw[e];exact j1
  simp![↓Q7,j1];exact#[(_,_),rfl,j2]
abbrev SG:Str:="ab z019 n\n.A_+-:=,fr2;"
theorem qxo{z:Str}(hz:Bt z)(c:Int):Oo jku [(.no,.str z),(.no,.int c)] Chg noX:=by
 have hs:=hz.s;have hn:=hz.n;have lz:jx (.str z)=some (.int z.cps.size):=rfl;have lg:jx (.str SG)=some (.int 22):=by rw[show jx (.str SG)=some (.int (SG.length:Nat))from rfl,show SG.length=22 by decide];rfl
 unfold jku;rw[kxn];refine kz ?_;simp![];refine(A.mixed_ok c 1 ⋯ ⋯).use ?_;intro v1 _;have c0:=Xm v1 (show(8:Int)≠0 by decide);have c1:=Xj v1 (show(0:Int)<8 by decide);have m1:jQ (.int v1) (.int 8)=some (.int (v1 % 8)):=mod_i ⋯;generalize v1 % 8=wy at c0 c1 m1;simp![m1];refine(A.mixed_ok c 2 ⋯ ⋯).use ?_;intro v2 _;have a0:=Xm v2 (show(z.cps.size:Int)+1≠0 by omega);have a1:=Xj v2 (show(0:Int)<(z.cps.size:Int)+1 by omega);have m2:jQ (.int v2) (.int ((z.cps.size:Int)+1))=some (.int (v2 % ((z.cps.size:Int)+1))):=mod_i (by omega);generalize v2 % ((z.cps.size:Int)+1)=b8 at a0 a1 m2;simp![lz,m2];refine(A.mixed_ok c 3 ⋯ ⋯).use ?_;intro v3 _;have b0:=Xm v3 (show(22:Int)≠0 by decide);have b1:=Xj v3 (show(0:Int)<22 by decide);have m3:jQ (.int v3) (.int 22)=some (.int (v3 % 22)):=mod_i ⋯;generalize v3 % 22=o3 at b0 b1 m3;obtain⟨ch,_,xs⟩:=A.ix_strM SG o3 b0 (show o3<((22:Nat):Int)from b1);obtain⟨t1,t2⟩:=wxq (z:=z) a0 (show b8<=z.cps.size by omega);obtain⟨f1,f2⟩:=qwf (z:=z) a0 (show b8<=z.cps.size+1 by omega);obtain⟨g1,g2⟩:=qwf (z:=z) (show 0<=b8+1 by omega) (show b8+1<=z.cps.size+1 by omega);have sT:=λo=>qkm (o:=o) (z:=z) (lo:=none) (hi:=some b8) (by omega)
 have sF:=λo=>qkm (o:=o) (z:=z) (lo:=some b8) (hi:=none) (by omega)
 have sG:=λo=>qkm (o:=o) (z:=z) (lo:=some (b8+1)) (hi:=none) (by omega)
 generalize Txt.slice z none (some b8)=x1 at t1 t2 sT;generalize Txt.slice z (some b8) none=x2 at f1 f2 sF;generalize Txt.slice z (some (b8+1)) none=x3 at g1 g2 sG;have hsg:(#[(List.toArray [ch])]:Str).cps.size=1:=rfl;have hcg:cnt #[(List.toArray [ch])]<=1:=by
  have:=List.count_le_length (a:=10) (l:=ls #[(List.toArray [ch])]);exact this
 have p1:∀o1 o2,jZ (o1,.str x1) (o2,.str #[(List.toArray [ch])])=some (.dp,.str (x1++#[(List.toArray [ch])])):=λo1 o2=>VJ (by omega)
 have p2:∀o1 o2 x,x.cps.size<=z.cps.size->jZ (o1,.str (x1++#[(List.toArray [ch])])) (o2,.str x)=some (.dp,.str (x1++#[(List.toArray [ch])]++x)):=λo1 o2 x hx=>VJ (by rw[VW];omega)
 have p3:∀o1 o2 x,x.cps.size<=z.cps.size->jZ (o1,.str x1) (o2,.str x)=some (.dp,.str (x1++x)):=λo1 o2 x hx=>VJ (by omega)
 have q2:fEq (.int wy) (.int 2)=some (.bl (decide (wy=2))):=by rw[wv];rfl
 have q3:fEq (.int wy) (.int 3)=some (.bl (decide (wy=3))):=by rw[wv];rfl
 simp![lg,m3,xs]
 by_cases w2:wy<2
 ·have q1:=X5 w2;have p4:=λo1 o2=>p2 o1 o2 x3 g2
  simp![q1,sT,p1,sG,p4];refine#[(_,_),rfl,qz6 ?_ ?_]
  ·rw[VW,VW];omega
  ·rw[kqw,kqw];omega
 have q1:=X6 w2
 by_cases w3:wy=2
 ·rw[X5 w3]at q2;have p4:=λo1 o2=>p2 o1 o2 x2 f2
  simp![q1,q2,sT,p1,sF,p4];refine#[(_,_),rfl,qz6 ?_ ?_]
  ·rw[VW,VW];omega
  ·rw[kqw,kqw];omega
 rw[X6 w3]at q2
 by_cases w4:wy=3
 ·rw[X5 w4]at q3;have p4:=λo1 o2=>p3 o1 o2 x3 g2
  simp![q1,q2,q3,sT,sG,p4];refine#[(_,_),rfl,qz6 ?_ ?_]
  ·rw[VW];omega
  ·rw[kqw];omega
 rw[X6 w4]at q3
 by_cases w6:wy<6
 rotate_left
 ·have q6:=X6 w6;simp![q1,q2,q3,q6];exact Oo.oe (P:=λ_ y=>Chg y) (vw3 hz c) (λy h=>h) λc h=>h
 have q6:=X5 w6;have hp:=jzo z 32;have iy:=qw1 z 32 (by omega) .no;have cg:=kkh z 32;generalize Txt.split z #[(List.toArray [32])]=ws at hp iy cg
 have hps:=hp.s;have hpn:=hp.n;have jl:1<=ws.length:=List.length_pos_iff.mpr cg;have ml:∀o1 o2:Own,o1≠.dp->o2≠.dp->jZ (o1,sL ws) (o2,.lst [.str "none",.str "new",.str "fresh",.str "any",.str "0",.str "1",.str "3",.str "00",.str "12",.str "-1",.str "good",.str "room"])=some (.rt,sL (ws++K4)):=λo1 o2 h1 h2=>by
  rw[sL,vqn h1 h2 (by rw[X1];simp;omega),sL,Xq];rfl
 have lS:jx (sL (ws++K4))=some (.int (ws++K4).length):=congrArg (λn:Nat=>some (D.int n)) (X1 _);have lw:jx (sL ws)=some (.int ws.length):=congrArg (λn:Nat=>some (D.int n)) (X1 _);simp![q1,q2,q3,q6,iy,ml .rt .no ⋯ ⋯,ml .no .no ⋯ ⋯];refine vj6 ?_;simp![];refine(A.mixed_ok c 5 ⋯ ⋯).use ?_;intro v5 _;have um:0<(ws++K4).length:=by rw[Xf];omega
 have d0:=Xm v5 (show((ws++K4).length:Int)≠0 by omega);have d1:=Xj v5 (show(0:Int)<(ws++K4).length by omega);have m5:jQ (.int v5) (.int (ws++K4).length)=some (.int (v5 % (ws++K4).length)):=mod_i (by omega);generalize v5 % ((ws++K4).length:Int)=o5 at d0 d1 m5;obtain⟨w,hwm,_,xw⟩:=wzp (ws:=ws++K4) d0 d1;have e0:=Xm b8 (show(ws.length:Int)≠0 by omega);have e1:=Xj b8 (show(0:Int)<ws.length by omega);have m6:jQ (.int b8) (.int ws.length)=some (.int (b8 % ws.length)):=mod_i (by omega);have ixa:ixN ws.length (b8 % (ws.length:Int))=some (b8 % (ws.length:Int)).toNat:=by unfold ixN;rw[X8 e0,X8 e1]
 simp![lS,m5,xw];refine#[rfl,?_];simp![lw,m6];refine#[.rt,_,(b8 % (ws.length:Int)),(b8 % (ws.length:Int)).toNat,rfl,⋯,rfl,by rw[X1];exact ixa,?_];have hwb:w.cps.size<=1400/\cnt w<=24:=by
  rcases aA hwm with h|h
  ·have:=qku hp h;omega
  ·have:=wjr w h;omega
 have r1:szs (ws.set (b8 % (ws.length:Int)).toNat w)<=szs ws+w.cps.size:=jzk;have r2:cts (ws.set (b8 % (ws.length:Int)).toNat w)<=cts ws+cnt w:=jzk;obtain⟨j1,j2⟩:=qq9 (c:=32) (ws:=ws.set (b8 % (ws.length:Int)).toNat w) (by rw[Y8];omega) (by rw[Xd ⋯];omega);have j1:xk " " (.lst ((ws.map D.str).set (b8 % (ws.length:Int)).toNat (.str w)))=some (.str (Txt.join " " (ws.set (b8 % (ws.length:Int)).toNat w))):=by
  rw[show(ws.map D.str).set (b8 % (ws.length:Int)).toNat (.str w)=(ws.set (b8 % (ws.length:Int)).toNat w).map D.str by rw[List.map_set]];exact j1
 simp![↓Q7,j1];exact#[(_,_),rfl,j2]
theorem vw5{i:Int}(h0:0<=i)(h1:i<12):kZ (nmS i)=some i:=by
 have h:=Vq h0 h1;obtain⟨hn,ha⟩:=qq3 h.n;obtain⟨e,_⟩:=kx6 ha hn h.l;have e2:xv (.str (nmS i))=some (.int i):=by
  show(if(nmS i).length<=640 then(PySem.intText? (nmS i)).map D.int else none)=_;have hl:(nmS i).length=(nmS i).cps.size:=rfl;have:=h.l;rw[X8 (by omega),h.v];rfl
 rw[e]at e2;have e3:L3.valL (ls (nmS i))=i:=by
  injection e2 with e2;injection e2
 unfold kZ;rw[X8 #[h.n,h.l],e3]
theorem vjw{i:Int}(h0:0<=i)(h1:i<12){w:Str}(hw:2<w.cps.size):nmS i≠w:=λe=>by
 have:=(Vq h0 h1).l;rw[e]at this;omega
theorem Ask.P{own:Int}{d:D}(ho:own<=3)(h:Ask own d):wW (wT d)=some d:=by
 rcases h with rfl|rfl|⟨i,rfl,i0,i1⟩
 ·rfl
 ·rfl
 ·show wW (nmS i)=_;unfold wW;rw[Xd (λh=>h.elim (vjw i0 (by omega) ⋯) (vjw i0 (by omega) ⋯)),vw5 i0 (by omega)];rfl
theorem Fil.P{own:Int}{d:D}(ho:own<=3)(h:Fil own d):v9 (wT d)=some d:=by
 rcases h with rfl|rfl|⟨i,rfl,i0,i1⟩
 ·rfl
 ·rfl
 ·show v9 (nmS i)=_;unfold v9;rw[Xd (vjw i0 (by omega) ⋯),Xd (vjw i0 (by omega) ⋯),vw5 i0 (by omega)];rfl
theorem qvo{α β:Type}{f:α->Option β}{g:β->α}:∀{l:List β},(∀b∈l,f (g b)=some b)->(l.map g).mapM f=some l
 |[],_=>rfl
 |b::l,h=>by
  rw[List.map_cons,Ym,h b X2,qvo λc hc=>h c (lc9 _ hc)];rfl
theorem Stp.P{ss:List Str}{own:Int}{ks:List Int}{d:D}(ho:own<=3)(jg:ks.length<=12)(h:Stp ss own ks d):qZ (stS d)=some d/\zZ (stS d)=false:=by
 obtain⟨sg,im,to,fs,rfl,hsg,ha,t0,t1,hf,fk⟩:=h;refine#[?_,?_]
 ·show qZ (sg::wT im::nmS to::fs.map wT)=_;exact kwl (ha.P ho) (vw5 t0 (by omega)) (qvo λf hf=>(fk f hf).P ho)
 ·show(decide (some sg=some ("room":Str))&&(decide ((fs.map wT).length+3=2)||decide (nmS to::fs.map wT=[("good":Str)])))=false;rw[X6 (show ¬(fs.map wT).length+3=2 by omega),X6 (show ¬nmS to::fs.map wT=[("good":Str)]from λe=>by
   have e:=(List.cons.inj e).1;exact vjw t0 (by omega) ⋯ e)]
  simp
noncomputable def toB:D->Bk D
 |.tup [.int k,.bl g,.lst st]=>(k,g,st)|_=>(0,false,[])
theorem Rm.P{ss:List Str}{ks:List Int}{r:D}(h:Rm ss ks r){acc:List (Bk D)}:x5 acc (rmS r)=some (acc++[((toB r).1,(toB r).2.1,[])]):=by
 obtain⟨k,gd,st,rfl,h0,h3,_⟩:=h;unfold x5;have e:zZ (rmS (.tup [.int k,.bl gd,.lst st]))=true:=by
  cases gd
  ·show(decide (some ("room":Str)=some ("room":Str))&&(decide (2=2)||_))=true;simp
  ·show(decide (some ("room":Str)=some ("room":Str))&&(decide (3=2)||decide ([("good":Str)]=[("good":Str)])))=true;simp
 rw[X8 e];have e1:w1 (rmS (.tup [.int k,.bl gd,.lst st]))=nmS k:=by cases gd<;>rfl
 have e2:decide ((rmS (.tup [.int k,.bl gd,.lst st])).length=3)=gd:=by cases gd<;>rfl
 rw[e1,e2,vw5 h0 (by omega)];rfl
theorem kzo:∀{a b:List (List Str)} {acc:List (Bk D)},kq (a++b) acc=(kq a acc).bind (kq b)
 |[],b,acc=>rfl
 |ws::a,b,acc=>by
  show(x5 acc ws).bind (kq (a++b))=((x5 acc ws).bind (kq a)).bind (kq b);cases x5 acc ws with|none=>rfl|some r=>exact kzo
theorem kvp{ss:List Str}{own:Int}{ks:List Int}(ho:own<=3)(jg:ks.length<=12):∀{st2 st1:List D} {acc:List (Bk D)} {k:Int} {g:Bool},(∀d∈st2,Stp ss own ks d)->kq (st2.map stS) (acc++[(k,g,st1)])=some (acc++[(k,g,st1++st2)])
 | [],st1,acc,k,g,_=>by rw[Xr];rfl
 | d::st2,st1,acc,k,g,h=>by
  obtain⟨p1,p2⟩:=(h d X2).P ho jg;have ih:=kvp ho jg (st2:=st2) (st1:=st1++[d]) (acc:=acc) (k:=k) (g:=g) λd hd=>h d (lc9 _ hd)
  rw[List.map_cons];unfold kq;have e:x5 (acc++[(k,g,st1)]) (stS d)=some (acc++[(k,g,st1++[d])]):=by
   unfold x5;rw[Xd (by rw[p2];decide),Xd (by simp),p1,<-W4];rfl
  rw[e];rw[Xn]at ih;exact ih
theorem kw2{ss:List Str}{ks:List Int}(jg:ks.length<=12):∀{rs:List D} {acc:List (Bk D)},(∀r∈rs,Rm ss ks r)->kq (lnS rs) acc=some (acc++rs.map toB)
 |[],acc,_=>by rw[List.map_nil,Xr];rfl
 |r::rs,acc,h=>by
  have hr:=h r X2;have ih:=kw2 jg (rs:=rs) (acc:=acc++[toB r]) λr hr=>h r (lc9 _ hr)
  show(x5 acc (rmS r)).bind (kq ((qz r).map stS++lnS rs))=_;rw[hr.P];show kq ((qz r).map stS++lnS rs) (acc++[((toB r).1,(toB r).2.1,[])])=_;rw[kzo];obtain⟨k,gd,st,rfl,h0,h3,hl,ck⟩:=hr;have hs:=kvp (ss:=ss) (own:=k) (ks:=ks) h3 jg (st2:=st) (st1:=[]) (acc:=acc) (k:=k) (g:=gd) ck;show(kq (st.map stS) (acc++[(k,gd,[])])).bind (kq (lnS rs))=_;rw[hs];show kq (lnS rs) (acc++[(k,gd,[]++st)])=_;rw[List.nil_append];refine Eq.trans ih ?_;rw[Xn];rfl
theorem vjc{w0:List Str}{l:List (List Str)}(h:w0.head?=some ("signs":Str)):xZ (w0::l)=(match kq l []with
  |some rs=>if x8 (qX w0 rs)=true then some (qX w0 rs)else none
  |none=>none):=X8 h
theorem vjb{ss:List Str}{ks:List Int}{rs:List D}(h:Mc ss ks rs):xZ (wX (mtT ss rs))=some (Qw ss rs):=by
 obtain⟨m1,m2,m3⟩:=h.text;obtain⟨ln1,ln2⟩:=h.lines;have e:wX (mtT ss rs)=mtS ss rs:=by
  unfold wX;rw[m3,Xu];refine(Z2 λws hw=>?_).trans (List.map_id _);exact(ln1 ws hw).back
 rw[e];have hr:=kw2 (acc:=[]) h.kl h.rm;have em:qX ("signs" :: ss) (rs.map toB)=Qw ss rs:=by
  show D.tup [sL ss,.lst ((rs.map toB).map rmD)]=_;have:(rs.map toB).map rmD=rs:=by
   rw[Xu];refine(Z2 λr hr=>?_).trans (List.map_id _);obtain⟨k,gd,st,rfl,_⟩:=h.rm r hr;rfl
  rw[this]
 refine(vjc rfl).trans ?_;rw[hr];show(if x8 (qX ("signs" :: ss) (rs.map toB))=true then some (qX ("signs" :: ss) (rs.map toB))else none)=_;rw[em];exact X8 h.b
theorem Mc.bt{ss:List Str}{ks:List Int}{rs:List D}(h:Mc ss ks rs):Bt (mtT ss rs):=by
 obtain⟨m1,m2,m3⟩:=h.text;obtain⟨ln1,ln2⟩:=h.lines;refine#[?_,?_]
 ·have hp:∀p∈(mtS ss rs).map JB,p.cps.size<=54:=λp hp=>by
   obtain⟨ws,hw,rfl⟩:=aE hp;exact(ln1 ws hw).len
  have h3:(mtT ss rs).cps.size<=((mtS ss rs).map JB).length*(54+1):=kxf hp;rw[X1]at h3;omega
 ·have:=((jzo (mtT ss rs) 10).l rfl).1;have e:(Txt.split (mtT ss rs) #[(List.toArray [10])]).length=(mtS ss rs).length:=by rw[m3,X1]
  omega
theorem qx0{z:Str}(hz:Tx z)(h:xZ (wX z)=none):Oo jks [(.no,.str z)] (λy=>∃o':Own,y=(o',.bl true)/\True) noX:=by
 have a1:zY [("NoText",true)] (.obj "NoText" [])=some (.bl true):=vxx ⋯;have a2:zY [("NoText",false)] (.obj "NoText" [])=some (.bl false):=vxx ⋯;unfold jks;refine kz ?_;simp![];refine(vk1 hz).ox (λy hy=>?_) (λc hc=>?_)
 ·obtain⟨r,_,e,_⟩:=hy;rw[h]at e;cases e
 obtain⟨hc,_⟩:=hc;subst hc;refine#[by simp,?_];simp![a1,a2];exact#[_,rfl,trivial]
theorem qzw{z:Str}{d:D}(hz:Tx z)(h:xZ (wX z)=some d):Oo Wq [(.no,.str z)] (λy=>∃_:Unit,y=(.dp,d)/\d.flat 40=true) noX:=
 (vk1 hz).oe (E:=[]) (P:=λ_ y=>∃_:Unit,y=(.dp,d)/\d.flat 40=true) (λy #[r',e,e',f]=>by rw[h]at e';cases e';exact#[(),e,f]) λc #[_,e]=>by rw[h]at e;cases e
theorem wjs{d:D}(h:d.flat 40=true):fNe d d=some (.bl false):=by unfold fNe;rw[h,ZW d h];rfl
theorem vvv{z:Str}{d:D}(h:xZ (wX z)=some d):∃a b,d=.tup [a,b]:=by
 cases hl:wX z with
 | nil=>rw[hl]at h;cases h
 | cons w0 l=>
  rw [hl]at h
  by_cases h1:w0.head?=some ("signs":Str)
  ·have e:xZ (w0::l)=(match kq l []with
    |some rs=>if x8 (qX w0 rs)=true then some (qX w0 rs)else none
    |none=>none):=X8 h1
   rw[e]at h;cases hr:kq l []with
   | none=>rw[hr]at h;cases h
   | some rs=>
    rw[hr]at h
    by_cases h2:x8 (qX w0 rs)=true
    ·have h:(if x8 (qX w0 rs)=true then some (qX w0 rs)else none)=some d:=h;rw[X8 h2]at h;cases h;exact#[_,_,rfl]
    ·have h:(if x8 (qX w0 rs)=true then some (qX w0 rs)else none)=some d:=h;rw[Xd h2]at h;cases h
  ·have e:xZ (w0::l)=none:=Xd h1;rw[e]at h;cases h
theorem wwz(ns:List Int)(um:ns.length<=63):Oo m_law [(.no,iL ns)] (λy=>y.2=.bl true) noX:=by
 have s1:fSl (.no,iL ns) none (some 11)=some (.rt,iL (ns.take 11)):=by
  rw[show iL ns=.lst (ns.map D.int)from rfl,qwu ⋯];unfold K3 Qq;dsimp only;rw[Xd ⋯,List.drop_zero,<-List.map_take];refine congrArg (λx=>some (Own.rt,iL x)) ?_;rw[X1];show ns.take (min 11 ns.length - 0)=ns.take 11;rw[Nat.sub_zero]
  by_cases h:11<=ns.length
  ·rw[Nat.min_eq_left h]
  ·rw[Nat.min_eq_right (by omega),Yq (Xk _),Yq (by omega)]
 obtain⟨cells,hce⟩:∃cells:List Int,K3 (ns.map D.int) (some 12) (some 42)=cells.map D.int:=#[(ns.drop _).take _,by unfold K3;rw[List.map_take,List.map_drop]];have s2:fSl (.no,iL ns) (some 12) (some 42)=some (.rt,iL cells):=by
  rw[show iL ns=.lst (ns.map D.int)from rfl,qwu (o:=.no) ⋯,hce]
 unfold m_law;refine kz ?_;simp![s1];refine(qxd (ns.take 11) (by rw[Y1];omega) λc=>vvd c wq7).use ?_;rintro ⟨ss,ks,rs⟩ hM;have hM:Mc ss ks rs:=hM;have hB:=hM.bt;have hG:=vjb hM;simp![];refine(vzj hM).use ?_;intro o2 _;generalize mtT ss rs=t at hB hG;simp![];refine V9 (λE b6=>∃(f:List Int) (o1 o2:Own) (l3 l4 l5:Option Sd),E=[some (.no,iL ns),some (o1,Qw ss rs),some (o2,.str t),l3,l4,l5]/\b6=f.map D.int) ?_ ?_ ?_
 ·simp![s2];exact#[cells,_,_,_,_,_,rfl,rfl]
 ·rintro E d ds ⟨f,o1,o2,l3,l4,l5,rfl,hf⟩;cases f with
  | nil=>cases hf
  | cons c f=>
   have hf:d::ds=.int c::f.map D.int:=hf;injection hf with e1 e2;subst e1 e2;simp![];refine Oo.oe (P:=_) (qxo hB c) ?_ λc h=>h
   rintro y ⟨⟨o,w⟩,rfl,hw⟩;have hw:Tx w:=hw;simp![];refine(qjg hw).use ?_;intro o' _;cases hd:xZ (wX w)with
   |none=>
    simp![wwd];refine(qx0 hw hd).use ?_;intro _ _;simp![];exact#[f,_,_,_,_,_,rfl,rfl]
   |some d=>
    obtain⟨a,b,rfl⟩:=vvv hd;simp![wwd];refine(qzw hw hd).use ?_;intro _ mh;simp![wjs mh];exact#[f,_,_,_,_,_,rfl,rfl]
 ·rintro E ⟨f,o1,o2,l3,l4,l5,rfl,hf⟩;simp![];refine(qzw hB.tx hG).use ?_;intro _ mh;have eS:=C.eq_self mh;simp![eS];refine(qjg hB.tx).use ?_;intro o' _;rw[hG];simp![wwd,eS]
theorem law_true(ns:List Int)(hl:ns.length<=63)(hb:∀i∈ns,Builtin.Int.intBits i<=1048576):∃E o,m_law [(.no,.lst (ns.map D.int))]=some (.ok E (o,.bl true)):=by
 obtain⟨E,⟨o,d⟩,h,hd⟩:=(wwz ns hl).out;have hd:d=.bl true:=hd;subst hd;exact#[E,o,h]
end Nk13
namespace Nk13
open PySem L2 L3 Q
def top(i:Nat):Stmt:=PySem.Challenge.pw_freshrooms_k13_texts_of_no_machine.main.body.getD i (.Pass #[0,0,0,0])
abbrev kjf:Stmt:=top 14
abbrev kq1:Stmt:=top 15
abbrev jwj:Stmt:=top 22
abbrev jz5:Stmt:=top 25
abbrev jz3:Stmt:=top 24
abbrev kjg:Stmt:=top 23
abbrev kq2:Stmt:=top 32
abbrev jz7:Stmt:=top 31
abbrev kwq:Stmt:=top 30
abbrev kq0:Stmt:=top 29
abbrev jz4:Stmt:=top 28
abbrev jv4:Stmt:=top 27
abbrev jz6:Stmt:=top 26
abbrev jx0:Stmt:=top 21
abbrev jqo:Stmt:=top 35
abbrev jvy:Stmt:=top 40
abbrev jwi:Stmt:=top 45
abbrev jz1:Stmt:=top 41
abbrev kje:Stmt:=top 43
abbrev jz2:Stmt:=top 44
abbrev jz0:Stmt:=top 42
abbrev jwz:Stmt:=top 39
abbrev jvx:Stmt:=top 38
abbrev jw4:Stmt:=top 47
abbrev jx3:Stmt:=top 48
abbrev jx1:Stmt:=top 49
abbrev jx2:Stmt:=top 50
abbrev jza:Stmt:=top 51
abbrev jz9:Stmt:=top 52
abbrev jw1:Stmt:=top 53
abbrev jz8:Stmt:=top 54
abbrev jw2:Stmt:=top 55
abbrev jv5:Stmt:=top 56
abbrev jvz:Stmt:=top 57
abbrev jwk:Stmt:=top 58
abbrev jqf:Stmt:=top 59
abbrev jq4:Stmt:=top 60
abbrev jw3:Stmt:=top 61
abbrev jw0:Stmt:=top 62
abbrev vzs:Stmt:=top 63
theorem qko:FnScope ["thing"] ["thing"] (jV kjf):=mkS
theorem qwy:FnScope ["thing"] ["thing"] (jV kq1):=mkS
theorem kve:FnScope ["thing","many"] ["thing","many"] (jV jwj):=mkS
theorem kzj:FnScope ["thing"] ["thing"] (jV jz5):=mkS
theorem kzh:FnScope ["thing","texts"] ["thing","texts"] (jV jz3):=mkS
theorem qkp:FnScope ["thing","end"] ["thing","end"] (jV kjg):=mkS
theorem qwz:FnScope ["thing","own"] ["thing","own"] (jV kq2):=mkS
theorem kzk:FnScope ["thing","own","many"] ["thing","own","many"] (jV jz7):=mkS
theorem qzr:FnScope ["thing","own"] ["thing","own"] (jV kwq):=mkS
theorem qwx:FnScope ["thing","own","signs","keepers"] ["thing","own","signs","keepers"] (jV kq0):=mkS
theorem kzi:FnScope ["steps","own","signs","keepers"] ["steps","own","signs","keepers"] (jV jz4):=mkS
theorem kk9:FnScope ["thing"] ["thing"] (jV jv4):=mkS
theorem sc_are_rooms:FnScope ["thing","signs","keepers"] ["thing","signs"] (jV jz6):=mkS
theorem kwo:FnScope ["thing"] ["thing"] (jV jx0):=mkS
theorem kjd:FnScope ["text"] ["text"] (jV jqo):=mkS
theorem kkx:FnScope ["words"] ["words"] (jV jvy):=mkS
theorem kvd:FnScope ["word"] ["word"] (jV jwi):=mkS
theorem kzf:FnScope ["words"] ["words"] (jV jz1):=mkS
theorem qkn:FnScope ["word"] ["word"] (jV kje):=mkS
theorem kzg:FnScope ["word"] ["word"] (jV jz2):=mkS
theorem kze:FnScope ["words"] ["words"] (jV jz0):=mkS
theorem sc_read_rooms:FnScope ["lines","rooms","words"] ["lines"] (jV jwz):=mkS
theorem sc_read_machine:FnScope ["text","lines","machine"] ["text"] (jV jvx):=mkS
theorem kkz:FnScope ["_law_script","_law_k"] ["_law_script","_law_k"] (jV jw4):=mkS
theorem sc__law_mixed:FnScope ["_law_cell","_law_k","_law_number"] ["_law_cell","_law_k"] (jV jx3):=mkS
theorem sc__law_words:FnScope ["_law_cell","_law_many","_law_letters","_law_word","_law_long","_law_at","_law_some","_law_k","_law_turn"] ["_law_cell","_law_many"] (jV jx1):=mkS
theorem sc__law_signs:FnScope ["_law_cell","_law_some"] ["_law_cell"] (jV jx2):=mkS
theorem kzl:FnScope ["_law_number","_law_keepers"] ["_law_number","_law_keepers"] (jV jza):=mkS
theorem sc__law_step:FnScope ["_law_cell","_law_signs_here","_law_here","_law_keepers","_law_m","_law_to","_law_asks","_law_fills"] ["_law_cell","_law_signs_here","_law_here","_law_keepers"] (jV jz9):=mkS
theorem sc__law_machine:FnScope ["_law_script","_law_start","_law_head","_law_signs_here","_law_many","_law_keepers","_law_steps","_law_cell","_law_here","_law_goods"] ["_law_script","_law_start"] (jV jw1):=mkS
theorem sc__law_text:FnScope ["_law_machine_here","_law_lines","_law_keepers","_law_good","_law_steps","_law_sign","_law_asks","_law_to","_law_fills","_law_words_here"] ["_law_machine_here"] (jV jz8):=mkS
theorem kky:FnScope ["_law_word","_law_most"] ["_law_word","_law_most"] (jV jw2):=mkS
theorem sc__law_signs_of:FnScope ["_law_words_here","_law_word"] ["_law_words_here"] (jV jv5):=mkS
theorem sc__law_step_of:FnScope ["_law_words_here","_law_signs_here","_law_here","_law_keepers","_law_asks","_law_to","_law_fills","_law_word"] ["_law_words_here","_law_signs_here","_law_here","_law_keepers"] (jV jvz):=mkS
theorem sc__law_blocks:FnScope ["_law_lines","_law_blocks_here","_law_words_here"] ["_law_lines"] (jV jwk):=mkS
theorem sc__law_machine_of:FnScope ["_law_text_here","_law_lines","_law_signs_here","_law_blocks_here","_law_keepers","_law_rooms","_law_here","_law_steps"] ["_law_text_here"] (jV jqf):=mkS
theorem sc__law_other_lines:FnScope ["_law_text_here","_law_cell","_law_lines","_law_at","_law_other","_law_way","_law_kept_line"] ["_law_text_here","_law_cell"] (jV jq4):=mkS
theorem sc__law_changed:FnScope ["_law_text_here","_law_cell","_law_way","_law_at","_law_signs_here","_law_sign","_law_words_here","_law_some"] ["_law_text_here","_law_cell"] (jV jw3):=mkS
theorem sc__law_refused:FnScope ["_law_text_here","_law_refused_here","e"] ["_law_text_here"] (jV jw0):=mkS
theorem sc_law:FnScope ["_law_script","_law_machine_here","_law_text_here","_law_cell","_law_changed_here","_law_due"] ["_law_script"] (jV vzs):=mkS
structure Txt (K:Frag)(mg:Str->Option Value)(a9 ah aa am aj ai ac ak a8 af:Addr):Prop where
 b_ValueError:mg "ValueError"=none
 b_all:mg "all"=none
 b_bool:mg "bool"=none
 b_int:mg "int"=none
 b_isinstance:mg "isinstance"=none
 b_len:mg "len"=none
 b_list:mg "list"=none
 b_range:mg "range"=none
 b_set:mg "set"=none
 b_sorted:mg "sorted"=none
 b_str:mg "str"=none
 b_sum:mg "sum"=none
 b_tuple:mg "tuple"=none
 c_LETTERS:Cst mg "LETTERS" (V.str "abcdefghijklmnopqrstuvwxyz")
 c_MOST_LETTERS:Cst mg "MOST_LETTERS" (V.int (8))
 c_MOST_SIGNS:Cst mg "MOST_SIGNS" (V.int (3))
 c_MOST_ROOMS:Cst mg "MOST_ROOMS" (V.int (12))
 c_MOST_KEEPERS:Cst mg "MOST_KEEPERS" (V.int (3))
 c_MOST_STEPS:Cst mg "MOST_STEPS" (V.int (120))
 c_FIGURES:Cst mg "FIGURES" (V.str "0123456789")
 c_MOST_FIGURES:Cst mg "MOST_FIGURES" (V.int (2))
 n_NoText:nsIn K mainGlobals "NoText"=some (some (.ref a9))
 m_NoText:mg "NoText"=some (.ref a9)
 e_NoText:ECls K mg "NoText" a9
 n_TooGreat:nsIn K mainGlobals "TooGreat"=some (some (.ref ah))
 m_TooGreat:mg "TooGreat"=some (.ref ah)
 n_NotSingle:nsIn K mainGlobals "NotSingle"=some (some (.ref aa))
 m_NotSingle:mg "NotSingle"=some (.ref aa)
 n_NoWay:nsIn K mainGlobals "NoWay"=some (some (.ref am))
 m_NoWay:mg "NoWay"=some (.ref am)
 n_NoRow:nsIn K mainGlobals "NoRow"=some (some (.ref aj))
 m_NoRow:mg "NoRow"=some (.ref aj)
 n_NoName:nsIn K mainGlobals "NoName"=some (some (.ref ai))
 m_NoName:mg "NoName"=some (.ref ai)
 n_NoMachine:nsIn K mainGlobals "NoMachine"=some (some (.ref ac))
 m_NoMachine:mg "NoMachine"=some (.ref ac)
 n_NoFit:nsIn K mainGlobals "NoFit"=some (some (.ref ak))
 m_NoFit:mg "NoFit"=some (.ref ak)
 n_NoExchange:nsIn K mainGlobals "NoExchange"=some (some (.ref a8))
 m_NoExchange:mg "NoExchange"=some (.ref a8)
 n_RoomError:nsIn K mainGlobals "RoomError"=some (some (.ref af))
 m_RoomError:mg "RoomError"=some (.ref af)
 h_NoText_NoText:PySem.W.exmOne K (.ref a9) (.ref a9)=some true
 i_NoText_TooGreat:kitOne K (.ref a9) (.ref ah)=some false
 i_NoText_NotSingle:kitOne K (.ref a9) (.ref aa)=some false
 i_NoText_NoWay:kitOne K (.ref a9) (.ref am)=some false
 i_NoText_NoRow:kitOne K (.ref a9) (.ref aj)=some false
 i_NoText_NoName:kitOne K (.ref a9) (.ref ai)=some false
 i_NoText_NoMachine:kitOne K (.ref a9) (.ref ac)=some false
 i_NoText_NoFit:kitOne K (.ref a9) (.ref ak)=some false
 i_NoText_NoExchange:kitOne K (.ref a9) (.ref a8)=some false
 i_NoText_ValueError:kitOne K (.ref a9) (.type "ValueError")=some true
 i_NoText_RoomError:kitOne K (.ref a9) (.ref af)=some true
section
variable (P:Program)(w:PySem.World)(K:Frag)(mg:Str->Option Value)(base:Heap)
abbrev kwg:=k8 P w K mg base 1 "is_whole" ["thing"] (spF K mg 1 jwc)
abbrev qka:=k8 P w K mg base 1 "is_sign" ["thing"] (spF K mg 1 jxa)
abbrev jqa:=k8 P w K mg base 1 "is_tuple_of" ["thing","many"] (spF K mg 2 VV)
abbrev qqr:=k8 P w K mg base 2 "are_signs" ["thing"] (spF K mg 1 jve)
abbrev jwq:=k8 P w K mg base 1 "is_one_of" ["thing","texts"] (spF K mg 2 YY)
abbrev jxl:=k8 P w K mg base 2 "is_below" ["thing","end"] (spF K mg 2 VY)
abbrev vqt:=k8 P w K mg base 3 "is_fill" ["thing","own"] (spF K mg 2 jxb)
abbrev qqt:=k8 P w K mg base 4 "are_fills" ["thing","own","many"] (spF K mg 3 jvg)
abbrev vxa:=k8 P w K mg base 3 "is_ask" ["thing","own"] (spF K mg 2 jzx)
abbrev vqs:=k8 P w K mg base 5 "is_step" ["thing","own","signs","keepers"] (spF K mg 4 jx9)
abbrev qqq:=k8 P w K mg base 6 "are_steps" ["steps","own","signs","keepers"] (spF K mg 4 jvd)
abbrev kv6:=k8 P w K mg base 3 "is_room_frame" ["thing"] (spF K mg 1 jkm)
abbrev qqs:=k8 P w K mg base 7 "are_rooms" ["thing","signs"] (spF K mg 2 jvf)
abbrev qkb:=k8 P w K mg base 8 "is_machine" ["thing"] (spF K mg 1 jqk)
abbrev jwv:=k8 P w K mg base 1 "is_number_text" ["text"] (spF K mg 1 jkf)
abbrev jxv:=k8 P w K mg base 1 "is_room_line" ["words"] (spF K mg 1 jkr)
abbrev jv0:=k8 P w K mg base 2 "read_number" ["word"] (spF K mg 1 W6)
abbrev qqo:=k8 P w K mg base 3 "read_room" ["words"] (spF K mg 1 jvb)
abbrev qxt:=k8 P w K mg base 3 "read_ask" ["word"] (spF K mg 1 jwb)
abbrev qqp:=k8 P w K mg base 3 "read_fill" ["word"] (spF K mg 1 jvc)
abbrev qqn:=k8 P w K mg base 4 "read_step" ["words"] (spF K mg 1 jva)
abbrev qk9:=k8 P w K mg base 5 "read_rooms" ["lines"] (spF K mg 1 jqj)
abbrev jxu:=k8 P w K mg base 9 "read_machine" ["text"] (spF K mg 1 Wq)
abbrev jxw:=k8 P w K mg base 1 "_law_cell_at" ["_law_script","_law_k"] (spF K mg 2 m__law_cell_at)
abbrev jq2:=k8 P w K mg base 1 "_law_mixed" ["_law_cell","_law_k"] (spF K mg 2 m__law_mixed)
abbrev qkc:=k8 P w K mg base 2 "_law_words" ["_law_cell","_law_many"] (spF K mg 2 m__law_words)
abbrev qkd:=k8 P w K mg base 3 "_law_signs" ["_law_cell"] (spF K mg 1 jq0)
abbrev kv8:=k8 P w K mg base 1 "_law_fill" ["_law_number","_law_keepers"] (spF K mg 2 jvi)
abbrev qqu:=k8 P w K mg base 2 "_law_step" ["_law_cell","_law_signs_here","_law_here","_law_keepers"] (spF K mg 4 jqg)
abbrev kvl:=k8 P w K mg base 4 "_law_machine" ["_law_script","_law_start"] (spF K mg 2 jkt)
abbrev kv7:=k8 P w K mg base 1 "_law_text" ["_law_machine_here"] (spF K mg 1 jvh)
abbrev jw9:=k8 P w K mg base 1 "_law_figures" ["_law_word","_law_most"] (spF K mg 2 zX)
abbrev jxf:=k8 P w K mg base 1 "_law_signs_of" ["_law_words_here"] (spF K mg 1 Zz)
abbrev kvj:=k8 P w K mg base 2 "_law_step_of" ["_law_words_here","_law_signs_here","_law_here","_law_keepers"] (spF K mg 4 jkj)
abbrev kxx:=k8 P w K mg base 2 "_law_blocks" ["_law_lines"] (spF K mg 1 ZV)
abbrev kjx:=k8 P w K mg base 3 "_law_machine_of" ["_law_text_here"] (spF K mg 1 jjr)
abbrev kj6:=k8 P w K mg base 2 "_law_other_lines" ["_law_text_here","_law_cell"] (spF K mg 2 jjx)
abbrev kvm:=k8 P w K mg base 3 "_law_changed" ["_law_text_here","_law_cell"] (spF K mg 2 jku)
abbrev kvk:=k8 P w K mg base 10 "_law_refused" ["_law_text_here"] (spF K mg 1 jks)
end
section
variable {a9 ah aa am aj ai ac ak a8 af:Addr}
variable {P:Program}{w:PySem.World}{K:Frag}{mg:Str->Option Value}{base:Heap}{f:Addr}{fd:FuncData}
theorem qq1(T:Txt K mg a9 ah aa am aj ai ac ak a8 af):OkF P w K mg base 1 "is_whole" kjf ["thing"] 1 jwc:=
 okF qko λhr=>(jJ (J5 (j4 (V2 (vv 0) T.b_isinstance T.b_int WJ rfl)) (z9 (vvp (j4 (V2 (vv 0) T.b_isinstance T.b_bool vqg rfl))))))
theorem qx7(T:Txt K mg a9 ah aa am aj ai ac ak a8 af):OkF P w K mg base 1 "is_sign" kq1 ["thing"] 1 jxa:=
 okF qwy λhr=>(j9 (kK (QW.pt (vq (xz (zV (j4 (V2 (vv 0) T.b_isinstance T.b_str ZZ rfl)))) (xX (xz (kwt WQ (Kk (g:=λa b=>decide (a<=b))) WQ (Kk (g:=λa b=>decide (a<=b))) ki (j4 (qL (vv 0) T.b_len)) (j4 (q_C (Wj T.c_MOST_LETTERS) (λ_=>JK))) ZX))))) (jJ Jx)) (jJ (KK (YW K) Wx (j4 (qM .rt 1 [] 1 ["letter"] (qY (cv 0)) (λ_ _ _ _ _=>(qx2 (vjr hr.units) vqr (vv 0) (j4 (q_C (Wj T.c_LETTERS) (λ_=>Wk ⋯))) (by rfl))))) T.b_all Zv)))
theorem kvg(T:Txt K mg a9 ah aa am aj ai ac ak a8 af):OkF P w K mg base 1 "is_tuple_of" jwj ["thing","many"] 2 VV:=
 okF kve λhr=>(jJ (J5 (j4 (V2 (vv 0) T.b_isinstance T.b_tuple qwi rfl)) (z9 (JZ hr (j4 (qL (vv 0) T.b_len)) (vv 1)))))
theorem qj4(T:Txt K mg a9 ah aa am aj ai ac ak a8 af)(fu:qka P w K mg base):OkF P w K mg base 2 "are_signs" jz5 ["thing"] 1 jve:=
 okF kzj λhr=>(j9 (kK (QW.pt (vq (xz (zV (j4 (V2 (vv 0) T.b_isinstance T.b_list qqj rfl)))) (xX (xz (kwt WQ (Kk (g:=λa b=>decide (a<=b))) WQ (Kk (g:=λa b=>decide (a<=b))) ki (j4 (qL (vv 0) T.b_len)) (j4 (q_C (Wj T.c_MOST_SIGNS) (λ_=>JK))) ZX))))) (jJ Jx)) (j9 (kK (xz (zV (j4 (KK (YW K) Wx (j4 (qM .rt 1 [] 1 ["sign"] (qY (cv 0)) (λ_ _ _ _ _=>(qC fu hr (j5 (cv 0) jk))))) T.b_all Zv)))) (jJ Jx)) (jJ (JZ hr (vv 0) (j4 (kq6 rfl rfl (vv 0) T.b_sorted T.b_set))))))
theorem qj2(T:Txt K mg a9 ah aa am aj ai ac ak a8 af):OkF P w K mg base 1 "is_one_of" jz3 ["thing","texts"] 2 YY:=
 okF kzh λhr=>(jJ (J5 (j4 (V2 (vv 0) T.b_isinstance T.b_str ZZ rfl)) (z9 (qx2 (vjr hr.units) vqr (vv 0) (vv 1) (by rfl)))))
theorem qq2(T:Txt K mg a9 ah aa am aj ai ac ak a8 af)(eq:kwg P w K mg base):OkF P w K mg base 2 "is_below" kjg ["thing","end"] 2 VY:=
 okF qkp λhr=>(jJ (J5 (j4 (qC eq hr (j5 (cv 0) jk))) (z9 (wj3 WQ (Kk (g:=λa b=>decide (a<=b))) wwg (Kk (g:=λa b=>decide (a<b))) ki (vv 0) (vv 1)))))
theorem qx8(T:Txt K mg a9 ah aa am aj ai ac ak a8 af)(bg:jwq P w K mg base)(ba:jxl P w K mg base):OkF P w K mg base 3 "is_fill" kq2 ["thing","own"] 2 jxb:=
 okF qwz λhr=>(jJ (wvd (j4 (qx2 vxs vza (vv 0) kn (KZ _))) (wvd (j4 (qC bg hr (j5 (cv 0) (j5 (Jz (o:=.no) (j5 kS jk)) jk)))) (z9 (qC ba hr (j5 (cv 0) (j5 (cv 1) jk)))))))
theorem qj6(T:Txt K mg a9 ah aa am aj ai ac ak a8 af)(aw:jqa P w K mg base)(fq:vqt P w K mg base):OkF P w K mg base 4 "are_fills" jz7 ["thing","own","many"] 3 jvg:=
 okF kzk λhr=>(jJ (J5 (j4 (qC aw hr (j5 (cv 0) (j5 (cv 2) jk)))) (z9 (KK (YW K) Wx (j4 (qM .rt 1 [1] 3 ["fill","own"] (qY (cv 0)) (λ_ _ _ _ _=>(qC fq hr (j5 (cv 0) (j5 (cv 1) jk)))))) T.b_all Zv))))
theorem vju(T:Txt K mg a9 ah aa am aj ai ac ak a8 af)(bg:jwq P w K mg base)(ba:jxl P w K mg base):OkF P w K mg base 3 "is_ask" kwq ["thing","own"] 2 jzx:=
 okF qzr λhr=>(jJ (wvd (j4 (qC bg hr (j5 (cv 0) (j5 (Jz (o:=.no) (j5 kS (j5 kS jk))) jk)))) (z9 (qC ba hr (j5 (cv 0) (j5 (cv 1) jk))))))
theorem qx6(T:Txt K mg a9 ah aa am aj ai ac ak a8 af)(dk:qqt P w K mg base)(aw:jqa P w K mg base)(bg:jwq P w K mg base)(gh:vxa P w K mg base)(ba:jxl P w K mg base):OkF P w K mg base 5 "is_step" kq0 ["thing","own","signs","keepers"] 4 jx9:=
 okF qwx λhr=>(j9 (kK (xz (zV (j4 (qC aw hr (j5 (cv 0) (j5 kI jk)))))) (jJ Jx)) (j9 (kK (QW.pt (vq (xz (zV (j4 (qC bg hr (j5 (jY (kx (vv 0) ki)) (j5 (cv 2) jk)))))) (vq (xz (zV (j4 (qC gh hr (j5 (jY (kx (vv 0) ki)) (j5 (cv 1) jk)))))) (xX (xz (zV (j4 (qC ba hr (j5 (jY (kx (vv 0) ki)) (j5 (qL (vv 3) T.b_len) jk)))))))))) (jJ Jx)) (jJ (qC dk hr (j5 (jY (kx (vv 0) ki)) (j5 (cv 1) (j5 (jY (kx (vv 3) (kx (vv 0) ki))) jk)))))))
theorem qj3(T:Txt K mg a9 ah aa am aj ai ac ak a8 af)(fv:vqs P w K mg base):OkF P w K mg base 6 "are_steps" jz4 ["steps","own","signs","keepers"] 4 jvd:=
 okF kzi λhr=>(jJ (KK (YW K) Wx (j4 (qM .rt 1 [1,2,3] 4 ["step","own","signs","keepers"] (qY (cv 0)) (λ_ _ _ _ _=>(qC fv hr (j5 (cv 0) (j5 (cv 1) (j5 (cv 2) (j5 (cv 3) jk)))))))) T.b_all Zv))
theorem kka(T:Txt K mg a9 ah aa am aj ai ac ak a8 af)(aw:jqa P w K mg base)(ba:jxl P w K mg base):OkF P w K mg base 3 "is_room_frame" jv4 ["thing"] 1 jkm:=
 okF kk9 λhr=>(j9 (kK (xz (zV (j4 (qC aw hr (j5 (cv 0) (j5 kI jk)))))) (jJ Jx)) (jJ (J5 (j4 (qC ba hr (j5 (jY (kx (vv 0) ki)) (j5 (oA (j4 (q_C (Wj T.c_MOST_KEEPERS) (λ_=>JK))) ki) jk)))) (J5 (j4 (V2 (kx (vv 0) ki) T.b_isinstance T.b_bool vqg rfl)) (z9 (V2 (kx (vv 0) ki) T.b_isinstance T.b_list qqj rfl))))))
theorem qj5(T:Txt K mg a9 ah aa am aj ai ac ak a8 af)(df:qqq P w K mg base)(c8:kv6 P w K mg base):OkF P w K mg base 7 "are_rooms" jz6 ["thing","signs"] 2 jvf:=
 okF sc_are_rooms λhr=>have nd:=sc_are_rooms.nd;(j9 (kK (QW.pt (vq (xz (zV (j4 (V2 (vv 0) T.b_isinstance T.b_list qqj rfl)))) (xX (xz (kwt WQ (Kk (g:=λa b=>decide (a<=b))) WQ (Kk (g:=λa b=>decide (a<=b))) ki (j4 (qL (vv 0) T.b_len)) (j4 (q_C (Wj T.c_MOST_ROOMS) (λ_=>JK))) ZX))))) (jJ Jx)) (j9 (kK (xz (zV (j4 (KK (YW K) Wx (j4 (qM .rt 1 [] 3 ["room"] (qY (cv 0)) (λ_ _ _ _ _=>(qC c8 hr (j5 (cv 0) jk))))) T.b_all Zv)))) (jJ Jx)) (j9 (kK (V8 (j4 (KK (wko K) wz4 (j4 (qM .rt 1 [] 3 ["room"] (qY (cv 0)) (λ_ _ _ _ _=>(qL (kx (vv 0) ki) T.b_len)))) T.b_sum wxu)) (j4 (q_C (Wj T.c_MOST_STEPS) (λ_=>JK)))) (jJ Jx)) (j9 (qA nd (qM .rt 1 [] 3 ["room"] (qY (cv 0)) (λ_ _ _ _ _=>(jY (kx (vv 0) ki))))) (jJ (KK (YW K) Wx (j4 (qM .rt 1 [1,2] 3 ["room","signs","keepers"] (qY (cv 0)) (λ_ _ _ _ _=>(qC df hr (j5 (jY (kx (vv 0) ki)) (j5 (jY (kx (vv 0) ki)) (j5 (cv 1) (j5 (cv 2) jk)))))))) T.b_all Zv))))))
theorem kx1(T:Txt K mg a9 ah aa am aj ai ac ak a8 af)(aw:jqa P w K mg base)(dh:qqr P w K mg base)(d8:qqs P w K mg base):OkF P w K mg base 8 "is_machine" jx0 ["thing"] 1 jqk:=
 okF kwo λhr=>(jJ (J5 (j4 (qC aw hr (j5 (cv 0) (j5 kI jk)))) (J5 (j4 (qC dh hr (j5 (jY (kx (vv 0) ki)) jk))) (z9 (qC d8 hr (j5 (jY (kx (vv 0) ki)) (j5 (jY (kx (vv 0) ki)) jk)))))))
theorem kjk(T:Txt K mg a9 ah aa am aj ai ac ak a8 af):OkF P w K mg base 1 "is_number_text" jqo ["text"] 1 jkf:=
 okF kjd λhr=>(j9 (kK (QW.pt (vq (q9 hr (vv 0) ks) (xX (xz (zV (j4 (KK (YW K) Wx (j4 (qM .rt 1 [] 1 ["figure"] (qY (cv 0)) (λ_ _ _ _ _=>(qx2 (vjr hr.units) vqr (vv 0) (j4 (q_C (Wj T.c_FIGURES) (λ_=>Wk ⋯))) (by rfl))))) T.b_all Zv))))))) (jJ Jx)) (jJ (wvd (j4 (JZ hr (vv 0) ks)) (z9 (vvp (j4 (vvo (vv 0))))))))
theorem kqb(T:Txt K mg a9 ah aa am aj ai ac ak a8 af):OkF P w K mg base 1 "is_room_line" jvy ["words"] 1 jkr:=
 okF kkx λhr=>(jJ (J5 (j4 (JZ hr (kx (vv 0) ki) ks)) (z9 (wvd (j4 (JZ hr (j4 (qL (vv 0) T.b_len)) ki)) (z9 (JZ hr (j4 (vQ (vv 0) (qW ki) wY)) (j4 (xQ (o:=.rt) (j5 kS jk)))))))))
theorem kvf(T:Txt K mg a9 ah aa am aj ai ac ak a8 af)(bu:jwv P w K mg base):OkF P w K mg base 2 "read_number" jwi ["word"] 1 W6:=
 okF kvd λhr=>(j9 (kK (QW.pt (vq (xz (zV (j4 (qC bu hr (j5 (cv 0) jk))))) (xX (V8 (j4 (qL (vv 0) T.b_len)) (j4 (q_C (Wj T.c_MOST_FIGURES) (λ_=>JK))))))) (qj (kq7 T.e_NoText T.m_NoText JY zW))) (jJ (K8 jwf kwf (vv 0) T.b_int WJ)))
theorem qj0(T:Txt K mg a9 ah aa am aj ai ac ak a8 af)(av:jv0 P w K mg base):OkF P w K mg base 3 "read_room" jz1 ["words"] 1 jvb:=
 okF kzf λhr=>(jJ (Jz (o:=.dp) (q:=false) (j5 (QE.weak (qx1 (qC av hr (j5 (jY (kx (vv 0) ki)) jk)))) (j5 (QE.weak (JZ hr (j4 (qL (vv 0) T.b_len)) ki)) (j5 (QE.weak (qx1 wx0)) wj6)))))
theorem qq0(T:Txt K mg a9 ah aa am aj ai ac ak a8 af)(av:jv0 P w K mg base):OkF P w K mg base 3 "read_ask" kje ["word"] 1 jwb:=
 okF qkn λhr=>(jJ (wvn (JQ (vjr hr.units) vqr (vv 0) (j4 (Jz (o:=.no) (j5 kS (j5 kS jk)))) (by rfl) wxy) (cv 0) (qC av hr (j5 (cv 0) jk))))
theorem qj1(T:Txt K mg a9 ah aa am aj ai ac ak a8 af)(av:jv0 P w K mg base):OkF P w K mg base 3 "read_fill" jz2 ["word"] 1 jvc:=
 okF kzg λhr=>(j9 (kK (q9 hr (vv 0) ks) (jJ kN)) (jJ (wvn (q9 hr (vv 0) ks) (cv 0) (qC av hr (j5 (cv 0) jk)))))
theorem kzz(T:Txt K mg a9 ah aa am aj ai ac ak a8 af)(dz:qxt P w K mg base)(av:jv0 P w K mg base)(de:qqp P w K mg base):OkF P w K mg base 4 "read_step" jz0 ["words"] 1 jva:=
 okF kze λhr=>(j9 (kK (Qj (j4 (qL (vv 0) T.b_len)) ki) (qj (kq7 T.e_NoText T.m_NoText JY zW))) (jJ (Jz (o:=.no) (j5 (jY (kx (vv 0) ki)) (j5 (qC dz hr (j5 (jY (kx (vv 0) ki)) jk)) (j5 (qC av hr (j5 (jY (kx (vv 0) ki)) jk)) (j5 (qT (j4 (qM .rt 1 [] 1 ["word"] (qY (vQ (vv 0) (qW ki) wY)) (λ_ _ _ _ _=>(qC de hr (j5 (cv 0) jk))))) T.b_tuple) jk)))))))
theorem kx0(T:Txt K mg a9 ah aa am aj ai ac ak a8 af)(cf:jxv P w K mg base)(dj:qqo P w K mg base)(d6:qqn P w K mg base):OkF P w K mg base 5 "read_rooms" jwz ["lines"] 1 jqj:=
 okF sc_read_rooms λhr=>have nd:=sc_read_rooms.nd;(j9 (qA nd (xQ (o:=.dp) jk)) (j9 (qF (qY (cv 0)) (gN nd) (qj (W1 (zV (j4 (qC cf hr (j5 (cv 2) jk)))) (qj (qP (qC dj hr (j5 (cv 2) jk)))) (qj (W1 (q9 hr (j4 (qL (vv 1) T.b_len)) ki) (qj (kq7 T.e_NoText T.m_NoText JY zW)) (qj (xjg (i:=1) (ps:=[.inl (-1),.inl 2]) (xqh (xqg (vxl K (pv 1)) (λ_ _=>rfl)) (λ_ _=>rfl)) (qC d6 hr (j5 (cv 2) jk)) rfl jx7))))))) (jJ (wvf (pv 1)))))
theorem kqa(T:Txt K mg a9 ah aa am aj ai ac ak a8 af)(d3:qk9 P w K mg base)(cz:qkb P w K mg base):OkF P w K mg base 9 "read_machine" jvx ["text"] 1 Wq:=
 okF sc_read_machine λhr=>have nd:=sc_read_machine.nd;(j9 (qkt (i:=1) (o:=.rt) (k:=1) (R:=[]) ["line"] nd rfl (by first|exact Or.inl rfl|exact Or.inr rfl) (qY (ZY (c:=10) (by decide +kernel) (vv 0))) (λ_ _ _ _ _=>(XQ (gn (show(["line"]:List Str).Nodup by decide +kernel)))) (λ_ _ _ _ _=>vvn) (λ_ _ _ _ _=>(ZY (c:=32) (by decide +kernel) (vv 0))) JY #[_,_,rfl,rfl] ⋯ (show ∀j∈([]:List Nat) ,j<3 by decide)) (j9 (kK (YK hr (kx (kx (vv 1) ki) ki) ks) (qj (kq7 T.e_NoText T.m_NoText JY zW))) (j9 (qA nd (Jz (o:=.dp) (q:=false) (j5 (QE.weak (qx1 (vQ (kx (vv 1) ki) (qW ki) wY))) (j5 (QE.weak (qx1 (qC d3 hr (j5 (vQ (vv 1) (qW ki) wY) jk)))) wj6)))) (j9 (kK (xz (zV (j4 (wj5 cz (hr.mono ⋯) JY (xjk (vv 2) xjl))))) (qj (kq7 T.e_NoText T.m_NoText JY zW))) (jJ (wvf (pv 2)))))))
theorem kqh(T:Txt K mg a9 ah aa am aj ai ac ak a8 af):OkF P w K mg base 1 "_law_cell_at" jw4 ["_law_script","_law_k"] 2 m__law_cell_at:=
 okF kkz λhr=>(j9 (kK (Qj (vv 1) (j4 (qL (vv 0) T.b_len))) (jJ (jY (kx (vv 0) (vv 1))))) (jJ kI))
theorem kx4(T:Txt K mg a9 ah aa am aj ai ac ak a8 af):OkF P w K mg base 1 "_law_mixed" jx3 ["_law_cell","_law_k"] 2 m__law_mixed:=
 okF sc__law_mixed λhr=>have nd:=sc__law_mixed.nd;(j9 (kK (q9 hr (j4 (oM (vv 0) ki)) ki) (jJ (xK (vv 0) (j4 (wve wwe wz5 ki (j4 (oX ki (vv 1)))))))) (j9 (qA nd (oM (j4 (oX (j4 (oA (j4 (oA (j4 (oM (vv 0) ki)) (j4 (oX ki (vv 1))))) ki)) ki)) ki)) (j9 (qA nd (oM (j4 (oX (vv 2) (vv 2))) ki)) (jJ (oM (j4 (oA (j4 (oX (vv 2) (vv 2))) (j4 (oX ki (vv 1))))) ki)))))
theorem kx2(T:Txt K mg a9 ah aa am aj ai ac ak a8 af)(ao:jq2 P w K mg base):OkF P w K mg base 2 "_law_words" jx1 ["_law_cell","_law_many"] 2 m__law_words:=
 okF sc__law_words λhr=>have nd:=sc__law_words.nd;(j9 (qA nd kS) (j9 (qA nd (kw4 zW (j4 (qM .rt 1 [2,0] 9 ["_law_j","_law_letters","_law_cell"] (KY ki rfl T.b_range) (λ_ _ _ _ _=>(jY (kx (vv 1) (j4 (oM (j4 (qC ao hr (j5 (cv 2) (j5 (cv 0) jk)))) ki))))))))) (j9 (kK (q9 hr (j4 (oM (vv 0) ki)) ki) (jJ (qM .rt 1 [3,0] 9 ["_law_k","_law_word","_law_cell"] (KY (vv 1) rfl T.b_range) (λ_ _ _ _ _=>(vQ (vv 1) wY (qW (j4 (oA ki (j4 (oM (j4 (oA (vv 0) (j4 (xK (vv 2) ki)))) ki)))))))))) (j9 (qA nd (oA ki (j4 (oM (j4 (xK (vv 0) ki)) ki)))) (j9 (qA nd (oM (j4 (xK (vv 0) ki)) (vv 4))) (j9 (qA nd wx0) (j9 (qF (KY (vv 1) rfl T.b_range) (gN nd) (j9 (qA nd (oM (j4 (oA (j4 (wvj (vv 2) (kx (vv 3) (vv 5)))) (j4 (oX (vv 7) (j4 (oA ki (j4 (oM (j4 (xK (vv 0) ki)) ki)))))))) ki)) (qj (qP (oA (j4 (oA (j4 (vQ (vv 3) wY (qW (vv 5)))) (kx (vv 2) (vv 8)))) (j4 (vQ (vv 3) (qW (j4 (oA (vv 5) ki))) (qW (vv 4))))))))) (jJ (wvf (pv 6))))))))))
theorem kx3(T:Txt K mg a9 ah aa am aj ai ac ak a8 af)(cw:qkc P w K mg base):OkF P w K mg base 3 "_law_signs" jx2 ["_law_cell"] 1 jq0:=
 okF sc__law_signs λhr=>have nd:=sc__law_signs.nd;(j9 (kK (q9 hr (j4 (oM (vv 0) ki)) ki) (j9 (qA nd (xQ (o:=.rt) (j5 kS (j5 kS (j5 kS (j5 kS (j5 kS (j5 kS (j5 kS jk))))))))) (jJ (kq6 rfl rfl (j4 (xQ (o:=.rt) (j5 (jY (kx (vv 1) (j4 (oM (j4 (xK (vv 0) ki)) ki)))) (j5 (jY (kx (vv 1) (j4 (oM (j4 (xK (vv 0) ki)) ki)))) (j5 (jY (kx (vv 1) (j4 (oM (j4 (xK (vv 0) ki)) ki)))) jk))))) T.b_sorted T.b_set)))) (jJ (KK (qqg rfl) vqp (j4 (qC cw hr (j5 (xK (vv 0) ki) (j5 (oA ki (j4 (oM (j4 (xK (vv 0) ki)) ki))) jk)))) T.b_sorted vqf)))
theorem qj9(T:Txt K mg a9 ah aa am aj ai ac ak a8 af):OkF P w K mg base 1 "_law_fill" jza ["_law_number","_law_keepers"] 2 jvi:=
 okF kzl λhr=>(j9 (kK (QW.pt (vq (q9 hr (j4 (oM (vv 0) ki)) ki) (xX (QW.pt (V6 (q9 hr (j4 (oM (vv 0) ki)) ki) (V0 (q9 hr (vv 1) ki))))))) (jJ kN)) (j9 (kK (QW.pt (V6 (Qj (j4 (oM (vv 0) ki)) ki) (V0 (V8 (vv 1) ki)))) (jJ (oM (j4 (xK (vv 0) ki)) (vv 1)))) (jJ kS)))
theorem qj8(T:Txt K mg a9 ah aa am aj ai ac ak a8 af)(ao:jq2 P w K mg base)(d7:kv8 P w K mg base):OkF P w K mg base 2 "_law_step" jz9 ["_law_cell","_law_signs_here","_law_here","_law_keepers"] 4 jqg:=
 okF sc__law_step λhr=>have nd:=sc__law_step.nd;(j9 (qA nd (qC ao hr (j5 (cv 0) (j5 kI jk)))) (j9 (qA nd (oM (j4 (xK (vv 4) ki)) (j4 (qL (vv 3) T.b_len)))) (j9 (qA nd (jY (kx (j4 (oA (j4 (xQ (o:=.rt) (j5 kS (j5 kS (j5 kS jk))))) (j4 (qM .rt 1 [] 8 ["_law_k"] (KY (kx (vv 3) (vv 2)) rfl T.b_range) (λ_ _ _ _ _=>(cv 0)))))) (j4 (oM (j4 (xK (vv 4) ki)) (j4 (oA ki (kx (vv 3) (vv 2))))))))) (j9 (qA nd (qT (j4 (qM .rt 1 [4,3,2] 8 ["_law_k","_law_m","_law_keepers","_law_here"] (KY (kx (vv 3) (vv 5)) rfl T.b_range) (λ_ _ _ _ _=>(qC d7 hr (j5 (xK (vv 1) (kx (j4 (xQ (o:=.rt) (j5 kI (j5 kI (j5 kI jk))))) (vv 0))) (j5 (jY (kx (vv 2) (vv 3))) jk)))))) T.b_tuple)) (jJ (Jz (o:=.no) (j5 (jY (kx (vv 1) (j4 (oM (vv 4) (j4 (qL (vv 1) T.b_len)))))) (j5 (cv 6) (j5 (cv 5) (j5 (cv 7) jk))))))))))
theorem kqe(T:Txt K mg a9 ah aa am aj ai ac ak a8 af)(ao:jq2 P w K mg base)(d4:qkd P w K mg base)(bh:jxw P w K mg base)(d5:qqu P w K mg base):OkF P w K mg base 4 "_law_machine" jw1 ["_law_script","_law_start"] 2 jkt:=
 okF sc__law_machine λhr=>have nd:=sc__law_machine.nd;(j9 (qA nd (qC ao hr (j5 (qC bh hr (j5 (cv 0) (j5 kI jk))) (j5 kI jk)))) (j9 (qA nd (qC d4 hr (j5 (qC bh hr (j5 (cv 0) (j5 kI jk))) jk))) (j9 (qA nd (oA ki (j4 (oM (vv 2) ki)))) (j9 (kK (q9 hr (j4 (oM (j4 (xK (vv 2) ki)) ki)) ki) (qj (qA nd (oA ki (j4 (oM (j4 (xK (vv 2) ki)) ki)))))) (j9 (qA nd (qM .rt 1 [0] 10 ["_law_k","_law_script"] (KY (vv 4) rfl T.b_range) (λ_ _ _ _ _=>(oM (j4 (qC ao hr (j5 (qC bh hr (j5 (cv 1) (j5 kI jk))) (j5 (cv 0) jk)))) ki)))) (j9 (qA nd (qM .dp 1 [] 10 ["_law_k"] (KY (vv 4) rfl T.b_range) (λ_ _ _ _ _=>(xQ (o:=.dp) jk)))) (j9 (qF (qY (vQ (vv 0) (qW (vv 1)) (qW (j4 (oA (vv 1) ki))))) (gN nd) (j9 (qA nd (oM (j4 (qC ao hr (j5 (cv 7) (j5 kI jk)))) (vv 4))) (j9 (vxj (i:=6) (vv 8) (qC d5 hr (j5 (cv 7) (j5 (cv 3) (j5 (cv 8) (j5 (cv 5) jk))))) (pv 6) (λ_ _=>rfl) rfl jx7) (qj (kK (QW.pt (V6 (q9 hr (j4 (oM (j4 (xK (vv 2) ki)) ki)) ki) (V0 (q9 hr (j4 (oM (vv 7) ki)) ki)))) (qj (vxj (i:=6) (vv 8) (jY (kx (kx (vv 6) (vv 8)) ki)) (pv 6) (λ_ _=>rfl) rfl jx7))))))) (j9 (qA nd (qM .rt 1 [0] 10 ["_law_k","_law_script"] (KY (vv 4) rfl T.b_range) (λ_ _ _ _ _=>(JZ hr (j4 (oM (j4 (qC ao hr (j5 (qC bh hr (j5 (cv 1) (j5 kI jk))) (j5 (cv 0) jk)))) ki)) ki)))) (qj (q_fz (i:=6) (wvc (Jz (o:=.no) (j5 (cv 3) (j5 (qM .rt 1 [5,9,6] 10 ["_law_k","_law_keepers","_law_goods","_law_steps"] (KY (vv 4) rfl T.b_range) (λ_ _ _ _ _=>(Jz (o:=.no) (j5 (jY (kx (vv 1) (vv 0))) (j5 (jY (kx (vv 2) (vv 0))) (j5 (jY (kx (vv 3) (vv 0))) jk)))))) jk))))))))))))))
theorem qj7(T:Txt K mg a9 ah aa am aj ai ac ak a8 af):OkF P w K mg base 1 "_law_text" jz8 ["_law_machine_here"] 1 jvh:=
 okF sc__law_text λhr=>have nd:=sc__law_text.nd;(j9 (qA nd (xQ (o:=.rt) (j5 (oA ks (j4 (kw4 zW (kx (vv 0) ki)))) jk))) (j9 (qF (qY (jY (kx (vv 0) ki))) (xqf (is:=[2,3,4]) (vxo K (t:=gNs [2,3,4]) (n:=3) (YV (gn nd) (YV (gn nd) (YV (gn nd) vjg))))) (j9 (qP (oA (j4 (oA ks (j4 (K8 kkp qwl (vv 2) T.b_str ZZ)))) (kx (j4 (xQ (o:=.rt) (j5 kS (j5 kS jk)))) (j4 (K8 jwf kwf (vv 3) T.b_int WJ))))) (qj (qF (qY (cv 4)) (xqf (is:=[5,6,7,8]) (vxo K (t:=gNs [5,6,7,8]) (n:=4) (YV (gn nd) (YV (gn nd) (YV (gn nd) (YV (gn nd) vjg)))))) (j9 (qA nd (oA (j4 (xQ (o:=.rt) (j5 (cv 5) (j5 (K8 kkp qwl (vv 6) T.b_str ZZ) (j5 (K8 kkp qwl (vv 7) T.b_str ZZ) jk))))) (j4 (qM .rt 1 [] 10 ["_law_fill_here"] (qY (cv 8)) (λ_ _ _ _ _=>(jY (kx (j4 (xQ (o:=.rt) (j5 kS (j5 (K8 kkp qwl (vv 0) T.b_str ZZ) jk)))) (j4 (K8 jwf kwf (j4 (qx2 vjp vqq (vv 0) kn (KZ _))) T.b_int WJ))))))))) (qj (qP (kw4 zW (vv 9))))))))) (jJ (kw4 zW (vv 1)))))
theorem kqf(T:Txt K mg a9 ah aa am aj ai ac ak a8 af):OkF P w K mg base 1 "_law_figures" jw2 ["_law_word","_law_most"] 2 zX:=
 okF kky λhr=>(j9 (kK (QW.pt (vq (q9 hr (vv 0) ks) (vq (V8 (j4 (qL (vv 0) T.b_len)) ki) (xX (QW.pt (V6 (q9 hr (j4 (qL (vv 0) T.b_len)) ki) (V0 (q9 hr (kx (vv 0) ki) ks)))))))) (jJ wq1)) (j9 (kK (QW.pt (vq (V8 (j4 (qL (j4 (qm .rt 1 [] 2 ["_law_sign"] (qY (cv 0)) (λhN _ _ _ _ _=>(XQ (gn hN))) (λ_ _ _ _ _=>(wva (JQ (kwz hr.units) kxv (vv 0) ks (by rfl) kxs))) (λ_ _ _ _ _=>(cv 0)))) T.b_len)) ki) (xX (JQ xjw (Kk (g:=λa b=>decide (b<=a))) (j4 (K8 jwf kwf (vv 0) T.b_int WJ)) (vv 1) (KZ _) ZX)))) (jJ wq1)) (jJ (K8 jwf kwf (vv 0) T.b_int WJ))))
theorem kkb(T:Txt K mg a9 ah aa am aj ai ac ak a8 af):OkF P w K mg base 1 "_law_signs_of" jv5 ["_law_words_here"] 1 Zz:=
 okF sc__law_signs_of λhr=>have nd:=sc__law_signs_of.nd;(j9 (kK (QW.pt (vq (YK hr (kx (vv 0) ki) ks) (vq (Qj (j4 (qL (vv 0) T.b_len)) ki) (vq (V8 (j4 (qL (vv 0) T.b_len)) ki) (xX (YK hr (j4 (kq6 rfl rfl (j4 (vQ (vv 0) (qW ki) wY)) T.b_sorted T.b_set)) (j4 (vQ (vv 0) (qW ki) wY)))))))) (jJ kN)) (j9 (qF (qY (vQ (vv 0) (qW ki) wY)) (gN nd) (j9 (kK (QW.pt (vq (Qj (j4 (qL (vv 1) T.b_len)) ki) (xX (V8 (j4 (qL (vv 1) T.b_len)) ki)))) (jJ kN)) (qj (kK (V8 (j4 (qL (j4 (qm .rt 1 [] 2 ["_law_sign"] (qY (cv 1)) (λhN _ _ _ _ _=>(XQ (gn hN))) (λ_ _ _ _ _=>(wva (JQ (kwz hr.units) kxv (vv 0) ks (by rfl) kxs))) (λ_ _ _ _ _=>(cv 0)))) T.b_len)) ki) (jJ kN))))) (jJ (vQ (vv 0) (qW ki) wY))))
theorem kqc(T:Txt K mg a9 ah aa am aj ai ac ak a8 af)(ax:jw9 P w K mg base):OkF P w K mg base 2 "_law_step_of" jvz ["_law_words_here","_law_signs_here","_law_here","_law_keepers"] 4 jkj:=
 okF sc__law_step_of λhr=>have nd:=sc__law_step_of.nd;(j9 (kK (QW.pt (vq (Qj (j4 (qL (vv 0) T.b_len)) ki) (xX (JQ (kwz hr.units) kxv (kx (vv 0) ki) (vv 1) (by rfl) kxs)))) (jJ kN)) (j9 (qA nd (jY (kx (vv 0) ki))) (j9 (kK (QW.pt (V6 (YK hr (vv 4) ks) (V0 (YK hr (vv 4) ks)))) (qj (qA nd (qC ax hr (j5 (jY (kx (vv 0) ki)) (j5 (jY (kx (vv 3) (vv 2))) jk)))))) (j9 (qA nd (qC ax hr (j5 (jY (kx (vv 0) ki)) (j5 (qL (vv 3) T.b_len) jk)))) (j9 (kK (QW.pt (vq (q9 hr (vv 4) (j4 wq1)) (vq (q9 hr (vv 5) (j4 wq1)) (xX (YK hr (j4 (qL (vv 0) T.b_len)) (j4 (oA ki (kx (vv 3) (vv 5))))))))) (jJ kN)) (j9 (qA nd wx0) (j9 (qF (qY (vQ (vv 0) (qW ki) wY)) (gN nd) (qj (W1 (QW.pt (vq (q9 hr (vv 7) ks) (xX (q9 hr (vv 7) ks)))) (qj (qP (jY (kx (j4 (xQ (o:=.rt) (j5 kN (j5 kS jk)))) (j4 (K8 jwf kwf (j4 (JZ hr (vv 7) ks)) T.b_int WJ)))))) (qj (W1 (q9 hr (j4 (qC ax hr (j5 (cv 7) (j5 (jY (kx (vv 3) (vv 2))) jk)))) (j4 wq1)) (jJ kN) (qj (qP (qC ax hr (j5 (cv 7) (j5 (jY (kx (vv 3) (vv 2))) jk)))))))))) (jJ (Jz (o:=.no) (j5 (jY (kx (vv 0) ki)) (j5 (cv 4) (j5 (cv 5) (j5 (qT (vv 6) T.b_tuple) jk)))))))))))))
theorem kvh(T:Txt K mg a9 ah aa am aj ai ac ak a8 af)(ax:jw9 P w K mg base):OkF P w K mg base 2 "_law_blocks" jwk ["_law_lines"] 1 ZV:=
 okF sc__law_blocks λhr=>have nd:=sc__law_blocks.nd;(j9 (qA nd (xQ (o:=.dp) jk)) (j9 (xjj (i:=1) (w:=2) (wwc #[_,_,rfl,rfl]) rfl (qY (cv 0)) (gN nd) (QW.pt (V6 (q9 hr (kx (vv 2) ki) ks) (V0 (QW.pt (vq (q9 hr (j4 (qL (vv 2) T.b_len)) ki) (xX (QW.pt (V6 (q9 hr (j4 (qL (vv 2) T.b_len)) ki) (V0 (q9 hr (kx (vv 2) ki) ks)))))))))) (q9 hr (j4 (qC ax hr (j5 (jY (kx (vv 2) ki)) (j5 kI jk)))) (j4 wq1)) kN (pv 1) (Jz (o:=.dp) (q:=false) (j5 (QE.weak (qx1 (qC ax hr (j5 (jY (kx (vv 2) ki)) (j5 kI jk))))) (j5 (QE.weak (JZ hr (j4 (qL (vv 2) T.b_len)) ki)) (j5 (QE.weak (qx1 wx0)) wj6)))) (q9 hr (j4 (qL (vv 1) T.b_len)) ki) kN (xqh (xqg (vxl K (pv 1)) (λ_ _=>rfl)) (λ_ _=>rfl)) (pv 2) jx7) (jJ (wvf (pv 1)))))
theorem jzv(T:Txt K mg a9 ah aa am aj ai ac ak a8 af)(bw:jxf P w K mg base)(cn:kxx P w K mg base)(c9:kvj P w K mg base):OkF P w K mg base 3 "_law_machine_of" jqf ["_law_text_here"] 1 jjr:=
 okF sc__law_machine_of λhr=>have nd:=sc__law_machine_of.nd;(j9 (qkt (i:=1) (o:=.rt) (k:=1) (R:=[]) ["_law_line"] nd rfl (by first|exact Or.inl rfl|exact Or.inr rfl) (qY (ZY (c:=10) (by decide +kernel) (vv 0))) (λ_ _ _ _ _=>(XQ (gn (show(["_law_line"]:List Str).Nodup by decide +kernel)))) (λ_ _ _ _ _=>vvn) (λ_ _ _ _ _=>(ZY (c:=32) (by decide +kernel) (vv 0))) JY #[_,_,rfl,rfl] ⋯ (show ∀j∈([]:List Nat) ,j<8 by decide)) (j9 (qA nd (qC bw hr (j5 (jY (kx (vv 1) ki)) jk))) (j9 (qA nd (qC cn hr (j5 (vQ (vv 1) (qW ki) wY) jk))) (j9 (kK (QW.pt (vq (wzy (vv 2) kn) (vq (wzy (vv 3) kn) (vq (Qj (j4 (qL (vv 3) T.b_len)) ki) (xX (V8 (j4 (qL (vv 3) T.b_len)) ki)))))) (jJ kN)) (j9 (qA nd (qM .rt 1 [] 8 ["_law_block"] (qY (cv 3)) (λ_ _ _ _ _=>(jY (kx (vv 0) ki))))) (j9 (qA nd wx0) (j9 (qF (KY (j4 (qL (vv 3) T.b_len)) rfl T.b_range) (gN nd) (j9 (qkt (i:=7) (o:=.rt) (k:=1) (R:=[2,6,4]) ["_law_words_here","_law_signs_here","_law_here","_law_keepers"] nd rfl (by first|exact Or.inl rfl|exact Or.inr rfl) (qY (jY (kx (kx (vv 3) (vv 6)) ki))) (λ_ _ _ _ _=>(XQ (gn (show(["_law_words_here","_law_signs_here","_law_here","_law_keepers"]:List Str).Nodup by decide +kernel)))) (λ_ _ _ _ _=>vvn) (λ_ _ _ _ _=>(qC c9 hr (j5 (cv 0) (j5 (cv 1) (j5 (cv 2) (j5 (cv 3) jk)))))) JY #[_,_,rfl,rfl] ⋯ (show ∀j∈([2,6,4]:List Nat) ,j<8 by decide)) (j9 (kK (JQ (vjr hr.units) vqr kn (vv 7) (by rfl) wxy) (jJ kN)) (qj (qP (Jz (o:=.no) (j5 (jY (kx (vv 4) (vv 6))) (j5 (jY (kx (kx (vv 3) (vv 6)) ki)) (j5 (cv 7) jk))))))))) (jJ (Jz (o:=.no) (j5 (cv 2) (j5 (cv 5) jk)))))))))))
theorem jzd(T:Txt K mg a9 ah aa am aj ai ac ak a8 af)(ao:jq2 P w K mg base):OkF P w K mg base 2 "_law_other_lines" jq4 ["_law_text_here","_law_cell"] 2 jjx:=
 okF sc__law_other_lines λhr=>have nd:=sc__law_other_lines.nd;(j9 (qA nd (ZY (c:=10) (by decide +kernel) (vv 0))) (j9 (qA nd (oM (j4 (qC ao hr (j5 (cv 1) (j5 kI jk)))) (j4 (qL (vv 2) T.b_len)))) (j9 (qA nd (oM (j4 (qC ao hr (j5 (cv 1) (j5 kI jk)))) (j4 (qL (vv 2) T.b_len)))) (j9 (qA nd (oM (j4 (qC ao hr (j5 (cv 1) (j5 kI jk)))) ki)) (j9 (W1 (q9 hr (vv 5) ki) (qj (wvl (xjf (i:=2) (Zq K Ye PySem.F.slot_list_pop PySem.F.type_list_pop vw9 (pv 2) (kX (vv 3) v6))))) (qj (W1 (q9 hr (vv 5) ki) (qj (wvi (j:=2) (pv 2) (cv 3) (jY (kx (vv 2) (vv 4))) rfl qjd)) (qj (W1 (q9 hr (vv 5) ki) (qj (wvi (j:=2) (pv 2) (cv 3) (jY (kx (j4 (xQ (o:=.rt) (j5 kS (j5 kS (j5 kS (j5 kS (j5 kS (j5 kS (j5 kS (j5 kS jk)))))))))) (j4 (oM (vv 4) ki)))) rfl qjd)) (j9 (qA nd (jY (kx (vv 2) (vv 3)))) (j9 (wj1 (i:=2) (pv 2) (vv 3) (jY (kx (vv 2) (vv 4)))) (qj (wj1 (i:=2) (pv 2) (vv 4) (cv 6)))))))))) (jJ (kw4 zW (vv 2))))))))
theorem kqg(T:Txt K mg a9 ah aa am aj ai ac ak a8 af)(bo:kj6 P w K mg base)(ao:jq2 P w K mg base):OkF P w K mg base 3 "_law_changed" jw3 ["_law_text_here","_law_cell"] 2 jku:=
 okF sc__law_changed λhr=>have nd:=sc__law_changed.nd;(j9 (qA nd (oM (j4 (qC ao hr (j5 (cv 1) (j5 kI jk)))) ki)) (j9 (qA nd (oM (j4 (qC ao hr (j5 (cv 1) (j5 kI jk)))) (j4 (oA (j4 (qL (vv 0) T.b_len)) ki)))) (j9 (qA nd kS) (j9 (qA nd (jY (kx (vv 4) (j4 (oM (j4 (qC ao hr (j5 (cv 1) (j5 kI jk)))) (j4 (qL (vv 4) T.b_len))))))) (j9 (kK (Qj (vv 2) ki) (jJ (oA (j4 (oA (j4 (vQ (vv 0) wY (qW (vv 3)))) (vv 5))) (j4 (vQ (vv 0) (qW (j4 (oA (vv 3) ki))) wY))))) (j9 (kK (q9 hr (vv 2) ki) (jJ (oA (j4 (oA (j4 (vQ (vv 0) wY (qW (vv 3)))) (vv 5))) (j4 (vQ (vv 0) (qW (vv 3)) wY))))) (j9 (kK (q9 hr (vv 2) ki) (jJ (oA (j4 (vQ (vv 0) wY (qW (vv 3)))) (j4 (vQ (vv 0) (qW (j4 (oA (vv 3) ki))) wY))))) (j9 (kK (Qj (vv 2) ki) (j9 (qA nd (ZY (c:=32) (by decide +kernel) (vv 0))) (j9 (qA nd (oA (vv 6) (j4 (xQ (o:=.rt) (j5 kS (j5 kS (j5 kS (j5 kS (j5 kS (j5 kS (j5 kS (j5 kS (j5 kS (j5 kS (j5 kS (j5 kS jk)))))))))))))))) (j9 (wj1 (i:=6) (pv 6) (j4 (oM (vv 3) (j4 (qL (vv 6) T.b_len)))) (jY (kx (vv 7) (j4 (oM (j4 (qC ao hr (j5 (cv 1) (j5 kI jk)))) (j4 (qL (vv 7) T.b_len))))))) (jJ (kw4 zW (vv 6))))))) (jJ (qC bo hr (j5 (cv 0) (j5 (cv 1) jk))))))))))))
theorem kqd(T:Txt K mg a9 ah aa am aj ai ac ak a8 af)(be:jxu P w K mg base):OkF P w K mg base 10 "_law_refused" jw0 ["_law_text_here"] 1 jks:=
 okF sc__law_refused λhr=>have nd:=sc__law_refused.nd;(j9 (qA nd Jx) (j9 (wvb (i:=2) (cs:=["NoText"]) nd rfl rfl #[_,_,rfl,rfl] T.m_NoText rfl (qqf T.e_NoText T.n_NoText T.h_NoText_NoText qxp) (wj4 be (hr.mono ⋯) (j5 (cv 0) jk)) (λx_x=>(j9 (qA nd (J5 (j4 (wvg (vv 2) T.b_isinstance (Q6 T.m_RoomError) rfl (wk5 T.n_NoText T.i_NoText_RoomError vki))) (z9 (wvg (vv 2) T.b_isinstance (vjl (v:=.ty "ValueError") rfl T.b_ValueError kxr rfl) rfl (wxa T.n_NoText T.i_NoText_ValueError vki))))) (j9 (qA nd (J5 (vv 1) (z9 (vvp (j4 (wvh (us:=[a8,ak,ac,ai]) (vv 2) T.b_isinstance (kX (Q6 T.m_NoExchange) (kX (Q6 T.m_NoFit) (kX (Q6 T.m_NoMachine) (kX (Q6 T.m_NoName) v6)))) rfl (qvy T.n_NoText (Vx T.i_NoText_NoExchange (Vx T.i_NoText_NoFit (Vx T.i_NoText_NoMachine (Vx T.i_NoText_NoName vke)))) vkj))))))) (qj (qA nd (J5 (vv 1) (z9 (vvp (j4 (wvh (us:=[aj,am,aa,ah]) (vv 2) T.b_isinstance (kX (Q6 T.m_NoRow) (kX (Q6 T.m_NoWay) (kX (Q6 T.m_NotSingle) (kX (Q6 T.m_TooGreat) v6)))) rfl (qvy T.n_NoText (Vx T.i_NoText_NoRow (Vx T.i_NoText_NoWay (Vx T.i_NoText_NotSingle (Vx T.i_NoText_TooGreat vke)))) vkj)))))))))))) (jJ (wvf (pv 1)))))
theorem wwl(T:Txt K mg a9 ah aa am aj ai ac ak a8 af)(cj:kvl P w K mg base)(db:kv7 P w K mg base)(ci:kvm P w K mg base)(bn:kjx P w K mg base)(be:jxu P w K mg base)(cb:kvk P w K mg base)(F:Fun K "law" "law" vzs f fd):FnOk P w K mg base (CXE P w) 11 f fd ["_law_script"] (spF K mg 1 m_law):=
 vqv F sc_law (qzm rfl) λdw A outer s H vs Q E hr h=>have nd:=sc_law.nd;vz2 rfl
  (j9 (qA nd (qC cj hr (j5 (vQ (vv 0) wY (qW ki)) (j5 kI jk)))) (j9 (qA nd (qC db hr (j5 (cv 1) jk))) (j9 (qF (qY (vQ (vv 0) (qW ki) (qW ki))) (gN nd) (j9 (qA nd (qC ci hr (j5 (cv 2) (j5 (cv 3) jk)))) (j9 (qA nd (qC bn hr (j5 (cv 4) jk))) (j9 (kK (QW.pt (V6 (wzy (vv 5) kn) (V0 (xz (zV (j4 (qC cb hr (j5 (cv 4) jk)))))))) (jJ Jx)) (qj (kK (QW.pt (V6 (tNoN (vv 5) kn) (V0 (YK hr (j4 (qC be hr (j5 (cv 4) jk))) (vv 5))))) (jJ Jx))))))) (jJ (J5 (j4 (JZ hr (j4 (qC be hr (j5 (cv 2) jk))) (vv 1))) (z9 (JZ hr (j4 (qC bn hr (j5 (cv 2) jk))) (vv 1)))))))) h
end
theorem all_mk{l:PySem.W.OpenLaw}{w:PySem.World}{K:Frag}{h:Heap}{mg:Str->Option Value}{fa:Addr}(X:K.In h)(G:h.Ns mainGlobals mg)(hfa:mg "law"=some (.ref fa)){i6 dm f9 fh d9 ff i5 dg:Value}{a9 ah aa am aj ai ac ak a8 af:Addr}
  (g0:Gf K "is_whole" kjf)
  (g1:Gf K "is_sign" kq1)
  (g2:Gf K "is_tuple_of" jwj)
  (g3:Gf K "are_signs" jz5)
  (g4:Gf K "is_one_of" jz3)
  (g5:Gf K "is_below" kjg)
  (g6:Gf K "is_fill" kq2)
  (g7:Gf K "are_fills" jz7)
  (g8:Gf K "is_ask" kwq)
  (g9:Gf K "is_step" kq0)
  (g10:Gf K "are_steps" jz4)
  (g11:Gf K "is_room_frame" jv4)
  (g12:Gf K "are_rooms" jz6)
  (g13:Gf K "is_machine" jx0)
  (g14:Gf K "is_number_text" jqo)
  (g15:Gf K "is_room_line" jvy)
  (g16:Gf K "read_number" jwi)
  (g17:Gf K "read_room" jz1)
  (g18:Gf K "read_ask" kje)
  (g19:Gf K "read_fill" jz2)
  (g20:Gf K "read_step" jz0)
  (g21:Gf K "read_rooms" jwz)
  (g22:Gf K "read_machine" jvx)
  (g23:Gf K "_law_cell_at" jw4)
  (g24:Gf K "_law_mixed" jx3)
  (g25:Gf K "_law_words" jx1)
  (g26:Gf K "_law_signs" jx2)
  (g27:Gf K "_law_fill" jza)
  (g28:Gf K "_law_step" jz9)
  (g29:Gf K "_law_machine" jw1)
  (g30:Gf K "_law_text" jz8)
  (g31:Gf K "_law_figures" jw2)
  (g32:Gf K "_law_signs_of" jv5)
  (g33:Gf K "_law_step_of" jvz)
  (g34:Gf K "_law_blocks" jwk)
  (g35:Gf K "_law_machine_of" jqf)
  (g36:Gf K "_law_other_lines" jq4)
  (g37:Gf K "_law_changed" jw3)
  (g38:Gf K "_law_refused" jw0)
  (g39:Gf K "law" vzs)
  (lj:nsIn K mainGlobals "LETTERS"=some (some i6)) (md:RelV (V.str "abcdefghijklmnopqrstuvwxyz") i6)
  (gi:nsIn K mainGlobals "MOST_LETTERS"=some (some dm)) (gm:RelV (V.int (8)) dm)
  (ic:nsIn K mainGlobals "MOST_SIGNS"=some (some f9)) (ib:RelV (V.int (3)) f9)
  (il:nsIn K mainGlobals "MOST_ROOMS"=some (some fh)) (ia:RelV (V.int (12)) fh)
  (gj:nsIn K mainGlobals "MOST_KEEPERS"=some (some d9)) (gu:RelV (V.int (3)) d9)
  (ie:nsIn K mainGlobals "MOST_STEPS"=some (some ff)) (i9:RelV (V.int (120)) ff)
  (lq:nsIn K mainGlobals "FIGURES"=some (some i5)) (lh:RelV (V.str "0123456789") i5)
  (gf:nsIn K mainGlobals "MOST_FIGURES"=some (some dg)) (gq:RelV (V.int (2)) dg)
  (io:nsIn K mainGlobals "ValueError"=some none)
  (u5:nsIn K mainGlobals "all"=some none)
  (rf:nsIn K mainGlobals "bool"=some none)
  (u7:nsIn K mainGlobals "int"=some none)
  (i8:nsIn K mainGlobals "isinstance"=some none)
  (uw:nsIn K mainGlobals "len"=some none)
  (qh:nsIn K mainGlobals "list"=some none)
  (o7:nsIn K mainGlobals "range"=some none)
  (uf:nsIn K mainGlobals "set"=some none)
  (my:nsIn K mainGlobals "sorted"=some none)
  (ug:nsIn K mainGlobals "str"=some none)
  (wb:nsIn K mainGlobals "sum"=some none)
  (o9:nsIn K mainGlobals "tuple"=some none)
  (n_NoText:nsIn K mainGlobals "NoText"=some (some (.ref a9)))
  (lm:PySem.W.excIn K a9 bmV "ValueError.__new__"=true) (lu:findIn K (.ref a9) "__getattribute__"=some (some (.builtin "BaseException.__getattribute__"))) (li:findIn K (.ref a9) "__getattr__"=some none) (ku:findIn K (.ref a9) "__class__"=some (some (.builtin "object.__class__"))) (km:PySem.W.specialIn K (.builtin "object.__class__") "__get__"=some (some (.builtin "getset_descriptor.__get__"))) (ly:PySem.W.takesIn K (.builtin "object.__class__")=some true) (lx:PySem.W.mroIn K a9 (.type "object")=some true) (ko:PySem.W.mroIn K a9 (.type "BaseException")=some true) (ll:PySem.W.isClsIn K a9=true)
  (n_TooGreat:nsIn K mainGlobals "TooGreat"=some (some (.ref ah)))
  (n_NotSingle:nsIn K mainGlobals "NotSingle"=some (some (.ref aa)))
  (n_NoWay:nsIn K mainGlobals "NoWay"=some (some (.ref am)))
  (n_NoRow:nsIn K mainGlobals "NoRow"=some (some (.ref aj)))
  (n_NoName:nsIn K mainGlobals "NoName"=some (some (.ref ai)))
  (n_NoMachine:nsIn K mainGlobals "NoMachine"=some (some (.ref ac)))
  (n_NoFit:nsIn K mainGlobals "NoFit"=some (some (.ref ak)))
  (n_NoExchange:nsIn K mainGlobals "NoExchange"=some (some (.ref a8)))
  (n_RoomError:nsIn K mainGlobals "RoomError"=some (some (.ref af)))
  (h_NoText_NoText:PySem.W.exmOne K (.ref a9) (.ref a9)=some true)
  (i_NoText_TooGreat:kitOne K (.ref a9) (.ref ah)=some false)
  (i_NoText_NotSingle:kitOne K (.ref a9) (.ref aa)=some false)
  (i_NoText_NoWay:kitOne K (.ref a9) (.ref am)=some false)
  (i_NoText_NoRow:kitOne K (.ref a9) (.ref aj)=some false)
  (i_NoText_NoName:kitOne K (.ref a9) (.ref ai)=some false)
  (i_NoText_NoMachine:kitOne K (.ref a9) (.ref ac)=some false)
  (i_NoText_NoFit:kitOne K (.ref a9) (.ref ak)=some false)
  (i_NoText_NoExchange:kitOne K (.ref a9) (.ref a8)=some false)
  (i_NoText_ValueError:kitOne K (.ref a9) (.type "ValueError")=some true)
  (i_NoText_RoomError:kitOne K (.ref a9) (.ref af)=some true)
  : ∃fd:FuncData,(∀(s:Shared) (v:Value),BindsTo s fd #[[v],[]] [("_law_script",v)])/\∀base:Heap,K.In base->base.Ns mainGlobals mg->FnOk l.prog w K mg base (CXE l.prog w) 11 fa fd ["_law_script"] (spF K mg 1 m_law):=by
 have T:Txt K mg a9 ah aa am aj ai ac ak a8 af:=#[Xz X G io,Xz X G u5,Xz X G rf,Xz X G u7,Xz X G i8,Xz X G uw,Xz X G qh,Xz X G o7,Xz X G uf,Xz X G my,Xz X G ug,Xz X G wb,Xz X G o9,#[_,Xy X G lj,md],#[_,Xy X G gi,gm],#[_,Xy X G ic,ib],#[_,Xy X G il,ia],#[_,Xy X G gj,gu],#[_,Xy X G ie,i9],#[_,Xy X G lq,lh],#[_,Xy X G gf,gq],n_NoText,Xy X G n_NoText,#[Xy X G n_NoText,lm,vzd lu li ku km ly lx ko ll],n_TooGreat,Xy X G n_TooGreat,n_NotSingle,Xy X G n_NotSingle,n_NoWay,Xy X G n_NoWay,n_NoRow,Xy X G n_NoRow,n_NoName,Xy X G n_NoName,n_NoMachine,Xy X G n_NoMachine,n_NoFit,Xy X G n_NoFit,n_NoExchange,Xy X G n_NoExchange,n_RoomError,Xy X G n_RoomError,h_NoText_NoText,i_NoText_TooGreat,i_NoText_NotSingle,i_NoText_NoWay,i_NoText_NoRow,i_NoText_NoName,i_NoText_NoMachine,i_NoText_NoFit,i_NoText_NoExchange,i_NoText_ValueError,i_NoText_RoomError];refine g39.law X G hfa fun {base _ _} F=>?_
 have eq:kwg l.prog w K mg base:=g0.d X G (qq1 T  _ _);have fu:qka l.prog w K mg base:=g1.d X G (qx7 T  _ _);have aw:jqa l.prog w K mg base:=g2.d X G (kvg T  _ _);have dh:=g3.d X G (qj4 T fu _ _);have bg:jwq l.prog w K mg base:=g4.d X G (qj2 T  _ _);have ba:=g5.d X G (qq2 T eq _ _);have fq:=g6.d X G (qx8 T bg ba _ _);have dk:=g7.d X G (qj6 T aw fq _ _);have gh:=g8.d X G (vju T bg ba _ _);have fv:=g9.d X G (qx6 T dk aw bg gh ba _ _);have df:=g10.d X G (qj3 T fv _ _);have c8:=g11.d X G (kka T aw ba _ _);have d8:=g12.d X G (qj5 T df c8 _ _);have cz:=g13.d X G (kx1 T aw dh d8 _ _);have bu:jwv l.prog w K mg base:=g14.d X G (kjk T  _ _);have cf:jxv l.prog w K mg base:=g15.d X G (kqb T  _ _);have av:=g16.d X G (kvf T bu _ _);have dj:=g17.d X G (qj0 T av _ _);have dz:=g18.d X G (qq0 T av _ _);have de:=g19.d X G (qj1 T av _ _);have d6:=g20.d X G (kzz T dz av de _ _);have d3:=g21.d X G (kx0 T cf dj d6 _ _);have be:=g22.d X G (kqa T d3 cz _ _);have bh:jxw l.prog w K mg base:=g23.d X G (kqh T  _ _);have ao:jq2 l.prog w K mg base:=g24.d X G (kx4 T  _ _);have cw:=g25.d X G (kx2 T ao _ _);have d4:=g26.d X G (kx3 T cw _ _);have d7:kv8 l.prog w K mg base:=g27.d X G (qj9 T  _ _);have d5:=g28.d X G (qj8 T ao d7 _ _);have cj:=g29.d X G (kqe T ao d4 bh d5 _ _);have db:kv7 l.prog w K mg base:=g30.d X G (qj7 T  _ _);have ax:jw9 l.prog w K mg base:=g31.d X G (kqf T  _ _);have bw:jxf l.prog w K mg base:=g32.d X G (kkb T  _ _);have c9:=g33.d X G (kqc T ax _ _);have cn:=g34.d X G (kvh T ax _ _);have bn:=g35.d X G (jzv T bw cn c9 _ _);have bo:=g36.d X G (jzd T ao _ _);have ci:=g37.d X G (kqg T bo ao _ _);have cb:=g38.d X G (kqd T be _ _);exact wwl T cj db ci bn be cb F
end Nk13
namespace PySem.W.Fast
theorem tw13743787688259339388:True:=#[]
theorem tw16441834968060265303:True:=#[]
theorem tw7790584659551160640:True:=#[]
theorem tw16086730755688936273:True:=#[]
theorem tw7644037830543142376:True:=#[]
theorem tw1863460470706958691:True:=#[]
theorem tw1616325045276010974:True:=#[]
theorem tw5826988134251556641:True:=#[]
theorem tw16194646266521764140:True:=#[]
theorem tw10160603623109361467:True:=#[]
theorem tw14724774574495070501:True:=#[]
theorem tw7050074039886125097:True:=#[]
theorem tw6677068327795157184:True:=#[]
theorem tw13791727998896716015:True:=#[]
theorem tw556570380372704028:True:=#[]
theorem tw17456630516386068927:True:=#[]
theorem tw12735323006231176162:True:=#[]
theorem tw17145337439998118108:True:=#[]
theorem tw17262285490137533245:True:=#[]
theorem tw4274820034922924191:True:=#[]
theorem tw15754361345911480232:True:=#[]
theorem tw11643115049855573915:True:=#[]
theorem tw3943606427013275101:True:=#[]
theorem tw6047705095749491905:True:=#[]
theorem tw17966065564323345651:True:=#[]
theorem tw5166269163428505199:True:=#[]
theorem tw6446468609963394475:True:=#[]
theorem tw1725525483601301912:True:=#[]
theorem tw16713881173968385163:True:=#[]
theorem tw2986567180021450970:True:=#[]
theorem tw9687693882130374375:True:=#[]
theorem tw13669963282433102613:True:=#[]
theorem tw3319607955069495863:True:=#[]
theorem tw10019880058035131653:True:=#[]
theorem tw12511080237684300756:True:=#[]
theorem tw12599112198676884365:True:=#[]
theorem tw12958413151015131281:True:=#[]
theorem tw8009490528555140922:True:=#[]
theorem tw16413039936744726712:True:=#[]
theorem tw14121465230727748592:True:=#[]
theorem tw12257215385834533904:True:=#[]
theorem tw18368860185578885913:True:=#[]
theorem tw9408692048904708437:True:=#[]
theorem tw6759475801212520676:True:=#[]
theorem tw17190438560585294705:True:=#[]
theorem tw12232838763279459922:True:=#[]
theorem tw17500088139412149566:True:=#[]
theorem tw11878617279479267674:True:=#[]
theorem tw16596049249984940625:True:=#[]
theorem tw16945740338363982158:True:=#[]
theorem tw14046972937376031235:True:=#[]
theorem tw9292255306426648381:True:=#[]
theorem tw6845492651524645136:True:=#[]
theorem tw15970149031962218751:True:=#[]
theorem tw14652723163664809646:True:=#[]
theorem tw5352991984145186740:True:=#[]
theorem tw8842215819674227390:True:=#[]
theorem tw17546209464726016066:True:=#[]
theorem tw7713801105611392098:True:=#[]
theorem tw10080527096323306846:True:=#[]
theorem tw2346871694880185804:True:=#[]
theorem tw15947338321134499154:True:=#[]
theorem tw10093950013672608899:True:=#[]
theorem tw16834373038446388983:True:=#[]
theorem tw15674998898732705065:True:=#[]
theorem tw3270339674537003154:True:=#[]
theorem tw16999311985597718228:True:=#[]
theorem tw14725747927474753398:True:=#[]
theorem tw2490367978003410785:True:=#[]
theorem tw9236252106010944848:True:=#[]
theorem tw9739700795812656224:True:=#[]
theorem tw9048102219173787002:True:=#[]
theorem tw13615618107778251161:True:=#[]
theorem tw17474124509086812695:True:=#[]
theorem tw4554642179237107662:True:=#[]
theorem tw10068307283746469581:True:=#[]
theorem tw2272703313755145594:True:=#[]
theorem tw4388037869015864551:True:=#[]
theorem tw15873310888049248344:True:=#[]
theorem tw7040391100906457520:True:=#[]
theorem tw8815310200805656875:True:=#[]
theorem tw14136194092287779877:True:=#[]
theorem tw12567644869775562047:True:=#[]
theorem tw12195120004263002862:True:=#[]
theorem tw14120579648181875791:True:=#[]
theorem tw18152589259082067942:True:=#[]
theorem tw11849803041501564622:True:=#[]
theorem tw6224475571670719881:True:=#[]
theorem tw1049346827772570656:True:=#[]
theorem tw18222941540507800264:True:=#[]
theorem tw8862571596355954068:True:=#[]
theorem tw1754849311695893061:True:=#[]
theorem tw18362980372292918728:True:=#[]
theorem tw8641210639639453250:True:=#[]
theorem tw8650556410693924528:True:=#[]
theorem tw14056816002017568401:True:=#[]
theorem tw3028368935548644147:True:=#[]
theorem tw5323493747491302150:True:=#[]
theorem tw14276398448538089548:True:=#[]
theorem tw6503475216276220249:True:=#[]
theorem tw5776175333296115186:True:=#[]
theorem tw11942905387216509112:True:=#[]
theorem tw11647885545344707211:True:=#[]
theorem tw11820293137543228756:True:=#[]
theorem tw9436888357818066897:True:=#[]
theorem tw3975670790905437764:True:=#[]
theorem tw6840481884172135310:True:=#[]
theorem tw17857075192468164473:True:=#[]
theorem tw3809280753783004194:True:=#[]
theorem tw6864772617151412097:True:=#[]
theorem tw16285154906549829574:True:=#[]
theorem tw6557992865034408723:True:=#[]
theorem tw3324869924852003616:True:=#[]
theorem tw13409076015666508108:True:=#[]
theorem tw15049847468086808467:True:=#[]
theorem tw18403848120713813332:True:=#[]
theorem tw15629077988472052522:True:=#[]
theorem tw8610042692705096373:True:=#[]
theorem tw11030726222562310888:True:=#[]
theorem tw8707821541847602258:True:=#[]
theorem tw15306094623262075817:True:=#[]
theorem tw18092883967280867658:True:=#[]
theorem tw466217954139145800:True:=#[]
theorem tw16917641748683202302:True:=#[]
theorem tw15815745216898963271:True:=#[]
theorem tw7769072200075228246:True:=#[]
theorem tw12426840086906523271:True:=#[]
theorem tw3408307026076975700:True:=#[]
theorem tw1762119078107223136:True:=#[]
theorem tw3018919961320744782:True:=#[]
theorem tw17885785746945376336:True:=#[]
theorem tw14428437327909067913:True:=#[]
theorem tw269864172212783041:True:=#[]
theorem tw12954798518413978684:True:=#[]
theorem tw3340245772281035534:True:=#[]
theorem tw4674457116217211026:True:=#[]
theorem tw4251935811146072171:True:=#[]
theorem tw11036336802034556211:True:=#[]
theorem tw11972249262530837758:True:=#[]
theorem tw12873325645728600801:True:=#[]
theorem tw8795403632104829249:True:=#[]
theorem tw12416464991396891150:True:=#[]
theorem tw15663997354208419379:True:=#[]
theorem tw13800080053927818688:True:=#[]
theorem tw17603010794274537396:True:=#[]
theorem tw12074125838307074809:True:=#[]
theorem tw14334466892209323840:True:=#[]
theorem tw15468603241440779865:True:=#[]
theorem tw13880006216991230286:True:=#[]
theorem tw17488954519908140832:True:=#[]
theorem tw15146569232247352310:True:=#[]
theorem tw13344781949260546578:True:=#[]
theorem tw10083620500308024910:True:=#[]
theorem tw14871073551810852373:True:=#[]
theorem tw18232807416243714660:True:=#[]
theorem tw1810915603474461360:True:=#[]
theorem tw4050106090871746995:True:=#[]
end PySem.W.Fast
open PySem PySem.W PyProof.Rows
set_option maxRecDepth 100000 in
set_option maxHeartbeats 0 in
set_option tactic.hygienic true in
theorem PySem.Challenge.cw_freshrooms_k13_texts_of_no_machine_holds : PySem.Challenge.rw_freshrooms_k13_texts_of_no_machine.Holds := by
 w_on;o_law;k_head;(case hw=>w_witness2)
 k_fill
 refine Q.walkQ (l:=PySem.Challenge.rw_freshrooms_k13_texts_of_no_machine) (n:=63) (k:=11) (x:="_law_script") (f:=Nk13.m_law) rfl ⋯ rfl #[rfl,⋯,⋯,rfl] (fun w h Y=>PySem.W.kIn_of Y) ?F Nk13.law_true
 case F =>
  intro w mg fa h KX G hmg
  refine' Nk13.all_mk KX G hmg ?_ ?_ ?_ ?_ ?_ ?_ ?_ ?_ ?_ ?_ ?_ ?_ ?_ ?_ ?_ ?_ ?_ ?_ ?_ ?_ ?_ ?_ ?_ ?_ ?_ ?_ ?_ ?_ ?_ ?_ ?_ ?_ ?_ ?_ ?_ ?_ ?_ ?_ ?_ ?_ ?y0 ?y1 ?y2 ?y3 ?y4 ?y5 ?y6 ?y7 ?y8 ?y9 ?y10 ?y11 ?y12 ?y13 ?y14 ?y15 ?y16 ?y17 ?y18 ?y19 ?y20 ?y21 ?y22 ?y23 ?y24 ?y25 ?y26 ?y27 ?y28 ?y29 ?y30 ?y31 ?y32 ?y33 ?y34 ?y35 ?y36 ?y37 ?y38 ?y39 ?y40 ?y41 ?y42 ?y43 ?y44 ?y45 ?y46 ?y47 ?y48 ?y49 ?y50 ?y51 ?y52 ?y53 ?y54 ?y55 ?y56 ?y57 ?y58
  all_goals try (refine' Q.Gf.mk ?a ?b ?c ?d;(case a=>k_is);(case b=>k_is);(case c=>k_is);(case d=>k_is))
  case y0 | y2 | y4 | y6 | y8 | y10 | y12 | y14 | y16 | y17 | y18 | y19 | y20 | y21 | y22 | y23 | y24 | y25 | y26 | y27 | y28 | y29 | y39 | y40 | y41 | y42 | y43 | y44 | y45 | y46 | y47=>k_is
  case y1 | y3 | y5 | y7 | y9 | y11 | y13 | y15=>exact #[_,rfl]
  case y30=>k_exc
  case y31 | y32 | y33 | y34 | y35 | y36 | y37 | y38=>k_is
  case y49 | y50 | y51 | y52 | y53 | y54 | y55 | y56 | y57 | y58=>kit_is
  case y48=>kts_exm
