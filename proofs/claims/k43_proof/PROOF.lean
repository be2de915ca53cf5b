import PyProof.Rows.All
import Wide.All
import OpenK.AllK
import Wide.FinOn
import Lean
import PySem.Challenge.RW_freshrooms_k43_made_alike
open PySem.W(Frag kitOne nsIn findIn)
set_option Elab.async false
set_option linter.all false
set_option bootstrap.genMatcherCode false
set_option compiler.extract_closed false
set_option maxRecDepth 100000
set_option tactic.hygienic false
local macro_rules|`(#[$a,*])=>`(⟨$a,*⟩)
local macro_rules|`(⋯)=>`(by first|decide|lia)
local macro_rules|`(tactic|ac_rfl)=>`(tactic|with_unfolding_all rfl)
local macro_rules|`(tactic|exists$e)=>`(tactic|with_unfolding_all exact$e)
local macro_rules|`($a<|>$b)=>`(autoParam $a $b)
local macro_rules|`(~~~$e)=>`(by simpa using$e)
local macro_rules|`(⇑$e)=>`(some $e)
local macro_rules|`(↥$s)=>`(($s).heap.objs.size)
local macro_rules|`(%[$a,*|0])=>`(List.toArray [$a,*])
set_option hygiene false in
local macro_rules|`(∅)=>`(_root_.PySem.wpAny (model X.prog X.w) X.A)
local macro_rules|`(#where)=>`(set_option tactic.hygienic true)
local macro_rules|`($d:declaration)=>if d.1.getPos?.isNone then throw .unsupportedSyntax else pure (d.1.rewriteBottomUp (·.setInfo .none))
local macro_rules|`(def$n$s:optDeclSig$v)=>do
 let a:=s.raw[1][0]
 if a.isMissing||("Bool Int Prop V Hp List Heap Option TIp LA9 R2 St Cx Nat Arguments Scope CXT Ex Own String Ts Ev Sm En Fn Type HO Sl TE TT TS TI TG TGs HeapKind TA Sp D TO Obj Sn Stmt Decidable".splitOn " ").contains (((a[1].reprint.getD "").splitOn "->").getLast!.trim.splitOn " ").head! then `(noncomputable def$n$s:optDeclSig$v)else
 let s:=⟨Lean.mkNode ``Lean.Parser.Command.declSig (List.toArray [s.raw[0],a])⟩
 `(theorem$n$s:declSig$v)
local macro_rules|`(abbrev$n$s:optDeclSig$v)=>`(noncomputable abbrev$n$s:optDeclSig$v)
noncomputable section
abbrev VP9:=PySem.Value->PySem.Shared->Prop
abbrev LA9:=List (PySem.Addr×PySem.Obj)
abbrev Kq9(k:List Int):=∀p∈k,0<=p/\p<=3
def aA{α}{a:α}{s t:List α}:a∈s++t->a∈s∨a∈t:=List.mem_append.mp
def aB{α}{a b:α}:a=b->a∈[b]:=List.mem_singleton.mpr
def aC{α}{a b:α}:a∈[b]->a=b:=List.mem_singleton.mp
def aD{α}{a b:α}{l:List α}:a∈b::l->a=b∨a∈l:=List.mem_cons.mp
def aF{α}{a:α}{l:List α}{i:Nat}:l[i]?=some a->∃h:i<l.length,l[i]=a:=List.getElem?_eq_some_iff.mp
def aE{α β}{f:α->β}{l:List α}{b:β}:b∈l.map f->∃a,a∈l∧f a=b:=List.mem_map.mp
def Ŕq(_:True:=by rfl):True:=trivial
def Ŕq.z:True:=trivial
open Ŕq renaming _auto_1→Ŕ
def ŕq(_:True:=by decide):True:=trivial
def ŕq.z:True:=trivial
open ŕq renaming _auto_1→ŕ
def Ŗq(_:True:=by intro _;rfl):True:=trivial
def Ŗq.z:True:=trivial
open Ŗq renaming _auto_1→Ŗ
def ŗq(_:True:=by decide +kernel):True:=trivial
def ŗq.z:True:=trivial
open ŗq renaming _auto_1→ŗ
def Řq(_:True:=by first|exact .inl rfl|exact .inr rfl|assumption):True:=trivial
def Řq.z:True:=trivial
open Řq renaming _auto_1→Ř
def řq(_:True:=by first|exact Or.inl rfl|exact Or.inr (Or.inl rfl)|exact Or.inr (Or.inr rfl)):True:=trivial
def řq.z:True:=trivial
open řq renaming _auto_1→ř
def Śq(_:True:=by first|exact Or.inl rfl|exact Or.inr rfl):True:=trivial
def Śq.z:True:=trivial
open Śq renaming _auto_1→Ś
def śq(_:True:=by first|exact .inl rfl|exact .inr rfl):True:=trivial
def śq.z:True:=trivial
open śq renaming _auto_1→ś
def _aa{α : Type _}{a b : α}(h:⇑a=⇑b):a=b:=Option.some.inj h
def _ab{α : Type _}{a : α}{b : List α}(c : List α)(h:a ∈ b):a ∈ c ++ b:=List.mem_append_right c h
def _ac{α : Type _}{a : α}{b : List α}(c : List α)(h:a ∈ b):a ∈ b ++ c:=List.mem_append_left c h
def _ad{α : Type _}{a : α}{l : List α}(b : α)(h:a ∈ l):a ∈ b::l:=List.mem_cons_of_mem b h
namespace _a
open PySem PySem.Spec PyProof.Rows
def X0:type_of% @wpAny_bind:=@wpAny_bind
def X1:type_of% @List.getElem?_eq_getElem:=@List.getElem?_eq_getElem
def X2:type_of% @List.getD_eq_getElem?_getD:=@List.getD_eq_getElem?_getD
def X3:type_of% @Heap.get?_push_of_some:=@Heap.get?_push_of_some
def X4:type_of% @List.length_map:=@List.length_map
def X5:type_of% @List.mem_cons_self:=@List.mem_cons_self
def X6:type_of% @wpAny_pure:=@wpAny_pure
def X7:type_of% @List.map_append:=@List.map_append
def X8:type_of% @List.size_toArray:=@List.size_toArray
def X9:type_of% @Heap.get?_push_size:=@Heap.get?_push_size
def Xa:type_of% @List.nodup_append:=@List.nodup_append
def Xb:type_of% @if_pos:=@if_pos
def Xd:type_of% @Nat.le_refl:=@Nat.le_refl
def Xe:type_of% @List.length_append:=@List.length_append
def Xf:type_of% @Heap.lt_size:=@Heap.lt_size
def Xg:type_of% @decide_eq_true:=@decide_eq_true
def Xh:type_of% @List.getElem?_map:=@List.getElem?_map
def Xi:type_of% @List.map_map:=@List.map_map
def Xj:type_of% @if_neg:=@if_neg
def Xk:type_of% @Nat.ne_of_lt:=@Nat.ne_of_lt
def Xl:type_of% @decide_eq_false:=@decide_eq_false
def Xm:type_of% @List.length_cons:=@List.length_cons
def Xn:type_of% @List.getElem_mem:=@List.getElem_mem
def Xp:type_of% @List.nodup_nil:=@List.nodup_nil
noncomputable def Xq:type_of% @Nat.lt_of_lt_of_le:=@Nat.lt_of_lt_of_le
def Xr:type_of% @List.getElem?_append_left:=@List.getElem?_append_left
def Xs:type_of% @List.append_assoc:=@List.append_assoc
def Xu:type_of% @Int.toNat_natCast:=@Int.toNat_natCast
def Xv:type_of% @List.append_nil:=@List.append_nil
def Xw:type_of% @PySem.W.mg_none_of:=@PySem.W.mg_none_of
def Xx:type_of% @List.mem_map_of_mem:=@List.mem_map_of_mem
def Xy:type_of% @Heap.get?_update_self:=@Heap.get?_update_self
def Xz:type_of% @List.getElem?_eq_none:=@List.getElem?_eq_none
def Y0:type_of% @PyProof.Rows.callWith_type1:=@PyProof.Rows.callWith_type1
def Y1:type_of% @Nat.zero_le:=@Nat.zero_le
def Y2:type_of% @beq_false_of_ne:=@beq_false_of_ne
def Y3:type_of% @wpAny_call_entry:=@wpAny_call_entry
def Y4:type_of% @Array.length_toList:=@Array.length_toList
def Y5:type_of% @List.map_congr_left:=@List.map_congr_left
def Y6:type_of% @List.not_mem_nil:=@List.not_mem_nil
def Y7:type_of% @List.length_range:=@List.length_range
def Y8:type_of% @List.getElem?_append_right:=@List.getElem?_append_right
def Y9:type_of% @List.length_singleton:=@List.length_singleton
def Ya:type_of% @wpAny_holding:=@wpAny_holding
def Yb:type_of% @Heap.SameBut.update:=@Heap.SameBut.update
def Yc:type_of% @wpAny_newObj_type:=@wpAny_newObj_type
def Yd:type_of% @Nat.le_trans:=@Nat.le_trans
def Ye:type_of% @PySem.W.kia_one:=@PySem.W.kia_one
def Yf:type_of% @wpAny_callSpecial?_slot:=@wpAny_callSpecial?_slot
def Yg:type_of% @List.filter_cons_of_pos:=@List.filter_cons_of_pos
def Yh:type_of% @Heap.get?_none_of_le:=@Heap.get?_none_of_le
def Yi:type_of% @List.filter_append:=@List.filter_append
def Yj:type_of% @List.getElem_of_mem:=@List.getElem_of_mem
def Yk:type_of% @List.filter_cons_of_neg:=@List.filter_cons_of_neg
def Yl:type_of% @Int.emod_lt_of_pos:=@Int.emod_lt_of_pos
def Ym:type_of% @Nat.lt_irrefl:=@Nat.lt_irrefl
def Yn:type_of% @List.nodup_cons:=@List.nodup_cons
def Yo:type_of% @of_decide_eq_true:=@of_decide_eq_true
def Yp:type_of% @Array.getElem?_toList:=@Array.getElem?_toList
noncomputable def Yq:type_of% @List.mem_cons:=@List.mem_cons
def Yr:type_of% @wpAny_setField:=@wpAny_setField
def Ys:type_of% @List.map_inj_right:=@List.map_inj_right
def Yt:type_of% @List.getElem?_set_ne:=@List.getElem?_set_ne
def Yu:type_of% @List.mem_of_getElem?:=@List.mem_of_getElem?
def Yv:type_of% @Option.isSome_map:=@Option.isSome_map
def Yw:type_of% @List.findIdx_lt_length_of_exists:=@List.findIdx_lt_length_of_exists
def Yx:type_of% @PySem.mem_of_lookup:=@PySem.mem_of_lookup
def Yy:type_of% @wpAny_field:=@wpAny_field
def Yz:type_of% @List.foldl_cons:=@List.foldl_cons
def Z0:type_of% @wpAny_specialOf:=@wpAny_specialOf
def Z1:type_of% @Int.emod_nonneg:=@Int.emod_nonneg
def Z2:type_of% @Array.getElem?_eq_getElem:=@Array.getElem?_eq_getElem
def Z3:type_of% @wpAny_Call_Name_kw:=@wpAny_Call_Name_kw
def Z4:type_of% @List.length_take:=@List.length_take
def Z5:type_of% @wpAny_truthy_bool:=@wpAny_truthy_bool
def Z6:type_of% @Nat.lt_succ_of_lt:=@Nat.lt_succ_of_lt
def Z7:type_of% @codeAny_builtin:=@codeAny_builtin
def Z8:type_of% @Heap.get?_update_ne:=@Heap.get?_update_ne
def Z9:type_of% @Heap.get?_update_other:=@Heap.get?_update_other
def Za:type_of% @List.all_eq_true:=@List.all_eq_true
def Zb:type_of% @Heap.size_push:=@Heap.size_push
def Zc:type_of% @Obj.data_mapFields:=@Obj.data_mapFields
def Zd:type_of% @List.length_replicate:=@List.length_replicate
def Ze:type_of% @Obj.isFreed_of_fields:=@Obj.isFreed_of_fields
def Zf:type_of% @wpAny_passesOwn:=@wpAny_passesOwn
def Zg:type_of% @wpAny_pyIter_list:=@wpAny_pyIter_list
def Zh:type_of% @wpAny_setState_of:=@wpAny_setState_of
def Zi:type_of% @True.intro:=@True.intro
def Zj:type_of% @List.any_cons:=@List.any_cons
def Zk:type_of% @Nat.ne_of_gt:=@Nat.ne_of_gt
def Zl:type_of% @wpAny_rule:=@wpAny_rule
end _a
open _a
noncomputable section
namespace L2
open PySem PySem.Spec PyProof.Rows
abbrev Key:=Sum Int Str
def YQ:Key->Value->Bool
 |.inl k,v=>Value.isInt k v|.inr x,v=>Value.isStrOf x v
def keyH(w:World):Key->Int
 |.inl k=>hashInt k|.inr x=>hashStr w x
def Q4:∀{k v},YQ k v=true->(∃i t,k=Sum.inl i/\v=Value.int i t)\/(∃x t,k=Sum.inr x/\v=Value.str x t)
 |.inl i,v,h=>by
  obtain⟨t,e⟩:=Value.isInt_shape h;exact .inl #[i,t,rfl,e]
 |.inr x,v,h=>by
  obtain⟨t,e⟩:=Value.isStrOf_shape h;exact .inr #[x,t,rfl,e]
def _ae i t:YQ (.inl i) (.int i t)=true:=by simp[YQ,Value.isInt]
def _af x t:YQ (.inr x) (.str x t)=true:=by simp[YQ,Value.isStrOf]
def _ag(a b):decide ((Sum.inl a:Key)=Sum.inl b)=(a==b):=by
 by_cases e:a=b
 ·subst e;simp
 ·grind
def _ah(a b):decide ((Sum.inr a:Key)=Sum.inr b)=decide (a=b):=by
 by_cases e:a=b
 ·subst e;simp
 ·grind
def _ai a b:decide ((Sum.inl a:Key)=Sum.inr b)=false:=Xl (nofun)
def _aj a b:decide ((Sum.inr a:Key)=Sum.inl b)=false:=Xl (nofun)
noncomputable def xj(prog:Program)(w:World):PySem.KeyKind prog w Key where
 is:=YQ
 hash:=keyH w
 inj:=λv a b ha hb=>by
  rcases Q4 ha with⟨i,t,rfl,rfl⟩|⟨x,t,rfl,rfl⟩
  ·rcases Q4 hb with⟨j,u,rfl,e⟩|⟨y,u,rfl,e⟩
   ·injection e with e1 _;rw[e1]
   ·exact nomatch e
  ·rcases Q4 hb with⟨j,u,rfl,e⟩|⟨y,u,rfl,e⟩
   ·exact nomatch e
   ·injection e with e1 _;rw[e1]
 byValue:=λk v h=>by
  rcases Q4 h with⟨i,t,rfl,rfl⟩|⟨x,t,rfl,rfl⟩<;>rfl
 pyHash:=λhv h=>by
  rcases Q4 hv with⟨i,t,rfl,rfl⟩|⟨x,t,rfl,rfl⟩
  ·exact wpAny_pyHash_int h
  ·exact wpAny_pyHash_str h
 eqBool:=λhu hv h=>by
  rcases Q4 hu with⟨i,t,rfl,rfl⟩|⟨x,t,rfl,rfl⟩
  ·rcases Q4 hv with⟨j,u,rfl,rfl⟩|⟨y,u,rfl,rfl⟩
   ·rw[_ag]at h;exact wpAny_eqBool_int h
   ·rw[_ai]at h;exact SeqAt.EqAt.int_str i t y u _ _ _ _ h
  ·rcases Q4 hv with⟨j,u,rfl,rfl⟩|⟨y,u,rfl,rfl⟩
   ·rw[_aj]at h;exact SeqAt.EqAt.str_int x t j u _ _ _ _ h
   ·rw[_ah]at h;exact wpAny_eqBool_str h
 «strs»:=λk x t v h=>by
  rcases Q4 h with⟨i,u,rfl,e⟩|⟨y,u,rfl,e⟩
  ·exact nomatch e
  ·injection e with e1 _;subst e1;cases v<;>rfl
def _ak prog w i t:(xj prog w).is (.inl i) (.int i t)=true:=_ae i t
def _al prog w x t:(xj prog w).is (.inr x) (.str x t)=true:=_af x t
inductive V where
 |non|bl (b:Bool)|int (i:Int)|str (x:Str)|byt (b:Array UInt8)|flt (b:UInt64)|ref (a:Addr)|ty (n:String)
 deriving DecidableEq
def RelV:V->Value->Prop
 |.non,u=>u=Value.none|.bl b,u=>u=Value.bool b|.int i,u=>∃t,u=Value.int i t|.str x,u=>∃t,u=Value.str x t|.byt b,u=>∃t,u=Value.bytes b t|.flt b,u=>∃t,u=Value.float b t|.ref a,u=>u=Value.ref a|.ty n,u=>u=Value.type n
abbrev Vals:List V->List Value->Prop:=Paired RelV
def Vals.length{xs us}(r:Vals xs us):xs.length=us.length:=Paired.length r
def Vals.get:∀{xs us} {i:Nat} {x},Vals xs us->xs[i]?=⇑x->∃u,us[i]?=⇑u/\RelV x u
 |_,_,_,_,.nil,e=>by simp at e|_,_,0,_,.cons r _,e=>by simp at e;subst e;exact#[_,rfl,r]
 |_,_,i+1,x,.cons _ t,e=>by
  obtain⟨u,h1,h2⟩:=Vals.get t (~~~e);exact#[u,~~~h1,h2]
def Vals.set{x u}(r:RelV x u):∀{xs us} (i),Vals xs us->Vals (xs.set i x) (us.set i u)
 |_,_,_,.nil=>.nil|_,_,0,.cons _ t=>.cons r t|_,_,i+1,.cons q t=>.cons q (Vals.set r i t)
def Vals.append:∀{xs ys us ws},Vals xs us->Vals ys ws->Vals (xs++ys) (us++ws)
 |_,_,_,_,.nil,s=>s|_,_,_,_,.cons r t,s=>.cons r (Vals.append t s)
def Vals.take:∀{xs us} (n),Vals xs us->Vals (xs.take n) (us.take n)
 |_,_,0,_=>.nil|_,_,_+1,.nil=>.nil|_,_,n+1,.cons r t=>.cons r (Vals.take n t)
def Vals.drop:∀{xs us} (n),Vals xs us->Vals (xs.drop n) (us.drop n)
 |_,_,0,r=>r|_,_,_+1,.nil=>.nil|_,_,n+1,.cons _ t=>Vals.drop n t
def RelO:Option V->Option Value->Prop
 |some v,⇑u=>RelV v u|none,none=>True|_,_=>False
def KV{κ:Type}:List (κ×V)->List (κ×Value)->Prop:=Paired λ(p:κ×V) (q:κ×Value)=>p.1=q.1/\RelV p.2 q.2
def kV:Key->V
 |.inl i=>.int i|.inr x=>.str x
inductive HO where
 |lst (xs:List V)
 |tup (xs:List V)
 |dK (kvs:List (Key×V))|dT (kvs:List (List Key×V))
 |set (S:Int->Bool) (n:Nat)
 |ins (C dx:Addr) (fs:List (Str×V))
 |own (x:Addr)
 |xd (fs:List (Str×V))
 |met (f x:Addr)
 |rng (lo hi:Int)
 |frz (o:Obj) (u:HO)
 |tbl (ps:Array Value)
 |ext (φ:World->Heap->Prop)
abbrev Hp:=Addr->Option HO
def IsTupD(h:Heap)(a:Addr)(items:Array Value):Prop:=∃o,h.get? a=⇑o/\o.cls=.type "tuple"/\o.dict=none/\∃n,o.data=.seq items n
def IsTupD.tup{h a items}(p:IsTupD h a items):IsTup h a items:=by
 obtain⟨o,e,c,_,n,d⟩:=p;exact⟨o,e,c,n,d⟩
def IsTupD.new(h:Heap) xs:IsTupD (h.push {cls:=.type "tuple",data:=.seq xs}) h.objs.size xs:=⟨_,X9 _ rfl,rfl,rfl,0,rfl⟩
def upd(H:Hp)(a:Addr)(o:HO):Hp:=λb=>if b=a then ⇑o else H b
def vW{H a o}:upd H a o a=⇑o:=by unfold upd;rw[Xb rfl]
def qx{H a b o}(h:b≠a):upd H a o b=H b:=by unfold upd;rw[Xj h]
def _am{H:Hp}{a b o u}(h:H a=⇑o)(h':H b=⇑u)(d:o≠u):a≠b:=by
 intro e;subst e;rw[h]at h';exact d (_aa h')
def Jx{H:Hp}{a b o}(h:H a=⇑o)(h':H b=none):a≠b:=by
 grind
section
variable (P:Program)(w:World)
def ObjOk(H : Hp)(h : Heap)(a : Addr): HO -> Prop
  |.lst xs=>xs.length<=sizeLine /\ ∃(ab : List Value) (n : Nat),Vals xs ab /\ h.get? a = some {cls:= .type "list",data:= .seq ab.toArray n}|.tup xs=>xs.length<=sizeLine /\ ∃ab : List Value,Vals xs ab /\ IsTupD h a ab.toArray|.dK kvs=>kvs.length<=sizeLine /\ (a==sysModules) = false /\ ∃vs,KV kvs vs /\ h.DictOf (xj P w) a vs
  |.dT kvs=>kvs.length<=sizeLine /\ (a==sysModules) = false /\ ∃xs : List (List Key × Addr × Value),
      Paired (λ(p : List Key × V) (q : List Key × Addr × Value)=>p.1 = q.1 /\ H q.2.1 = ⇑(.tup (p.1.map kV)) /\ RelV p.2 q.2.2) kvs xs /\
      ∃o es ep,h.get? a = ⇑o /\ o.ExactDict /\ o.data = .dict es ep /\ es.toList = xs.map (entryOfKey (tupleKind (xj P w))) /\ (xs.map (·.1)).Nodup
  |.set S n=>h.SetOf (intKind P w) a S n
  |.ins C dx fs=>H dx = ⇑(.own a) /\ fs.length<=1000 /\ dx≠a /\ h.get? a = ⇑(PySem.W.instObj C dx) /\
      ∃mA,h.Ns1 dx mA /\ (∀f,RelO (fs.lookup f) (mA f)) /\ PySem.Within mA (fs.map (·.1))
  |.own _=> ∃o,h.get? a = ⇑o|.xd fs=> ∃mA,h.Ns1 a mA /\ ∀f,RelO (fs.lookup f) (mA f)|.rng lo hi=> ∃t u v,h.get? a = some {cls:= .type "range",data:= .fields %[.int lo t,.int hi u,.int 1 v|0]}|.frz o u=>h.get? a = ⇑o /\ ObjOk H h a u|.tbl ps=>h.get? a = some {cls:= .none,data:= .fields ps}|.met f x=>h.get? a = ⇑(PySem.W.methodObj (.ref f) (.ref x))|.ext φ=>φ w h /\ (∃o,h.get? a = ⇑o) /\ ∀h1 h2 : Heap,φ w h1 -> (∀o,h1.get? a = ⇑o -> h2.get? a = ⇑o) -> φ w h2
def HOk(H:Hp)(h:Heap):Prop:=∀a o,H a=⇑o->ObjOk P w H h a o
end
section
variable {P:Program}{w:World}{H H':Hp}{h h':Heap}{a:Addr}{o:HO}
def ObjOk.lt(x:ObjOk P w H h a o):a<h.objs.size:=by
 cases o with|lst xs=>obtain⟨_,_,_,_,e⟩:=x;exact Xf e|tup xs=>obtain⟨_,_,_,p⟩:=x;exact p.tup.lt|dK kvs=>obtain⟨_,_,_,_,o,_,_,e,_⟩:=x;exact Xf e|dT kvs=>obtain⟨_,_,_,_,o,_,_,e,_⟩:=x;exact Xf e|set S n=>obtain⟨o,_,_,_,e,_⟩:=x;exact Xf e|ins C dx fs=>obtain⟨_,_,_,e,_⟩:=x;exact Xf e|own y=>obtain⟨_,e⟩:=x;exact Xf e|xd fs=>obtain⟨_,⟨_,_,_,e,_⟩,_⟩:=x;exact Xf e|rng lo hi=>obtain⟨_,_,_,e⟩:=x;exact Xf e|frz ob u=>obtain⟨e,_⟩:=x;exact Xf e|tbl ps=>exact Xf (x)|met f y=>exact Xf (x)|ext φ=>obtain⟨_,⟨_,e⟩,_⟩:=x;exact Xf e
def Paired.mapP{α β F G}:∀{l₁:List α} {l₂:List β},Paired F l₁ l₂->(∀a b,F a b->G a b)->Paired G l₁ l₂
 |_,_,.nil,_=>.nil|_,_,.cons r t,f=>.cons (f _ _ r) (Paired.mapP t f)
def ObjOk.stay(x:ObjOk P w H h a o)(k:∀b u,(b=a\/H b=⇑(.own a))->h.get? b=⇑u->h'.get? b=⇑u)
  (ho:∀b,H b=⇑(.own a)->H' b=⇑(.own a)) (ht:∀b xs,H b=⇑(.tup xs)->H' b=⇑(.tup xs)):ObjOk P w H' h' a o:=by
 induction o with
 |lst xs=>obtain⟨z,ab,n,r,e⟩:=x;exact#[z,ab,n,r,k _ _ (.inl rfl) e]|tup xs=>obtain⟨z,ab,r,ob,e,c⟩:=x;exact#[z,ab,r,ob,k _ _ (.inl rfl) e,c]|dK kvs=>obtain⟨z,y,vs,r,ob,es,ep,e,c⟩:=x;exact#[z,y,vs,r,ob,es,ep,k _ _ (.inl rfl) e,c]
 |dT kvs=>
  obtain⟨z,y,xs,r,ob,es,ep,e,c⟩:=x;exact#[z,y,xs,Paired.mapP r λp q z=>#[z.1,ht _ _ z.2.1,z.2.2],ob,es,ep,k _ _ (.inl rfl) e,c]
 |set S n=>obtain⟨ob,es,ep,t,e,c⟩:=x;exact#[ob,es,ep,t,k _ _ (.inl rfl) e,c]
 |ins C dx fs=>
  obtain⟨d,z,ne,e,mA,⟨od,es,ep,e2,c⟩,r⟩:=x;exact#[ho _ d,z,ne,k _ _ (.inl rfl) e,mA,#[od,es,ep,k _ _ (.inr d) e2,c],r]
 |own y=>obtain⟨ob,e⟩:=x;exact#[ob,k _ _ (.inl rfl) e]|xd fs=>obtain⟨mA,⟨od,es,ep,e,c⟩,r⟩:=x;exact#[mA,#[od,es,ep,k _ _ (.inl rfl) e,c],r]|rng lo hi=>obtain⟨t,u,v,e⟩:=x;exact#[t,u,v,k _ _ (.inl rfl) e]|frz ob u ih=>obtain⟨e,q⟩:=x;exact#[k _ _ (.inl rfl) e,ih q]
 |tbl ps=>
  have e:h.get? a=some {cls:=.none,data:=.fields ps}:=x;exact k a _ (.inl rfl) e
 |met f y=>
  have e:=x;exact k a _ (.inl rfl) e
 |ext φ=>obtain⟨p,⟨o,e⟩,st⟩:=x;exact#[st _ _ p λo q=>k _ _ (.inl rfl) q,#[o,k _ _ (.inl rfl) e],st]
def HOk.lt(x:HOk P w H h)(e:H a=⇑o):a<h.objs.size:=(x a o e).lt
def HOk.fresh(x:HOk P w H h)(e:h.objs.size<=a):H a=none:=by
 cases q:H a with|none=>rfl|some u=>exact absurd (Xq (x.lt q) e) (Ym _)
def HOk.kept(x:HOk P w H h)(k:∀b u,h.get? b=⇑u->h'.get? b=⇑u):HOk P w H h':=λa o e=>
 (x a o e).stay (λb u _ q=>k b u q) (λ_ q=>q) λ_ _ q=>q
def HOk.laid(x:HOk P w H h)(k:∀b u,h.get? b=⇑u->h'.get? b=⇑u)(hp:h.objs.size<=a)(new:ObjOk P w (upd H a o) h' a o):HOk P w (upd H a o) h':=λb u e=>by
 have hn:=x.fresh hp
 by_cases hb:b=a
 ·subst hb;rw[vW]at e;cases e;exact new
 ·rw[qx hb]at e;exact(x b u e).stay (λc v _ q=>k c v q) (λc q=>by rw[qx (Jx q hn)];exact q) λc xs q=>by rw[qx (Jx q hn)];exact q
end
def Rd(H:Hp)(a:Addr)(u:HO):Prop:=H a=⇑u\/∃o,H a=⇑(.frz o u)
def Rd.ok{P w H h a u}(r:Rd H a u)(x:HOk P w H h):ObjOk P w H h a u:=by
 rcases r with r|⟨o,r⟩
 ·exact x a u r
 ·obtain⟨_,q⟩:=x a _ r;exact q
def Mut:Option HO->Prop
 |some (.lst _)=>True|some (.dK _)=>True|some (.dT _)=>True|some (.set _ _)=>True|some (.ins _ _ _)=>True|some (.ext _)=>True|_=>False
section
variable {P:Program}{w:World}{H:Hp}{h h':Heap}{x e:Addr}{o':HO}
def HOk.write(ok:HOk P w H h)(mu:Mut (H x))(he:e=x\/H e=⇑(.own x))(k:∀b u,b≠e->h.get? b=⇑u->h'.get? b=⇑u)(uk:∃u,h'.get? e=⇑u)
  (new:ObjOk P w (upd H x o') h' x o'):HOk P w (upd H x o') h':=λb u q=>by
 have nown:∀c y,H c=⇑(.own y)->c≠x:=λc y r z=>by subst z;rw[r]at mu;exact mu
 have ntup:∀c xs,H c=⇑(.tup xs)->c≠x:=λc xs r z=>by subst z;rw[r]at mu;exact mu
 by_cases hb:b=x
 ·subst hb;rw[vW]at q;cases q;exact new
 ·rw[qx hb]at q
  by_cases hbe:b=e
  ·have q':H b=⇑(.own x):=by
    rcases he with z|z
    ·exact absurd (hbe.trans z) hb
    ·rw[hbe];exact z
   rw[q]at q';cases q';obtain⟨v,hv⟩:=uk;exact#[v,by rw[hbe];exact hv]
  ·refine(ok b u q).stay (λc v hc r=>k c v ?_ r) (λc r=>by rw[qx (nown c b r)];exact r) λc xs r=>by rw[qx (ntup c xs r)];exact r
   rcases hc with rfl|hc
   ·exact hbe
   ·grind
end
structure Un (fs ex:List Addr)(H H':Hp)(h h':Heap):Prop where
 keep:∀b o,h.get? b=⇑o->H b=none->b∉fs->b∉ex->h'.get? b=⇑o
 slot:∀b o,h.get? b=⇑o->H b=none->b∈fs->b∉ex->∃sl,h'.get? b=some {o with slots:=sl}
 free:∀b o,h.get? b=⇑o->H b=none->b∉ex->H' b=none
 there:∀b o,h.get? b=⇑o->b∉ex->∃o',h'.get? b=⇑o'
 tups:∀b xs,H b=⇑(.tup xs)->H' b=⇑(.tup xs)
 frzs:∀b o u,H b=⇑(.frz o u)->H' b=⇑(.frz o u)
 tbls:∀b ps,H b=⇑(.tbl ps)->∃more,H' b=⇑(.tbl (ps++more))
section
variable {fs fs' ex ex':List Addr}{H H1 H2:Hp}{h h1 h2 h':Heap}{a x e:Addr}{o:HO}
def Un.any(u:Un fs ex H H1 h h1){b ob}(q:h.get? b=⇑ob)(n:H b=none)(hx:b∉ex):∃sl,h1.get? b=some {ob with slots:=sl}:=by
 by_cases hb:b∈fs
 ·exact u.slot b ob q n hb hx
 ·exact#[ob.slots,u.keep b ob q n hb hx]
def Un.kept(k:∀b u,h.get? b=⇑u->h'.get? b=⇑u):Un fs ex H H h h':=
 #[λb ob q _ _ _=>k b ob q,λb ob q _ _ _=>#[ob.slots,k b ob q],λ_ _ _ n _=>n,λb ob q _=>#[ob,k b ob q],λ_ _ q=>q,λ_ _ _ q=>q,λ_ ps q=>#[(List.toArray []),by rw[q];simp]]
def Un.refl:Un fs ex H H h h:=Un.kept λ_ _ q=>q
def Un.laid(k:∀b u,h.get? b=⇑u->h'.get? b=⇑u)(hp:h.objs.size<=a)(hn:H a=none):Un fs ex H (upd H a o) h h' where
 keep:=λb u q _ _ _=>k b u q
 slot:=λb u q _ _ _=>#[u.slots,k b u q]
 free:=λb u q n _=>by rw[qx (Xk (Xq (Xf q) hp))];exact n
 there:=λb u q _=>#[u,k b u q]
 tups:=λb xs q=>by rw[qx (Jx q hn)];exact q
 frzs:=λb u xs q=>by rw[qx (Jx q hn)];exact q
 tbls:=λb ps q=>#[(List.toArray []),by rw[qx (Jx q hn),q];simp]
def Un.write(mu:Mut (H x))(he:e=x\/H e=⇑(.own x))(k:∀b u,b≠e->h.get? b=⇑u->h'.get? b=⇑u)(uk:∃u,h'.get? e=⇑u):Un fs ex H (upd H x o) h h':=by
 have hx:∀b,H b=none->b≠x:=λb n z=>by subst z;rw[n]at mu;exact mu
 have hb:∀b,H b=none->b≠e:=λb n z=>by
  subst z;rcases he with r|r
  ·exact hx b n r
  ·grind
 have hm:∀b u,H b=⇑u->¬Mut (⇑u)->b≠x:=λb u q nm z=>by subst z;rw[q]at mu;exact nm mu
 refine#[λb u q n _ _=>k b u (hb b n) q,λb u q n _ _=>#[u.slots,k b u (hb b n) q],λb u q n _=>by rw[qx (hx b n)];exact n,λb u q _=>?_,
  λb xs q=>by rw[qx (hm b _ q λz=>z)];exact q,λb u xs q=>by rw[qx (hm b _ q λz=>z)];exact q,λb ps q=>#[(List.toArray []),by rw[qx (hm b _ q λz=>z),q];simp]]
 by_cases hbe:b=e
 ·grind
 ·exact#[u,k b u hbe q]
end
def trk(h:Heap)(H:Hp):List Addr:=(List.range h.objs.size).filter λa=>(H a).isSome
def Wx(h:Heap)(H:Hp):Heap:=PySem.W.hideAll h (trk h H)
def _an h H:(Wx h H).objs.size=h.objs.size:=PySem.W.hideAll_size _ _
def _ao{h H b o}(e:h.get? b=⇑o)(n:H b=none):(Wx h H).get? b=⇑o:=
 PySem.W.hideAll_get _ e λhm=>by
  have q:=(List.mem_filter.mp hm).2;rw[n]at q;simp at q
def _ap{h H b o}(e:(Wx h H).get? b=⇑o):h.get? b=⇑o/\H b=none:=by
 have e':=PySem.W.of_hideAll _ e;refine#[e',?_];cases q:H b with
 |none=>rfl
 |some x=>
  have hm:b∈trk h H:=List.mem_filter.mpr #[List.mem_range.mpr (Xf e'),by simp[q]];have z:(Wx h H).get? b=none:=PySem.W.hideAll_none _ hm
  grind
structure Mod (K:Frag)(mg:Str->Option Value)(base:Heap):Prop where
 kin:K.In base
 glob:base.Ns mainGlobals mg
 blt:∃mb,base.Ns builtinsNs mb/\∀x:Str,x≠"__name__"->mb x=bootBuiltins x
 nolimit:base.NoLimit
structure Cx where
 prog:Program
 w:World
 K:Frag
 mg:Str->Option Value
 base:Heap
 A:Around
 N:List Str
 s₀:Shared
 H₀:Hp
 env:Env
 outer:List Env
 stack:List Env
 ex:List Addr
 fn:Str->Bool
 calm:Bool
 pn:LA9
 xe:VP9
def frs(l:List Env):List Addr:=l.filterMap (·.frame)
abbrev Cx.fs(X:Cx):List Addr:=frs X.outer
def Vis(sc:Scope)(x:Str):Prop:=sc.names.lookup x=⇑.local\/sc.names.lookup x=⇑.cell\/sc.names.lookup x=⇑.free
def Loc(sc:Scope)(x:Str):Prop:=sc.names.lookup x=⇑.local\/sc.names.lookup x=⇑.cell
def Look(env:Env)(h:Heap)(m:Str->Option Value)(x:Str)(u:Value):Prop:=
 (env.kindOf x=⇑.local/\m x=⇑u)\/((env.kindOf x=⇑.cell\/env.kindOf x=⇑.free)/\∃c,env.cells.lookup x=⇑c/\h.IsCell c ⇑u)
structure Cx.Ok (X:Cx):Prop where
 mod:Mod X.K X.mg X.base
 kind:X.env.scope.kind=.function
 glob:X.env.globals=mainGlobals
 blt:X.env.builtins=builtinsNs
 above:X.s₀.heap.objs.size<=X.env.locals
 inj:∀x y c,X.env.cells.lookup x=⇑c->X.env.cells.lookup y=⇑c->x=y
 has:∀x,(X.env.kindOf x=⇑.cell\/X.env.kindOf x=⇑.free)->∃c,X.env.cells.lookup x=⇑c
 cab:∀x c,X.fn x=true->X.env.cells.lookup x=⇑c->X.s₀.heap.objs.size<=c
 hd:X.calm=true->X.A.handled=none
 frames:X.A.frames=⇑X.stack
 stk:X.stack=X.outer\/(X.stack=X.env::X.outer/\X.env.frame=⇑X.env.locals)
 exf:∀b∈X.ex,b≠X.env.locals/\∀x c,X.env.cells.lookup x=⇑c->c≠b
 bs:∀b o,X.base.get? b=⇑o->X.s₀.heap.get? b=⇑o/\X.H₀ b=none
 bsz:X.base.objs.size<=X.s₀.heap.objs.size
 noex:∀b o,X.base.get? b=⇑o->b∉X.ex
 exfs:∀b∈X.ex,b∉X.fs
 funs:X.s₀.heap.FunFrames X.base X.outer
 frf:∀b∈X.fs,X.H₀ b=none
structure Inv (X:Cx)(a8:LA9)(σ:List (Option V))(H:Hp)(s:Shared):Prop where
 ok:X.Ok
 os:s.os=X.s₀.os
 bare:AllBare s.gens
 base:Un X.fs X.ex X.H₀ H X.s₀.heap s.heap
 loc:∃m,s.heap.Ns X.env.locals m/\∀(i:Nat) (x:Str) (v:V),X.N[i]?=⇑x->σ[i]?=⇑(⇑v)->Vis X.env.scope x->∃u,RelV v u/\Look X.env s.heap m x u
 cell:∀x c,X.env.cells.lookup x=⇑c->∃v,s.heap.IsCell c v
 free:H X.env.locals=none
 freeC:∀x c,X.env.cells.lookup x=⇑c->H c=none
 pin:∀p∈X.pn++a8,s.heap.get? p.1=⇑p.2/\H p.1=none/\p.1≠X.env.locals/\p.1∉X.fs/\∀v,p.2.data≠.cell v
 hok:HOk X.prog X.w H s.heap
 len:σ.length=X.N.length
section
variable {X:Cx}{a8:LA9}{σ:List (Option V)}{H H':Hp}{s:Shared}{h':Heap}
def Cx.Ok.nofr(ok:X.Ok){b o}(e:X.base.get? b=⇑o):b∉X.fs:=λhb=>by
 have:=(ok.funs.mem hb).1
 grind
def Inv.bs(I:Inv X a8 σ H s):∀b o,X.base.get? b=⇑o->s.heap.get? b=⇑o/\H b=none:=λb o e=>
 #[I.base.keep b o (I.ok.bs b o e).1 (I.ok.bs b o e).2 (I.ok.nofr e) (I.ok.noex b o e),I.base.free b o (I.ok.bs b o e).1 (I.ok.bs b o e).2 (I.ok.noex b o e)]
def Inv.bk(I:Inv X a8 σ H s):∀b o,X.base.get? b=⇑o->s.heap.get? b=⇑o:=λb o e=>(I.bs b o e).1
def Inv.mod(I:Inv X a8 σ H s):Mod X.K X.mg X.base:=I.ok.mod
def Inv.kIn(I:Inv X a8 σ H s):X.K.In s.heap:=I.ok.mod.kin.keeps I.bk
def Inv.lt(I:Inv X a8 σ H s):X.env.locals<↥s:=let ⟨_,hn,_⟩:=I.loc;hn.lt
def Inv.sz(I:Inv X a8 σ H s):X.s₀.heap.objs.size<=↥s:=Yd I.ok.above (Nat.le_of_lt I.lt)
def Inv.nofs(I:Inv X a8 σ H s){a:Addr}(h:↥s<=a):a∉X.fs:=λhb=>by
 obtain⟨_,o,ho,_⟩:=I.ok.funs.mem hb;exact absurd (Xq (Xf ho) (Yd I.sz h)) (Ym _)
def Inv.cne(I:Inv X a8 σ H s):∀x c,X.env.cells.lookup x=⇑c->c≠X.env.locals:=λx c e z=>by
 obtain⟨v,o,ho,hd⟩:=I.cell x c e;obtain⟨m,⟨o',es,ep,lh,hd',_⟩,_⟩:=I.loc
 grind
def Inv.funs(I:Inv X a8 σ H s):s.heap.FunFrames X.base X.outer:=by
 have all:∀l,(∀b∈frs l,b∈X.fs)->X.s₀.heap.FunFrames X.base l->s.heap.FunFrames X.base l:=by
  intro l
  induction l with
  |nil=>intro _ _;trivial
  |cons env r ih=>
   rintro hs ⟨hk,⟨L,o,hf,hn,ho,hd⟩,hr⟩;have hL:=hs L (by unfold frs;rw[List.filterMap_cons,hf];exact X5);obtain⟨sl,e⟩:=I.base.slot L o ho (I.ok.frf L hL) hL λz=>I.ok.exfs L z hL
   exact#[hk,#[L,_,hf,hn,e,hd],ih (λb hb=>hs b (by unfold frs;rw[List.filterMap_cons,hf];exact _ad _ hb)) hr]
 exact all X.outer (λ_ hb=>hb) I.ok.funs
def Inv.stack(I:Inv X a8 σ H s):s.heap.FunFrames X.base X.stack:=by
 rcases I.ok.stk with e|⟨e,hf⟩
 ·rw[e];exact I.funs
 ·rw[e];obtain⟨m,hn,_⟩:=I.loc;exact .cons (by rw[I.ok.kind];decide) hf hn (Yh (Yd I.ok.bsz I.ok.above)) I.funs
def Inv.stkSub(I:Inv X a8 σ H s):∀b∈frs X.stack,b∈X.env.locals::X.fs:=λb hb=>by
 rcases I.ok.stk with e|⟨e,hf⟩
 ·rw[e]at hb;exact _ad _ hb
 ·rw[e]at hb;unfold frs at hb;rw[List.filterMap_cons,hf]at hb;exact hb
def Inv.stkFree(I:Inv X a8 σ H s):∀b∈frs X.stack,H b=none:=λb hb=>by
 rcases aD (I.stkSub b hb)with e|hb
 ·rw[e];exact I.free
 ·obtain⟨_,o,ho,_⟩:=I.ok.funs.mem hb;exact I.base.free b o ho (I.ok.frf b hb) λz=>I.ok.exfs b z hb
def Inv.step{g' t' d'}{ch:List Addr}(I:Inv X a8 σ H s)
  (nh:∀b∈ch,(b∈X.ex\/X.s₀.heap.get? b=none)/\b≠X.env.locals/\(∀x c,X.env.cells.lookup x=⇑c->c≠b)/\∀p∈X.pn++a8,p.1≠b)
  (keep:∀b o,b≠X.env.locals->b∉X.fs->b∉ch->s.heap.get? b=⇑o->H b=none->h'.get? b=⇑o)
  (slot:∀b o,b≠X.env.locals->b∈X.fs->b∉ch->s.heap.get? b=⇑o->H b=none->∃sl,h'.get? b=some {o with slots:=sl}) (free:∀b o,b∉ch->s.heap.get? b=⇑o->H b=none->H' b=none)
  (there:∀b o,b∉ch->s.heap.get? b=⇑o->∃o',h'.get? b=⇑o')
  (tups:∀b xs,H b=⇑(.tup xs)->H' b=⇑(.tup xs)) (frzs:∀b o u,H b=⇑(.frz o u)->H' b=⇑(.frz o u)) (tbls:∀b ps,H b=⇑(.tbl ps)->∃more,H' b=⇑(.tbl (ps++more)))
  (ns:∀m,s.heap.Ns X.env.locals m->h'.Ns X.env.locals m) (hok:HOk X.prog X.w H' h') (hg:AllBare g'):
  Inv X a8 σ H' {s with heap:=h',gens:=g',drawn:=d',toks:=t' }:=by
 have neL:∀b o,X.s₀.heap.get? b=⇑o->b≠X.env.locals:=λb o e=>Xk (Xq (Xf e) I.ok.above)
 have neC:∀b o,X.s₀.heap.get? b=⇑o->b∉X.ex->b∉ch:=λb o e hx hb=>by
  rcases(nh b hb).1 with z|z
  ·exact hx z
  ·rw[z]at e;cases e
 have pr:∀x c,X.env.cells.lookup x=⇑c->∀v,s.heap.IsCell c v->h'.IsCell c v:=λx c e v hz=>by
  obtain⟨o,ho,hd⟩:=hz;have vd:=λz=>(nh c z).2.2.1 x c e rfl
  by_cases hc:c∈X.fs
  ·obtain⟨sl,q⟩:=slot c o (I.cne x c e) hc vd ho (I.freeC x c e);exact#[_,q,hd]
  ·exact#[o,keep c o (I.cne x c e) hc vd ho (I.freeC x c e),hd]
 refine#[I.ok,I.os,hg,#[λb o e n hb hx=>?_,λb o e n hb hx=>?_,λb o e n hx=>?_,λb o e hx=>?_,λb xs e=>tups b xs (I.base.tups b xs e),λb o xs e=>frzs b o xs (I.base.frzs b o xs e),λb ps e=>?_],?_,λx c e=>?_,?_,λx c e=>?_,λp hp=>?_,hok,I.len]
 ·exact keep b o (neL b o e) hb (neC b o e hx) (I.base.keep b o e n hb hx) (I.base.free b o e n hx)
 ·obtain⟨sl,e1⟩:=I.base.slot b o e n hb hx;obtain⟨sl',e2⟩:=slot b _ (neL b o e) hb (neC b o e hx) e1 (I.base.free b o e n hx);exact#[sl',e2]
 ·obtain⟨o',e1⟩:=I.base.there b o e hx;exact free b o' (neC b o e hx) e1 (I.base.free b o e n hx)
 ·obtain⟨o',e1⟩:=I.base.there b o e hx;exact there b o' (neC b o e hx) e1
 ·obtain _:=I.base.tbls b ps e
  grind
 ·obtain⟨m,hn,hl⟩:=I.loc;refine#[m,ns m hn,λi x v e1 e2 e3=>?_];obtain⟨u,r,l⟩:=hl i x v e1 e2 e3;refine#[u,r,?_];rcases l with l|⟨k,c,e,z⟩
  ·exact .inl l
  ·exact .inr #[k,c,e,pr x c e _ z]
 ·obtain⟨v,z⟩:=I.cell x c e;exact#[v,pr x c e v z]
 ·obtain⟨m,⟨o,_,_,ho,_⟩,_⟩:=I.loc;exact free _ o (λz=>(nh _ z).2.1 rfl) ho I.free
 ·obtain⟨v,o,ho,hd⟩:=I.cell x c e;exact free c o (λz=>(nh c z).2.2.1 x c e rfl) ho (I.freeC x c e)
 ·obtain⟨e,n,ne,nf,d⟩:=I.pin p hp;have vd:=λz=>(nh p.1 z).2.2.2 p hp rfl
  exact#[keep p.1 p.2 ne nf vd e n,free p.1 p.2 vd e n,ne,nf,d]
def Inv.un{t'}(I:Inv X a8 σ H s)(u:Un X.fs [] H H' s.heap h')(hok:HOk X.prog X.w H' h'):Inv X a8 σ H' {s with heap:=h',toks:=t' }:=by
 obtain⟨m,⟨o,es,ep,ho,r⟩,_⟩:=id I.loc;obtain⟨sl,hL⟩:=u.any ho I.free (by simp);exact I.step (g':=s.gens) (d':=s.drawn) (ch:=[]) (nofun) (λb o _ hb _ e n=>u.keep b o e n hb (by simp)) (λb o _ hb _ e n=>u.slot b o e n hb (by simp)) (λb o _ e n=>u.free b o e n (by simp)) (λb o _ e=>u.there b o e (by simp)) u.tups u.frzs u.tbls (λm' hm=>by
  obtain⟨o',es',ep',lh,r'⟩:=hm;rw[ho]at lh;cases lh;exact#[_,es',ep',hL,r']) hok I.bare
def Inv.call{g' t' d' ch}(I:Inv X a8 σ H s)(u:Un (frs X.stack) ch H H' s.heap h')(hok:HOk X.prog X.w H' h')(hg:AllBare g')
  (nh:∀b∈ch,(b∈X.ex\/X.s₀.heap.get? b=none)/\b≠X.env.locals/\(∀x c,X.env.cells.lookup x=⇑c->c≠b)/\∀p∈X.pn++a8,p.1≠b):
  Inv X a8 σ H' {s with heap:=h',gens:=g',drawn:=d',toks:=t' }:=by
 obtain⟨m,⟨o,es,ep,ho,r⟩,_⟩:=id I.loc;obtain⟨sl,hL⟩:=u.any ho I.free λz=>(nh _ z).2.1 rfl
 exact I.step nh (λb o hL hb hc e n=>u.keep b o e n (λz=>(aD (I.stkSub b z)).elim hL hb) hc) (λb o _ _ hc e n=>u.any e n hc) (λb o hc e n=>u.free b o e n hc) (λb o hc e=>u.there b o e hc) u.tups u.frzs u.tbls (λm' hm=>by
  obtain⟨o',es',ep',lh,r'⟩:=hm;rw[ho]at lh;cases lh;exact#[_,es',ep',hL,r']) hok hg
def Inv.turned{t' it}(I:Inv X a8 σ H s)(k:∀b o,b≠it->s.heap.get? b=⇑o->h'.get? b=⇑o)(hn:H it=none)(hL:it≠X.env.locals)
  (h1:it∈X.ex\/X.s₀.heap.objs.size<=it) (h2:∀x c,X.env.cells.lookup x=⇑c->c≠it) (h3:∀p∈X.pn++a8,p.1≠it):Inv X a8 σ H {s with heap:=h',toks:=t' }:=by
 have xf:∀b u,H b=⇑u->b≠it:=λb u e z=>by rw[z,hn]at e;cases e
 refine I.step (g':=s.gens) (d':=s.drawn) (ch:=[it]) (λb hb=>?_) (λb o _ _ hc e _=>k b o (λz=>hc (by simp[z])) e) (λb o _ _ hc e _=>#[o.slots,k b o (λz=>hc (by simp[z])) e]) (λ_ _ _ _ n=>n)
  (λb o hc e=>#[o,k b o (λz=>hc (by simp[z])) e]) (λ_ _ e=>e) (λ_ _ _ e=>e) (λb ps e=>#[(List.toArray []),by rw[e];simp]) (λm hm=>?_) (λb u e=>?_) I.bare
 ·have e:b=it:= ~~~hb
  subst e;exact#[h1.imp id λz=>Yh z,hL,h2,h3]
 ·obtain⟨o,es,ep,ho,r⟩:=hm;exact#[o,es,ep,k _ o (Ne.symm hL) ho,r]
 ·refine(I.hok b u e).stay (λc v hc q=>k c v ?_ q) (λ_ q=>q) λ_ _ q=>q
  rcases hc with z|z
  ·rw[z];exact xf b u e
  ·exact xf c _ z
def Inv.tok(I:Inv X a8 σ H s) t:Inv X a8 σ H {s with toks:=t}:=I.un (h':=s.heap) (t':=t) Un.refl I.hok
def Inv.kept{t'}(I:Inv X a8 σ H s)(k:∀b u,s.heap.get? b=⇑u->h'.get? b=⇑u):Inv X a8 σ H {s with heap:=h',toks:=t' }:=I.un (Un.kept k) (I.hok.kept k)
def Inv.laid{a:Addr}{o t'}(I:Inv X a8 σ H s)(k:∀b u,s.heap.get? b=⇑u->h'.get? b=⇑u)(hp:↥s<=a)(new:ObjOk X.prog X.w (upd H a o) h' a o):
  Inv X a8 σ (upd H a o) {s with heap:=h',toks:=t' }:=I.un (Un.laid k hp (I.hok.fresh hp)) (I.hok.laid k hp new)
def Inv.write{x e o t'}(I:Inv X a8 σ H s)(mu:Mut (H x))(he:e=x\/H e=⇑(.own x))(k:∀b u,b≠e->s.heap.get? b=⇑u->h'.get? b=⇑u)(uk:∃u,h'.get? e=⇑u)
  (new:ObjOk X.prog X.w (upd H x o) h' x o):Inv X a8 σ (upd H x o) {s with heap:=h',toks:=t' }:=I.un (Un.write mu he k uk) (I.hok.write mu he k uk new)
def Inv.pins_of{cy}(I:Inv X a8 σ H s)(h:∀p∈cy,s.heap.get? p.1=⇑p.2/\H p.1=none/\p.1≠X.env.locals/\p.1∉X.fs/\∀v,p.2.data≠.cell v):Inv X cy σ H s:=
 #[I.ok,I.os,I.bare,I.base,I.loc,I.cell,I.free,I.freeC,λp hp=>(aA hp).elim (λz=>I.pin p (_ac _ z)) (h p),I.hok,I.len]
def _aq{N:List Str}(hN:N.Nodup){i j:Nat}{x}(a:N[i]?=⇑x)(b:N[j]?=⇑x):i=j:=by
 obtain⟨h1,e1⟩:=aF a;obtain⟨h2,e2⟩:=aF b;exact(List.getElem_inj hN).mp (e1.trans e2.symm)
def _ar{M A E i x v u Q}(I:Inv X a8 σ H s)(hN:X.N.Nodup)(hi:X.N[i]?=⇑x)(hx:Loc X.env.scope x)(r:RelV v u)
  (h:∀s',Inv X a8 (σ.set i ⇑v) H s'->(∃a,Heap.SameBut a s.heap s'.heap/\(a=X.env.locals\/X.env.cells.lookup x=⇑a))->Q () s') (hf:X.fn x=true\/X.env.scope.names.lookup x=⇑.local<|>Ř):wpAny M A (storeName X.env x u) Q E s:=by
 obtain⟨m,hn,hl⟩:=id I.loc;have hcls:(X.env.scope.kind == .class||(X.env.scope.kind == .module&&X.env.locals != X.env.globals))=false:=by rw[I.ok.kind];rfl
 have hiσ:i < σ.length:=by rw[I.len];exact(aF hi).1
 have cne:=I.cne;have kl:∀{a h'},(∃o,s.heap.get? a=⇑o/\H a=none)->Heap.SameBut a s.heap h'->HOk X.prog X.w H h':=fun {a h'} ha hs b ob e=>by
  refine(I.hok b ob e).stay (λc w' hc q=>(hs.2 c ?_).trans q) (λ_ q=>q) λ_ _ q=>q
  rintro rfl;rcases hc with rfl|hc
  ·grind
  ·grind
 rcases hx with hk|hk
 ·refine wpAny_storeName_local hk hn (λh' xi hs=>?_) hcls;obtain⟨oL,_,_,u7,_⟩:=id hn;refine h _ #[I.ok,I.os,I.bare,#[λb o e n hb hx=>?_,λb o e n hb hx=>?_,I.base.free,λb o e hx=>?_,I.base.tups,I.base.frzs,I.base.tbls],#[_,xi,λj y v' e1 e2 e3=>?_],λy c e=>?_,I.free,I.freeC,λp hp=>?_,kl #[oL,u7,I.free] hs,~~~I.len] #[_,hs,.inl rfl]
  ·exact(hs.2 b (Xk (Xq (Xf e) I.ok.above))).trans (I.base.keep b o e n hb hx)
  ·obtain⟨sl,e1⟩:=I.base.slot b o e n hb hx;exact#[sl,(hs.2 b (Xk (Xq (Xf e) I.ok.above))).trans e1]
  ·obtain⟨o',e1⟩:=I.base.there b o e hx;exact#[o',(hs.2 b (Xk (Xq (Xf e) I.ok.above))).trans e1]
  ·by_cases hj:j=i
   ·subst hj;rw[hi]at e1;cases e1;rw[List.getElem?_set_self hiσ]at e2;cases e2;exact#[u,r,.inl #[hk,by simp]]
   ·rw[Yt (Ne.symm hj)]at e2;obtain⟨u',r',q⟩:=hl j y v' e1 e2 e3;refine#[u',r',?_];rcases q with⟨k,e⟩|⟨k,c,e,z⟩
    ·refine .inl #[k,?_];have:y≠x:=λe=>hj (_aq hN e1 (e▸hi))
     simp[this,e]
    ·exact .inr #[k,c,e,z.sameBut hs (cne y c e)]
  ·obtain⟨w',z⟩:=I.cell y c e;exact#[w',z.sameBut hs (cne y c e)]
  ·obtain⟨e,n,ne,nf,d⟩:=I.pin p hp;exact#[(hs.2 p.1 ne).trans e,n,ne,nf,d]
 ·have hfn:X.fn x=true:=by
   rcases hf with z|z
   ·exact z
   ·grind
  obtain⟨c,hc⟩:=I.ok.has x (.inl hk);obtain⟨w',z⟩:=I.cell x c hc;refine wpAny_storeName_cell I.ok.kind hk hc z (λh' jl hs=>?_);obtain⟨oc,hoc,hocd⟩:=id z;refine h {s with heap:=h' } #[I.ok,I.os,I.bare,#[λb o e n hb hx=>?_,λb o e n hb hx=>?_,I.base.free,λb o e hx=>?_,I.base.tups,I.base.frzs,I.base.tbls],#[m,hn.sameBut hs (Ne.symm (cne x c hc)),λj y v' e1 e2 e3=>?_],λy c' e=>?_,I.free,I.freeC,λp hp=>?_,kl #[oc,hoc,I.freeC x c hc] hs,~~~I.len] #[c,hs,.inr hc]
  ·exact(hs.2 b (Xk (Xq (Xf e) (I.ok.cab x c hfn hc)))).trans (I.base.keep b o e n hb hx)
  ·obtain⟨sl,e1⟩:=I.base.slot b o e n hb hx;exact#[sl,(hs.2 b (Xk (Xq (Xf e) (I.ok.cab x c hfn hc)))).trans e1]
  ·obtain⟨o',e1⟩:=I.base.there b o e hx;exact#[o',(hs.2 b (Xk (Xq (Xf e) (I.ok.cab x c hfn hc)))).trans e1]
  ·by_cases hj:j=i
   ·subst hj;rw[hi]at e1;cases e1;rw[List.getElem?_set_self hiσ]at e2;cases e2;exact#[u,r,.inr #[.inl hk,c,hc,jl]]
   ·rw[Yt (Ne.symm hj)]at e2;obtain⟨u',r',q⟩:=hl j y v' e1 e2 e3;refine#[u',r',?_];rcases q with q|⟨k,c',e,z'⟩
    ·exact .inl q
    ·refine .inr #[k,c',e,z'.sameBut hs ?_];rintro rfl;exact hj (_aq hN e1 (I.ok.inj _ _ _ e hc▸hi))
  ·by_cases ia:c'=c
   ·subst ia;exact#[_,jl]
   ·obtain⟨w2,z2⟩:=I.cell y c' e;exact#[w2,z2.sameBut hs ia]
  ·obtain⟨e,n,ne,nf,d⟩:=I.pin p hp;refine#[(hs.2 p.1 ?_).trans e,n,ne,nf,d];intro q;rw[q,hoc]at e;have q':oc=p.2:=_aa e;exact d w' (q'▸hocd)
def _as{M A E i x v u Q}(I:Inv X a8 σ H s)(hN:X.N.Nodup)(hi:X.N[i]?=⇑x)(hx:Loc X.env.scope x)(r:RelV v u)
  (h:∀s',Inv X a8 (σ.set i ⇑v) H s'->Q () s') (hf:X.fn x=true\/X.env.scope.names.lookup x=⇑.local<|>Ř):wpAny M A (storeName X.env x u) Q E s:=
 _ar I hN hi hx r (λs' I' _=>h s' I') hf
def Inv.call'{s' ch}(I:Inv X a8 σ H s)(ho:s'.os=s.os)(u:Un (frs X.stack) ch H H' s.heap s'.heap)(hok:HOk X.prog X.w H' s'.heap)(hg:AllBare s'.gens)
  (nh:∀b∈ch,(b∈X.ex\/X.s₀.heap.get? b=none)/\b≠X.env.locals/\(∀x c,X.env.cells.lookup x=⇑c->c≠b)/\∀p∈X.pn++a8,p.1≠b):Inv X a8 σ H' s':=by
 obtain⟨h',g',d',t',o'⟩:=s';subst ho;exact I.call (g':=g') (t':=t') (d':=d') u hok hg nh
end
abbrev XK:=Value->Option Addr->Hp->Prop
abbrev St:=List (Option V)
abbrev VK:=V->Hp->Prop
abbrev TE:=St->Hp->VK->Prop
abbrev TT:=St->Hp->(Bool->Hp->Prop)->Prop
abbrev TA:=St->Hp->(List V->Hp->Prop)->Prop
structure Ends where
 nx:St->Hp->Prop
 rt:VK
 bk:St->Hp->Prop:=λ_ _=>False
 ct:St->Hp->Prop:=λ_ _=>False
abbrev TS:=Ends->St->Hp->Prop
def EP(X:Cx)(a8:LA9)(σ:St)(Q:VK)(u:Value)(s':Shared):Prop:=∃v H',Inv X a8 σ H' s'/\RelV v u/\Q v H'
def TP(X:Cx)(a8:LA9)(σ:St)(Q:Bool->Hp->Prop)(b:Bool)(s':Shared):Prop:=∃H',Inv X a8 σ H' s'/\Q b H'
def AP(X:Cx)(a8:LA9)(σ:St)(Q:List V->Hp->Prop)(us:List Value)(s':Shared):Prop:=∃vs H',Inv X a8 σ H' s'/\Vals vs us/\Q vs H'
#where in
def SP(X:Cx)(a8:LA9)(D:Ends)(f:Flow)(s':Shared):Prop:=
 match f with
 |.next=>∃ σ' H',Inv X a8 σ' H' s'/\D.nx σ' H'|.brk=>∃ σ' H',Inv X a8 σ' H' s'/\D.bk σ' H'|.cont=>∃ σ' H',Inv X a8 σ' H' s'/\D.ct σ' H'|.ret u=>∃v σ' H',Inv X a8 σ' H' s'/\RelV v u/\D.rt v H'
def PE(X:Cx)(e:Expr)(t:TE):Prop:=
 ∀(a8:LA9) (s:Shared) (σ:St) (H:Hp) (Q:VK),Inv X a8 σ H s->t σ H Q->∅ (eval e X.env) (EP X a8 σ Q) X.xe s
def PT(X:Cx)(e:Expr)(t:TT):Prop:=
 ∀(a8:LA9) (s:Shared) (σ:St) (H:Hp) (Q:Bool->Hp->Prop),Inv X a8 σ H s->t σ H Q->∅ (isTrue e X.env (eval e X.env)) (TP X a8 σ Q) X.xe s
def PW(X:Cx)(e:Expr)(t:TT):Prop:=
 ∀(gf:Sem Value) (a8:LA9) (s:Shared) (σ:St) (H:Hp) (Q:Bool->Hp->Prop),Inv X a8 σ H s->t σ H Q->∅ (isTrue e X.env gf) (TP X a8 σ Q) X.xe s
def PW.pt{X e t}(h:PW X e t):PT X e t:=h _
def PA(X:Cx)(es:List Expr)(t:TA):Prop:=
 ∀(pos:Pos) (a8:LA9) (s:Shared) (σ:St) (H:Hp) (Q:List V->Hp->Prop),Inv X a8 σ H s->t σ H Q->∅ (spliced (backTo pos (starEach es X.env))) (AP X a8 σ Q) X.xe s
def PS(X:Cx)(st:Stmt)(t:TS):Prop:=
 ∀(a8:LA9) (s:Shared) (σ:St) (H:Hp) (D:Ends),Inv X a8 σ H s->t D σ H->∅ (exec st X.env) (SP X a8 D) X.xe s
def PSs(X:Cx)(st:List Stmt)(t:TS):Prop:=
 ∀(a8:LA9) (s:Shared) (σ:St) (H:Hp) (D:Ends),Inv X a8 σ H s->t D σ H->∅ (execs st X.env) (SP X a8 D) X.xe s
def thn{α t}{Q Q':α->Shared->Prop}{M A E s}(h:wpAny M A t Q E s)(hQ:∀a s,Q a s->Q' a s):wpAny M A t Q' E s:=wpAny_mono h hQ λ_ _ x=>x
section
variable {X:Cx}
abbrev wV(i:Nat):TE:=fun σ H Q=>∃v,σ[i]?=some ⇑v/\Q v H
abbrev tC(v:V):TE:=λ_ H Q=>Q v H
abbrev _root_.Abd(x:Str):Prop:=(x==("__debug__":Str))=false
def _at{i x pos}(hN:X.N[i]?=⇑x)(hv:Vis X.env.scope x)(hd:Abd x<|>ŕ)(iq:(x==("__classdict__":Str))=false<|>ŕ):PE X (.Name x pos) (wV i):=by
 rintro a8 s σ H Q I ⟨v,e,h⟩;obtain⟨m,hn,hl⟩:=I.loc;obtain⟨u,r,l⟩:=hl i x v hN e hv;have fin:EP X a8 σ Q u s:=#[v,H,I,r,h];rcases l with⟨hk,hm⟩|⟨hk,c,hc,gb⟩
 ·exact wpAny_Name (wpAny_loadName_local I.ok.kind hk hn hm fin) hd
 ·rcases hk with hk|hk
  ·exact wpAny_Name (wpAny_loadName_cell I.ok.kind hk hc gb fin) hd
  ·exact wpAny_Name (wpAny_loadName_free I.ok.kind hk hc gb fin iq) hd
def _au{i j pos}:PE X (.Constant (.int i) j pos) (tC (.int i)):=λ_ _ _ H _ I h=>wpAny_Constant_int #[.int i,H,I.tok _,#[_,rfl],h]
def _av{b j pos}:PE X (.Constant (.bool b) j pos) (tC (.bl b)):=λ_ _ _ H _ I h=>Constant_bool #[.bl b,H,I,rfl,h]
def _aw{j pos}:PE X (.Constant .none j pos) (tC .non):=λ_ _ _ H _ I h=>Constant_none #[.non,H,I,rfl,h]
def _ax{x j pos}:PE X (.Constant (.str x) j pos) (tC (.str x)):=λ_ _ _ H _ I h=>Calls.Constant_str #[.str x,H,I.tok _,#[_,rfl],h]
def Gl(X:Cx)(x:Str):Prop:=X.env.kindOf x=⇑.globalImplicit
def _ay{E a8 s}{σ:St}{H x u pos Q}(I:Inv X a8 σ H s)(hg:Gl X x)(hm:X.mg x=⇑u)(h:Q u s)
  (hd:Abd x<|>ŕ):∅ (eval (.Name x pos) X.env) Q E s:=
 Calls.Name_function_global I.ok.kind hg (Calls.loadGlobal_global (I.ok.glob▸I.mod.glob.keeps I.bk) hm h) hd
def Jj{E a8 s}{σ:St}{H x u pos Q}(I:Inv X a8 σ H s)(hg:Gl X x)(hm:X.mg x=none)(hv:bootBuiltins x=⇑u)(h:Q u s)
  (hn:x≠"__name__"<|>ŕ) (hd:Abd x<|>ŕ):∅ (eval (.Name x pos) X.env) Q E s:=by
 obtain⟨mb,h1,h2⟩:=I.mod.blt;exact Calls.Name_function_global I.ok.kind hg (Calls.loadGlobal_builtin (I.ok.glob▸I.mod.glob.keeps I.bk) hm (I.ok.blt▸h1.keeps I.bk) ((h2 x hn).trans hv) h) hd
def _az{x v u pos}(hg:Gl X x)(hm:X.mg x=⇑u)(r:RelV v u)(hd:Abd x<|>ŕ):PE X (.Name x pos) (tC v):=
 λ_ _ _ H _ I h=>_ay I hg hm #[v,H,I,r,h] hd
def _aA{x v u pos}(hg:Gl X x)(hm:X.mg x=none)(hv:bootBuiltins x=⇑u)(r:RelV v u)(hn:x≠"__name__"<|>ŕ)(hd:Abd x<|>ŕ):PE X (.Name x pos) (tC v):=
 λ_ _ _ H _ I h=>Jj I hg hm hv #[v,H,I,r,h] hn hd
variable {a b:Expr}{ta tb:TE}{pos:Pos}
variable {tA tB':TT}{aa:List Expr}
abbrev tAnd(t u:TT):TT:=fun σ H Q=>t σ H λc H1=>if c=true then u σ H1 Q else Q false H1
abbrev tOr(t u:TT):TT:=fun σ H Q=>t σ H λc H1=>if c=true then Q true H1 else u σ H1 Q
abbrev tNot(t:TT):TT:=fun σ H Q=>t σ H λc H1=>Q (!c) H1
def _aB(ha:PT X a tA):PW X (.BoolOp .And [a] pos) tA:=by
 intro wh a8 s σ H Q I h;refine isTrue_and (thn (ha a8 s σ H Q I h) λc s1 e=>?_);cases c with|true=>exact isTrue_and_nil e|false=>exact e
def _aC(ha:PT X a tA):PW X (.BoolOp .Or [a] pos) tA:=by
 intro wh a8 s σ H Q I h;refine isTrue_or (thn (ha a8 s σ H Q I h) λc s1 e=>?_);cases c with|false=>exact isTrue_or_nil e|true=>exact e
def _aD(ha:PT X a tA)(hb:PW X (.BoolOp .And (b::aa) pos) tB'):PW X (.BoolOp .And (a::b::aa) pos) (tAnd tA tB'):=by
 intro wh a8 s σ H Q I h;refine isTrue_and (thn (ha a8 s σ H _ I h) λc s1 hz=>?_);obtain⟨H1,I1,q1⟩:=hz;cases c with|true=>exact hb wh a8 s1 σ H1 Q I1 q1|false=>exact#[H1,I1,q1]
def _aE(ha:PT X a tA)(hb:PW X (.BoolOp .Or (b::aa) pos) tB'):PW X (.BoolOp .Or (a::b::aa) pos) (tOr tA tB'):=by
 intro wh a8 s σ H Q I h;refine isTrue_or (thn (ha a8 s σ H _ I h) λc s1 hz=>?_);obtain⟨H1,I1,q1⟩:=hz;cases c with|true=>exact#[H1,I1,q1]|false=>exact hb wh a8 s1 σ H1 Q I1 q1
def _aF(ha:PT X a tA):PT X (.UnaryOp .Not a pos) (tNot tA):=by
 intro a8 s σ H Q I h;exact isTrue_not (ha a8 s σ H _ I h)
abbrev xva(ta tb:TE):TE:=fun σ H Q=>ta σ H λx H1=>∃c,x=.bl c/\if c=true then tb σ H1 Q else Q (.bl false) H1
abbrev wwo(ta:TE):TE:=fun σ H Q=>ta σ H λx H1=>∃c,x=.bl c/\Q (.bl (!c)) H1
def _aG{op t}(h:PE X a t):PE X (.BoolOp op [a] pos) t:=λa8 s σ H Q I hw=>BoolOp_one (h a8 s σ H Q I hw)
def _aH(ha:PE X a ta)(hb:PE X (.BoolOp .And (b::aa) pos) tb):PE X (.BoolOp .And (a::b::aa) pos) (xva ta tb):=by
 intro a8 s σ H Q I h;refine BoolOp_and (thn (ha a8 s σ H _ I h) λv s1 hz=>?_);obtain⟨x,H1,I1,r1,q1⟩:=hz;obtain⟨c,rfl,q1⟩:=q1;cases r1;refine Z5 ?_;cases c with|true=>exact hb a8 s1 σ H1 Q I1 q1|false=>exact#[.bl false,H1,I1,rfl,q1]
def _aI(ha:PE X a ta):PE X (.UnaryOp .Not a pos) (wwo ta):=by
 intro a8 s σ H Q I h;refine UnaryOp_ (thn (ha a8 s σ H _ I h) λv s1 #[x,H1,I1,r1,q1]=>?_);obtain⟨c,rfl,q1⟩:=q1;cases r1;exact not_of (Z5 #[.bl (!c),H1,I1,rfl,q1])
abbrev tIf(t:TT)(ta tb:TE):TE:=fun σ H Q=>t σ H λc H1=>if c=true then ta σ H1 Q else tb σ H1 Q
def _aJ{c}(hc:PT X c tA)(ha:PE X a ta)(hb:PE X b tb):PE X (.IfExp c a b pos) (tIf tA ta tb):=by
 intro a8 s σ H Q I h;refine wpAny_IfExp (thn (hc a8 s σ H _ I h) λd s1 hz=>?_);obtain⟨H1,I1,q1⟩:=hz;cases d with|true=>exact ha a8 s1 σ H1 Q I1 q1|false=>exact hb a8 s1 σ H1 Q I1 q1
end
def SqL(K:Frag)(H:Hp)(a:Addr)(xs:List V):Prop:=
 Rd H a (.lst xs) \/
  ∃(o:Obj) (ab:Array Value) (n:Nat),K.lookup a=⇑o/\o.cls=.type "list"/\o.dict=none/\o.data=.seq ab n/\ab.size<=sizeLine/\Vals xs ab.toList
def SqT(K:Frag)(H:Hp)(a:Addr)(xs:List V):Prop:=
 Rd H a (.tup xs) \/
  ∃(o:Obj) (ab:Array Value) (n:Nat),K.lookup a=⇑o/\o.cls=.type "tuple"/\o.dict=none/\o.data=.seq ab n/\ab.size<=sizeLine/\Vals xs ab.toList
def absV:Value->Option V
 |.none=>⇑.non|.bool b=>⇑(.bl b)|.int i _=>⇑(.int i)|.str x _=>⇑(.str x)|.bytes b _=>⇑(.byt b)|.float b _=>⇑(.flt b)|.ref a=>⇑(.ref a)|.type n=>⇑(.ty n)|_=>none
def RelV.abs{x u}(r:RelV x u):absV u=⇑x:=by
 cases x with|non=>cases r;rfl|bl _=>cases r;rfl|int _=>obtain⟨t,rfl⟩:=r;rfl|str _=>obtain⟨t,rfl⟩:=r;rfl|byt _=>obtain⟨t,rfl⟩:=r;rfl|flt _=>obtain⟨t,rfl⟩:=r;rfl|ref _=>cases r;rfl|ty _=>cases r;rfl
def RelV.inj{x y u}(r:RelV x u)(q:RelV y u):x=y:=_aa (r.abs.symm.trans q.abs)
def Vals.inj:∀{xs ys us},Vals xs us->Vals ys us->xs=ys
 |_,_,_,.nil,.nil=>rfl|_,_,_,.cons r t,.cons r' t'=>by rw[r.inj r',Vals.inj t t']
section
variable {X:Cx}{a8:LA9}{σ:St}{H:Hp}{s:Shared}{a:Addr}{xs ys:List V}
def SqL.of{K}(h:H a=⇑(.lst xs)):SqL K H a xs:=.inl (.inl h)
def SqT.of{K}(h:H a=⇑(.tup xs)):SqT K H a xs:=.inl (.inl h)
def Inv.list(I:Inv X a8 σ H s)(h:SqL X.K H a xs):∃ab,Vals xs ab/\PlainL s.heap a ab.toArray/\xs.length<=sizeLine:=by
 rcases h with h|⟨o,ab,n,hk,hc,hd,hs,hz,r⟩
 ·obtain⟨z,ab,n,r,e⟩:=h.ok I.hok;exact#[ab,r,#[_,n,e,rfl,rfl,rfl],z]
 ·refine#[ab.toList,r,#[o,n,I.kIn a o hk,hc,hd,~~~hs],?_];have e:=r.length;simp at e;lia
def Inv.tuple(I:Inv X a8 σ H s)(h:SqT X.K H a xs):∃ab,Vals xs ab/\IsTup s.heap a ab.toArray/\xs.length<=sizeLine:=by
 rcases h with h|⟨o,ab,n,hk,hc,_,hs,hz,r⟩
 ·obtain⟨z,ab,r,p⟩:=h.ok I.hok;exact#[ab,r,p.tup,z]
 ·refine#[ab.toList,r,#[o,I.kIn a o hk,hc,n,~~~hs],?_];have e:=r.length;simp at e;lia
def Inv.tupleD(I:Inv X a8 σ H s)(h:SqT X.K H a xs):∃o,s.heap.get? a=⇑o/\o.dict=none:=by
 rcases h with h|⟨o,ab,n,hk,hc,hd,hs,hz,r⟩
 ·obtain⟨z,ab,r,o,e,_,d,_⟩:=h.ok I.hok;exact#[o,e,d]
 ·exact#[o,I.kIn a o hk,hd]
def Inv.list_inj(I:Inv X a8 σ H s)(h:SqL X.K H a xs)(h':SqL X.K H a ys):xs=ys:=by
 obtain⟨ab,r,⟨o,n,e,_,_,d⟩,_⟩:=I.list h;obtain⟨its',r',⟨o',n',e',_,_,d'⟩,_⟩:=I.list h';rw[e]at e';cases e';rw[d]at d';injection d' with d1 _;have:ab=its':= ~~~(congrArg Array.toList d1)
 subst this;exact r.inj r'
def Inv.tuple_inj(I:Inv X a8 σ H s)(h:SqT X.K H a xs)(h':SqT X.K H a ys):xs=ys:=by
 obtain⟨ab,r,⟨o,e,_,n,d⟩,_⟩:=I.tuple h;obtain⟨its',r',⟨o',e',_,n',d'⟩,_⟩:=I.tuple h';rw[e]at e';cases e';rw[d]at d';injection d' with d1 _;have:ab=its':= ~~~(congrArg Array.toList d1)
 subst this;exact r.inj r'
end
abbrev Cx.wish(X:Cx)(E:VP9):Cx:={X with xe:=E}
def Cx.Ok.wish{X:Cx}(ok:X.Ok) E:(X.wish E).Ok:=
 #[ok.mod,ok.kind,ok.glob,ok.blt,ok.above,ok.inj,ok.has,ok.cab,ok.hd,ok.frames,ok.stk,ok.exf,ok.bs,ok.bsz,ok.noex,ok.exfs,ok.funs,ok.frf]
def Cx.Ok.unwish{X:Cx}{E}(ok:(X.wish E).Ok):X.Ok:=
 #[ok.mod,ok.kind,ok.glob,ok.blt,ok.above,ok.inj,ok.has,ok.cab,ok.hd,ok.frames,ok.stk,ok.exf,ok.bs,ok.bsz,ok.noex,ok.exfs,ok.funs,ok.frf]
section
variable {X:Cx}{a8:LA9}{σ:St}{H:Hp}{s:Shared}{E:VP9}
def Inv.wish(I:Inv X a8 σ H s) E:Inv (X.wish E) a8 σ H s:=#[I.ok.wish E,I.os,I.bare,I.base,I.loc,I.cell,I.free,I.freeC,I.pin,I.hok,I.len]
def Inv.unwish(I:Inv (X.wish E) a8 σ H s):Inv X a8 σ H s:=#[I.ok.unwish,I.os,I.bare,I.base,I.loc,I.cell,I.free,I.freeC,I.pin,I.hok,I.len]
#where in
def SP.unwish{D f s'}(h:SP (X.wish E) a8 D f s'):SP X a8 D f s':=by
 cases f with|next=>obtain⟨σ',H',I,q⟩:=h;exact#[σ',H',I.unwish,q]|brk=>obtain⟨σ',H',I,q⟩:=h;exact#[σ',H',I.unwish,q]|cont=>obtain⟨σ',H',I,q⟩:=h;exact#[σ',H',I.unwish,q]|ret u=>obtain⟨v,σ',H',I,r,q⟩:=h;exact#[v,σ',H',I.unwish,r,q]
end
section
variable {X:Cx}{st:Stmt}{aa:List Stmt}{t u:TS}{e:Expr}{te:TE}{pos:Pos}
abbrev xv5:TS:=λD σ H=>D.nx σ H
abbrev tSeq(t u:TS):TS:=λD σ H=>t {D with nx:=u D} σ H
def _aK:PSs X [] xv5:=λ_ _ σ H _ I h=>wpAny_execs_nil #[σ,H,I,h]
#where in
def _aL(h1:PS X st t)(h2:PSs X aa u):PSs X (st::aa) (tSeq t u):=by
 intro a8 s σ H D I h;refine wpAny_execs_cons (thn (h1 a8 s σ H {D with nx:=u D} I h) λf s1 q=>?_);cases f with
 |next=>
  obtain⟨σ',H',I',q⟩:=q;exact h2 a8 s1 σ' H' D I' q
 |ret v=>exact q|brk=>exact q|cont=>exact q
#where in
def _aM(h1:PS X st t):PSs X [st] t:=by
 intro a8 s σ H D I h;refine wpAny_execs_cons (thn (h1 a8 s σ H D I h) λf s1 q=>?_);cases f with|next=>exact wpAny_execs_nil q|ret v=>exact q|brk=>exact q|cont=>exact q
def Inv.quiet{a8}{σ:St}{H s}(I:Inv X a8 σ H s):interactive X.env=false:=by simp[interactive,I.ok.kind]
abbrev xv6(te:TE):TS:=λD σ H=>te σ H λ_ H1=>D.nx σ H1
def _aN(he:PE X e te)(hs:swapsWith e none pos.line X.env=pure false<|>Ŕ):PS X (.Expr e pos) (xv6 te):=by
 intro a8 s σ H D I h;exact wpAny_Expr_any (thn (he a8 s σ H _ I h) λv s1 hz=>by obtain⟨x,H1,I1,r1,q1⟩:=hz;exact#[σ,H1,I1,q1]) I.quiet hs
abbrev tRet(te:TE):TS:=λD σ H=>te σ H D.rt
def _aO(he:PE X e te):PS X (.Return ⇑e pos) (tRet te):=by
 intro a8 s σ H D I h;exact wpAny_Return_some (thn (he a8 s σ H _ I h) λv s1 hz=>by obtain⟨x,H1,I1,r1,q1⟩:=hz;exact#[x,σ,H1,I1,r1,q1])
abbrev tIfS(c:TT)(t u:TS):TS:=λD σ H=>c σ H λb H1=>if b=true then t D σ H1 else u D σ H1
def _aP{c a b tc}(hc:PT X c tc)(ha:PSs X a t)(hb:PSs X b u):PS X (.If c a b pos) (tIfS tc t u):=by
 intro a8 s σ H D I h;refine wpAny_If (thn (hc a8 s σ H _ I h) λd s1 hz=>?_);obtain⟨H1,I1,q1⟩:=hz;cases d with|true=>exact ha a8 s1 σ H1 D I1 q1|false=>exact hb a8 s1 σ H1 D I1 q1
end
abbrev TG:=V->St->Hp->(St->Hp->Prop)->Prop
abbrev TGs:=List V->St->Hp->(St->Hp->Prop)->Prop
def PG(X:Cx)(gc:Expr)(t:TG):Prop:=
 ∀(a8:LA9) (s:Shared) (σ:St) (H:Hp) (v:V) (u:Value) (Q:St->Hp->Prop),Inv X a8 σ H s->RelV v u->t v σ H Q ->
  ∅ (assign gc X.env u) (λ_ s'=>∃ σ' H',Inv X a8 σ' H' s'/\Q σ' H') X.xe s
def PGs(X:Cx)(ts:List Expr)(t:TGs):Prop:=
 ∀(a8:LA9) (s:Shared) (σ:St) (H:Hp) (vs:List V) (us:List Value) (Q:St->Hp->Prop),Inv X a8 σ H s->Vals vs us->t vs σ H Q ->
  ∅ (assignInOrder ((assignEach ts X.env).map (·.2)) us) (λ_ s'=>∃ σ' H',Inv X a8 σ' H' s'/\Q σ' H') X.xe s
abbrev xx4:=V->V->V->Hp->(Hp->Prop)->Prop
def _aQ(X:Cx)(t:xx4):Prop:=
 ∀(a8:LA9) (s:Shared) (σ:St) (H:Hp) (o i v:V) (ov iv u:Value) (Q:Hp->Prop),Inv X a8 σ H s->RelV o ov->RelV i iv->RelV v u->t o i v H Q ->
  ∅ (setItem ov iv u) (λ_ s'=>∃H',Inv X a8 σ H' s'/\Q H') X.xe s
abbrev TIp:=V->V->Hp->VK->Prop
def PIp(X:Cx)(op:Operator)(t:TIp):Prop:=
 ∀(a8:LA9) (s:Shared) (σ:St) (H:Hp) (x y:V) (v u:Value) (Q:VK),Inv X a8 σ H s->RelV x v->RelV y u->t x y H Q ->
  ∅ (inplaceOp op v u) (EP X a8 σ Q) X.xe s
section
variable {X:Cx}{pos:Pos}
abbrev V3(i:Nat):TG:=λv σ H Q=>Q (σ.set i ⇑v) H
def _aR{i x}(hN:X.N.Nodup)(hi:X.N[i]?=⇑x)(hx:Loc X.env.scope x)(hf:X.fn x=true\/X.env.scope.names.lookup x=⇑.local<|>Ř):PG X (.Name x pos) (V3 i):=by
 intro a8 s σ H v u Q I r h;exact wpAny_assign_Name (_as I hN hi hx r (λs' I'=>#[_,H,I',h]) hf)
abbrev xwr:TGs:=λvs σ H Q=>vs=[]/\Q σ H
abbrev vk9(t:TG)(u:TGs):TGs:=λvs σ H Q=>∃v r,vs=v::r/\t v σ H fun σ' H'=>u r σ' H' Q
noncomputable def xq:PGs X [] xwr:=by
 rintro a8 s σ H vs us Q I r ⟨e,h⟩;subst e;exact assignInOrder_nil #[σ,H,I,h]
def kz{e es t u}(h1:PG X e t)(h2:PGs X es u)
  (hs:(assignEach (e::es) X.env).map (·.2)=assign e X.env::(assignEach es X.env).map (·.2)<|>Ŕ):PGs X (e::es) (vk9 t u):=by
 rintro a8 s σ H vs us Q I r ⟨v,vr,e1,h⟩;subst e1;cases r with
 |cons r rr=>
  rw[hs];exact assignInOrder_cons (thn (h1 a8 s σ H _ _ _ I r h) λ_ s1 hz=>by obtain⟨σ1,H1,I1,q1⟩:=hz;exact(h2 a8 s1 σ1 H1 _ _ Q I1 rr q1))
abbrev xxt(K:Frag)(n:Nat)(t:TGs):TG:=λv σ H Q=>∃a xs,v=.ref a/\SqT K H a xs/\xs.length=n/\t xs σ H Q
def _aS{es:List Expr}{k:Nat}{t:TGs}{n:Nat}(hc:X.calm=true)(h:PGs X es t)
  (hn:(assignEach es X.env).length=n<|>Ŕ) (ba:(assignEach es X.env).findIdx? (·.1)=none<|>Ŕ):PG X (.Tuple es k pos) (xxt X.K n t):=by
 intro a8 s σ H v u Q I r hw;obtain⟨a,xs,e1,hq,hl,hw⟩:=hw;subst e1;cases r;obtain⟨ab,rv,ht,hz⟩:=I.tuple hq;refine assign_Tuple_tuple (I.ok.hd hc) ht (by simp[hn,<-hl,rv.length]) ba λh' hx=>?_
 have I1:Inv X a8 σ H {s with heap:=h' }:=I.kept (t':=s.toks) λb o e=>hx b o (Xk (Xf e)) e
 exact h a8 _ σ H xs _ Q I1 (~~~rv) hw
abbrev xxu(to ti:TE)(t:xx4):TG:=λv σ H Q=>to σ H λo H1=>ti σ H1 λi H2=>t o i v H2 λH3=>Q σ H3
def _aT{o i:Expr}{to ti:TE}{t:xx4}(ho:PE X o to)(hi:PE X i ti)(hs:_aQ X t)
  (ha:autoParam (∀v,assign (.Subscript o i pos) X.env v=(do
   let ov <-holding [v] (eval o X.env)
   let iv <-holding [v,ov] (eval i X.env)
   standAt pos
   holding [v,ov,iv] (setItem ov iv v)
   release [v,ov,iv] [])) Ŗ):PG X (.Subscript o i pos) (xxu to ti t):=by
 intro a8 s σ H v u Q I r h;rw[ha];refine X0 (Ya (thn (ho a8 s σ H _ I h) λov s1 hz=>?_));obtain⟨x,H1,I1,r1,q1⟩:=hz;refine X0 (Ya (thn (hi a8 s1 σ H1 _ I1 q1) λiv s2 hz=>?_));obtain⟨y,H2,I2,r2,q2⟩:=hz;refine X0 (wpAny_standAt (X0 (Ya (thn (hs a8 s2 σ H2 x y v ov iv u _ I2 r1 r2 r q2) λ_ s3 hz=>?_))));obtain⟨H3,I3,q3⟩:=hz;exact wpAny_release #[σ,H3,I3,q3]
abbrev xqj(te:TE)(g:TG):TS:=λD σ H=>te σ H λx H1=>g x σ H1 D.nx
def _aU{tg e te g}(he:PE X e te)(hg:PG X tg g)(hs:swapsWithSole [tg] e pos.line X.env=pure false<|>Ŕ)(hw:swappedStores [tg] e X.env=pure none<|>Ŕ)
  (h1:(assignEach [tg] X.env).map (·.2)=[assign tg X.env]<|>Ŕ):PS X (.Assign [tg] e pos) (xqj te g):=by
 intro a8 s σ H D I h;refine wpAny_Assign_stores (thn (he a8 s σ H _ I h) λv s1 hz=>?_) hs hw;obtain⟨x,H1,I1,r1,q1⟩:=hz;rw[h1];exact thn (hg a8 s1 σ H1 x v _ I1 r1 q1) λ_ s2 q=>q
def _aV{i x e te ay}(hN:X.N.Nodup)(hi:X.N[i]?=⇑x)(hx:Loc X.env.scope x)(he:PE X e te)(hs:swapsWith e ⇑(.Name x ay) pos.line X.env=pure false<|>Ŕ)(hf:X.fn x=true\/X.env.scope.names.lookup x=⇑.local<|>Ř):
  PS X (.Assign [.Name x ay] e pos) (xqj te (V3 i)):=by
 intro a8 s σ H D I h;exact wpAny_Assign_Name (thn (he a8 s σ H _ I h) λv s1 hz=>by obtain⟨y,H1,I1,r1,q1⟩:=hz;exact(_as I1 hN hi hx r1 (λs2 I2=>#[_,H1,I2,q1]) hf)) hs
abbrev tAug(i:Nat)(te:TE)(ti:TIp):TS:=λD σ H=>∃x,σ[i]?=some ⇑x/\te σ H λy H1=>ti x y H1 λz H2=>D.nx (σ.set i ⇑z) H2
#where in
def _aW{i:Nat}{x:Str}{e:Expr}{te:TE}{op:Operator}{ti:TIp}{ay:Pos}(hN:X.N.Nodup)(hi:X.N[i]?=⇑x)(hx:Loc X.env.scope x)(he:PE X e te)(ho:PIp X op ti)(hf:X.fn x=true\/X.env.scope.names.lookup x=⇑.local<|>Ř):
  PS X (.AugAssign (.Name x ay) op e pos) (tAug i te ti):=by
 intro a8 s σ H D I h;obtain⟨v,e1,h⟩:=h;obtain⟨m,hn,hl⟩:=I.loc;have vis:Vis X.env.scope x:=by rcases hx with k|k;exact .inl k;exact .inr (.inl k)
 obtain⟨u,r,l⟩:=hl i x v hi e1 vis;refine wpAny_AugAssign_Name ?_;have go:∅ (eval e X.env) (λw s₂=>∅ (inplaceOp op u w) (λr s₃=>∅ (storeName X.env x r) (λ_=>SP X a8 D .next) X.xe s₃) X.xe s₂) X.xe s:=by
  refine thn (he a8 s σ H _ I h) λw s1 #[y,H1,I1,r1,q1]=>?_
  refine thn (ho a8 s1 σ H1 v y u w _ I1 r r1 q1) λz s2 #[zv,H2,I2,r2,q2]=>?_
  exact _as I2 hN hi hx r2 (λs3 I3=>#[_,H2,I3,q2]) hf
 rcases l with⟨hk,hm⟩|⟨hk,c,hc,gb⟩
 ·exact wpAny_loadName_local I.ok.kind hk hn hm go
 ·rcases hk with hk|hk
  ·exact wpAny_loadName_cell I.ok.kind hk hc gb go
  ·rcases hx with k|k
   ·have:X.env.scope.names.lookup x=⇑.free:=hk;rw[k]at this;cases this
   ·have:X.env.scope.names.lookup x=⇑.free:=hk;rw[k]at this;cases this
def ipI(f:Int->Int->Int):TIp:=λx y H Q=>∃i j,x=.int i/\y=.int j/\Q (.int (f i j)) H
def _aX:PIp X .Add (ipI λi j=>i+j):=by
 intro a8 s σ H x y v u Q I r1 r2 h;obtain⟨i,j,e1,e2,q⟩:=h;subst e1;subst e2;obtain⟨t,rfl⟩:=r1;obtain⟨t',rfl⟩:=r2;exact iadd_int #[.int _,H,I.tok _,#[_,rfl],q]
end
section
variable {X:Cx}{pos:Pos}
abbrev wwl(c:TT)(tb:TS):TS:=λD σ H=>∃W:Nat->St->Hp->Prop,(∃m,W m σ H)/\∀m σ H,W m σ H ->
 c σ H λb H1=>if b=true then ∃N:St->Hp->Prop,(∀ σ' H',N σ' H'->∃m',m'<m/\W m' σ' H')/\tb {D with nx:=N,ct:=N,bk:=D.nx} σ H1 else D.nx σ H1
#where in
def _aY{c:Expr}{body:List Stmt}{tc:TT}{tb:TS}(hp:PassesOwn (model X.prog X.w) X.A X.env X.xe)(hc:PT X c tc)(hb:PSs X body tb):PS X (.While c body [] pos) (wwl tc tb):=by
 intro a8 s σ H D I h;obtain⟨W,⟨m0,w0⟩,fy⟩:=h;refine wpAny_While (codeAny_whileLoop (λn s'=>∃ σ' H',Inv X a8 σ' H' s'/\W n σ' H') ?_ m0 #[σ,H,I,w0]);rintro n s1 ⟨σ1,H1,I1,w1⟩;refine Zf hp (thn (hc a8 s1 σ1 H1 _ I1 (fy n σ1 H1 w1)) λb s2 hz=>?_);obtain⟨H2,I2,q2⟩:=hz;cases b with
 | true=>
  obtain⟨N,hN,q2⟩:=q2;rw[Xb rfl];refine Zf hp (thn (hb a8 s2 σ1 H2 _ I2 q2) λf s3 q3=>?_);cases f with
  |next=>
   obtain⟨σ3,H3,I3,n3⟩:=q3;obtain⟨m',hm,w3⟩:=hN σ3 H3 n3;exact#[m',hm,σ3,H3,I3,w3]
  |cont=>
   obtain⟨σ3,H3,I3,n3⟩:=q3;obtain⟨m',hm,w3⟩:=hN σ3 H3 n3;exact#[m',hm,σ3,H3,I3,w3]
  |brk=>exact q3|ret v=>exact q3
 |false=>
  rw[Xj Bool.false_ne_true];exact wpAny_execs_nil #[σ1,H2,I2,q2]
end
structure It where
 go:Nat->Hp->Prop
 yld:Nat->Hp->V->Hp->Prop
 stop:Nat->Hp->Prop
def wW(X:Cx)(a8:LA9)(H:Hp)(b:Addr):Prop:=
 H b=none/\b≠X.env.locals/\b∉X.fs/\(b∈X.ex\/X.s₀.heap.objs.size<=b)/\(∀x c,X.env.cells.lookup x=⇑c->c≠b)/\∀p∈X.pn++a8,p.1≠b
def Inv.fpOk{X a8}{σ:St}{H H' s}{b:Addr}(I:Inv X a8 σ H s)(hb:↥s<=b)(hn:H' b=none):wW X a8 H' b:=by
 refine#[hn,Zk (Xq I.lt hb),I.nofs hb,.inr (Yd I.sz hb),λx c e z=>?_,λp hp z=>?_]
 ·obtain⟨v,q⟩:=I.cell x c e;exact absurd (Xq q.lt (z▸hb)) (Ym _)
 ·exact absurd (Xq (Xf (I.pin p hp).1) (z▸hb)) (Ym _)
structure Turn (P:Program)(w:World)(K:Frag)(tg:Expr)(J:It)(fp:List Addr)(it:Addr)(tn:Nat->Heap->Prop):Prop where
 mem:it∈fp
 obj:∀i h,tn i h->∀b∈fp,∃o,h.get? b=⇑o/\∀v,o.data≠.cell v
 keep:∀i h h',tn i h->(∀b∈fp,∀o,h.get? b=⇑o->h'.get? b=⇑o)->tn i h'
 item:∀(X:Cx),X.prog=P->X.w=w->X.K=K->X.calm=true->∀(i:Nat) (a8:LA9) (s:Shared) (σ:St) (H:Hp) (E:VP9),Inv X a8 σ H s->(∀b∈fp,wW X a8 H b)->tn i s.heap->J.go i H ->
  wpAny (model P w) X.A (pyNext (.ref it)) (λr s1=>∃u,r=⇑u /\
   wpAny (model P w) X.A (letOwnedTupleGo tg (.ref it) u) (λ_ s2=>∃x H',Inv X a8 σ H' s2/\RelV x u/\J.yld i H x H'/\tn (i+1) s2.heap/\∀b∈fp,H' b=none) E s1) E s
 done:∀(X:Cx),X.prog=P->X.w=w->X.K=K->X.calm=true->∀(i:Nat) (a8:LA9) (s:Shared) (σ:St) (H:Hp) (E:VP9),Inv X a8 σ H s->(∀b∈fp,wW X a8 H b)->tn i s.heap->J.stop i H ->
  wpAny (model P w) X.A (pyNext (.ref it)) (λr s1=>r=none/\Inv X a8 σ H s1) E s
 self:∀(A:Around) (i:Nat) (s:Shared) (Q:VP9) (E:VP9),tn i s.heap->Q (.ref it) s->wpAny (model P w) A (pyIter (.ref it)) Q E s
abbrev TI:=St->Hp->(It->Hp->Prop)->Prop
def PIE(X:Cx)(a8:LA9)(σ:St)(tg:Expr)(R:It->Hp->Prop)(itv:Value)(s2:Shared):Prop:=
 ∃(it:Addr) (fp:List Addr) (tn:Nat->Heap->Prop) (J:It) (H':Hp),itv=.ref it/\Inv X a8 σ H' s2/\Turn X.prog X.w X.K tg J fp it tn/\tn 0 s2.heap/\(∀b∈fp,wW X a8 H' b)/\R J H'
def PI(X:Cx)(tg ao:Expr)(wi:TI):Prop:=
 ∀(a8:LA9) (s:Shared) (σ:St) (H:Hp) (R:It->Hp->Prop),Inv X a8 σ H s->wi σ H R ->
  ∅ (eval ao X.env) (λv s1=>∅ (pyIter v) (PIE X a8 σ tg R) X.xe s1) X.xe s
def _aZ {M A E s tg it u o n vs Q} (ho : s.heap.get? it = ⇑o) (hc : o.cls = .type n) (hd : o.data = .fields vs)
    (hn : ["enumerate", "zip", "dict_itemiterator", "dict_reverseitemiterator", "odict_iterator", "itertools.zip_longest", "itertools.pairwise"].contains n = false) (hQ : Q () s): wpAny M A (letOwnedTupleGo tg (.ref it) u) Q E s:= by
  cases tg <;> first
    |exact X6 hQ
    |(cases u <;> first
        |exact X6 hQ
        | (refine X0 (wpAny_load ho ?_)
           rw[hc,hd];show wpAny M A (if _ = true then _ else _) Q E s;rw[Xj (by grind)];exact X6 hQ))
noncomputable def Itl(K:Frag)(a:Addr):It:=
 ⟨λi H=>∃xs x,SqL K H a xs/\xs[i]?=⇑x,λi H x H'=>H'=H/\∀xs,SqL K H a xs->xs[i]?=⇑x,λi H=>∃xs,SqL K H a xs/\xs.length<=i⟩
noncomputable def Itt(K:Frag)(a:Addr):It:=
 ⟨λi H=>∃xs x,SqT K H a xs/\xs[i]?=⇑x,λi H x H'=>H'=H/\∀xs,SqT K H a xs->xs[i]?=⇑x,λi H=>∃xs,SqT K H a xs/\xs.length<=i⟩
noncomputable def Itr(lo:Int)(n:Nat):It:=⟨λi _=>i<n,λi H x H'=>H'=H/\x=.int (lo+i),λi _=>n<=i⟩
def _a0{P w K tg}(a it):Turn P w K tg (Itl K a) [it] it (λi h=>h.IsListIter it a i) where
 mem:=by simp
 obj:=λi h st b hb=>by
  have e:b=it:= ~~~hb
  subst e;obtain⟨o,e,c,d⟩:=st;exact#[o,e,λv z=>by rw[d]at z;cases z]
 keep:=λi h h' st k=>st.at λo e=>k it (by simp) o e
 item:=by
  intro X hP hw hK hc i a8 s σ H E I hf st hg;subst hP hw hK;obtain⟨xs,x,hq,hx⟩:=hg;obtain⟨ab,rv,p,hz⟩:=I.list hq;obtain⟨u,hu,ru⟩:=rv.get hx;obtain⟨f0,f1,f2,f3,f4,f5⟩:=hf it (by simp);refine wpAny_pyNext_list_item st p.isList (~~~hu) λh' dv sb=>?_
  have I1:Inv X a8 σ H {s with heap:=h' }:=I.turned (t':=s.toks) (λb o hb e=>(sb.2 b hb).trans e) f0 f1 f3 f4 f5;obtain⟨o,e,c,d⟩:=id dv;exact#[u,rfl,_aZ e c d ⋯ #[x,H,I1,ru,#[rfl,λys hy=>by rw[I.list_inj hy hq];exact hx],dv,λb hb=>(hf b hb).1]]
 done:=by
  intro X hP hw hK hc i a8 s σ H E I hf st hg;subst hP hw hK;obtain⟨xs,hq,hx⟩:=hg;obtain⟨ab,rv,p,hz⟩:=I.list hq;obtain⟨f0,f1,f2,f3,f4,f5⟩:=hf it (by simp);have hl:=rv.length;exact wpAny_pyNext_list_end (I.ok.hd hc) st p.isList (by simp;lia) λh' eb=>#[rfl,I.turned (t':=s.toks) (λb o hb e=>eb b o hb e) f0 f1 f3 f4 f5]
 self:=λ_ _ _ _ _ st h=>wpAny_pyIter_listiter st h
def _a1{P w K tg}(a it):Turn P w K tg (Itt K a) [it] it (λi h=>h.IsTupleIter it a i) where
 mem:=by simp
 obj:=λi h st b hb=>by
  have e:b=it:= ~~~hb
  subst e;obtain⟨o,e,c,d⟩:=st;exact#[o,e,λv z=>by rw[d]at z;cases z]
 keep:=λi h h' st k=>st.at λo e=>k it (by simp) o e
 item:=by
  intro X hP hw hK hc i a8 s σ H E I hf st hg;subst hP hw hK;obtain⟨xs,x,hq,hx⟩:=hg;obtain⟨ab,rv,p,hz⟩:=I.tuple hq;obtain⟨u,hu,ru⟩:=rv.get hx;obtain⟨f0,f1,f2,f3,f4,f5⟩:=hf it (by simp);refine wpAny_pyNext_tuple_item st (p) (x:=u) (~~~hu) λh' dv sb=>?_
  have I1:Inv X a8 σ H {s with heap:=h' }:=I.turned (t':=s.toks) (λb o hb e=>(sb.2 b hb).trans e) f0 f1 f3 f4 f5;obtain⟨o,e,c,d⟩:=id dv;exact#[u,rfl,_aZ e c d ⋯ #[x,H,I1,ru,#[rfl,λys hy=>by rw[I.tuple_inj hy hq];exact hx],dv,λb hb=>(hf b hb).1]]
 done:=by
  intro X hP hw hK hc i a8 s σ H E I hf st hg;subst hP hw hK;obtain⟨xs,hq,hx⟩:=hg;obtain⟨ab,rv,p,hz⟩:=I.tuple hq;obtain⟨f0,f1,f2,f3,f4,f5⟩:=hf it (by simp);have hl:=rv.length;exact wpAny_pyNext_tuple_end (I.ok.hd hc) st (p) (by simp;lia) λh' eb=>#[rfl,I.turned (t':=s.toks) (λb o hb e=>eb b o hb e) f0 f1 f3 f4 f5]
 self:=λ_ _ _ _ _ st h=>wpAny_pyIter_tupleiter st h
def _a2{P w K tg}(it)(lo)(n):Turn P w K tg (Itr lo n) [it] it (λi h=>IsRangeIter h it (lo+(i)*1) ((n) - (i)) 1) where
 mem:=by simp
 obj:=λi h st b hb=>by
  have e:b=it:= ~~~hb
  subst e;exact#[_,st,λv z=>by
   cases z]
 keep:=λi h h' st k=>k it (by simp) _ st
 item:=by
  intro X hP hw hK hc i a8 s σ H E I hf st hg;subst hP hw hK;obtain⟨f0,f1,f2,f3,f4,f5⟩:=hf it (by simp);refine(Walks.range (prog:=X.prog) (w:=X.w) (I.ok.hd hc) it lo 1 n).item i s _ _ hg st λv h' tk hv dv kk=>?_
  obtain⟨t,rfl⟩:=hv;have I1:Inv X a8 σ H {s with heap:=h',toks:=tk}:=I.turned (λb o hb e=>kk b o (~~~hb) e) f0 f1 f3 f4 f5;refine#[_,rfl,_aZ dv rfl rfl ⋯ #[.int _,H,I1,#[t,?_],#[rfl,rfl],dv,λb hb=>(hf b hb).1]];rw[Int.mul_one]
 done:=by
  intro X hP hw hK hc i a8 s σ H E I hf st hg;obtain⟨f0,f1,f2,f3,f4,f5⟩:=hf it (by simp);exact wpAny_pyNext_range_end (I.ok.hd hc) st (by have:n<=i:=hg;lia) λh' eb=>#[rfl,I.turned (t':=s.toks) (λb o hb e=>eb b o hb e) f0 f1 f3 f4 f5]
 self:=λ_ _ _ _ _ st h=>wpAny_pyIter_rangeiter st h
section
variable {X:Cx}{tg:Expr}
def _a3{a8}{σ:St}{H s R E lo hi t u v tk}(I:Inv X a8 σ H s)(h1:-(2 ^ 62)<=lo)(h2:lo<2 ^ 62)(h3:-(2 ^ 62)<=hi)(h4:hi<2 ^ 62)
  (q:R (Itr lo (hi - lo).toNat) H):∅ (pyIter (.ref ↥s)) (PIE X a8 σ tg R) E {s with heap:=s.heap.push {cls:=.type "range",data:=.fields %[.int lo t,.int hi u,.int 1 v|0]},toks:=tk}:=by
 refine wpAny_pyIter_range (IsRange.new ..) (small_one h1 h2 h3 h4) ?_;have I1:Inv X a8 σ H {s with heap:=s.heap.push {cls:=.type "range",data:=.fields %[.int lo t,.int hi u,.int 1 v|0]},toks:=tk}:=I.kept λb o e=>X3 _ e
 refine#[(s.heap.push {cls:=.type "range",data:=.fields %[.int lo t,.int hi u,.int 1 v|0]}).objs.size,[(s.heap.push {cls:=.type "range",data:=.fields %[.int lo t,.int hi u,.int 1 v|0]}).objs.size],_,_,H,rfl,
  I1.kept (t':=tk) λb o e=>X3 _ e,_a2 _ lo (hi - lo).toNat,?_,λb hb=>?_,q]
 ·have e1:lo+((0:Nat):Int)*1=lo:=by simp
  have e2:(((hi - lo).toNat:Nat):Int) - ((0:Nat):Int)=Builtin.Range.rangeSize lo hi 1:=by rw[rangeSize_one];split<;>lia
  rw[e1,e2];exact X9 _ rfl
 ·have e:b=(s.heap.push {cls:=.type "range",data:=.fields %[.int lo t,.int hi u,.int 1 v|0]}).objs.size:= ~~~hb
  subst e;exact I1.fpOk (Xd _) (I1.hok.fresh (Xd _))
abbrev xwm(ta:TA):TI:=fun σ H R=>ta σ H λvs H1=>∃j:Int,vs=[.int j]/\-(2 ^ 62)<=j/\j<2 ^ 62/\R (Itr 0 j.toNat) H1
def _a4{a ta p pos}(hg:Gl X "range")(hm:X.mg "range"=none)(ha:PA X [a] ta)(hs:starEach [a] X.env=[(false,eval a X.env)]<|>Ŕ):PI X tg (.Call (.Name "range" p) [a] [] pos) (xwm ta):=by
 intro a8 s σ H R I h;refine Call_ (Jj I hg hm boot_range (Y0 (thn (ha pos a8 s σ H _ I h) λus s1 hz=>?_) hs rfl));obtain⟨vs,H1,I1,r1,q1⟩:=hz;obtain⟨j,e,q1,q2,q⟩:=q1;subst e;cases r1 with
 |cons r rr=>
  cases rr;obtain⟨t,rfl⟩:=r;exact call_range_1 (_a3 I1 ⋯ ⋯ q1 q2 (~~~q))
abbrev tFor(wi:TI)(g:TG)(tb:TS):TS:=λD σ H=>wi σ H λJ H1=>∃W:Nat->Nat->St->Hp->Prop,(∃m,W 0 m σ H1)/\∀i m σ H,W i m σ H ->
 (J.stop i H/\D.nx σ H)\/(J.go i H/\∃N:St->Hp->Prop,(∀ σ' H',N σ' H'->∃m',m'<m/\W (i+1) m' σ' H')/\∀x H',J.yld i H x H'->g x σ H' fun σ2 H2=>tb {D with nx:=N,ct:=N,bk:=D.nx} σ2 H2)
def V6(fp:List Addr)(h:Heap):LA9:=fp.filterMap λb=>(h.get? b).map λo=>(b,o)
def _a5{fp h b o}(hb:b∈fp)(e:h.get? b=⇑o):(b,o)∈V6 fp h:=List.mem_filterMap.mpr #[b,hb,by rw[e];rfl]
def _a6{fp h p}(hp:p∈V6 fp h):p.1∈fp/\h.get? p.1=⇑p.2:=by
 obtain⟨b,hb,e⟩:=List.mem_filterMap.mp hp;cases q:h.get? b with
 |none=>rw[q]at e;cases e
 |some o=>
  rw[q]at e;have e':=_aa e;subst e';exact#[hb,q]
def Inv.pinned{a8}{σ:St}{H s fp}(I:Inv X a8 σ H s)(hf:∀b∈fp,wW X a8 H b)(ho:∀b∈fp,∃o,s.heap.get? b=⇑o/\∀v,o.data≠.cell v):Inv X (a8++V6 fp s.heap) σ H s:=
 I.pins_of λp hp=>(aA hp).elim (λz=>I.pin p (_ab _ z)) λz=>by
  obtain⟨hb,e⟩:=_a6 z;obtain⟨f0,f1,f2,_⟩:=hf p.1 hb;obtain⟨o,e',d⟩:=ho p.1 hb;rw[e]at e';cases e';exact#[e,f0,f1,f2,d]
def Inv.unpinned{a8 pl}{σ:St}{H s}(I:Inv X (a8++pl) σ H s):Inv X a8 σ H s:=I.pins_of λp hp=>I.pin p (_ab _ (_ac _ hp))
#where in
def _a7{ao:Expr}{body:List Stmt}{wi:TI}{g:TG}{tb:TS}{pos:Pos}(hp:PassesOwn (model X.prog X.w) X.A X.env X.xe)(hc:X.calm=true)(hi:PI X tg ao wi)(hg:PG X tg g)(hb:PSs X body tb)
  (hs:(∀x,foldedSetIterable ao X.env x=pure x)<|>Ŗ):PS X (.For tg ao body [] pos) (tFor wi g tb):=by
 intro a8 s σ H D I h;refine wpAny_For (thn (hi a8 s σ H _ I h) λv s1 h1=>thn h1 λitv s2 h2=>?_) hs;obtain⟨it,fp,tn,J,H2,e,I2,T,bo,f2,W,⟨m0,w0⟩,fy⟩:=h2;subst e;have jm:∀{H':Hp},(∀b∈fp,H' b=none)->∀b∈fp,wW X a8 H' b:=λhn b hb=>#[hn b hb,(f2 b hb).2]
 refine codeAny_forLoop_any (λn s'=>∃i σ' H',Inv X a8 σ' H' s'/\tn i s'.heap/\(∀b∈fp,H' b=none)/\W i n σ' H') ?_ m0 #[0,σ,H2,I2,bo,λb hb=>(f2 b hb).1,w0];rintro n s3 ⟨i,σ3,H3,I3,dl,ow,w3⟩;rcases fy i n σ3 H3 w3 with⟨stop,qn⟩|⟨go,N,hN,step⟩
 ·refine Zf hp (thn (T.done X rfl rfl rfl hc i a8 s3 σ3 H3 X.xe I3 (jm ow) dl stop) λr s4 #[hr,I4]=>?_);subst hr;exact wpAny_execs_nil #[σ3,H3,I4,qn]
 ·refine Zf hp (thn (T.item X rfl rfl rfl hc i a8 s3 σ3 H3 X.xe I3 (jm ow) dl go) λr s4 #[u,hr,h4]=>?_);subst hr;refine Zf hp (thn h4 λ_ s5 #[x,H5,I5,r5,y5,nz,fr5]=>?_);have I5':=I5.pinned (jm fr5) (T.obj _ _ nz);refine Zf hp (thn (hg _ s5 σ3 H5 x u _ I5' r5 (step x H5 y5)) λ_ s6 #[σ6,H6,I6,q6]=>?_);refine Zf hp (thn (hb _ s6 σ6 H6 _ I6 q6) λf s7 q7=>?_);have again:∀{σ7:St} {H7:Hp},Inv X (a8++V6 fp s5.heap) σ7 H7 s7->N σ7 H7->∃m,m<n/\∃i σ' H',Inv X a8 σ' H' s7/\tn i s7.heap/\(∀b∈fp,H' b=none)/\W i m σ' H':=fun {σ7 H7} I7 n7=>by
   obtain⟨m',hm,w7⟩:=hN σ7 H7 n7;refine#[m',hm,i+1,σ7,H7,I7.unpinned,T.keep _ _ _ nz λb hb o e=>(I7.pin (b,o) (_ab _ (_ab _ (_a5 hb e)))).1,λb hb=>?_,w7];obtain⟨o,e,d⟩:=T.obj _ _ nz b hb;exact(I7.pin (b,o) (_ab _ (_ab _ (_a5 hb e)))).2.1
  cases f with|next=>obtain⟨σ7,H7,I7,n7⟩:=q7;exact again I7 n7|cont=>obtain⟨σ7,H7,I7,n7⟩:=q7;exact again I7 n7|brk=>obtain⟨σ7,H7,I7,q7⟩:=q7;exact#[σ7,H7,I7.unpinned,q7]|ret v=>obtain⟨x7,σ7,H7,I7,r7,q7⟩:=q7;exact#[x7,σ7,H7,I7.unpinned,r7,q7]
end
abbrev R2:=V->V->Hp->VK->Prop
def OpR(X:Cx)(f:Value->Value->Sem Value)(r:R2):Prop:=
 ∀(a8:LA9) (s:Shared) (σ:St) (H:Hp) (x y:V) (v u:Value) (Q:VK),Inv X a8 σ H s->RelV x v->RelV y u->r x y H Q ->
  ∅ (f v u) (EP X a8 σ Q) X.xe s
def UnR(X:Cx)(f:Value->Sem Value)(r:V->Hp->VK->Prop):Prop:=
 ∀(a8:LA9) (s:Shared) (σ:St) (H:Hp) (x:V) (v:Value) (Q:VK),Inv X a8 σ H s->RelV x v->r x H Q ->
  ∅ (f v) (EP X a8 σ Q) X.xe s
def CallR(X:Cx)(f:Value)(r:List V->Hp->VK->Prop):Prop:=
 ∀(a8:LA9) (s:Shared) (σ:St) (H:Hp) (xs:List V) (us:List Value) (Q:VK),Inv X a8 σ H s->Vals xs us->r xs H Q ->
  ∅ (call f us) (EP X a8 σ Q) X.xe s
def TruR(X:Cx)(r:V->Hp->(Bool->Hp->Prop)->Prop):Prop:=
 ∀(a8:LA9) (s:Shared) (σ:St) (H:Hp) (x:V) (v:Value) (Q:Bool->Hp->Prop),Inv X a8 σ H s->RelV x v->r x H Q ->
  ∅ (truthy v) (TP X a8 σ Q) X.xe s
abbrev tOp(r:R2)(ta tb:TE):TE:=fun σ H Q=>ta σ H λx H1=>tb σ H1 λy H2=>r x y H2 Q
abbrev tUn(r:V->Hp->VK->Prop)(ta:TE):TE:=fun σ H Q=>ta σ H λx H1=>r x H1 Q
def rI(C:Int->Int->Prop)(g:Int->Int->V):R2:=λx y H Q=>∃i j,x=.int i/\y=.int j/\C i j/\Q (g i j) H
def rI0(g:Int->Int->V):R2:=λx y H Q=>∃i j,x=.int i/\y=.int j/\Q (g i j) H
def rU(g:Int->V):V->Hp->VK->Prop:=λx H Q=>∃i,x=.int i/\Q (g i) H
section
variable {X:Cx}{a b c:Expr}{ta tb tc:TE}{pos:Pos}
def _a8(ha:PE X a ta)(hb:PE X b tb){a8 s}{σ:St}{H}{R:V->V->Hp->Prop}(I:Inv X a8 σ H s)
  (h:ta σ H λx H1=>tb σ H1 λy H2=>R x y H2) {Q} {f:Value->Value->Sem Value}
  (hf:∀v u s2 x y H2,Inv X a8 σ H2 s2->RelV x v->RelV y u->R x y H2->∅ (f v u) Q X.xe s2):
  ∅ (eval a X.env) (λv s₁=>∅ (eval b X.env) (λu s₂=>∅ (f v u) Q X.xe s₂) X.xe s₁) X.xe s:=by
 exact thn (ha a8 s σ H _ I h) λv s1 #[x,H1,I1,r1,q1]=>(thn (hb a8 s1 σ H1 _ I1 q1) λu s2 #[y,H2,I2,r2,q2]=>(hf v u s2 x y H2 I2 r1 r2 q2))
def _a9{op r}(ho:OpR X (binaryOp op) r)(ha:PE X a ta)(hb:PE X b tb):PE X (.BinOp a op b pos) (tOp r ta tb):=by
 intro a8 s σ H Q I h;exact wpAny_BinOp (_a8 ha hb I h λv u s2 x y H2 I2 rx ry q=>ho a8 s2 σ H2 x y v u Q I2 rx ry q)
def _ba{op r}(ho:UnR X (unaryOp op) r)(ha:PE X a ta):PE X (.UnaryOp op a pos) (tUn r ta):=by
 intro a8 s σ H Q I h;exact UnaryOp_ (thn (ha a8 s σ H _ I h) λv s1 hz=>by obtain⟨x,H1,I1,r1,q1⟩:=hz;exact ho a8 s1 σ H1 x v Q I1 r1 q1)
def opI{f C}{g:Int->Int->Int}
  (rule:∀i j (t u) s Q E,C i j->Q (.int (g i j) s.toks) {s with toks:=s.toks+1}->∅ (f (.int i t) (.int j u)) Q E s):
  OpR X f (rI C λi j=>.int (g i j)):=by
 rintro a8 s σ H x y v u Q I rx ry ⟨i,j,rfl,rfl,hc,q⟩;obtain⟨t,rfl⟩:=rx;obtain⟨t',rfl⟩:=ry;exact rule i j t t' s _ _ hc #[.int _,H,I.tok _,#[_,rfl],q]
def _bb{f}{g:Int->Int->Int}
  (rule:∀i j (t u) s Q E,Q (.int (g i j) s.toks) {s with toks:=s.toks+1}->∅ (f (.int i t) (.int j u)) Q E s):
  OpR X f (rI0 λi j=>.int (g i j)):=by
 rintro a8 s σ H x y v u Q I rx ry ⟨i,j,rfl,rfl,q⟩;obtain⟨t,rfl⟩:=rx;obtain⟨t',rfl⟩:=ry;exact rule i j t t' s _ _ #[.int _,H,I.tok _,#[_,rfl],q]
def _bc{f}{g:Int->Int->Bool}
  (rule:∀i j (t u) (s) (Q) (E),Q (.bool (g i j)) s->∅ (f (.int i t) (.int j u)) Q E s):
  OpR X f (rI0 λi j=>.bl (g i j)):=by
 rintro a8 s σ H x y v u Q I rx ry ⟨i,j,rfl,rfl,q⟩;obtain⟨t,rfl⟩:=rx;obtain⟨t',rfl⟩:=ry;exact rule i j t t' s _ _ #[.bl _,H,I,rfl,q]
def op_add:OpR X (binaryOp .Add) (rI0 λi j=>.int (i+j)):=_bb λ_ _ _ _ _ _ _ q=>add_int q
def _bd:OpR X (binaryOp .Sub) (rI0 λi j=>.int (i - j)):=_bb λ_ _ _ _ _ _ _ q=>sub_int q
def _be:OpR X (binaryOp .Mod) (rI (λ_ j=>0<j) λi j=>.int (i % j)):=opI λi j _ _ _ _ _ hc q=>by
 exact mod_int' ⋯ (by rw[Int.fmod_eq_emod_of_nonneg i ⋯];exact q)
def unI{f}{g:Int->Int}
  (rule:∀i t s Q E,Q (.int (g i) s.toks) {s with toks:=s.toks+1}->∅ (f (.int i t)) Q E s):
  UnR X f (rU λi=>.int (g i)):=by
 rintro a8 s σ H x v Q I rx ⟨i,rfl,q⟩;obtain⟨t,rfl⟩:=rx;exact rule i t s _ _ #[.int _,H,I.tok _,#[_,rfl],q]
def _bf:UnR X (unaryOp .USub) (rU λi=>.int (-i)):=unI λ_ _ _ _ _ q=>neg_int q
end
section
variable {X:Cx}{a b c:Expr}{ta tb tc:TE}{pos:Pos}
def _bg{a8}{σ:St}{H s Q k k'}(I:Inv X a8 σ H s)(q:Q (.bl k) H)(e:k=k'):EP X a8 σ Q (.bool k') s:=by
 subst e;exact#[.bl k,H,I,rfl,q]
def _bh:OpR X (compareOp .Lt) (rI0 λi j=>.bl (decide (i<j))):=_bc λ_ _ _ _ _ _ _ q=>lt_int q
def XW:OpR X (compareOp .LtE) (rI0 λi j=>.bl (decide (i<=j))):=_bc λ_ _ _ _ _ _ _ q=>le_int q
def _bi:OpR X (compareOp .GtE) (rI0 λi j=>.bl (decide (j<=i))):=_bc λ_ _ _ _ _ _ _ q=>ge_int q
def _bj:OpR X (compareOp .In) (λx y H Q=>∃i j,x=.str i/\y=.str j/\Q (.bl (!(Builtin.Str.occurrences j i 0 j.length 1).isEmpty)) H):=by
 rintro a8 s σ H x y v u Q I rx ry ⟨i,j,rfl,rfl,q⟩;obtain⟨t,rfl⟩:=rx;obtain⟨t',rfl⟩:=ry;exact in_str (_bg I q rfl)
def _bk:OpR X (compareOp .Is) (λx y H Q=>y=.non/\Q (.bl (decide (x=.non))) H):=by
 rintro a8 s σ H x y v u Q I rx ry ⟨rfl,q⟩;cases ry;refine is_none_gen (_bg I q ?_);cases x<;>first
  |(obtain⟨t,rfl⟩:=rx;rfl)
def _bl:OpR X (compareOp .IsNot) (λx y H Q=>y=.non/\Q (.bl (!decide (x=.non))) H):=by
 rintro a8 s σ H x y v u Q I rx ry ⟨rfl,q⟩;cases ry;refine isnot_none_gen (_bg I q ?_);cases x<;>first
  |(obtain⟨t,rfl⟩:=rx;rfl)
def OpR.or{f r r'}(h:OpR X f r)(h':OpR X f r'):OpR X f (λx y H Q=>r x y H Q\/r' x y H Q):=by
 intro a8 s σ H x y v u Q I rx ry q;rcases q with q|q
 ·exact h a8 s σ H x y v u Q I rx ry q
 ·exact h' a8 s σ H x y v u Q I rx ry q
def J9 b {op}(h:op≠.In<|>ŕ)(h2:op≠.NotIn<|>ŕ):behindInMarks op b=false:=by
 have e1:(op==CmpOp.In)=false:=by cases op<;>first|rfl|exact absurd rfl h
 have e2:(op==CmpOp.NotIn)=false:=by cases op<;>first|rfl|exact absurd rfl h2
 cases b<;>simp[behindInMarks,e1,e2]
def _bm{op r}(ho:OpR X (compareOp op) r)(ha:PE X a ta)(hb:PE X b tb)(hm:behindInMarks op b=false):PE X (.Compare a [op] [b] pos) (tOp r ta tb):=by
 intro a8 s σ H Q I h;exact wpAny_Compare1 (_a8 ha hb I h λv u s2 x y H2 I2 rx ry q=>ho a8 s2 σ H2 x y v u Q I2 rx ry q) hm
abbrev wwm(t:TE):TT:=fun σ H Q=>t σ H λx H'=>∃k,x=.bl k/\Q k H'
def _bn{op r}(ho:OpR X (compareOp op) r)(ha:PE X a ta)(hb:PE X b tb)(hm:behindInMarks op b=false):PT X (.Compare a [op] [b] pos) (wwm (tOp r ta tb)):=by
 intro a8 s σ H Q I h;refine wpAny_isTrue_Compare1 (thn (ha a8 s σ H _ I h) λv s1 #[x,H1,I1,r1,q1]=>thn (hb a8 s1 σ H1 _ I1 q1) λu s2 #[y,H2,I2,r2,q2]=>
  thn (ho a8 s2 σ H2 x y v u _ I2 r1 r2 q2) λc s3 #[z,H3,I3,r3,k,e,q3]=>?_) hm
 subst e;cases r3;exact Z5 #[H3,I3,q3]
abbrev vz1(r r':R2)(ta tb tc:TE):TE:=fun σ H Q=>ta σ H λx H1=>tb σ H1 λy H2=>r x y H2 λz H3=>∃k,z=.bl k /\
 (if k=true then tc σ H3 λw' H4=>r' y w' H4 Q else Q (.bl false) H3)
def _bo{op op' r r'}(ho:OpR X (compareOp op) r)(lh:OpR X (compareOp op') r')(ha:PE X a ta)(hb:PE X b tb)(hc:PE X c tc)
  (hm:lastMarks [op,op'] [b,c]=false:=by ac_rfl):PT X (.Compare a [op,op'] [b,c] pos) (wwm (vz1 r r' ta tb tc)):=by
 intro a8 s σ H Q I h;refine isTrue_chain (thn (ha a8 s σ H _ I h) λv s1 #[x,H1,I1,r1,q1]=>test_link (thn (hb a8 s1 σ H1 _ I1 q1) λu s2 #[y,H2,I2,r2,q2]=>
  thn (ho a8 s2 σ H2 x y v u _ I2 r1 r2 q2) λd s3 #[z,H3,I3,r3,k,e,q3]=>?_)) hm
 subst e;cases r3;refine Z5 ?_;cases k with
 |false=>
  obtain⟨k',e',q'⟩:=q3;cases e';exact ite_ff #[H3,I3,q']
 |true=>
  refine ite_tt (test_last (thn (hc a8 s3 σ H3 _ I3 q3) λw' s4 #[z',H4,I4,r4,q4]=>thn (lh a8 s4 σ H4 y z' u w' _ I4 r2 r4 q4) λd' s5 #[z2,H5,I5,r5,k2,e2,q5]=>?_));subst e2;cases r5;exact Z5 #[H5,I5,q5]
def _bp(K:Frag)(x:V)(H:Hp)(k:Bool):Prop:=
 match x with
 |.non=>k=false|.bl b=>k=b|.int i=>k=(i != 0)|.str y=>y.length<=sizeLine/\k=((y.length:Int) != 0)|.byt y=>y.size<=sizeLine/\k=((y.size:Int) != 0)|.ref p=>(∃xs,SqL K H p xs/\k=!xs.isEmpty)\/(∃xs,SqT K H p xs/\k=!xs.isEmpty)\/∃kvs,H p=⇑(.dK kvs)/\k=!kvs.isEmpty|_=>False
def _bq{κ kvs}{vs:List (κ×Value)}(r:KV kvs vs):(!vs.isEmpty)=!kvs.isEmpty:=by
 cases r<;>rfl
def _br{xs ab}(r:Vals xs ab):(!ab.toArray.isEmpty)=!xs.isEmpty:=by
 cases r<;>simp
def VZ:(sizeLine)<2 ^ 63:=⋯
def _bs:TruR X (λx H Q=>∃k,_bp X.K x H k/\Q k H):=by
 rintro a8 s σ H x v Q I rx ⟨k,e,q⟩;have hl:=VZ;have hs:sizeLine=16777216:=sizeLine_eq;cases x with
 | non=>
  cases rx;have e':k=false:=e;subst e';exact truthy_none #[H,I,q]
 | bl b=>
  cases rx;have e':k=b:=e;subst e';exact Z5 #[H,I,q]
 | int i=>
  obtain⟨t,rfl⟩:=rx;have e':k=(i != 0):=e;subst e';exact PySem.P.truthy_int #[H,I,q]
 | str y=>
  obtain⟨t,rfl⟩:=rx;obtain⟨hy,e'⟩:y.length<=sizeLine/\k=((y.length:Int) != 0):=e;subst e';exact PySem.P.truthy_str ⋯ #[H,I.tok _,q]
 | byt y=>
  obtain⟨t,rfl⟩:=rx;obtain⟨hy,e'⟩:y.size<=sizeLine/\k=((y.size:Int) != 0):=e;subst e';exact PySem.W.truthy_bytes ⋯ #[H,I.tok _,q]
 | ref p=>
  cases rx;have e':(∃xs,SqL X.K H p xs/\k=!xs.isEmpty)\/(∃xs,SqT X.K H p xs/\k=!xs.isEmpty)\/∃kvs,H p=⇑(.dK kvs)/\k=!kvs.isEmpty:=e;rcases e' with⟨xs,hx,e'⟩|⟨xs,hx,e'⟩|⟨kvs,hx,e'⟩
  ·subst e';obtain⟨ab,r,pl,hz⟩:=I.list hx;have ae:=r.length;exact wpAny_truthy_list pl.isList (by simp only[X8];lia) #[H,I.tok _,by rw[_br r];exact q]
  ·subst e';obtain⟨ab,r,pl,hz⟩:=I.tuple hx;have ae:=r.length;exact truthy_tuple pl (by simp only[X8];lia) #[H,I.tok _,by rw[_br r];exact q]
  ·subst e';obtain⟨hz,hS,vs,r,m⟩:kvs.length<=sizeLine/\(p==sysModules)=false/\∃vs,KV kvs vs/\s.heap.DictOf (xj X.prog X.w) p vs:=I.hok p _ hx;have ae:kvs.length=vs.length:=Paired.length r;exact wpAny_truthy_dict hS m ⋯ #[H,I.tok _,by rw[_bq r];exact q]
 |_=>exact(show False from e).elim
def _bt(ha:PE X a ta)(he:∀gf,isTrue a X.env gf=(do let v <-gf;standAt a.pos;holding [v] (truthy v))):
  PT X a (fun σ H Q=>ta σ H λx H'=>∃k,_bp X.K x H' k/\Q k H'):=by
 intro a8 s σ H Q I h;exact isTrue_plain (thn (ha a8 s σ H _ I h) λv s1 hz=>by obtain⟨x,H1,I1,r1,q1⟩:=hz;exact _bs a8 s1 σ H1 x v Q I1 r1 q1) (he _)
def _Oa:OpR X (binaryOp .Add) (λx y H Q=>∃i j,x=.str i/\y=.str j/\i.length+j.length<=sizeLine/\Q (.str (i++j)) H):=by
 rintro a8 s σ H x y v u Q I rx ry ⟨i,j,rfl,rfl,hz,q⟩;obtain⟨t,rfl⟩:=rx;obtain⟨t',rfl⟩:=ry;exact add_str (λt' tk=>#[.str (i++j),H,I.tok _,#[_,rfl],q]) hz
def xk{x us}(r:Vals [x] us):∃u,us=[u]/\RelV x u:=by
 cases r with|cons r1 r2=>cases r2;exact#[_,rfl,r1]
def _bu{x y us}(r:Vals [x,y] us):∃u w',us=[u,w']/\RelV x u/\RelV y w':=by
 cases r with
 |cons r1 r2=>
  cases r2 with|cons r3 r4=>cases r4;exact#[_,_,rfl,r1,r3]
def _bv:CallR X (.type "int") (λxs H Q=>(∃i,xs=[.int i]/\Q (.int i) H)\/∃k,xs=[.bl k]/\Q (.int (if k then 1 else 0)) H):=by
 intro a8 s σ H xs us Q I r h;rcases h with⟨i,rfl,q⟩|⟨k,rfl,q⟩
 ·obtain⟨u,rfl,t,rfl⟩:=xk r;exact call_int_int #[.int i,H,I,#[_,rfl],q]
 ·obtain⟨u,rfl,r1⟩:=xk r;cases r1;exact call_int_bool #[.int _,H,I.tok _,#[_,rfl],q]
end
structure ObjM (h:Heap)(x dx C:Addr)(mA:Str->Option Value):Prop where
 obj:h.get? x=⇑(PySem.W.instObj C dx)
 ns:h.Ns1 dx mA
 ne:dx≠x
#where in
def _bw{h:Heap}{dx mA}(n:h.Ns1 dx mA):∃od,h.get? dx=⇑od/\∀name,PySem.W.lookIn name od=⇑(mA name):=by
 obtain⟨o,es,ep,ho,hd,hk,_,hm⟩:=n;refine#[o,ho,λname=>?_];have e:=hm name;unfold nsFind findBy at e;rw[<-Array.find?_toList]at e;unfold PySem.W.lookIn;rw[hd];dsimp only
 split
 ·rename_i y q;rw[q]at e;exact congrArg some e
 ·rename_i q;have a:es.toList.any (·.refKey)=false:=by
   rw[List.any_eq_false];intro y hy;obtain⟨z,t,ko⟩:=hk y (Array.mem_toList_iff.mp hy);simp[DictEntry.refKey,ko]
  grind
def ObjM.look{h x dx C mA}(I:ObjM h x dx C mA):∃od,PySem.W.InstAt h x (PySem.W.instObj C dx) C ⇑od/\∀name,PySem.W.lookIn name od=⇑(mA name):=
 let ⟨od,ho,hl⟩:=_bw I.ns
 #[od,#[I.obj,rfl,rfl,ho],hl]
def RelO.some_of{v o}(r:RelO ⇑v o):∃u,o=⇑u/\RelV v u:=by
 cases o with|none=>exact(r).elim|some u=>exact#[u,rfl,r]
section
variable {P:Program}{w:World}{H H':Hp}{h h':Heap}{a C dx:Addr}{fs fs':List (Str×V)}
def _bx(hok:HOk P w H h)(e:H a=⇑(.ins C dx fs)):∃mA,ObjM h a dx C mA/\(∀f,RelO (fs.lookup f) (mA f))/\PySem.Within mA (fs.map (·.1))/\fs.length<=1000/\H dx=⇑(.own a):=by
 obtain⟨d,z,ne,ob,mA,n,r,q⟩:=(hok a _ e);exact#[mA,#[ob,n,ne],r,q,z,d]
end
structure Cls (K:Frag)(C:Addr):Prop where
 pg:PySem.W.plainGet K C Str.empty=true
 hd:PySem.W.hasDictIn K C=true
 po:PySem.W.plainOver K C=true
 sa:findIn K (.ref C) "__setattr__"=some ⇑(.builtin "object.__setattr__")
def Cls.get{K C}(c:Cls K C) f:PySem.W.plainGet K C f=true:=c.pg
section
variable {X:Cx}{a8:LA9}{σ:St}{H:Hp}{s:Shared}{A:Around}{E:VP9}{Q:VP9}{c:Value}{b:Bool}
inductive TyOf (K:Frag)(H:Hp):V->Value->Prop where
 | non:TyOf K H .non (.type "NoneType")
 | bl (x:Bool):TyOf K H (.bl x) (.type "bool")
 | int (i:Int):TyOf K H (.int i) (.type "int")
 | str (x:Str):TyOf K H (.str x) (.type "str")
 | flt (x:UInt64):TyOf K H (.flt x) (.type "float")
 | lst {a:Addr} {xs:List V} (e:H a=⇑(.lst xs)):TyOf K H (.ref a) (.type "list")
 | frz {a:Addr} {o:Obj} {xs:List V} (e:H a=⇑(.frz o (.lst xs))):TyOf K H (.ref a) (.type "list")
 | tup {a:Addr} {xs:List V} (e:H a=⇑(.tup xs)):TyOf K H (.ref a) (.type "tuple")
 | dK {a:Addr} {kvs:List (Key×V)} (e:H a=⇑(.dK kvs)):TyOf K H (.ref a) (.type "dict")
 | dT {a:Addr} {kvs:List (List Key×V)} (e:H a=⇑(.dT kvs)):TyOf K H (.ref a) (.type "dict")
 | ins {a C dx:Addr} {fs:List (Str×V)} (e:H a=⇑(.ins C dx fs)) (cl:Cls K C) (ha:findIn K (.ref C) "__class__"=some ⇑(.builtin "object.__class__"))
   (hn:PySem.W.specialIn K (.builtin "object.__class__") "__get__"=some ⇑(.builtin "getset_descriptor.__get__")) (sg:PySem.W.takesIn K (.builtin "object.__class__")=⇑true)
   (hm:PySem.W.mroIn K C (.type "object")=⇑true):TyOf K H (.ref a) (.ref C)
def _by{x u t}(I:Inv X a8 σ H s)(rx:RelV x u)(ty:TyOf X.K H x t)(e:kitOne X.K t c=⇑b)(h:∀tk,Q (.bool b) {s with toks:=tk}):
  wpAny (model X.prog X.w) A (call (.builtin "isinstance") [u,c]) Q E s:=by
 cases ty with
 |non=>cases(rx);exact Ye PySem.W.kitx_none I.kIn Zi e (nofun) h|bl y=>cases(rx);exact Ye PySem.W.kitx_bool I.kIn Zi e (nofun) h|int i=>obtain⟨t,q⟩:=(rx);cases q;exact Ye PySem.W.kitx_int I.kIn Zi e (nofun) h|str y=>obtain⟨t,q⟩:=(rx);cases q;exact Ye PySem.W.kitx_str I.kIn Zi e (nofun) h|flt y=>obtain⟨t,q⟩:=(rx);cases q;exact Ye PySem.W.kitx_float I.kIn Zi e (nofun) h
 |@lst a xs ea=>
  cases(show u=Value.ref a from rx);obtain⟨_,_,n,_,h1⟩:=(I.hok a _ ea);exact Ye PySem.W.kitx_list I.kIn #[_,h1,rfl] e (nofun) h
 |@frz a ob xs ea=>
  cases(rx);obtain⟨_,_,_,n,_,h1⟩:=(I.hok a _ ea);exact Ye PySem.W.kitx_list I.kIn #[_,h1,rfl] e (nofun) h
 |@tup a xs ea=>
  cases(show u=Value.ref a from rx);obtain⟨_,_,_,p⟩:=(I.hok a _ ea);obtain⟨o,h1,h2,_⟩:=p;exact Ye PySem.W.kitx_tuple I.kIn #[o,h1,h2] e (nofun) h
 |@dK a kvs ea=>
  cases(show u=Value.ref a from rx);obtain⟨_,_,vs,_,p⟩:=(I.hok a _ ea);obtain⟨o,es,ep,h1,h2,_⟩:=p;exact Ye PySem.W.kitx_dict I.kIn #[o,h1,h2.1] e (nofun) h
 |@dT a kvs ea=>
  cases(show u=Value.ref a from rx);obtain⟨_,_,xs,_,o,es,ep,h1,h2,_⟩:=(I.hok a _ ea);exact Ye PySem.W.kitx_dict I.kIn #[o,h1,h2.1] e (nofun) h
 |@ins a C dx fs ea cl ha hn sg hm=>
  cases(rx);obtain⟨mA,O,_⟩:=_bx I.hok ea;obtain⟨od,J,_⟩:=O.look;exact Ye (PySem.W.kitx_own (cl.get _) cl.hd ha hn sg hm) I.kIn J e (nofun) h
end
structure Room (k:Nat)(A:Around):Prop where
 hd:A.handled=none
 dp:A.depth+3*k+5<recursionLimit
 un:A.units+16*k+200<cLine
 gd:A.guards=⇑[]
def Room.mono{j k A}(r:Room k A)(h:j<=k):Room j A:=#[r.hd,by have:=r.dp;lia,by have:=r.un;lia,r.gd]
def Room.deeper{k A}(r:Room (k+1) A) env:Room k (A.deeper env):=
 #[r.hd,by have:=r.dp;show A.depth+1+3*k+5<_;lia,by have:=r.un;show A.units+3+16*k+200<_;lia,r.gd]
def Room.depth{k A}(r:Room k A):A.depth<recursionLimit:=by have:=r.dp;lia
def Room.units{k A}(r:Room k A):A.units+64<cLine:=by have:=r.un;lia
abbrev xqh:TA:=λ_ H Q=>Q [] H
abbrev qv6(ta:TE)(tr:TA):TA:=fun σ H Q=>ta σ H λx H1=>tr σ H1 λxs H2=>Q (x::xs) H2
section
variable {X:Cx}{e:Expr}{es:List Expr}{te:TE}{t:TA}{pos:Pos}
def wY:PA X [] xqh:=λ_ _ _ _ H Q I h=>Calls.spliced_nil #[[],H,I,.nil,h]
abbrev _root_.Abs(e:Expr)(es:List Expr)(X:Cx):Prop:=starEach (e::es) X.env=(false,eval e X.env)::starEach es X.env
def wj(ha:PE X e te)(hr:PA X es t)(hs:Abs e es X<|>Ŕ):PA X (e::es) (qv6 te t):=by
 intro pos a8 s σ H Q I h;rw[hs];exact Calls.spliced_cons (thn (ha a8 s σ H _ I h) λu s1 hz=>by obtain⟨x,H1,I1,r1,q1⟩:=hz;exact(thn (hr pos a8 s1 σ H1 _ I1 q1) λus s2 hz=>by obtain⟨xs,H2,I2,r2,q2⟩:=hz;exact#[x::xs,H2,I2,.cons r1 r2,q2]))
abbrev xxb(t:TA):TE:=fun σ H Q=>t σ H λxs H1=>xs.length<=sizeLine/\∀p,H1 p=none->Q (.ref p) (upd H1 p (.tup xs))
abbrev tLst(t:TA):TE:=fun σ H Q=>t σ H λxs H1=>xs.length<=sizeLine/\∀p,H1 p=none->Q (.ref p) (upd H1 p (.lst xs))
def _bz{x1}(h:PA X es t):PE X (.Tuple es x1 pos) (xxb t):=by
 intro a8 s σ H Q I hq;refine wpAny_Tuple_spliced (thn (h pos a8 s σ H _ I hq) λus s1 #[xs,H1,I1,r,z,q]=>#[by rw[<-r.length];exact z,(#[.ref ↥s1,upd H1 ↥s1 _,I1.laid (t':=s1.toks) (λb u e=>X3 _ e) (Xd _) ?_,rfl,q _ (I1.hok.fresh (Xd _))])]);exact#[z,us,r,#[_,X9 _ rfl,rfl,rfl,_,rfl]]
def _bA(h:PA X es t):PE X (.List es pos) (tLst t):=by
 intro a8 s σ H Q I hq;refine wpAny_List_spliced (thn (h pos a8 s σ H _ I hq) λus s1 #[xs,H1,I1,r,z,q]=>#[by rw[<-r.length];exact z,(#[.ref ↥s1,upd H1 ↥s1 _,I1.laid (t':=s1.toks) (λb u e=>X3 _ e) (Xd _) ?_,rfl,q _ (I1.hok.fresh (Xd _))])]);exact#[z,us,0,r,X9 _ rfl]
end
abbrev Sp:=List V->Hp->VK->XK->Prop
abbrev CXT:=List Env->Hp->Shared->XK->Value->Shared->Prop
structure Env0 (P:Program)(w:World)(K:Frag)(mg:Str->Option Value)(base:Heap)(A:Around)(outer:List Env)(s:Shared)(H:Hp):Prop where
 frames:A.frames=⇑outer
 mod:Mod K mg base
 bs:∀b o,base.get? b=⇑o->s.heap.get? b=⇑o/\H b=none
 bsz:base.objs.size<=↥s
 funs:s.heap.FunFrames base outer
 frf:∀b∈frs outer,H b=none
 hok:HOk P w H s.heap
 bare:AllBare s.gens
def CE(outer:List Env)(P:Program)(w:World)(H:Hp)(s:Shared)(Q:VK)(u:Value)(s':Shared):Prop:=
 ∃v H',s'.os=s.os/\AllBare s'.gens/\Un (frs outer) [] H H' s.heap s'.heap/\HOk P w H' s'.heap/\RelV v u/\Q v H'
def CR(CX:CXT)(outer:List Env)(P:Program)(w:World)(H:Hp)(s:Shared)(Q:VK)(E:XK)(r:Result)(s':Shared):Prop:=
 match r with
 |.ok (.ret u)=>CE outer P w H s Q u s'|.ok _=>False|.error e=>CX outer H s E e s'
structure FnOk (P:Program)(w:World)(K:Frag)(mg:Str->Option Value)(base:Heap)(CX:CXT)(k:Nat)(f:Addr)(fd:FuncData)(ps:List Str)(sp:Sp):Prop where
 len:∀vs H Q E,sp vs H Q E->vs.length=ps.length
 run:∀(A:Around) (outer:List Env) (s:Shared) (H:Hp) (args:Args) (us:List Value) (vs:List V) (Q:VK) (E:XK),Room k A->Env0 P w K mg base A outer s H->BindsTo s fd args (ps.zip us)->Vals vs us->sp vs H Q E ->
  codeAny (model P w) A (.call (.ref f) args) (CR CX outer P w H s Q E) s
section
variable {X:Cx}{a8:LA9}{σ:St}{H:Hp}{s s':Shared}
def Inv.env0(I:Inv X a8 σ H s):Env0 X.prog X.w X.K X.mg X.base X.A X.stack s H:=
 #[I.ok.frames,I.ok.mod,I.bs,Yd I.ok.bsz I.sz,I.stack,I.stkFree,I.hok,I.bare]
def Inv.after{Q u}(I:Inv X a8 σ H s)(h:CE X.stack X.prog X.w H s Q u s'):EP X a8 σ Q u s':=by
 obtain⟨v,H',os,bare,un,hok,r,q⟩:=h;obtain⟨hh,g,d,t,qf⟩:=s';obtain rfl:qf=s.os:=os;exact#[v,H',I.call (h':=hh) (g':=g) (d':=d) (t':=t) un hok bare (λb z=>absurd z (by simp)),r,q]
end
abbrev wjr(sp:Sp)(tq:List V)(E:XK)(t:TA):TE:=fun σ H Q=>t σ H λvs H1=>sp (vs++tq) H1 Q E
def Binds(K:Frag)(fd:FuncData)(ps:List Str)(ds:List Value):Prop:=
 ∀(s:Shared) (us:List Value),K.In s.heap->(us++ds).length=ps.length->BindsTo s fd #[us,[]] (ps.zip (us++ds))
def Binds.all{K fd ps}(h:∀us,us.length=ps.length->bindArgs fd #[us,[]]=pure (ps.zip us)):Binds K fd ps []:=λs us _ hl=>by
 rw[Xv]at hl ⊢;exact .of_eq (h us hl)
def _bB(CX:CXT)(X:Cx)(E:XK):Prop:=∀(a8:LA9) (σ:St) (H:Hp) (s:Shared) (e:Value) (s':Shared),Inv X a8 σ H s->CX X.stack H s E e s'->X.xe e s'
section
variable {X:Cx}{CX:CXT}{k:Nat}{f C:Addr}{fd:FuncData}{ps:List Str}{sp:Sp}{tq:List V}{ds:List Value}{E:XK}{x m:Str}{p pos apos:Pos}{e o:Expr}{es:List Expr}{ta:TE}{t:TA}
#where in
def _bC{a8}{σ:St}{H s Q us vs}(F:FnOk X.prog X.w X.K X.mg X.base CX k f fd ps sp)(hr:Room k X.A)(hb:Binds X.K fd ps ds)(hd:Vals tq ds)(hx:_bB CX X E)
  (I:Inv X a8 σ H s) (r:Vals vs us) (h:sp (vs++tq) H Q E):∅ (call (.ref f) us) (EP X a8 σ Q) X.xe s:=by
 have r2:=r.append hd;have hl:(us++ds).length=ps.length:=by rw[<-r2.length];exact F.len _ _ _ _ h
 refine wpAny_call (codeAny_mono (F.run X.A X.stack s H _ _ _ Q E hr I.env0 (hb s us I.kIn hl) r2 h) λr s' hq=>?_);cases r with
 |error e=>exact hx a8 σ H s e s' I hq
 |ok fl=>
  cases fl with|ret u=>exact I.after hq|next=>exact False.elim hq|brk=>exact False.elim hq|cont=>exact False.elim hq
abbrev _root_.Abb(p:Pos)(es:List Expr)(X:Cx):Prop:=(backTo p (starEach es X.env)).any (·.1)=false
def _bD(F:FnOk X.prog X.w X.K X.mg X.base CX k f fd ps sp)(hr:Room k X.A)(hg:Gl X x)(hm:X.mg x=⇑(.ref f))(hk:PySem.W.keepIn X.K (.ref f)=true)(hb:Binds X.K fd ps ds)(hd:Vals tq ds)(hx:_bB CX X E)
  (ha:PA X (e::es) t) (fu:Abd x<|>ŕ) (he:Abs e es X<|>Ŕ) (bu:Abb pos es X<|>Ŕ):
  PE X (.Call (.Name x p) (e::es) [] pos) (wjr sp tq E t):=by
 intro a8 s σ H Q I h;exact Z3 (_ay I hg hm (PySem.W.callWith_K I.ok.mod.kin hk (thn (ha pos a8 s σ H _ I h) λus s1 hz=>by obtain⟨vs,H1,I1,r,q⟩:=hz;exact#[I1.kIn,(_bC F hr hb hd hx I1 r q)]) he bu) fu)
end
structure FnScope (N P:List Str)(sc:Scope):Prop where
 kind:sc.kind=.function
 co:sc.isCoroutine=false
 gen:sc.isGenerator=false
 nd:N.Nodup
 pre:N.take P.length=P
 par:∀x∈P,sc.names.lookup x=⇑.local\/sc.names.lookup x=⇑.cell
 nofree:∀y∈sc.names,y.2≠.free
def _bE{kindOf x}: ∀{binds m},(∀v,(x,v)∉binds) -> bindL kindOf binds m x = m x
  | [],_,_=>rfl
  | (n,v)::r,m,h=>by
    unfold bindL;rw[_bE λw hw=>h w (_ad _ hw)]
    split
    · have : x≠n:= by rintro rfl; exact h v X5
      simp[this]
    · rfl
def _bF{kindOf x}: ∀{binds m},(∀v,(x,v)∉binds) -> bindC kindOf binds m x = m x
  | [],_,_=>rfl
  | (n,v)::r,m,h=>by
    unfold bindC;rw[_bF λw hw=>h w (_ad _ hw)]
    split
    · rfl
    · have : x≠n:= by rintro rfl; exact h v X5
      simp[this]
def _bG{kindOf x v}:∀{P:List Str} {vs} {i:Nat} {m},P.Nodup->P[i]?=⇑x->vs[i]?=⇑v->kindOf x=⇑.local ->
  bindL kindOf (P.zip vs) m x=⇑v
 |[],_,_,_,_,h,_,_=>by simp at h
 |p::P,w::vs,0,m,nd,h1,h2,hk=>by
  simp at h1 h2;subst h1;subst h2;show bindL kindOf (_::P.zip vs) m p=_;unfold bindL;rw[_bE λv hv=>(List.nodup_cons.mp nd).1 (List.of_mem_zip hv).1,Xb hk];simp
 |p::P,w::vs,i+1,m,nd,h1,h2,hk=>by
  unfold bindL;exact _bG (List.nodup_cons.mp nd).2 (~~~h1) (~~~h2) hk
def _bH{kindOf x v}:∀{P:List Str} {vs} {i:Nat} {m},P.Nodup->P[i]?=⇑x->vs[i]?=⇑v->kindOf x≠⇑.local ->
  bindC kindOf (P.zip vs) m x=⇑v
 |[],_,_,_,_,h,_,_=>by simp at h
 |p::P,w::vs,0,m,nd,h1,h2,hk=>by
  simp at h1 h2;subst h1;subst h2;show bindC kindOf (_::P.zip vs) m p=_;unfold bindC;rw[_bF λv hv=>(List.nodup_cons.mp nd).1 (List.of_mem_zip hv).1,Xj hk];simp
 |p::P,w::vs,i+1,m,nd,h1,h2,hk=>by
  unfold bindC;exact _bH (List.nodup_cons.mp nd).2 (~~~h1) (~~~h2) hk
def start(N:List Str)(vs:List V):St:=vs.map some++List.replicate (N.length - vs.length) none
def Jk(CX:CXT)(P:Program)(w:World)(K:Frag)(mg:Str->Option Value)(base:Heap)(N:List Str)(qual:Str)(scope:Scope)(f:Addr)(cd:Value)(A:Around)(outer:List Env)(s:Shared)(H:Hp)(E:XK):Cx where
 prog:=P
 w:=w
 K:=K
 mg:=mg
 base:=base
 A:=A.deeper (envOfC qual scope ↥s f cd)
 N:=N
 s₀:=s
 H₀:=H
 env:=envOfC qual scope ↥s f cd
 outer:=outer
 stack:=envOfC qual scope ↥s f cd::outer
 ex:=[]
 calm:=true
 fn:=λ_=>true
 pn:=[]
 xe:=λe s'=>wpAny (model P w) (A.deeper (envOfC qual scope ↥s f cd)) (leaving (envOfC qual scope ↥s f cd) e) (λ_ lc=>CX outer H s E e lc) (λe' lc=>CX outer H s E e' lc) s'
def _bI{sc:Scope}{n x}(h:sc.names.lookup x=⇑.cell):∃c,(cellsFrom n sc.names []).lookup x=⇑c:=by
 exact Option.isSome_iff_exists.mp (PySem.W.cellsFrom_some sc.names n [] (.inl h))
def _bJ{CX P w K mg base N ps qual scope f cd A outer s s1 H E us}{vs}
  (S:FnScope N ps scope) (hd:A.handled=none) (e0:Env0 P w K mg base A outer s H) (hl:vs.length=ps.length) (r:Vals vs us)
  (x:InCallC s ↥s (bindL (envOfC qual scope ↥s f cd).kindOf (ps.zip us) λ_=>none) (cellsFrom (↥s+1) scope.names []) (bindC (envOfC qual scope ↥s f cd).kindOf (ps.zip us) λ_=>none) s1):
  Inv (Jk CX P w K mg base N qual scope f cd A outer s H E) [] (start N vs) H s1:=by
 have bu:ps.length<=N.length:=by have:=congrArg List.length S.pre;rw[Z4]at this;lia
 obtain⟨h1,tk,rfl,hk⟩:=x.done;have wg:∀b,b∉(Jk CX P w K mg base N qual scope f cd A outer s H E).ex:=λb z=>absurd (show b∈([]:List Addr)from z) (by simp)
 refine#[#[e0.mod,S.kind,rfl,rfl,Xd _,λy z c h1 h2=>?_,λy hy=>?_,λy c _ h=>?_,λ_=>hd,Around.frames_deeper e0.frames,.inr #[rfl,rfl],λb z=>absurd z (wg b),e0.bs,e0.bsz,λb _ _=>wg b,λb z=>absurd z (wg b),e0.funs,e0.frf],
  rfl,e0.bare,Un.kept hk,#[_,x.toInCall.ns,λi y v h1 h2 h3=>?_],λy c h=>#[_,x.cell y c h],e0.hok.fresh (Xd _),λy c h=>?_,λp hp=>absurd (show p∈([]:List _)from hp) (by simp),e0.hok.kept hk,?_]
 ·exact name_of_addr x.apart (Yx h1) (Yx h2)
 ·rcases hy with hy|hy
  ·exact _bI hy
  ·exact absurd rfl (S.nofree _ (Yx hy))
 ·exact Nat.le_of_lt (x.above y c (Yx h))
 ·have hi:i<vs.length:=by
   unfold start at h2
   by_cases hi:i<vs.length
   ·exact hi
   ·rw[Y8 (~~~hi),List.getElem?_replicate]at h2
    split at h2<;>cases h2
  have ha:vs[i]?=⇑v:=by
   unfold start at h2;rw[Xr (~~~hi),Xh]at h2;cases e:vs[i]? with|none=>rw[e]at h2;cases h2|some a=>rw[e]at h2;cases h2;rfl
  obtain⟨u,hu,rv⟩:=r.get ha;have hp:ps[i]?=⇑y:=by
   rw[<-S.pre,List.getElem?_take_of_lt ⋯];exact h1
  have ndP:ps.Nodup:=by rw[<-S.pre];exact S.nd.sublist (List.take_sublist _ _)
  refine#[u,rv,?_];rcases S.par y (Yu hp)with k|k
  ·exact .inl #[k,_bG ndP hp hu k]
  ·obtain⟨c,e⟩:=_bI k;refine .inr #[.inl k,c,e,?_];have q:=x.cell y c e;rw[_bH ndP hp hu (by show scope.names.lookup y≠_;rw[k];decide)]at q;exact q
 ·exact e0.hok.fresh (Nat.le_of_lt (x.above y c (Yx h)))
 ·unfold start;show _=N.length;rw[Xe,X4,Zd];lia
#where in
def _bK{CX P w K mg base k f name qual params body scope dV kV gq pm ce ct oc}{an od}
  {mf N ps sp} (lk:K.lookup f=⇑#[oc,od,.func (PySem.W.fnOf name qual params body scope dV kV gq pm an ce ct),mf]) (iq:PySem.W.codeIn K ce qual=true) (S:FnScope N ps scope)
  (len:∀vs H Q E,sp vs H Q E->vs.length=ps.length)
  (ir:∀A (outer) (s) (H) (vs) (Q) (E),Room k (A.deeper (envOfC qual scope ↥s f ce))->sp vs H Q E ->
   ∃t,PSs (Jk CX P w K mg base N qual scope f ce A outer s H E) body t/\t {nx:=λ_ H'=>Q .non H',rt:=Q} (start N vs) H):
  FnOk P w K mg base CX (k+1) f (PySem.W.fnOf name qual params body scope dV kV gq pm an ce ct) ps sp:=by
 refine#[len,λA outer s H args us vs Q E hr e0 hb r ng=>?_];have KX:=e0.mod.kin.keeps λb o e=>(e0.bs b o e).1
 have vp:∀y∈ps.zip us,scope.names.lookup y.1=⇑.local\/(scope.names.lookup y.1=⇑.cell/\((cellsFrom (↥s+1) scope.names []).lookup y.1).isSome=true):=λhz hy=>by
  obtain⟨n,v⟩:=hz;rcases S.par n (List.of_mem_zip hy).1 with q|q
  ·exact .inl q
  ·exact .inr #[q,PySem.W.cellsFrom_some _ _ _ (.inl q)]
 refine codeAny_call_function hr.depth (KX _ _ lk) rfl S.co S.gen rfl (PySem.W.codeRec_of KX iq) (hb _ _ _ _ (wpAny_newFunctionEnv_cells S.kind vp λenv he s1 x=>?_));subst he;refine#[(e0.mod.nolimit.keeps λb o e=>(e0.bs b o e).1).keeps x.toInCall.keep,codeAny_func ?_];obtain⟨t,ht,hq⟩:=ir A outer s H vs Q E (hr.deeper _) ng;have I:Inv (Jk CX P w K mg base N qual scope f ce A outer s H E) [] _ H s1:=_bJ S hr.hd e0 (len _ _ _ _ ng) r x;refine wpAny_mono (ht [] s1 _ H _ I hq) (λfl s' hs=>?_) λe s' hs=>hs
 have fin:∀{σ' H' v u},Inv (Jk CX P w K mg base N qual scope f ce A outer s H E) [] σ' H' s'->RelV v u->Q v H'->CE outer P w H s Q u s':=
  fun {σ' H' v u} J rv q=>#[v,H',J.os,J.bare,J.base,J.hok,rv,q]
 cases fl with
 |ret u=>
  obtain⟨v,σ',H',J,rv,q⟩:=hs;exact fin J rv q
 |next=>
  obtain⟨σ',H',J,q⟩:=hs;exact fin (v:=V.non) J rfl q
 |brk=>
  obtain⟨_,_,_,q⟩:=hs;exact False.elim q
 |cont=>
  obtain⟨_,_,_,q⟩:=hs;exact False.elim q
section
variable {X:Cx}{x:Str}{p pos:Pos}{e:Expr}{es:List Expr}{t:TA}{id T:String}{r:List V->Hp->VK->Prop}
abbrev tCB(r:List V->Hp->VK->Prop)(t:TA):TE:=fun σ H Q=>t σ H λvs H1=>r vs H1 Q
def _bL(hc:CallR X (.builtin id) r)(hg:Gl X x)(hm:X.mg x=none)(hv:bootBuiltins x=⇑(.builtin id))(ha:PA X (e::es) t)(hn:x≠"__name__"<|>ŕ)(fu:Abd x<|>ŕ)
  (he:Abs e es X<|>Ŕ) (bu:Abb pos es X<|>Ŕ):PE X (.Call (.Name x p) (e::es) [] pos) (tCB r t):=by
 intro a8 s σ H Q I h;exact Z3 (Jj I hg hm hv (PyProof.Rows.callWith_builtin1 (thn (ha pos a8 s σ H _ I h) λus s1 hz=>by obtain⟨vs,H1,I1,r1,q1⟩:=hz;exact hc a8 s1 σ H1 vs us Q I1 r1 q1) he bu) hn fu)
def _bM(hc:CallR X (.type T) r)(hg:Gl X x)(hm:X.mg x=none)(hv:bootBuiltins x=⇑(.type T))(ha:PA X (e::es) t)(hn:x≠"__name__"<|>ŕ)(fu:Abd x<|>ŕ)
  (he:Abs e es X<|>Ŕ) (bu:Abb pos es X<|>Ŕ):PE X (.Call (.Name x p) (e::es) [] pos) (tCB r t):=by
 intro a8 s σ H Q I h;exact Z3 (Jj I hg hm hv (Y0 (thn (ha pos a8 s σ H _ I h) λus s1 hz=>by obtain⟨vs,H1,I1,r1,q1⟩:=hz;exact hc a8 s1 σ H1 vs us Q I1 r1 q1) he bu) hn fu)
end
end L2
namespace HT
open PySem PyProof.Rows
section
variable {prog:Program}{w:World}{A:Around}{E:VP9}{s:Shared}
def cat_tup{t b vs ws Q}(ht:IsTup s.heap t vs.toArray)(hb:IsTup s.heap b ws.toArray)(hv:vs≠[])
  (h1:ws=[]->Q (.ref t) s) (h2:ws≠[]->Q (.ref ↥s) {s with heap:=s.heap.push {cls:=.type "tuple",data:=.seq (vs++ws).toArray}})
  (hsz:vs.length+ws.length<=sizeLine):wpAny (model prog w) A (binaryOp .Add (.ref t) (.ref b)) Q E s:=by
 obtain⟨⟨cls,dd,data,sl⟩,ho,hc,n,hd⟩:=id ht;obtain⟨⟨cls2,dd2,data2,om⟩,ju,ph,n2,kg⟩:=id hb;subst hc hd ph kg;have e:vs.toArray++ws.toArray=(vs++ws).toArray:=by simp
 by_cases hw:ws=[]
 ·exact concat_meets #[_,ho,rfl] #[_,ju,rfl] noFill_tuple_add seq_tuple_add PySem.F.slot_tuple_add PySem.F.entry_tuple_add (PySem.F.args_tuple_add_2 _ _)
   (tuple_addW1 t b vs.toArray ws.toArray n n2 dd dd2 sl om (~~~hv) (by simp[hw])) #[ho,ju,h1 hw]
 ·refine concat_meets #[_,ho,rfl] #[_,ju,rfl] noFill_tuple_add seq_tuple_add PySem.F.slot_tuple_add PySem.F.entry_tuple_add (PySem.F.args_tuple_add_2 _ _)
   (tuple_addW2 t b vs.toArray ws.toArray n n2 dd dd2 sl om (~~~hv) (~~~hw) (hsz)) #[ho,ju,?_]
  rw[e];exact h2 hw
def sIx(n d:Nat):Option Int->Nat
 |none=>d|some v=>if v<0 then(v+(n:Int)).toNat else min v.toNat n
def _bN v (n d:Nat):(if v<0 then max (v+(n:Int)) 0 else min v n)=((sIx n d (⇑v):Nat):Int):=by
 show _=(((if v<0 then(v+n).toNat else min v.toNat n):Nat):Int)
 by_cases hv:v<0
 ·simp only[Xb hv];lia
 ·grind
def _bO(lo hi)(n:Nat):Builtin.Slice.sliceAdjust lo hi 1 n=(((sIx n 0 lo:Nat):Int),((sIx n n hi):Int)):=by
 have h1:¬((1:Int)<0):=⋯
 unfold Builtin.Slice.sliceAdjust;refine Prod.ext ?_ ?_
 ·cases lo with|none=>rfl|some v=>exact _bN v n 0
 ·cases hi with|none=>rfl|some v=>exact _bN v n n
def _bP(i j:Nat):Builtin.Slice.slicePlaces i j 1=j - i:=by
 unfold Builtin.Slice.slicePlaces;have h1:1>0:=⋯
 simp
 split<;>lia
def _bQ{v o Q}(p:IsPart v o)(h:Q o s):wpAny (model prog w) A (Builtin.Slice.slicePartIndex v) Q E s:=by
 cases p with|none=>exact slicePart_none h|int i t=>exact slicePart_int h
def _bR{sl vl vu lo hi n}{Q:Int×Int×Nat->Shared->Prop}(hs:s.heap.IsSliceOf sl vl vu .none)(pl:IsPart vl lo)(pu:IsPart vu hi)
  (h:Q (((sIx n 0 lo:Nat):Int),1,sIx n n hi - sIx n 0 lo) s):wpAny (model prog w) A (Builtin.Slice.sliceApplied (.ref sl) (pure n)) Q E s:=by
 obtain⟨os,km,li,be⟩:=id hs;refine X0 (X0 (Yy km be (x:=vl) rfl (X0 (Yy km be (x:=vu) rfl (X0 (Yy km be (x:=.none) rfl (X6 (X0 (slicePart_none (X0 (_bQ pl (X0 (_bQ pu (X0 (X6 ?_)))))))))))))));show wpAny _ _ (match Builtin.Slice.sliceAdjust lo hi 1 n with|(lo,hi)=>pure (lo,_,Builtin.Slice.slicePlaces lo hi 1)) _ _ s;rw[_bO lo hi n];show wpAny _ _ (pure _) _ _ s;rw[_bP];exact X6 h
def _bS(xs:Array Value)(i k:Nat):((List.range k).filterMap λ(m:Nat)=>xs[(i+(m:Int)*1).toNat]?).toArray=((xs.toList.drop i).take k).toArray:=by
 have e:(λ(m:Nat)=>xs[(i+(m:Int)*1).toNat]?)=λm=>xs[i+m]?:=by
  funext m;have:(i+(m:Int)*1).toNat=i+m:=⋯
  rw[this]
 rw[e];have:=pick_run xs i k;rw[List.filterMap_map]at this;have e2:(_∘λx=>i+x)=λm=>xs[i+m]?:=rfl
 rw[e2]at this;rw[this]
def _Gt{t sl items vl vu lo hi Q}(ht:IsTup s.heap t items)(hs:s.heap.IsSliceOf sl vl vu .none)(pl:IsPart vl lo)(pu:IsPart vu hi)
  (hw:¬(sIx items.size 0 lo=0/\sIx items.size items.size hi=items.size))
  (h:Q (.ref ↥s) {s with heap:=s.heap.push {cls:=.type "tuple",data:=.seq ((items.toList.drop (sIx items.size 0 lo)).take (sIx items.size items.size hi - sIx items.size 0 lo)).toArray}})
  (hsz:items.size<=sizeLine):wpAny (model prog w) A (getItem (.ref t) (.ref sl)) Q E s:=by
 have md:sizeOk (.seq ((items.toList.drop (sIx items.size 0 lo)).take (sIx items.size items.size hi - sIx items.size 0 lo)).toArray):=by
  show((items.toList.drop _).take _).toArray.size<=sizeLine;rw[X8,Z4,List.length_drop,Y4];lia
 obtain⟨os,km,li,be⟩:=id hs;have hTs:s.TypeIs (.ref sl) "slice":=#[os,km,li];unfold getItem
 try with_reducible refine Ya ?_
 refine X0 (wpAny_sequenceKey ht.typeIs ⋯ ?_);refine X0 (Yf ht.typeIs PyProof.Rows.slot_tuple_getitem
  (Y3 PyProof.Rows.slot_tuple_getitem ht.typeIs entry_tuple_getitem ?_ (args_tuple_getitem _ _)))
 show wpAny _ _ (Builtin.Tuple.tupleItemsOf _ >>= _) _ _ s;refine X0 (tupleItemsOf_ ht (X0 (wpAny_typeOf hTs (X0 (_bR hs pl pu ?_)))));have kf:¬((((sIx items.size 0 lo:Nat):Int)==0&&(1:Int)==1&&(sIx items.size items.size hi - sIx items.size 0 lo)==items.size)=true):=by
  grind
 show wpAny _ _ (if _=true then _ else _) _ _ s;rw[Xj kf,_bS]
 first
  |exact X0 (Yc (X0 (X6 (X6 ⟨_,rfl,X6 h⟩))) md)
end
end HT
namespace L2
open PySem PySem.Spec PyProof.Rows
abbrev TO:=St->Hp->(Option Int->Hp->Prop)->Prop
def PO(X:Cx)(e:Option Expr)(t:TO):Prop:=
 ∀(a8:LA9) (s:Shared) (σ:St) (H:Hp) (Q:Option Int->Hp->Prop),Inv X a8 σ H s->t σ H Q ->
  ∅ (evalPart e X.env) (λu s'=>∃o H',Inv X a8 σ H' s'/\IsPart u o/\Q o H') X.xe s
abbrev qwx:TO:=λ_ H Q=>Q none H
abbrev wwn(t:TE):TO:=fun σ H Q=>t σ H λx H1=>∃i,x=.int i/\Q ⇑i H1
section
variable {X:Cx}{e:Expr}{te:TE}{lo hi:Option Expr}{tl th:TO}{pos p2:Pos}
def _bT:PO X none qwx:=by
 intro a8 s σ H Q I h;exact X6 #[none,H,I,.none,h]
def _bU(h:PE X e te):PO X ⇑e (wwn te):=by
 intro a8 s σ H Q I hw;refine thn (h a8 s σ H _ I hw) λu s1 hz=>?_
 obtain⟨x,H1,I1,r1,q1⟩:=hz;obtain⟨i,rfl,q⟩:=q1;obtain⟨t,rfl⟩:=r1;exact#[⇑i,H1,I1,.int i t,q]
def SlR(X:Cx)(r:V->Option Int->Option Int->Hp->VK->Prop):Prop:=
 ∀(a8:LA9) (s:Shared) (σ:St) (H:Hp) (x:V) (v vl vu:Value) (lo hi:Option Int) (sl:Addr) (Q:VK),Inv X a8 σ H s->RelV x v->s.heap.IsSliceOf sl vl vu .none->IsPart vl lo->IsPart vu hi->r x lo hi H Q ->
  ∃T id,typeLookup (.type T) "__getitem__"=pure ⇑(.builtin id)/\s.TypeIs v T/\∅ (getItem v (.ref sl)) (EP X a8 σ Q) X.xe s
def SlR.or{r r'}(h:SlR X r)(h':SlR X r'):SlR X (λx lo hi H Q=>r x lo hi H Q\/r' x lo hi H Q):=by
 intro a8 s σ H x v vl vu lo hi sl Q I rx hs pl pu q;rcases q with q|q
 ·exact h a8 s σ H x v vl vu lo hi sl Q I rx hs pl pu q
 ·exact h' a8 s σ H x v vl vu lo hi sl Q I rx hs pl pu q
abbrev tSl(r:V->Option Int->Option Int->Hp->VK->Prop)(te:TE)(tl th:TO):TE:=fun σ H Q=>te σ H λx H1=>tl σ H1 λl H2=>th σ H2 λu H3=>r x l u H3 Q
def _bV{r}(hr:SlR X r)(he:PE X e te)(hl:PO X lo tl)(hu:PO X hi th):PE X (.Subscript e (.Slice lo hi none p2) pos) (tSl r te tl th):=by
 intro a8 s σ H Q I h;refine Subscript_ (thn (he a8 s σ H _ I h) λv s1 #[x,H1,I1,r1,q1]=>(wpAny_Slice (thn (hl a8 s1 σ H1 _ I1 q1) λvl s2 #[l,H2,I2,pl,q2]=>thn (hu a8 s2 σ H2 _ I2 q2) λvu s3 #[u,H3,I3,pu,q3]=>(X6 ?_))));have I4:Inv X a8 σ H3 {s3 with heap:=s3.heap.push {cls:=.type "slice",data:=.fields %[vl,vu,.none|0]}}:=I3.kept (t':=s3.toks) λb ob q=>X3 _ q
 obtain⟨T,id,hT,ht,hg⟩:=hr a8 {s3 with heap:=s3.heap.push {cls:=.type "slice",data:=.fields %[vl,vu,.none|0]}} σ H3 x v vl vu l u ↥s3 Q I4 r1 (Heap.IsSliceOf.new ..) pl pu q3;exact tail_any ht hT hg (by ac_rfl)
def XQ(xs:List V)(lo hi:Option Int):List V:=(xs.drop (HT.sIx xs.length 0 lo)).take (HT.sIx xs.length xs.length hi - HT.sIx xs.length 0 lo)
def _bW xs (lo hi):(XQ xs lo hi).length<=xs.length:=by
 unfold XQ;rw[Z4,List.length_drop];lia
def _bX(K:Frag):V->Option Int->Option Int->Hp->VK->Prop:=λx lo hi H Q=>∃a xs,x=.ref a/\SqT K H a xs /\
 ¬(HT.sIx xs.length 0 lo=0/\HT.sIx xs.length xs.length hi=xs.length)/\∀p,H p=none->Q (.ref p) (upd H p (.tup (XQ xs lo hi)))
def sl_tup:SlR X (_bX X.K):=by
 rintro a8 s σ H x v vl vu lo hi sl Q I rx hs pl pu ⟨a,xs,rfl,hx,hw,q⟩;cases rx;obtain⟨ab,r,ht,hz⟩:=I.tuple hx;have ae:ab.toArray.size=xs.length:=r.length.symm;refine#["tuple",_,PyProof.Rows.slot_tuple_getitem.lookup,ht.typeIs,(HT._Gt ht hs pl pu (ae▸hw) ?_ (ae▸hz))];rw[ae];refine#[.ref ↥s,_,I.laid (t':=s.toks) (λb ob q=>X3 _ q) (Xd _) ?_,rfl,q _ (I.hok.fresh (Xd _))];exact#[Yd (_bW xs lo hi) hz,_,(r.drop _).take _,IsTupD.new _ _]
def _bY(K:Frag):R2:=λx y H Q=>∃a b xs ys,x=.ref a/\y=.ref b/\SqT K H a xs/\SqT K H b ys/\xs≠[]/\xs.length+ys.length<=sizeLine /\
 (ys=[]->Q (.ref a) H)/\(ys≠[]->∀p,H p=none->Q (.ref p) (upd H p (.tup (xs++ys))))
def Vals.nil_iff{xs us}(r:Vals xs us):us=[]↔xs=[]:=by
 cases r with|nil=>simp|cons _ _=>simp
def _bZ:OpR X (binaryOp .Add) (_bY X.K):=by
 rintro a8 s σ H x y v u Q I rx ry ⟨a,b,xs,ys,rfl,rfl,ha,hb,hx,hz,q1,q2⟩;cases rx;cases ry;obtain⟨ab,r1,p1,_⟩:=I.tuple ha;obtain⟨ic,r2,p2,_⟩:=I.tuple hb;refine HT.cat_tup p1 p2 (λz=>hx (r1.nil_iff.mp z)) (λz=>#[.ref a,H,I,rfl,q1 (r2.nil_iff.mp z)]) (λz=>(#[.ref ↥s,_,I.laid (t':=s.toks) (λb ob q=>X3 _ q) (Xd _) ?_,rfl,q2 (λw=>z (r2.nil_iff.mpr w)) _ (I.hok.fresh (Xd _))])) (by rw[<-r1.length,<-r2.length];exact hz);exact#[by rw[Xe];exact hz,_,r1.append r2,IsTupD.new _ _]
end
def ixN(n:Nat)(i:Int):Option Nat:=if 0<=i then(if i<n then ⇑i.toNat else none)else if -(n:Int)<=i then ⇑(i+n).toNat else none
def atI{α:Type}(xs:List α)(i:Int):Option α:=(ixN xs.length i).bind λj=>xs[j]?
def _b0{n i j}(h:ixN n i=⇑j):seqIndex? i n=⇑j/\j<n/\-n<=i/\i<n:=by
 unfold ixN at h
 by_cases h0:0<=i
 ·rw[Xb h0]at h
  by_cases h1:i<n
  ·rw[Xb h1]at h;exact#[by rw[seqIndex_of h0 h1,(_aa h)],⋯,⋯,h1]
  ·rw[Xj h1]at h;cases h
 ·rw[Xj h0]at h
  by_cases h1:-n<=i
  ·rw[Xb h1]at h;exact#[by rw[seqIndex_neg ⋯ h1,(_aa h)],⋯,h1,⋯]
  ·rw[Xj h1]at h;cases h
def _b1{α xs i}{v:α}(h:atI xs i=⇑v):∃j,seqIndex? i xs.length=⇑j/\xs[j]?=⇑v/\j<xs.length/\-(xs.length:Int)<=i/\i<xs.length:=by
 unfold atI at h;cases e:ixN xs.length i with
 |none=>rw[e]at h;cases h
 |some j=>
  rw[e]at h;obtain⟨h1,h2,h3,h4⟩:=_b0 e;exact#[j,h1,h,h2,h3,h4]
def _b2(b:Expr):Prop:=∀o i,subscripted b false o i=operate [o,i] (getItem o i)
def IxR(X:Cx)(r:R2):Prop:=
 ∀(bd slice:Expr) (a8:LA9) (s:Shared) (σ:St) (H:Hp) (x y:V) (v u:Value) (Q:VK),Inv X a8 σ H s->RelV x v->RelV y u->r x y H Q ->
  subscripted slice false v u=operate [v,u] (getItem v u)->∅ (subscriptTail bd slice v u) (EP X a8 σ Q) X.xe s
def MtR(X:Cx)(id:String)(r:V->List V->Hp->VK->Prop):Prop:=
 ∀(a8:LA9) (s:Shared) (σ:St) (H:Hp) (x:V) (xs:List V) (v:Value) (us:List Value) (Q:VK),Inv X a8 σ H s->RelV x v->Vals xs us->r x xs H Q ->
  ∅ (call (.builtin id) (v::us)) (EP X a8 σ Q) X.xe s
section
variable {X:Cx}{a b:Expr}{ta tb:TE}{pos:Pos}
def IxR.or{r r'}(h:IxR X r)(h':IxR X r'):IxR X (λx y H Q=>r x y H Q\/r' x y H Q):=by
 intro bd slice a8 s σ H x y v u Q I rx ry q hs;rcases q with q|q
 ·exact h bd slice a8 s σ H x y v u Q I rx ry q hs
 ·exact h' bd slice a8 s σ H x y v u Q I rx ry q hs
def _b3{r}(hr:IxR X r)(ha:PE X a ta)(hb:PE X b tb)(hs:_b2 b):PE X (.Subscript a b pos) (tOp r ta tb):=by
 intro a8 s σ H Q I h;exact Subscript_ (_a8 ha hb I h λv u s2 x y H2 I2 rx ry q=>hr a b a8 s2 σ H2 x y v u Q I2 rx ry q (hs _ _))
def _b4(K:Frag):R2:=λx y H Q=>∃p xs i v,x=.ref p/\y=.int i/\SqL K H p xs/\atI xs i=⇑v/\Q v H
def _b5(K:Frag):R2:=λx y H Q=>∃p xs i v,x=.ref p/\y=.int i/\SqT K H p xs/\atI xs i=⇑v/\Q v H
def _b6:R2:=λx y H Q=>∃z i c,x=.str z/\y=.int i/\z.length<=sizeLine/\atI z.cps.toList i=⇑c/\Q (.str #[%[c|0]]) H
def ix_list:IxR X (_b4 X.K):=by
 intro bd slice a8 s σ H x y v u Q I rx ry h hs;obtain⟨p,xs,i,z,rfl,rfl,hq,he,q⟩:=h;cases rx;obtain⟨t,rfl⟩:=ry;obtain⟨ab,r,pl,hz⟩:=I.list hq;obtain⟨j,h1,h2,h3,h4,h5⟩:=_b1 he;obtain⟨w,ew,jo⟩:=r.get h2;have hl:=r.length;have hn:=VZ;have fin:EP X a8 σ Q w s:=#[z,H,I,jo,q]
 by_cases h0:0<=i
 ·have hj:i.toNat=j:=by
   rw[seqIndex_of h0 h5]at h1;exact _aa h1
  exact item_listR pl.isList h0 ⋯ (by rw[hj];simpa using ew) fin hs
 ·have hj:(i+(ab.toArray.size:Int)).toNat=j:=by
   rw[seqIndex_neg ⋯ h4]at h1;rw[X8,<-hl];exact _aa h1
  exact subscriptTail_builtinR pl.isList.typeIs slot_list_getitem.lookup
   (wpAny_getItem_list_neg pl.isList ⋯ (by rw[X8]<;>lia) ⋯ (by rw[hj];simpa using ew) #[rfl,fin]) hs
def ix_tup:IxR X (_b5 X.K):=by
 intro bd slice a8 s σ H x y v u Q I rx ry h hs;obtain⟨p,xs,i,z,rfl,rfl,hq,he,q⟩:=h;cases rx;obtain⟨t,rfl⟩:=ry;obtain⟨ab,r,pl,hz⟩:=I.tuple hq;obtain⟨j,h1,h2,h3,h4,h5⟩:=_b1 he;obtain⟨w,ew,jo⟩:=r.get h2;have hn:=VZ;have fin:EP X a8 σ Q w s:=#[z,H,I,jo,q];exact subscriptTail_builtinR pl.typeIs slot_tuple_getitem.lookup
  (getItem_tuple pl ⋯ ⋯ (by rw[X8,<-r.length];exact h1) (~~~ew) #[rfl,fin]) hs
def _b7:IxR X _b6:=by
 intro bd slice a8 s σ H x y v u Q I rx ry h hs;obtain⟨z,i,c,rfl,rfl,hz,he,q⟩:=h;obtain⟨t,rfl⟩:=rx;obtain⟨t',rfl⟩:=ry;obtain⟨j,h1,h2,h3,h4,h5⟩:=_b1 he;have hl:z.cps.toList.length=z.length:=by simp[Str.length]
 rw[hl]at h1 h4 h5;have hn:=VZ;exact tail_any (typeIs_str s z t) slot_str_getitem.lookup (getItem_str (c:=c) (by
  have e1:decide (i < -(2 ^ 63:Int))=false:=Xl ⋯;have e2:decide (i>=2 ^ 63)=false:=Xl ⋯;rw[e1,e2,Bool.or_false]) (by rw[h1];simpa using h2) #[.str #[%[c|0]],H,I.tok _,#[_,rfl],q]) hs
def rIx(K:Frag):R2:=λx y H Q=>_b4 K x y H Q\/_b5 K x y H Q\/_b6 x y H Q
def _b8:IxR X (rIx X.K):=ix_list.or (ix_tup.or _b7)
def _b9(ab:List Value)(n j) u:Obj.mapSeq (·.setIfInBounds j u) {cls:=.type "list",data:=.seq ab.toArray n}={cls:=.type "list",data:=.seq (ab.set j u).toArray n}:=by
 simp[Obj.mapSeq]
def Inv.lst{a8}{σ:St}{H s p xs}(I:Inv X a8 σ H s)(h:H p=⇑(.lst xs)):
  ∃(ab:List Value) (n:Nat),Vals xs ab/\s.heap.get? p=some {cls:=.type "list",data:=.seq ab.toArray n}/\xs.length<=sizeLine:=by
 obtain⟨z,ab,n,r,e⟩:=I.hok p _ h;exact#[ab,n,r,e,z]
def Inv.lstUpd{a8}{σ:St}{H s p xs ys}{ab its':List Value}{n n' f}(I:Inv X a8 σ H s)(h:H p=⇑(.lst xs))
  (ho:s.heap.get? p=some {cls:=.type "list",data:=.seq ab.toArray n}) (hf:f {cls:=.type "list",data:=.seq ab.toArray n}={cls:=.type "list",data:=.seq its'.toArray n' }) (r:Vals ys its') (hz:ys.length<=sizeLine) t :
  Inv X a8 σ (upd H p (.lst ys)) {s with heap:=s.heap.update p f,toks:=t}:=by
 have e:(s.heap.update p f).get? p=some {cls:=.type "list",data:=.seq its'.toArray n' }:=by
  rw[Xy f ho (by rw[hf]<;>rfl),hf]
 refine I.write (by rw[h];trivial) (.inl rfl) (λb u hb q=>(Z9 _ _ (Ne.symm hb)).trans q) #[_,e] ?_;exact#[hz,its',n',r,e]
def _ca:V->V->V->Hp->(Hp->Prop)->Prop:=λo i v H Q=>∃p xs k j,o=.ref p/\i=.int k/\H p=⇑(.lst xs)/\ixN xs.length k=⇑j/\Q (upd H p (.lst (xs.set j v)))
def _cb:_aQ X _ca:=by
 rintro a8 s σ H o i v ov iv u Q I ro ri rv ⟨p,xs,k,j,rfl,rfl,hp,hj,q⟩;cases ro;obtain⟨t,rfl⟩:=ri;obtain⟨ab,n,r,ho,hz⟩:=I.lst hp;obtain⟨h1,h2,h3,h4⟩:=_b0 hj;have hl:=r.length;have hn:=VZ;have I':Inv X a8 σ _ {s with heap:=s.heap.update p _}:=
  I.lstUpd hp ho (_b9 ab n j u) (r.set rv j) (by rw[List.length_set];exact hz) s.toks
 by_cases h0:0<=k
 ·have hk:k.toNat=j:=by
   rw[seqIndex_of h0 h4]at h1;exact _aa h1
  exact PySem.W.ki_setAt ho h0 ⋯ (by rw[X8,<-hl];exact h4) (hk▸#[_,I',q])
 ·have hk:(k+(ab.toArray.size:Int)).toNat=j:=by
   rw[seqIndex_neg ⋯ h3]at h1;rw[X8,<-hl];exact _aa h1
  exact PySem.W.ki_setBack ho ⋯ (by rw[X8,<-hl];exact h3) ⋯ (hk▸#[_,I',q])
def _cc(lo hi) n:(sliceBounds lo hi none n).1=((HT.sIx n 0 lo:Nat):Int)/\(sliceBounds lo hi none n).2.1=((HT.sIx n n hi:Nat):Int)/\(sliceBounds lo hi none n).2.2=1:=by
 refine#[?_,?_,rfl]
 ·cases lo with
  |none=>simp[sliceBounds,HT.sIx]
  |some i=>
   simp only[sliceBounds,HT.sIx,Option.getD_none,show(1:Int)>0 by decide,if_true]
   by_cases h:i<0
   ·simp only[h,if_true]<;>lia
   ·simp only[h,if_false]<;>lia
 ·cases hi with
  |none=>simp[sliceBounds,HT.sIx]
  |some i=>
   simp only[sliceBounds,HT.sIx,Option.getD_none,show(1:Int)>0 by decide,if_true]
   by_cases h:i<0
   ·simp only[h,if_true]<;>lia
   ·simp only[h,if_false]<;>lia
def _cd(ab:List Value)(lo hi):slicePick ab.toArray lo hi none=((ab.drop (HT.sIx ab.length 0 lo)).take (HT.sIx ab.length ab.length hi - HT.sIx ab.length 0 lo)).toArray:=by
 obtain⟨h1,h2,h3⟩:=_cc lo hi ab.toArray.size;unfold slicePick;rw[h1,h2,h3];simp only[sliceRange_one,pick_run]<;>rfl
def _ce(K:Frag):V->Option Int->Option Int->Hp->VK->Prop:=λx lo hi H Q=>∃a xs,x=.ref a/\SqL K H a xs/\∀p,H p=none->Q (.ref p) (upd H p (.lst (XQ xs lo hi)))
def sl_list:SlR X (_ce X.K):=by
 rintro a8 s σ H x v vl vu lo hi sl Q I rx hs pl pu ⟨a,xs,rfl,hx,q⟩;cases rx;obtain⟨ab,r,ht,hz⟩:=I.list hx;have ae:=r.length;refine#["list",_,slot_list_getitem.lookup,ht.isList.typeIs,(wpAny_getItem_list_slice ht.isList hs pl pu .none (by simp) ?_ (by simp_all))];rw[_cd,<-ae];refine#[.ref ↥s,_,I.laid (t':=s.toks) (λb ob q=>X3 _ q) (Xd _) ?_,rfl,q _ (I.hok.fresh (Xd _))];exact#[Yd (_bW xs lo hi) hz,_,0,(r.drop _).take _,X9 _ rfl]
def _cf:OpR X (compareOp .NotIn) (λx y H Q=>∃i j,x=.str i/\y=.str j/\Q (.bl (!(!(Builtin.Str.occurrences j i 0 j.length 1).isEmpty))) H):=by
 rintro a8 s σ H x y v u Q I rx ry ⟨i,j,rfl,rfl,q⟩;obtain⟨t,rfl⟩:=rx;obtain⟨t',rfl⟩:=ry;exact notIn_str #[.bl _,H,I,rfl,q]
def _Cq:CallR X (.builtin "len") (λxs H Q=>∃p ys,xs=[.ref p]/\(SqL X.K H p ys\/SqT X.K H p ys)/\Q (.int ys.length) H):=by
 rintro a8 s σ H xs us Q I r ⟨p,ys,rfl,hq,q⟩;obtain⟨u,rfl,rx⟩:=xk r;cases rx;have hn:=VZ;rcases hq with hq|hq
 ·obtain⟨ab,r',pl,hz⟩:=I.list hq;have ae:=r'.length;exact Calls.call_len_list pl.isList (by simp only[X8]<;>lia) #[.int ys.length,H,I.tok _,#[s.toks+1,by rw[X8,ae]],q]
 ·obtain⟨ab,r',pl,hz⟩:=I.tuple hq;have ae:=r'.length;exact len_tuple pl (by simp only[X8]<;>lia) #[.int ys.length,H,I.tok _,#[s.toks+1,by rw[X8,ae]],q]
def _Cs:CallR X (.builtin "len") (λxs H Q=>∃z,xs=[.str z]/\z.length<=sizeLine/\Q (.int z.length) H):=by
 rintro a8 s σ H xs us Q I r ⟨z,rfl,hz,q⟩;obtain⟨u,rfl,t,rfl⟩:=xk r;have hn:=VZ;exact len_str ⋯ #[.int z.length,H,I.tok _,#[_,rfl],q]
def CallR.or{f r r'}(h:CallR X f r)(h':CallR X f r'):CallR X f (λxs H Q=>r xs H Q\/r' xs H Q):=by
 intro a8 s σ H xs us Q I rs q;rcases q with q|q
 ·exact h a8 s σ H xs us Q I rs q
 ·exact h' a8 s σ H xs us Q I rs q
def _cg:CallR X (.type "list") (λxs H Q=>∃p ys,xs=[.ref p]/\(SqL X.K H p ys\/SqT X.K H p ys)/\∀l,H l=none->Q (.ref l) (upd H l (.lst ys))):=by
 rintro a8 s σ H xs us Q I r ⟨p,ys,rfl,hq,q⟩;obtain⟨u,rfl,rx⟩:=xk r;cases rx;have fin:∀ab,Vals ys ab->ys.length<=sizeLine->∀h' (c'),_ ->
   h'.get? ↥s=some {cls:=.type "list",dict:=none,data:=.seq ab.toArray c',slots:=(List.toArray [])}->EP X a8 σ Q _ {s with heap:=h' }:=λab r' hz h' c' kp e=>
  #[.ref ↥s,_,I.laid (t':=s.toks) kp (Xd _) (show ObjOk X.prog X.w _ h' _ (.lst ys)from#[hz,ab,c',r',e]),rfl,q _ (I.hok.fresh (Xd _))]
 rcases hq with hq|hq
 ·obtain⟨ab,r',pl,hz⟩:=I.list hq;have ae:=r'.length;obtain⟨o,ho,hc,n,hd⟩:=pl.isList;exact call_list_seq p (.inl rfl) ho hc hd (λh' c' kp e=>fin ab r' hz h' c' kp e) (by simp only[X8]<;>lia)
 ·obtain⟨ab,r',pl,hz⟩:=I.tuple hq;have ae:=r'.length;obtain⟨o,ho,hc,n,hd⟩:=pl;exact call_list_seq p (.inr rfl) ho hc hd (λh' c' kp e=>fin ab r' hz h' c' kp e) (by simp only[X8]<;>lia)
def _ch:CallR X (.type "tuple") (λxs H Q=>∃p ys,xs=[.ref p]/\((SqL X.K H p ys/\∀l,H l=none->Q (.ref l) (upd H l (.tup ys)))\/(SqT X.K H p ys/\Q (.ref p) H))):=by
 rintro a8 s σ H xs us Q I r ⟨p,ys,rfl,h⟩;obtain⟨u,rfl,rx⟩:=xk r;cases rx;rcases h with⟨hq,q⟩|⟨hq,q⟩
 ·obtain⟨ab,r',pl,hz⟩:=I.list hq;have ae:=r'.length;refine call_tuple_list pl.isList (λh' kp=>?_) (by simp_all);have I1:Inv X a8 σ H {s with heap:=h' }:=I.kept (t':=s.toks) kp;have I2:Inv X a8 σ _ {s with heap:=h'.push {cls:=.type "tuple",data:=.seq ab.toArray}}:=
   I1.laid (t':=s.toks) (λb o e=>X3 _ e) (Xd _) (show ObjOk X.prog X.w _ _ _ (.tup ys)from#[hz,ab,r',IsTupD.new _ _])
  exact#[.ref h'.objs.size,_,I2,rfl,q _ (I1.hok.fresh (Xd _))]
 ·obtain⟨ab,r',pl,hz⟩:=I.tuple hq;exact call_tuple_same pl #[.ref p,H,I,rfl,q]
def tyV(K : Frag)(T : String)(x : V)(H : Hp): Prop:= match x with
  |.str _=>T = "str"|.int _=>T = "int"
  |.ref p=>(T = "list" /\ ∃xs,SqL K H p xs) \/ (T = "tuple" /\ ∃o,K.lookup p = ⇑o /\ o.cls = .type "tuple" /\ o.dict = none) \/
      (T = "dict" /\ ((∃kvs,H p = ⇑(.dK kvs)) \/ ∃kvs,H p = ⇑(.dT kvs))) \/ (T = "set" /\ ∃S n,H p = ⇑(.set S n))
  |_=>False
def _ci{a8}{σ:St}{H s T x v}(I:Inv X a8 σ H s)(r:RelV x v)(ty:tyV X.K T x H):
  s.TypeIs v T/\∀a,v=.ref a->∃ob,s.heap.get? a=⇑ob/\ob.dict=none:=by
 cases x with
 | str z=>
  obtain⟨t,rfl⟩:=r;cases(ty);exact#[typeIs_str s z t,nofun]
 | int i=>
  obtain⟨t,rfl⟩:=r;cases(ty);exact#[typeIs_int s i t,nofun]
 | ref p=>
  cases r;rcases ty with⟨rfl,xs,hq⟩|⟨rfl,o,hk,hc,hd⟩|⟨rfl,hk⟩|⟨rfl,S,n,hk⟩
  ·obtain⟨ab,_,pl,_⟩:=I.list hq;refine#[pl.isList.typeIs,λa e=>?_];cases e;obtain⟨o,n,e,c,hd,_⟩:=pl;exact#[o,e,hd]
  ·refine#[#[o,I.kIn p o hk,hc],λa e=>?_];cases e;exact#[o,I.kIn _ o hk,hd]
  ·have z:∃o,s.heap.get? p=⇑o/\o.ExactDict:=by
    rcases hk with⟨kvs,hk⟩|⟨kvs,hk⟩
    ·obtain⟨_,_,_,_,o,_,_,e,ex,_⟩:=I.hok p _ hk;exact#[o,e,ex]
    ·obtain⟨_,_,_,_,o,_,_,e,ex,_⟩:=I.hok p _ hk;exact#[o,e,ex]
   obtain⟨o,e,ex⟩:=z;refine#[#[o,e,ex.1],λa e2=>?_];cases e2;exact#[o,e,ex.2.1]
  ·obtain⟨o,_,_,_,e,ex,_⟩:=I.hok p _ hk;refine#[#[o,e,ex.1],λa e2=>?_];cases e2;exact#[o,e,ex.2.1]
 |_=>exact False.elim ty
abbrev tBM(K:Frag)(T:String)(r:V->List V->Hp->VK->Prop)(to:TE)(t:TA):TE:=fun σ H Q=>to σ H λx H1=>tyV K T x H1/\t σ H1 λxs H2=>r x xs H2 Q
variable {o e:Expr}{es:List Expr}{to:TE}{t:TA}{name:Str}{apos af:Pos}{T id:String}{r:V->List V->Hp->VK->Prop}
abbrev _root_.Abe(p q:Pos):Prop:=(p.endLine==q.line)=true
def _cj(pa:PlainAttrs T)(slot:Slot T name id)(uw:typeOf (.builtin id)=pure (.type "method_descriptor"))(hm:MtR X id r)(ho:PE X o to)(ha:PA X (e::es) t)
  (df:attributeBase o name X.env (eval o X.env)=eval o X.env<|>Ŕ)
  (fw:autoParam (((backTo af (starEach (e::es) X.env)).all (λx=>!x.1)&&(backToKw af (keywordEach [] X.env)).all (λx=>x.1.isSome)
   && decide ((e::es).length+([]:List Keyword).length+(if([]:List Keyword).isEmpty then 0 else 1)<30))=true) Ŕ)
  (db:Abe apos af<|>Ŕ) (hs:Abs e es X<|>Ŕ) (bm:Abb af es X<|>Ŕ):
  PE X (.Call (.Attribute o name apos) (e::es) [] af) (tBM X.K T r to t):=by
 intro a8 s σ H Q I h;refine wpAny_Call_method_late df fw db rfl (thn (ho a8 s σ H _ I h) λv s1 hz=>?_);obtain⟨x,H1,I1,r1,ty,q1⟩:=hz;obtain⟨h1,h2⟩:=_ci I1 r1 ty;refine#[T,id,pa,slot,uw,h1,h2,?_];have hA:=ha af a8 s1 σ H1 _ I1 q1;rw[hs]at hA ⊢;exact Calls.callWith_builtin (by show(false||(backTo af _).any _)=false;rw[bm]<;>rfl) (Calls.evalArgs_plain (thn hA λus s2 hz=>by obtain⟨vs,H2,I2,r2,q2⟩:=hz;exact hm a8 s2 σ H2 x vs v us Q I2 r1 r2 q2))
end
def MtM(X:Cx)(id:String)(r:V->List V->Hp->VK->Prop):Prop:=
 ∀(a8:LA9) (s:Shared) (σ:St) (H:Hp) (x:V) (xs:List V) (v:Value) (us:List Value) (Q:VK),Inv X a8 σ H s->RelV x v->Vals xs us->r x xs H Q ->
  ∅ (call (.builtin id) (v::us)) (EP X a8 σ Q) X.xe s
def Vals.one:∀{x us},Vals [x] us->∃u,us=[u]/\RelV x u:=by
 intro x us h;cases h with|cons r h=>cases h;exact#[_,rfl,r]
def Vals.eraseIdx:∀{xs us} (i),Vals xs us->Vals (xs.eraseIdx i) (us.eraseIdx i)
 |_,_,_,.nil=>.nil|_,_,0,.cons _ t=>t|_,_,i+1,.cons r t=>.cons r (Vals.eraseIdx i t)
def Vals.rep{xs us}(h:Vals xs us):∀k,Vals (List.replicate k xs).flatten (List.replicate k us).flatten
 |0=>.nil
 |k+1=>by
  exact Vals.append h (Vals.rep h k)
def _ck{α:Type}:∀(l:List α) (i),(l.eraseIdx i).length<=l.length
 |[],_=>Xd _|_::_,0=>Nat.le_succ _|_::r,i+1=>Nat.succ_le_succ (_ck r i)
def _cl(ab):∀k (ac:List Value),
  List.foldl (λx1 x2=>x1++x2) ac.toArray (List.replicate k ab.toArray)=(ac++(List.replicate k ab).flatten).toArray
 | 0,ac=>by simp
 | k+1,ac=>by
  have e:ac.toArray++ab.toArray=(ac++ab).toArray:=by simp
  have e2:(ac++ab)++(List.replicate k ab).flatten=ac++(List.replicate (k+1) ab).flatten:=by
   rw[List.replicate_succ,List.flatten_cons,Xs]
  rw[<-e2,<-_cl ab k _,<-e,List.replicate_succ,Yz]
section
variable {X:Cx}{a8:LA9}{σ:St}{H:Hp}{s:Shared}{l b:Addr}{xs ys zs:List V}
def Inv.lset{ab its':List Value}{n f t'}(I:Inv X a8 σ H s)(hH:H l=⇑(.lst xs))
  (e:s.heap.get? l=some {cls:=.type "list",data:=.seq ab.toArray n}) (hf:f ab.toArray=its'.toArray) (hv:Vals ys its') (hz:ys.length<=sizeLine):
  Inv X a8 σ (upd H l (.lst ys)) {s with heap:=s.heap.update l (Obj.mapSeq f),toks:=t' }:=by
 have q:=PySem.IsL.update e f;rw[hf]at q;refine I.write (hH▸trivial) (.inl rfl) (λb' u hb hu=>(Z9 s.heap _ (Ne.symm hb)).trans hu) #[_,q] ?_;exact#[hz,its',_,hv,q]
def Inv.lnew{ab t'}(I:Inv X a8 σ H s)(hv:Vals ys ab)(hz:ys.length<=sizeLine):
  Inv X a8 σ (upd H ↥s (.lst ys)) {s with heap:=s.heap.push {cls:=.type "list",data:=.seq ab.toArray},toks:=t' }:=
 I.laid (λ_ _ q=>X3 _ q) (Xd _) #[hz,ab,0,hv,X9 _ rfl]
def Inv.fresh(I:Inv X a8 σ H s):H ↥s=none:=I.hok.fresh (Xd _)
def Inv.lstM(I:Inv X a8 σ H s)(hH:H l=⇑(.lst xs)):xs.length<=sizeLine/\∃(ab:List Value) (n:Nat),Vals xs ab/\xs.length=ab.length/\s.heap.get? l=some {cls:=.type "list",data:=.seq ab.toArray n}:=by
 obtain⟨z,ab,n,r,e⟩:=I.hok l _ hH;exact#[z,ab,n,r,r.length,e]
def _cm{n}(h:n<=sizeLine):Builtin.List.listTooLong n=false:=by
 unfold Builtin.List.listTooLong
 simp_all
end
section
variable {X:Cx}
def _cn:V->List V->Hp->VK->Prop:=λx vs H Q=>∃l xs y,x=.ref l/\vs=[y]/\H l=⇑(.lst xs)/\xs.length<sizeLine/\Q .non (upd H l (.lst (xs++[y])))
def _co:MtM X "list.append" _cn:=by
 rintro a8 s σ H x vs v us Q I rx rv ⟨l,xs,y,rfl,rfl,hH,hz,q⟩;cases rx;obtain⟨u,rfl,ru⟩:=rv.one;obtain⟨z,ab,n,r,hl,e⟩:=I.lstM hH;refine call_meets F.slot_list_append #[_,e,rfl] F.entry_list_append (F.args_list_append_2 _ _) (PySem.list_append l ab.toArray n u (by simp_all)) #[e,(#[.non,_,I.lset (its':=ab++[u]) hH e (by simp) (r.append (.cons ru .nil)) ?_,rfl,q])];rw[Xe,Y9];lia
def _cp:V->List V->Hp->VK->Prop:=λx vs H Q=>∃l xs i k y,x=.ref l/\vs=[.int i]/\H l=⇑(.lst xs)/\-(2 ^ 63)<=i/\i<2 ^ 63/\seqIndex? i xs.length=⇑k/\xs[k]?=⇑y/\Q y (upd H l (.lst (xs.eraseIdx k)))
def _cq:MtM X "list.pop" _cp:=by
 rintro a8 s σ H x vs v us Q I rx rv ⟨l,xs,i,k,y,rfl,rfl,hH,h1,h2,hk,hy,q⟩;cases rx;obtain⟨u,rfl,ru⟩:=rv.one;obtain⟨t,rfl⟩:=ru;obtain⟨z,ab,n,r,hl,e⟩:=I.lstM hH;obtain⟨w,hw,jo⟩:=r.get hy;refine call_meets F.slot_list_pop #[_,e,rfl] F.entry_list_pop (F.args_list_pop_2 _ _)
  (MeetsSeq.list_pop_at l ab.toArray n i t k w (fitsIndex_both h1 h2) (by rw[X8,<-hl];exact hk) (Yp▸hw) (by rw[X8];lia)) #[e,?_]
 refine#[y,_,I.lset (its':=ab.eraseIdx k) hH e ?_ (r.eraseIdx k) ?_,jo,q]
 ·show ab.toArray.eraseIdxIfInBounds k=(ab.eraseIdx k).toArray;rw[List.eraseIdxIfInBounds_toArray]
 ·have:=_ck xs k;lia
def _cr{α:Type}(xs:List α) k:(List.replicate k xs).flatten.length=k*xs.length:=by
 induction k with|zero=>simp|succ k ih=>simp_all
end
end L2
namespace Att
open PySem PySem.W PySem.Calls PyProof.Rows
def _cs{P h}:∀ns vs,WellAll P h vs (ns.map WData.int)->IntsAre vs ns:=by
 intro ns
 induction ns with
 | nil=>
  intro vs w;cases w;exact .nil
 | cons n ns ih=>
  intro vs w;cases w with
  |cons a b=>
   cases a;exact .cons _ _ (ih _ b)
def script_of{l:OpenLaw}{n}(hn:l.most=⇑n){P h args}{cz}
  (nt:l.row.toRowW.claim.pre args=true) (sy:WellAll P h cz args):
  ∃a vs ns,cz=[Value.ref a]/\args=[WData.list (ns.map WData.int)]/\h.get? a=some {cls:=.type "list",data:=.seq vs.toArray}/\IntsAre vs ns/\ns.length<=n:=by
 have gw:WShape.hasAll [] args [.list .int]=true:=(pre_splitW nt).1;have hc:l.pre.holds [] {args:=args}=true:=(pre_splitW nt).2;obtain⟨d,r,rfl,h1,h2⟩:=hasAllW_cons gw;obtain rfl:=hasAllW_nil h2;obtain⟨xs,rfl,h3⟩:=hasW_list h1;obtain⟨ns,rfl⟩:=items_int h3;have ae:ns.length<=n:=by
  unfold OpenLaw.pre at hc;have h4:(WTm.not (.lt (.lit (.int n)) (.len (.arg 0)))).holds [] {args:=[.list (ns.map .int)]}=true:=by
   have h4:=(holds_andW hc).1;rw[hn]at h4;exact h4
  have h5:=condW_of h4 (w_not (w_lt w_lit (w_len_list (w_arg rfl))))
  grind
 cases sy with
 |cons w1 w2=>
  cases w2;cases w1 with|list ho lz=>exact#[_,_,ns,rfl,rfl,ho,_cs ns _ lz,ae]
def post_true(l:OpenLaw) args:l.row.toRowW.claim.post args (.bool true) args=true:=
 postW_of
  (show WShape.has [] _ .bool=true by first|rfl|decide|simp[WShape.armsAll])
  (w_eq_bool (w_res rfl) w_lit) rfl
end Att
namespace L2
open PySem PySem.Spec PyProof.Rows
def _ct(H:Hp):Prop:=∀b,H b=none\/∃o xs,H b=⇑(.frz o (.lst xs))
def xx(s:Stmt):Arguments:=match s with
 |.FunctionDef _ a _ _ _ _ _ _ _ _=>a|_=>{posonlyargs:=[],args:=[],vararg:=none,kwonlyargs:=[],kw_defaults:=[],kwarg:=none,defaults:=[]}
def zK(s:Stmt):List Stmt:=match s with
 |.FunctionDef _ _ b _ _ _ _ _ _ _=>b|_=>[]
def jW(s:Stmt):Scope:=match s with
 |.FunctionDef _ _ _ _ _ _ sc _ _ _=>sc|_=>{kind:=.function,names:=[],isGenerator:=false,isCoroutine:=false}
structure Fun (K:Frag)(x qual:Str)(st:Stmt)(f:Addr)(fd:FuncData):Prop where
 ex:∃(oc:Value) (od:Option Addr) (kV gq pm:Value) (an:Option Addr) (ce ct:Value) (mf:Array (Option Value)),
  fd=PySem.W.fnOf x qual (xx st) (zK st) (jW st) .none kV gq pm an ce ct/\K.lookup f=⇑#[oc,od,.func fd,mf]/\PySem.W.codeIn K ce qual=true
 kp:PySem.W.keepIn K (.ref f)=true
section
variable {P:Program}{w:World}{K:Frag}{mg:Str->Option Value}{base:Heap}
def Fun.binds{x qual st f fd ps}(F:Fun K x qual st f fd)
  (h:∀kV gq pm an (ce ct) us,us.length=ps.length->bindArgs (PySem.W.fnOf x qual (xx st) (zK st) (jW st) .none kV gq pm an ce ct) #[us,[]]=pure (ps.zip us)):Binds K fd ps []:=by
 obtain⟨oc,od,kV,gq,pm,an,ce,ct,mf,rfl,lk,iq⟩:=F.ex;exact .all (h kV gq pm an ce ct)
def _cu{x qual st f oc od an mf kV gq pm ce ct}(l:K.lookup f=⇑#[oc,od,.func (PySem.W.fnOf x qual (xx st) (zK st) (jW st) .none kV gq pm an ce ct),mf])
  (c:PySem.W.codeIn K ce qual=true) (k:PySem.W.keepIn K (.ref f)=true):Fun K x qual st f (PySem.W.fnOf x qual (xx st) (zK st) (jW st) .none kV gq pm an ce ct):=#[#[oc,od,kV,gq,pm,an,ce,ct,mf,rfl,l,c],k]
end
section
variable {X:Cx}
def pv(i:Nat){x:Str}{pos:Pos}(hN:X.N[i]?=⇑x<|>Ŕ)(hv:Vis X.env.scope x<|>ř)(hd:Abd x<|>ŕ)
  (iq:(x==("__classdict__":Str))=false<|>ŕ):PE X (.Name x pos) (wV i):=_at hN hv hd iq
end
def k9(H H':Hp):Prop:=∀b o,H b=⇑o->H' b=⇑o
section
variable {κ:Type}[DecidableEq κ]
def J5(kvs:List (κ×V))(k:κ):Option V:=(kvs.find? λkv=>decide (kv.1=k)).map (·.2)
def x9(kvs:List (κ×V))(k:κ)(v:V):List (κ×V):=
 if(kvs.any λkv=>decide (kv.1=k))=true then kvs.map (λkv=>if kv.1=k then(kv.1,v)else kv)else kvs++[(k,v)]
def _cv{p r}{k:κ}(e:p.1=k):J5 (p::r) k=⇑p.2:=by simp[J5,e]
def _cw{p r}{k:κ}(e:¬p.1=k):J5 (p::r) k=J5 r k:=by simp[J5,e]
def _cx(k):∀kvs:List (κ×V),(kvs.any λkv=>decide (kv.1=k))=(J5 kvs k).isSome
 |[]=>rfl
 |p::r=>by
  rw[Zj]
  by_cases e:p.1=k
  ·simp only[_cv e,Xg e,Bool.true_or,Option.isSome_some]
  ·rw[_cw e,Xl e];exact _cx k r
def _cy kvs (k:κ) v:(x9 kvs k v).length<=kvs.length+1:=by
 unfold x9
 split
 ·rw[X4];lia
 ·simp_all
def RelO.isSome_eq{o u}(r:RelO o u):o.isSome=u.isSome:=by
 cases o with
 |none=>cases u with|none=>rfl|some _=>exact(r).elim
 |some _=>cases u with|none=>exact(r).elim|some _=>rfl
def RelO.getD{o u d d'}(r:RelO o u)(rd:RelV d d'):RelV (o.getD d) (u.getD d'):=by
 cases o with
 |none=>cases u with|none=>exact rd|some _=>exact(show False from r).elim
 |some _=>cases u with|none=>exact(show False from r).elim|some _=>exact r
def KV.val{kvs vs}(r:KV kvs vs)(k:κ):RelO (J5 kvs k) (valueAt vs k):=by
 induction r with
 | nil=>exact Zi
 | @cons p q ps qs h t ih=>
  obtain⟨h1,h2⟩:=h
  by_cases e:p.1=k
  ·have e':q.1=k:=h1.symm.trans e;have b:valueAt (q::qs) k=⇑q.2:=by simp[valueAt,e']
   rw[_cv e,b];exact h2
  ·have e':¬q.1=k:=λz=>e (h1.trans z)
   have b:valueAt (q::qs) k=valueAt qs k:=by simp[valueAt,e']
   rw[_cw e,b];exact ih
def KV.any{kvs vs}(r:KV kvs vs)(k:κ):(kvs.any λkv=>decide (kv.1=k))=vs.any λkv=>decide (kv.1=k):=by
 induction r with|nil=>rfl|cons h t ih=>simp_all
def KV.repl{kvs vs}(r:KV kvs vs)(k:κ){y u}(ry:RelV y u):
  KV (kvs.map λkv=>if kv.1=k then(kv.1,y)else kv) (vs.map λkv=>if kv.1=k then(kv.1,u)else kv):=by
 induction r with
 |nil=>exact .nil
 |@cons p q ps qs h t ih=>
  rw[List.map_cons,List.map_cons];refine .cons ?_ ih;obtain⟨h1,h2⟩:=h
  by_cases e:p.1=k
  ·rw[Xb e,Xb (h1.symm.trans e)];exact#[h1,ry]
  ·rw[Xj e,Xj (λz=>e (h1.trans z))];exact#[h1,h2]
def KV.put{kvs vs}(r:KV kvs vs)(k:κ){y u}(ry:RelV y u):KV (x9 kvs k y) (stored vs k u):=by
 unfold x9 stored;rw[r.any k]
 by_cases e:(vs.any λkv=>decide (kv.1=k))=true
 ·rw[Xb e,Xb e];exact r.repl k ry
 ·rw[Xj e,Xj e];exact Paired.snoc r #[rfl,ry]
def KV.length{kvs}{vs:List (κ×Value)}(r:KV kvs vs):kvs.length=vs.length:=Paired.length r
end
def VW{P w k u}(r:RelV (kV k) u):(xj P w).is k u=true:=by
 cases k with|inl i=>obtain⟨t,e⟩:=(r);subst e;exact _ak P w i t|inr x=>obtain⟨t,e⟩:=(r);subst e;exact _al P w x t
def _cz{P w}:∀{ks us},Vals (ks.map kV) us->ItemsAre (xj P w) ks us
 |[],_,r=>by cases r;exact .nil
 |k::ks,_,r=>by
  cases r with|cons h t=>exact .cons (VW h) (_cz t)
abbrev KT(H:Hp):List (List Key×V)->List (List Key×Addr×Value)->Prop:=Paired λp q=>p.1=q.1/\H q.2.1=⇑(.tup (p.1.map kV))/\RelV p.2 q.2.2
def KT.val{H kvs xs}(r:KT H kvs xs) k:RelO (J5 kvs k) ((atKey xs k).map (·.2)):=by
 induction r with
 | nil=>exact Zi
 | @cons p q ps qs h t ih=>
  obtain⟨h1,_,h2⟩:=h
  by_cases e:p.1=k
  ·have e':q.1=k:=h1.symm.trans e;have b:atKey (q::qs) k=⇑q.2:=by simp[atKey,e']
   rw[_cv e,b];exact h2
  ·have e':¬q.1=k:=λz=>e (h1.trans z)
   have b:atKey (q::qs) k=atKey qs k:=by simp[atKey,e']
   rw[_cw e,b];exact ih
def KT.repl{H kvs xs}(r:KT H kvs xs)(k){y u}(ry:RelV y u):
  KT H (kvs.map λkv=>if kv.1=k then(kv.1,y)else kv) (xs.map (putAt k u)):=by
 induction r with
 |nil=>exact .nil
 |@cons p q ps qs h t ih=>
  rw[List.map_cons];refine .cons ?_ ih;obtain⟨h1,h2,h3⟩:=h;unfold putAt
  by_cases e:p.1=k
  ·rw[Xb e,Xb (h1.symm.trans e)];exact#[h1,h2,ry]
  ·rw[Xj e,Xj (λz=>e (h1.trans z))];exact#[h1,h2,h3]
def KT.put{H kvs xs}(r:KT H kvs xs)(k){b y u}(hb:H b=⇑(.tup (k.map kV)))(ry:RelV y u):
  KT H (x9 kvs k y) (storedH xs k b u):=by
 have e:(kvs.any λkv=>decide (kv.1=k))=(atKey xs k).isSome:=by
  rw[_cx,(r.val k).isSome_eq,Yv]
 unfold x9 storedH;rw[e]
 by_cases q:(atKey xs k).isSome=true
 ·rw[Xb q,Xb q];exact r.repl k ry
 ·rw[Xj q,Xj q];exact Paired.snoc r #[rfl,hb,ry]
def KT.keeps{H H' kvs xs}(r:KT H kvs xs)(ht:∀b ys,H b=⇑(.tup ys)->H' b=⇑(.tup ys)):KT H' kvs xs:=
 Paired.mapP r λ_ _ z=>#[z.1,ht _ _ z.2.1,z.2.2]
section
variable {P:Program}{w:World}{H:Hp}{h:Heap}{a:Addr}
def _cA{u}(ok:HOk P w H h)(e:Rd H a u):ObjOk P w H h a u:=e.ok ok
def V1{kvs}(ok:HOk P w H h)(e:Rd H a (.dK kvs)):kvs.length<=sizeLine/\(a==sysModules)=false/\∃vs,KV kvs vs/\h.DictOf (xj P w) a vs:=
 show ObjOk P w H h a _ from _cA ok e
def _cB{kvs}(ok:HOk P w H h)(e:H a=⇑(.dK kvs)):kvs.length<=sizeLine/\(a==sysModules)=false/\∃vs,KV kvs vs/\h.DictOf (xj P w) a vs:=V1 ok (.inl e)
def ZY{ks}(ok:HOk P w H h)(e:H a=⇑(.tup (ks.map kV))):(tupleKind (xj P w)).is h ks a:=by
 obtain⟨_,ab,r,o,h1,h2,_,n,h3⟩:=(ok a _ e);exact#[o,ab.toArray,n,h1,h2,h3,~~~(_cz r)]
def VQ{kvs}(ok:HOk P w H h)(e:Rd H a (.dT kvs)):kvs.length<=sizeLine/\(a==sysModules)=false /\
  ∃ xs,KT H kvs xs/\h.DictOfH (tupleKind (xj P w)) a xs:=by
 obtain⟨z,y,xs,r,o,es,ep,h1,h2,h3,h4,h5⟩:=(_cA ok e);refine#[z,y,xs,r,o,es,ep,h1,h2,h3,h4,λx hx=>?_,h5];have all:∀{l m},KT H l m->∀x∈m,(tupleKind (xj P w)).is h x.1 x.2.1:=by
  intro l m q
  induction q with
  | nil=>simp_all
  | @cons p q ps qs hq t ih=>
   intro x hx;rcases aD hx with e|hx
   ·subst e;exact ZY ok (by simp_all)
   ·exact ih x hx
 exact all r x hx
def _cC{kvs}(ok:HOk P w H h)(e:H a=⇑(.dT kvs)):kvs.length<=sizeLine/\(a==sysModules)=false /\
  ∃xs,KT H kvs xs/\h.DictOfH (tupleKind (xj P w)) a xs:=VQ ok (.inl e)
end
def DGet(H:Hp)(a:Addr)(y:V)(r:Option V):Prop:=
 (∃kvs k,Rd H a (.dK kvs)/\y=kV k/\r=J5 kvs k)\/∃kvs k b,Rd H a (.dT kvs)/\y=.ref b/\H b=⇑(.tup (k.map kV))/\r=J5 kvs k
def DPut(H:Hp)(a:Addr)(y v:V)(H':Hp):Prop:=
 (∃kvs k,H a=⇑(.dK kvs)/\y=kV k/\kvs.length<sizeLine/\H'=upd H a (.dK (x9 kvs k v))) \/
 ∃kvs k b,H a=⇑(.dT kvs)/\y=.ref b/\H b=⇑(.tup (k.map kV))/\kvs.length<sizeLine/\H'=upd H a (.dT (x9 kvs k v))
def DGet.k{H a kvs k}(e:H a=⇑(.dK kvs)):DGet H a (kV k) (J5 kvs k):=.inl #[kvs,k,.inl e,rfl,rfl]
def DPut.k{H a kvs k v}(e:H a=⇑(.dK kvs))(hl:kvs.length<sizeLine):DPut H a (kV k) v (upd H a (.dK (x9 kvs k v))):=.inl #[kvs,k,e,rfl,hl,rfl]
section
variable {X:Cx}{a8:LA9}{σ:St}{H:Hp}{s:Shared}{a:Addr}{y v:V}{u r:Value}{o:Option V}{A:Around}{E:VP9}
def Inv.big(I:Inv X a8 σ H s):sysModules<↥s:=by
 exact Nat.lt_trans ⋯ ((I.mod.glob.keeps I.bk).lt)
def _cD{Q}(hu:A.units+1<cLine)(I:Inv X a8 σ H s)(g:DGet H a y ⇑v)(ry:RelV y u)(h:∀w' s',Inv X a8 σ H s'->RelV v w'->Q w' s'):
  wpAny (model X.prog X.w) A (getItem (.ref a) u) Q E s:=by
 rcases g with⟨kvs,k,e,ey,l⟩|⟨kvs,k,b,e,ey,eb,l⟩
 ·subst ey;obtain⟨z,hd,vs,dj,dd⟩:=V1 I.hok e;obtain⟨w',hw,jo⟩:=RelO.some_of (l▸dj.val k);exact wpAny_getItem_of (VW ry) dd.mapOf hw (h w' _ (I.tok _) jo)
 ·subst ey;cases(ry);obtain⟨z,hd,xs,dj,dd⟩:=VQ I.hok e;obtain⟨w',hw,jo⟩:=RelO.some_of (l▸dj.val k);obtain⟨p,hp,hp2⟩:=Option.map_eq_some_iff.mp hw;refine wpAny_getItem_heap (tupleKind_room_in1 hu) (ZY I.hok eb) dd hp ?_;rw[hp2];exact h w' _ (I.tok _) jo
def d_in{Q}(hu:A.units+1<cLine)(I:Inv X a8 σ H s)(g:DGet H a y o)(ry:RelV y u)(h:∀s',Inv X a8 σ H s'->Q (.bool o.isSome) s'):
  wpAny (model X.prog X.w) A (compareOp .In u (.ref a)) Q E s:=by
 rcases g with⟨kvs,k,e,ey,l⟩|⟨kvs,k,b,e,ey,eb,l⟩
 ·subst ey;obtain⟨z,hd,vs,dj,dd⟩:=V1 I.hok e;refine wpAny_in_of (VW ry) hd dd.mapOf ?_;rw[<-(dj.val k).isSome_eq,<-l];exact h _ (I.tok _)
 ·subst ey;cases(show u=Value.ref b from ry);obtain⟨z,hd,xs,dj,dd⟩:=VQ I.hok e;refine wpAny_in_heap (tupleKind_room_in1 hu) (ZY I.hok eb) hd dd ?_;have q:=(dj.val k).isSome_eq;rw[Yv]at q;rw[<-q,<-l];exact h _ (I.tok _)
def _cE{Q}(hu:A.units+1<cLine)(I:Inv X a8 σ H s)(g:DGet H a y o)(ry:RelV y u)(h:∀s',Inv X a8 σ H s'->Q (.bool (!o.isSome)) s'):
  wpAny (model X.prog X.w) A (compareOp .NotIn u (.ref a)) Q E s:=by
 rcases g with⟨kvs,k,e,ey,l⟩|⟨kvs,k,b,e,ey,eb,l⟩
 ·subst ey;obtain⟨z,hd,vs,dj,dd⟩:=V1 I.hok e;refine wpAny_notIn_of (VW ry) hd dd.mapOf ?_;rw[<-(dj.val k).isSome_eq,<-l];exact h _ (I.tok _)
 ·subst ey;cases(ry);obtain⟨z,hd,xs,dj,dd⟩:=VQ I.hok e;refine wpAny_notIn_heap (tupleKind_room_in1 hu) (ZY I.hok eb) hd dd ?_;have q:=(dj.val k).isSome_eq;rw[Yv]at q;rw[<-q,<-l];exact h _ (I.tok _)
def _cF{h' t' ob}(I:Inv X a8 σ H s)(mu:Mut (H a))(hs:Heap.SameBut a s.heap h')(he:∃q,h'.get? a=⇑q)(new:ObjOk X.prog X.w (upd H a ob) h' a ob):
  Inv X a8 σ (upd H a ob) {s with heap:=h',toks:=t' }:=
 I.write mu (.inl rfl) (λb q hb z=>(hs.2 b hb).trans z) he new
def _cG{P w H' h' kvs vs}(z:kvs.length<=sizeLine)(hd:(a==sysModules)=false)(dj:KV kvs vs)(dd:h'.DictOf (xj P w) a vs):
  ObjOk P w H' h' a (.dK kvs):=#[z,hd,vs,dj,dd]
def _cH{H' Q}(hu:A.units+1<cLine)(I:Inv X a8 σ H s)(g:DPut H a y v H')(ry:RelV y u)(rv:RelV v r)(h:∀s',Inv X a8 σ H' s'->Q () s'):
  wpAny (model X.prog X.w) A (setItem (.ref a) u r) Q E s:=by
 rcases g with⟨kvs,k,e,ey,l,eH⟩|⟨kvs,k,b,e,ey,eb,l,eH⟩
 ·subst ey eH;obtain⟨z,hd,vs,dj,dd⟩:=_cB I.hok e;have hz:vs.length<=sizeLine:=by rw[<-dj.length];exact z
  have hl:(x9 kvs k v).length<=sizeLine:=by have:=_cy kvs k v;lia
  refine wpAny_setItem_pairs (VW ry) dd λh' dd' hs=>h _ ?_
  have he:∃q,h'.get? a=⇑q:=let ⟨q,_,_,hq,_⟩:=dd';#[q,hq]
  exact _cF I (e▸Zi) hs he (_cG hl hd (dj.put k rv) dd')
 ·subst ey eH;cases(ry);obtain⟨z,hd,xs,dj,dd⟩:=_cC I.hok e;have hz:xs.length<=sizeLine:=by rw[<-Paired.length dj];exact z
  have hl:(x9 kvs k v).length<=sizeLine:=by have:=_cy kvs k v;lia
  refine wpAny_setItem_heap (tupleKind_room_in1 hu) (ZY I.hok eb) dd λh' dd' hs=>h _ ?_
  obtain⟨q,es,ep,hq,h2,h3,h4,_,h5⟩:=dd';refine _cF I (e▸Zi) hs #[q,hq] #[hl,hd,_,(dj.put k eb rv).keeps λc ys ec=>?_,q,es,ep,hq,h2,h3,h4,h5]
  rwa [qx (_am ec e (nofun))]
end
section
variable {X:Cx}{a8:LA9}{σ:St}{H:Hp}{s:Shared}{a:Addr}{kvs:List (Key×V)}{k:Key}{u:Value}{A:Around}{E:VP9}
def _cI{Q}(I:Inv X a8 σ H s)(e:Rd H a (.dK kvs))(h:∀t s',Inv X a8 σ H s'->Q (.int kvs.length t) s'):wpAny (model X.prog X.w) A (call (.builtin "len") [.ref a]) Q E s:=by
 obtain⟨z,hd,vs,dj,dd⟩:=V1 I.hok e;refine call_len_dict hd dd (by rw[<-dj.length];rw[sizeLine_eq]at z;lia) ?_;rw[<-dj.length];exact h _ _ (I.tok _)
end
def _cJ(i:Expr):Prop:=∀ov iv,subscripted i false ov iv=operate [ov,iv] (getItem ov iv)
def _cK{prog w A E s env bd slice pos T id}{Q}
  (hl:typeLookup (.type T) "__getitem__"=pure ⇑(.builtin id)) (hs:_cJ slice)
  (h:wpAny (model prog w) A (eval bd env) (λo s₁=>wpAny (model prog w) A (eval slice env) (λi s₂=>s₂.TypeIs o T/\wpAny (model prog w) A (getItem o i) Q E s₂) E s₁) E s):
  wpAny (model prog w) A (eval (.Subscript bd slice pos) env) Q E s:=by
 refine Subscript_ (wpAny_mono h (λo s₁ h₁=>wpAny_mono h₁ (λi s₂ h₂=>?_) λ_ _ x=>x) λ_ _ x=>x);obtain⟨hT,h₂⟩:=h₂;refine X0 ?_;rw[getitemInPython_of_ne hT.not_modules];refine X0 (Z0 hT hl ?_);have fin:wpAny (model prog w) A (subscripted slice false o i) (λr s₃=>wpAny (model prog w) A (letTemporaryGo bd o r >>= λ_=>pure r) Q E s₃) E s₂:=by
  rw[hs o i];exact wpAny_operating (wpAny_mono h₂ (λr s₃ h₃=>X0 (wpAny_letTemporaryGo (X6 h₃))) λ_ _ x=>x)
 first
  |exact X6 (X0 fin)
def _cL{X a8}{σ:St}{H s a y o}(I:Inv X a8 σ H s)(g:DGet H a y o):s.TypeIs (.ref a) "dict":=by
 rcases g with⟨kvs,k,e,_,_⟩|⟨kvs,k,b,e,_,_,_⟩
 ·obtain⟨_,_,vs,_,dd⟩:=V1 I.hok e;exact dd.typeIs
 ·obtain⟨_,_,xs,_,dd⟩:=VQ I.hok e;exact dd.typeIs
abbrev xv9(td ty:TE):TE:=fun σ H Q=>td σ H λx H1=>ty σ H1 λy H2=>∃a v,x=.ref a/\DGet H2 a y ⇑v/\Q v H2
abbrev xvf(td ty tv:TE):TS:=λD σ H=>tv σ H λv H1=>td σ H1 λx H2=>ty σ H2 λy H3=>∃a H4,x=.ref a/\DPut H3 a y v H4/\D.nx σ H4
section
variable {X:Cx}{o i e bd:Expr}{pos ay jf:Pos}{td ty tv:TE}
def _cM(hu:X.A.units+1<cLine)(ho:PE X o td)(hi:PE X i ty)(hs:_cJ i):PE X (.Subscript o i pos) (xv9 td ty):=by
 intro a8 s σ H Q I h;refine _cK PySem.F.slot_dict_getitem.lookup hs (thn (ho a8 s σ H _ I h) λu s1 #[x,H1,I1,rx,q1]=>thn (hi a8 s1 σ H1 _ I1 q1) λiv s2 hz=>?_);obtain⟨y,H2,I2,ry,a,v,ex,g,q2⟩:=hz;subst ex;obtain rfl:u=Value.ref a:=rx;exact#[_cL I2 g,_cD hu I2 g ry λw' s3 I3 jo=>#[v,H2,I3,jo,q2]]
def _cN(hu:X.A.units+1<cLine)(ho:PE X o td)(hi:PE X i ty)(hv:PE X bd tv)(hs:swapsWith bd ⇑(.Subscript o i ay) pos.line X.env=pure false):
  PS X (.Assign [.Subscript o i ay] bd pos) (xvf td ty tv):=by
 intro a8 s σ H D I h;refine wpAny_Assign_Subscript (thn (hv a8 s σ H _ I h) λr s1 #[v,H1,I1,rv,q1]=>thn (ho a8 s1 σ H1 _ I1 q1) λu s2 #[x,H2,I2,rx,q2]=>thn (hi a8 s2 σ H2 _ I2 q2) λiv s3 hz=>?_) hs;obtain⟨y,H3,I3,ry,a,H4,ex,g,q3⟩:=hz;subst ex;obtain rfl:u=Value.ref a:=rx;exact _cH hu I3 g ry rv λs4 I4=>#[σ,H4,I4,q3]
end
def _cO{P w H}(h:Heap)(hb:sysModules<h.objs.size):ObjOk P w H (h.push {cls:=.type "dict",data:=.dict (List.toArray [])}) h.objs.size (.dK []):=
 #[Y1 _,beq_eq_false_iff_ne.mpr (Ne.symm (Xk hb)),[],.nil,Heap.DictOf.new h]
abbrev wwp:TE:=λ_ H Q=>∀p,H p=none->Q (.ref p) (upd H p (.dK []))
section
variable {X:Cx}{pos:Pos}
def _cP:PE X (.Dict [] [] pos) wwp:=λa8 s σ H Q I h=>
 wpAny_Dict_empty #[.ref ↥s,_,I.laid (t':=s.toks) (λ_ _ q=>X3 _ q) (Xd _) (_cO s.heap I.big),rfl,h _ (I.hok.fresh (Xd _))]
end
def _cQ:List (TE×TE)->St->Hp->(List (V×V)->Hp->Prop)->Prop
 |[],_,H,Q=>Q [] H|(tk,tv)::r,σ,H,Q=>tk σ H λx H1=>tv σ H1 λy H2=>_cQ r σ H2 λps H3=>Q ((x,y)::ps) H3
abbrev VV:List (V×V)->List (Value×Value)->Prop:=Paired λp q=>RelV p.1 q.1/\RelV p.2 q.2
def PPs(X:Cx)(pos:Pos)(keys:List (Option Expr))(qe:List Expr)(trs:List (TE×TE)):Prop:=
 ∀(a8:LA9) (s:Shared) (σ:St) (H:Hp) (Q:List (V×V)->Hp->Prop),Inv X a8 σ H s->_cQ trs σ H Q ->
  ∅ (evalPairs (pairTrees keys qe X.env pos)) (λvs s'=>∃ps H',Inv X a8 σ H' s'/\VV ps vs/\Q ps H') X.xe s
def _cR{X:Cx}{pos:Pos}:PPs X pos [] [] []:=λa8 s σ H Q I h=>pairTrees_nil_walk #[[],H,I,.nil,h]
def _cS{X:Cx}{pos:Pos}{k v:Expr}{ks:List (Option Expr)}{vs:List Expr}{tk tv:TE}{trs:List (TE×TE)}(hk:PE X k tk)(hv:PE X v tv)(hr:PPs X pos ks vs trs):
  PPs X pos (⇑k::ks) (v::vs) ((tk,tv)::trs):=λa8 s σ H Q I h=>
 pairTrees_cons_walk (thn (hk a8 s σ H _ I h) λu s1 #[x,H1,I1,rx,q1]=>thn (hv a8 s1 σ H1 _ I1 q1) λw2 s2 hz=>by
  obtain⟨y,H2,I2,ry,q2⟩:=hz;exact thn (hr a8 s2 σ H2 _ I2 q2) λws s3 hz=>by obtain⟨ps,H3,I3,dj,q3⟩:=hz;exact#[(x,y)::ps,H3,I3,.cons #[rx,ry] dj,q3])
structure M2 (X:Cx)(o:Expr)(m:Str)(apos:Pos)(e f:Expr)(af:Pos):Prop where
 base:attributeBase o m X.env (eval o X.env)=eval o X.env
 few:((backTo af (starEach [e,f] X.env)).all (λx=>!x.1)&&(backToKw af (keywordEach [] X.env)).all (λx=>x.1.isSome)
  && decide (([e,f]:List Expr).length+([]:List Keyword).length+(if([]:List Keyword).isEmpty then 0 else 1)<30))=true
 line:(apos.endLine==af.line)=true
 trees:backTo af (starEach [e,f] X.env)=[(false,eval e X.env),(false,eval f X.env)]
def IsD(H:Hp)(a:Addr):Prop:=(∃kvs,Rd H a (.dK kvs))\/∃kvs,Rd H a (.dT kvs)
def _cT{X a8}{σ:St}{H s a}(I:Inv X a8 σ H s)(d:IsD H a):
  s.TypeIs (.ref a) "dict"/\(∀b,Value.ref a=.ref b->∃ob,s.heap.get? b=⇑ob/\ob.dict=none)/\(a==sysModules)=false:=by
 rcases d with⟨kvs,e⟩|⟨kvs,e⟩
 ·obtain⟨_,hd,vs,_,dd⟩:=V1 I.hok e;refine#[dd.typeIs,λb q=>?_,hd];cases q;obtain⟨ob,_,_,h1,h2,_⟩:=dd;exact#[ob,h1,h2.2.1]
 ·obtain⟨_,hd,xs,_,dd⟩:=VQ I.hok e;refine#[dd.typeIs,λb q=>?_,hd];cases q;obtain⟨ob,_,_,h1,h2,_⟩:=dd;exact#[ob,h1,h2.2.1]
section
variable {X:Cx}{a8:LA9}{σ:St}{H:Hp}{s:Shared}{a:Addr}{y d:V}{u r:Value}{o:Option V}{A:Around}{E:VP9}
def _cU{Q}(hu:A.units+1<cLine)(I:Inv X a8 σ H s)(g:DGet H a y o)(ry:RelV y u)(rd:RelV d r)(h:∀w' s',Inv X a8 σ H s'->RelV (o.getD d) w'->Q w' s'):
  wpAny (model X.prog X.w) A (call (.builtin "dict.get") [.ref a,u,r]) Q E s:=by
 rcases g with⟨kvs,k,e,ey,l⟩|⟨kvs,k,b,e,ey,eb,l⟩
 ·subst ey;obtain⟨z,hd,vs,dj,dd⟩:=V1 I.hok e;refine call_meetsIn PySem.F.slot_dict_get dd.typeIs PySem.F.entry_dict_get (PySem.F.args_dict_get_3 _ _ _) (meets_dict_get_default (xj X.prog X.w) a (VW ry) hd r) #[_,dd.mapOf,h _ _ (I.tok _) ?_];rw[l];exact(dj.val k).getD rd
 ·subst ey;cases(show u=Value.ref b from ry);obtain⟨z,hd,xs,dj,dd⟩:=VQ I.hok e;refine call_meetsIn PySem.F.slot_dict_get dd.typeIs PySem.F.entry_dict_get (PySem.F.args_dict_get_3 _ _ _) (meetsH_dict_get_default (tupleKind (xj X.prog X.w)) a b hd r) #[tupleKind_room_in1 hu,k,xs,ZY I.hok eb,dd,h _ _ (I.tok _) ?_];rw[l];exact(dj.val k).getD rd
end
abbrev wwr(td ty tx:TE):TE:=fun σ H Q=>td σ H λx H1=>∃a,x=.ref a/\IsD H1 a/\ty σ H1 λy H2=>tx σ H2 λz H3=>∃o,DGet H3 a y o/\Q (o.getD z) H3
section
variable {X:Cx}{o e f:Expr}{apos af:Pos}{td ty tx:TE}
def _cV(hu:X.A.units+1<cLine)(ho:PE X o td)(he:PE X e ty)(hf:PE X f tx)(m:M2 X o "get" apos e f af):PE X (.Call (.Attribute o "get" apos) [e,f] [] af) (wwr td ty tx):=by
 intro a8 s σ H Q I h;refine wpAny_Call_method m.base m.few m.line PySem.F.plainAttrs_dict PySem.F.slot_dict_get PySem.F.type_dict_get (thn (ho a8 s σ H _ I h) λu s1 hz=>?_);obtain⟨x,H1,I1,rx,a,ex,d,q1⟩:=hz;subst ex;obtain rfl:u=Value.ref a:=rx;obtain⟨t1,t2,_⟩:=_cT I1 d;refine#[t1,t2,?_];rw[m.trees];refine Calls.callWith_builtin rfl (Calls.evalArgs_plain (Calls.spliced_cons (thn (he a8 s1 σ H1 _ I1 q1) λiv s2 #[y,H2,I2,ry,q2]=>
  Calls.spliced_cons (thn (hf a8 s2 σ H2 _ I2 q2) λfv s3 #[z,H3,I3,rz,ov,g,q3]=>Calls.spliced_nil ?_))))
 exact _cU hu I3 g ry rz λw' s4 I4 jo=>#[_,H3,I4,jo,q3]
end
section
variable {X:Cx}
def _cW:CallR X (.builtin "len") (λxs H Q=>∃a kvs,xs=[V.ref a]/\H a=⇑(.dK kvs)/\Q (.int kvs.length) H):=by
 rintro a8 s σ H xs us Q I r ⟨a,kvs,rfl,ha,q⟩;obtain⟨u,rfl,ru⟩:=xk r;cases ru;exact _cI I (.inl ha) λt s' I'=>#[.int kvs.length,H,I',#[t,rfl],q]
end
end L2
set_option maxHeartbeats 4000000
namespace L3
open PySem PySem.Spec PyProof.Rows L2
abbrev vji(fc:List Expr)(env:Env):Sem Bool:=
 forIn fc true λc r=>if r=true then do let ok <-isTrue c env (eval c env);pure (ForInStep.yield ok)else pure (ForInStep.yield r)
def _cX (env): ∀(l : List (Str × NameKind)) (cs),(∀y ∈ l,y.2 = .free -> ∃c,env.cells.lookup y.1 = ⇑c) ->
    (∀x c,cs.lookup x = ⇑c -> env.cells.lookup x = ⇑c) ->
    ∃ cl,(forIn l cs (λx r=>if(x.2==NameKind.free) = true then do let a <-cellOf env x.1; pure (ForInStep.yield ((x.1,a)::r))else pure (ForInStep.yield r)): Sem (List (Str × Addr))) = pure cl /\
      (∀x c,cl.lookup x = ⇑c -> env.cells.lookup x = ⇑c) /\ (∀x c,cs.lookup x = ⇑c -> ∃c',cl.lookup x = ⇑c') /\ ∀y ∈ l,y.2 = .free -> ∃c,cl.lookup y.1 = ⇑c
  | [],cs,_,hs=>#[cs,rfl,hs,λx c h=>#[c,h],nofun]
  | (n,k)::r,cs,hl,hs=>by
    by_cases hk : k = .free
    · subst hk
      obtain⟨c,hc⟩:= hl _ X5 rfl;have lu : ∀x d,((n,c)::cs).lookup x = ⇑d -> env.cells.lookup x = ⇑d:= λx d h=>by
        rw[List.lookup_cons]at h;cases hx : x==n with| true=>simp_all| false=>rw[hx]at h; exact hs x d h
      obtain⟨cl,e,a,b,d⟩:= _cX env r _ (λy hy=>hl y (_ad _ hy)) lu;refine#[cl,?_,a,λx c' h=> ?_,λy hy hf=> ?_]
      · rw[List.forIn_cons]
        have q : cellOf env n = pure c:= by unfold cellOf; rw[hc]
        simp only[q];exact e
      · cases hx : x==n with| true=>exact b x c (by rw[List.lookup_cons,hx])| false=>exact b x c' (by rw[List.lookup_cons,hx]; exact h)
      · rcases aD hy with z|z
        · simp_all
        · exact d y z hf
    · obtain⟨cl,e,a,b,d⟩:= _cX env r cs (λy hy=>hl y (_ad _ hy)) hs
      refine#[cl,?_,a,b,λy hy hf=> ?_]
      · rw[List.forIn_cons]
        have q : (k==NameKind.free) = false:= ~~~hk
        simp only[q];exact e
      · rcases aD hy with z|z
        · subst z
          exact absurd hf hk
        · exact d y z hf
def _cY{scope env}(h:∀y∈scope.names,y.2=.free->∃c,env.cells.lookup y.1=⇑c):
  ∃cl,closureFor scope env=pure cl/\(∀x c,cl.lookup x=⇑c->env.cells.lookup x=⇑c)/\∀y∈scope.names,y.2=.free->∃c,cl.lookup y.1=⇑c:=by
 obtain⟨cl,e,a,_,d⟩:=_cX env scope.names [] h (nofun);refine#[cl,?_,a,d];unfold closureFor
 grind
def lcX(X:Cx)(scope:Scope)(N:List Str)(cl:List (Str×Addr))(C:Addr)(s0:Shared)(H0:Hp)(fp:List Addr):Cx:=
 {X with N:=N,s₀:=s0,H₀:=H0,env:=compEnvC scope cl C X.env,outer:=X.stack,ex:=fp,fn:=λ_=>false,pn:=[],xe:=λ_ _=>False}
noncomputable def JV(k:Nat)(R:List Nat)(σ:L2.St):L2.St:=List.replicate k none++R.map λj=>(σ[j]?).join
structure LcOk (X:Cx)(scope:Scope)(N:List Str)(k:Nat)(R:List Nat):Prop where
 kind:scope.kind=.function
 nocell:∀y∈scope.names,y.2≠.cell
 names:∀y∈scope.names,y.2=.local->scope.names.lookup y.1=⇑.local
 caps:∀y∈scope.names,y.2=.free->X.env.kindOf y.1=⇑.cell\/X.env.kindOf y.1=⇑.free
 len:N.length=k+R.length
 outs:∀i j x,R[i]?=⇑j->N[k+i]?=⇑x->X.N[j]?=⇑x/\scope.names.lookup x=⇑.free
def Q9(XN:List Str)(sc scope:Scope)(N:List Str)(k:Nat)(R:List Nat):Bool:=
 scope.names.all (λy=>y.2 != .cell)&&scope.names.all (λy=>y.2 != .local||scope.names.lookup y.1==⇑.local) &&
 scope.names.all (λy=>y.2 != .free||(sc.names.lookup y.1==⇑.cell||sc.names.lookup y.1==⇑.free)) &&
 (N.length==k+R.length)&&(R.zip (N.drop k)).all (λp=>XN[p.1]? == ⇑p.2&&scope.names.lookup p.2==⇑.free)
def _cZ{X scope N k R}(hk:scope.kind=.function)(h:Q9 X.N X.env.scope scope N k R=true):LcOk X scope N k R:=by
 unfold Q9 at h;simp only[Bool.and_eq_true,Za,bne_iff_ne,Bool.or_eq_true,beq_iff_eq]at h;obtain⟨⟨⟨⟨h1,h2⟩,h3⟩,h4⟩,h5⟩:=h;refine#[hk,λy hy=>h1 y hy,λy hy e=>(h2 y hy).resolve_left (λz=>z e),λy hy e=>(h3 y hy).resolve_left (λz=>z e),h4,λi j x e1 e2=>?_];have m:(j,x)∈R.zip (N.drop k):=by
  refine Yu (i:=i) ?_;rw[List.getElem?_zip_eq_some]
  simp_all
 exact h5 _ m
def _c0 {env : Env} {x q}: ∀{names : List (Str × NameKind)},(names.map λ(n,k)=>if(k==NameKind.free&&env.scope.kind == .function&&env.kindOf n==⇑.cell)then(n,NameKind.cell)else(n,k)).lookup x = ⇑q ->
    (x,q) ∈ names \/ (q = .cell /\ (x,NameKind.free) ∈ names)
  | [],h=>nomatch h
  | (n,k)::r,h=>by
    have h : List.lookup x ((if _ = true then _ else _)::_) = ⇑q:= h
    by_cases hc : (k==NameKind.free&&env.scope.kind == .function&&env.kindOf n==⇑.cell) = true
    · rw[Xb hc,List.lookup_cons]at h
      cases hx : x==n with
      | true=>simp_all
      | false=>
        rw[hx]at h;rcases _c0 h with z|⟨z,y⟩
        · exact .inl (_ad _ z)
        · exact .inr #[z,_ad _ y]
    · rw[Xj hc,List.lookup_cons]at h
      cases hx : x==n with
      | true=>simp_all
      | false=>
        rw[hx]at h;rcases _c0 h with z|⟨z,y⟩
        · exact .inl (_ad _ z)
        · exact .inr #[z,_ad _ y]
section
variable {X:Cx}{a8:LA9}{σ:L2.St}{H:Hp}{s:Shared}
def _c1{scope N k R cl C}(sc:LcOk X scope N k R)(cb:∀y∈scope.names,y.2=.free->∃c,cl.lookup y.1=⇑c)
  {x} (h:(compEnvC scope cl C X.env).kindOf x=⇑.cell\/(compEnvC scope cl C X.env).kindOf x=⇑.free):∃c,cl.lookup x=⇑c:=by
 rcases h with h|h
 ·rcases _c0 h with z|⟨_,z⟩
  ·exact absurd rfl (sc.nocell _ z)
  ·exact cb _ z rfl
 ·rcases _c0 h with z|⟨z,_⟩
  ·exact cb _ z rfl
  ·cases z
def _c2{scope N k R cl}{C:Addr}{fp}(I:Inv X a8 σ H s)(sc:LcOk X scope N k R)(hf:∀b∈fp,wW X a8 H b)(ho:∀b∈fp,∃o,s.heap.get? b=⇑o)
  (hC:↥s<=C) (f7:∀x c,cl.lookup x=⇑c->X.env.cells.lookup x=⇑c) (cb:∀y∈scope.names,y.2=.free->∃c,cl.lookup y.1=⇑c):(lcX X scope N cl C s H fp).Ok where
 mod:=I.ok.mod
 kind:=sc.kind
 glob:=I.ok.glob
 blt:=I.ok.blt
 above:=hC
 inj:=λx y c h1 h2=>I.ok.inj x y c (f7 _ _ h1) (f7 _ _ h2)
 has:=λx h=>_c1 sc cb h
 cab:=λx c h=>by cases h
 hd:=I.ok.hd
 frames:=I.ok.frames
 stk:=.inl rfl
 exf:=λb hb=>by
  obtain⟨o,e⟩:=ho b hb;exact#[Xk (Xq (Xf e) hC),λx c h=>(hf b hb).2.2.2.2.1 x c (f7 x c h)]
 bs:=λb o e=>I.bs b o e
 bsz:=Yd I.ok.bsz I.sz
 noex:=λb o e hb=>by
  rcases(hf b hb).2.2.2.1 with z|z
  ·exact I.ok.noex b o e z
  ·exact absurd (Xq (Xf e) (Yd I.ok.bsz z)) (Ym _)
 exfs:=λb hb hs=>by
  rcases aD (I.stkSub b hs)with z|z
  ·exact(hf b hb).2.1 z
  ·exact(hf b hb).2.2.1 z
 funs:=I.stack
 frf:=I.stkFree
def _c3(I:Inv X a8 σ H s){a:Addr}(h:↥s<=a):a∉frs X.stack:=λz=>by
 rcases aD (I.stkSub a z)with e|e
 ·subst e;exact absurd (Xq I.lt h) (Ym _)
 ·exact I.nofs h e
def _c4 {scope N k R cl} {C D:Addr} {fp h1 t m oD} (I:Inv X a8 σ H s) (sc:LcOk X scope N k R)
  (hf:∀ b∈fp,wW X a8 H b) (ho:∀b∈fp,∃o,s.heap.get? b=⇑o)
  (hC:↥s<=C) (hD:↥s<=D) (u5:D≠C) (f7:∀x c,cl.lookup x=⇑c->X.env.cells.lookup x=⇑c) (cb:∀y∈scope.names,y.2=.free->∃c,cl.lookup y.1=⇑c)
  (dw:∀ b o,s.heap.get? b=⇑o->h1.get? b=⇑o) (hn:h1.Ns C m) (eD:h1.get? D=⇑oD) (dD:∀v,oD.data≠.cell v):
  Inv (lcX X scope N cl C s H fp) [(D,oD)] (JV k R σ) H {s with heap:=h1,toks:=t} where
 ok:=_c2 I sc hf ho hC f7 cb
 os:=rfl
 bare:=I.bare
 base:=Un.kept dw
 loc:=#[m,hn,λi x v e1 e2 vis=>by
  obtain⟨mX,hnX,hl⟩:=I.loc;unfold JV at e2
  by_cases hi:i<k
  ·rw [Xr (by simp_all),List.getElem?_replicate,Xb hi]at e2
   grind
  ·have hk:k<=i:=Nat.le_of_not_lt hi;rw [Y8 (Zd▸hk),Zd,Xh]at e2;cases er:R[i - k]? with
   | none=>simp_all
   | some j=>
    rw [er]at e2;have ej:(σ[j]?).join=⇑v:= ~~~e2
    have ej':σ[j]?=⇑(⇑v):=by
     cases q:σ[j]? with| none=>rw[q]at ej;cases ej| some z=>simp_all
    obtain⟨o1,o2⟩:=sc.outs _ j x er (by rw[show k+(i - k)=i by lia];exact e1);have cap:=sc.caps (x,.free) (Yx o2) rfl;have visX:Vis X.env.scope x:=cap.elim (λz=>.inr (.inl z)) λz=>.inr (.inr z)
    obtain⟨u,ru,q⟩:=hl j x v o1 ej' visX;refine#[u,ru,?_];rcases q with⟨q,_⟩|⟨_,c,ec,hc⟩
    ·simp_all
    ·obtain⟨c',ec'⟩:=cb (x,.free) (Yx o2) rfl;have e:=_aa ((f7 x c' ec').symm.trans ec);subst e;refine .inr #[?_,c',ec',?_]
     ·rcases vis with z|z|z
      ·rcases _c0 (env:=X.env) (names:=scope.names) z with y|⟨y,_⟩
       ·have y':=sc.names _ y rfl
        grind
       ·cases y
      ·exact .inl z
      ·exact .inr z
     ·obtain⟨o,h1,h2⟩:=hc;exact#[o,dw _ _ h1,h2]]
 cell:=λx c h=>by
  obtain⟨v,o,h1,h2⟩:=I.cell x c (f7 x c h);exact#[v,o,dw _ _ h1,h2]
 free:=I.hok.fresh hC
 freeC:=λx c h=>I.freeC x c (f7 x c h)
 pin:=λp hp=>by
  have e:p=(D,oD):=by
   have hp:p∈([]++[(D,oD)]:LA9):=hp
   simpa using hp
  subst e;exact#[eD,I.hok.fresh hD,u5,_c3 I hD,dD]
 hok:=I.hok.kept dw
 len:=by
  show(JV k R σ).length=N.length;unfold JV;rw[sc.len,Xe,Zd,X4]
def _c5{a o}(I:Inv X a8 σ H s)(hn:H a=none)(hL:a≠X.env.locals)(h1:a∈X.ex\/X.s₀.heap.objs.size<=a)(h2:∀x c,X.env.cells.lookup x=⇑c->c≠a)(h3:∀p∈X.pn++a8,p.1≠a)
  (new:ObjOk X.prog X.w (upd H a o) s.heap a o):Inv X a8 σ (upd H a o) s:=by
 have hok:HOk X.prog X.w (upd H a o) s.heap:=λb u e=>by
  by_cases hb:b=a
  ·subst hb;rw[vW]at e;cases e;exact new
  ·rw[qx hb]at e;exact(I.hok b u e).stay (λ_ _ _ q=>q) (λc q=>by rw[qx (Jx q hn)];exact q) λc xs q=>by rw[qx (Jx q hn)];exact q
 have na:∀b,b∉[a]->b≠a:=λb hb z=>hb (z▸aB rfl)
 exact I.step (h':=s.heap) (H':=upd H a o) (g':=s.gens) (t':=s.toks) (d':=s.drawn)
  (λb hb=>by rw[aC hb];exact#[h1.imp id λz=>Yh z,hL,h2,h3]) (λb o _ _ _ e _=>e) (λb o _ _ _ e _=>#[o.slots,e]) (λb o hb _ q=>by rw[qx (na b hb)];exact q)
  (λb o _ e=>#[o,e]) (λb xs q=>by rw[qx (Jx q hn)];exact q) (λb o u q=>by rw[qx (Jx q hn)];exact q) (λb ps q=>#[(List.toArray []),by rw[qx (Jx q hn),q];simp])
  (λm hm=>hm) hok I.bare
end
def PTs(X:Cx)(fc:List Expr)(t:TT):Prop:=
 ∀(a8:LA9) (s:Shared) (σ:L2.St) (H:Hp) (Q:Bool->Hp->Prop),Inv X a8 σ H s->t σ H Q->∅ (vji fc X.env) (TP X a8 σ Q) X.xe s
abbrev tYes:TT:=λ_ H Q=>Q true H
def _c6{X}:PTs X [] tYes:=λ_ _ _ H _ I h=>wpAny_tests_nil #[H,I,h]
def _c7{X c t}(hc:PT X c t):PTs X [c] t:=λa8 s σ H Q I h=>wpAny_tests_one (hc a8 s σ H Q I h)
def LcW(g:TG)(tt:TT)(te:TE)(Q:VK)(J:It)(W:Nat->Nat->List V->L2.St->Hp->Prop):Prop:=∀i m ys σ H,W i m ys σ H ->
 (J.stop i H/\ys.length<=sizeLine/\∀p,H p=none->Q (.ref p) (upd H p (.lst ys))) \/
 (J.go i H/\∀x H1,J.yld i H x H1->g x σ H1 fun σ2 H2=>∃(Ny:VK) (Nn:Hp->Prop),(∀y H4,Ny y H4->ys.length<=sizeLine/\∃m',m'<m/\W (i+1) m' (ys++[y]) σ2 H4) /\
  (∀H4,Nn H4->∃m',m'<m/\W (i+1) m' ys σ2 H4)/\tt σ2 H2 λb H3=>if b=true then te σ2 H3 Ny else Nn H3)
abbrev tLC(wi:TI)(g:TG)(tt:TT)(te:TE)(k:Nat)(R:List Nat):TE:=fun σ H Q=>wi σ H λJ H1=>
 ∃W:Nat->Nat->List V->L2.St->Hp->Prop,(∃m,W 0 m [] (JV k R σ) H1)/\LcW g tt te Q J W
abbrev XY(ab:List Value)(n:Nat):Obj:={cls:=.type "list",data:=.seq ab.toArray n}
section
variable {X:Cx}
def op_mulI:OpR X (binaryOp .Mult) (rI IntMulOk λi j=>.int (i*j)):=opI λ_ _ _ _ _ _ _ hc q=>mul_int q hc
def _c8(_i j:Int):Prop:=0<j/\j.natAbs.log2<9000
def _c9:OpR X (binaryOp .FloorDiv) (rI _c8 λi j=>.int (i / j)):=opI λi j _ _ _ _ _ hc q=>by
 have h1:=hc.1;exact floordiv_int ⋯ (by rw[Int.fdiv_eq_ediv_of_nonneg i ⋯];exact q) (.inl (PyProof.noPylong_of_log2 hc.2))
def kinds:List String:=["NoneType","bool","int","str","list","tuple","dict"]
def _da(T U:String):Bool:=T==U||(T == "bool" && U == "int")
def _db{K T U}(hT:T∈kinds)(hU:U∈kinds.tail):kitOne K (.type T) (.type U)=⇑(_da T U):=by
 simp only[kinds,List.tail_cons,Yq,Y6,or_false]at hT hU;rcases hT with rfl|rfl|rfl|rfl|rfl|rfl|rfl<;>rcases hU with rfl|rfl|rfl|rfl|rfl|rfl<;>ac_rfl
def _dc(K:Frag):List V->Hp->VK->Prop:=λxs H Q=>∃x T U,xs=[x,.ty U]/\TyOf K H x (.type T)/\T∈kinds/\U∈kinds.tail/\Q (.bl (_da T U)) H
def _dd:CallR X (.builtin "isinstance") (_dc X.K):=by
 rintro a8 s σ H xs us Q I r ⟨x,T,U,rfl,ty,hT,hU,q⟩;obtain⟨u,w',rfl,r1,r2⟩:=_bu r;cases(r2);exact _by I r1 ty (_db hT hU) λtk=>#[.bl _,H,I.tok _,rfl,q]
def _de:∀{bs:List Bool} {ab} {i:Nat} {v},Vals (bs.map V.bl) ab->ab[i]?=⇑v->∃b,bs[i]?=⇑b/\v=.bool b
 |[],_,_,_,.nil,e=>by simp_all
 |b::bs,_,0,v,.cons r _,e=>by
  simp at e;subst e;exact#[b,rfl,r]
 |b::bs,_,i+1,v,.cons _ t,e=>by
  obtain⟨b',e1,e2⟩:=_de t (~~~e);exact#[b',~~~e1,e2]
def _df(bs:List Bool):((List.range bs.length).all λi=>(bs[i]?).getD true)=bs.all id:=by
 rw[Bool.eq_iff_iff,Za,Za];constructor
 ·intro h b hb;obtain⟨i,hi,e⟩:=Yj hb;have:=h i (List.mem_range.mpr hi);rw[X1 hi,e]at this;exact this
 ·intro h i hi;have jt:=List.mem_range.mp hi;rw[X1 jt];exact h _ (Xn jt)
def _dg(K:Frag):List V->Hp->VK->Prop:=λxs H Q=>∃(p:Addr) (bs:List Bool),xs=[.ref p]/\SqL K H p (bs.map V.bl)/\Q (.bl (bs.all id)) H
def _dh(hc:X.calm=true):CallR X (.builtin "all") (_dg X.K):=by
 rintro a8 s σ H xs us Q I r ⟨p,bs,rfl,hq,q⟩;obtain⟨u,rfl,ru⟩:=xk r;cases ru;obtain⟨ab,rv,pl,hz⟩:=I.list hq;have hl:=pl.isList;have cj:p<↥s:=by obtain⟨_,e,_⟩:=hl;exact Xf e
 have ae:bs.length=ab.length:=by rw[<-rv.length,X4]
 refine call_all_walk (Zg hl ?_);refine#[↥s,[↥s,p],[↥s],ab.toArray.size,_,_,λi=>(bs[i]?).getD true,rfl,Walks.list (A:=X.A.in1) (I.ok.hd hc) _ p (Xk cj) ab.toArray,
  #[#[_,X9 _ rfl,rfl,rfl],hl.push _],λi v s' Q' E' hP hQ=>?_,λh' tk hk=>?_]
 ·obtain⟨b,e,rfl⟩:=_de rv (~~~hP);simp only[e]at hQ;exact Z5 hQ
 ·have e:((List.range ab.toArray.size).all λi=>(bs[i]?).getD true)=bs.all id:=by
   rw[X8,<-ae];exact _df bs
  rw[e];refine#[.bl _,H,I.kept (t':=tk) (h':=h') λb o e=>hk b o (λz=>?_) (X3 _ e),rfl,q];exact absurd (Xf e) (aC z▸Ym _)
noncomputable def Its(x:Str):It:=#[λi _=>i<x.cps.size,λi H v H'=>H'=H/\∃c,x.cps[i]?=⇑c/\v=.str #[%[c|0]],λi _=>i=x.cps.size]
def _di{P w K tg x t it}{ty}
  (W:∀A',A'.handled=none->Walks P w A' it [it] [it] x.cps.size (SignAt x) (λi h=>h.IsStrIter it ty x t i))
  (ui:∀A (i) (s) (Q) (E),s.heap.IsStrIter it ty x t i->Q (.ref it) s->wpAny (model P w) A (pyIter (.ref it)) Q E s)
  (uw:["enumerate","zip","dict_itemiterator","dict_reverseitemiterator","odict_iterator","itertools.zip_longest","itertools.pairwise"].contains ty=false):
  Turn P w K tg (Its x) [it] it (λi h=>h.IsStrIter it ty x t i) where
 mem:=by simp
 obj:=λi h st b hb=>by
  have e:b=it:= ~~~hb
  obtain⟨o,e,c,d⟩:=st
  simp_all
 keep:=λi h h' st k=>by
  obtain⟨o,e,r⟩:=st;exact#[o,k it (by simp) o e,r]
 item:=by
  intro X hP hw hK hc i a8 s σ H E I hf st hg;subst hP hw hK;obtain⟨f0,f1,f2,f3,f4,f5⟩:=hf it (by simp);refine(W X.A (I.ok.hd hc)).item i s _ _ hg st λv h' tk hv dv kk=>?_
  obtain⟨c,u,ia,rfl⟩:=hv;have I1:Inv X a8 σ H {s with heap:=h',toks:=tk}:=I.turned (λb o hb e=>kk b o (~~~hb) e) f0 f1 f3 f4 f5;obtain⟨o,e,c1,d⟩:=id dv;exact#[_,rfl,_aZ e c1 d uw #[.str #[%[c|0]],H,I1,#[u,rfl],#[rfl,c,ia,rfl],dv,λb hb=>(hf b hb).1]]
 done:=by
  intro X hP hw hK hc i a8 s σ H E I hf st hg;subst hP hw hK;obtain⟨f0,f1,f2,f3,f4,f5⟩:=hf it (by simp);subst hg;exact(W X.A (I.ok.hd hc)).done s _ _ st λh' tk kk=>#[rfl,I.turned (λb o hb e=>kk b o (~~~hb) e) f0 f1 f3 f4 f5]
 self:=λA i s Q E st hQ=>ui A i s Q E st hQ
def _dj:V->Option Int->Option Int->Hp->VK->Prop:=λx lo hi H Q=>∃z,x=.str z/\z.length<=sizeLine/\Q (.str (Txt.slice z lo hi)) H
def _dk:SlR X _dj:=by
 rintro a8 s σ H x v vl vu lo hi sl Q I rx hs pl pu ⟨z,rfl,hz,q⟩;obtain⟨t,rfl⟩:=rx;refine#["str",_,F.slot_str_getitem.lookup,typeIs_str _ _ _,?_];have fin:∀t' k,EP X a8 σ Q _ {s with toks:=k}:=λt' k=>#[.str _,H,I.tok k,#[t',rfl],q]
 have gl:(Txt.slice z lo hi).length<=sizeLine:=Yd (Txt.slice_le z _ _) hz;cases pl with
 |none=>cases pu with|none=>exact wpAny_getItem_str_slice (l:=none) (u:=none) (st:=none) hs rfl (post_val_or_str #[gl,fin])|int j tj=>exact wpAny_getItem_str_slice (l:=none) (u:=⇑(j,tj)) (st:=none) hs rfl (post_val_or_str #[gl,fin])
 |int i ti=>cases pu with|none=>exact wpAny_getItem_str_slice (l:=⇑(i,ti)) (u:=none) (st:=none) hs rfl (post_val_or_str #[gl,fin])|int j tj=>exact wpAny_getItem_str_slice (l:=⇑(i,ti)) (u:=⇑(j,tj)) (st:=none) hs rfl (post_val_or_str #[gl,fin])
def _dl:R2:=λx y H Q=>∃z n,x=.str z/\y=.int n/\(z.length<=1024/\n<=1024/\-1024<=n)/\Q (.str (Txt.mul z n)) H
def _dm:OpR X (binaryOp .Mult) _dl:=by
 rintro a8 s σ H x y v u Q I rx ry ⟨z,n,rfl,rfl,⟨h1,h2,h3⟩,q⟩;obtain⟨t,rfl⟩:=rx;obtain⟨t',rfl⟩:=ry;exact SB.mul (mulOk_of 1024 1024 h1 h2 ⋯ (by simp) (by simp)) λt' k=>#[.str _,H,I.tok k,#[t',rfl],q]
def _dn:∀{ys ab},Vals (ys.map V.str) ab->StrsAre ab ys
 |[],_,.nil=>.nil|_::_,_,.cons #[t,e] r=>by subst e;exact .cons _ t (_dn r)
def _do(K:Frag):V->List V->Hp->VK->Prop:=λx vs H Q=>∃z p ys,x=.str z/\vs=[.ref p]/\SqL K H p (ys.map V.str)/\(ys.map (·.length)).sum+ys.length*z.length<=16777216/\Q (.str (Txt.join z ys)) H
def _dp:MtR X "str.join" (_do X.K):=by
 rintro a8 s σ H x xs v us Q I rx rv ⟨z,p,ys,rfl,rfl,hq,hok,q⟩;obtain⟨t,rfl⟩:=rx;obtain⟨u,rfl,ru⟩:=rv.one;cases ru;obtain⟨ab,rs,pl,hz⟩:=I.list hq;exact join_list pl.isList (_dn rs) hok λt' k=>#[.str _,H,I.tok k,#[t',rfl],q]
def _dq(K:Frag):V->Option Int->Option Int->Hp->VK->Prop:=λx lo hi H Q=>_ce K x lo hi H Q\/_bX K x lo hi H Q\/_dj x lo hi H Q
def _dr K (hK:X.K=K<|>Ŕ):SlR X (_dq K):=by subst hK;exact sl_list.or (sl_tup.or _dk)
def _ds(K:Frag):List V->Hp->VK->Prop:=λxs H Q=>(∃p ys,xs=[.ref p]/\(SqL K H p ys\/SqT K H p ys)/\Q (.int ys.length) H)\/(∃z,xs=[.str z]/\z.length<=sizeLine/\Q (.int z.length) H)\/(∃a kvs,xs=[V.ref a]/\H a=⇑(.dK kvs)/\Q (.int kvs.length) H)
def _dt K (hK:X.K=K<|>Ŕ):CallR X (.builtin "len") (_ds K):=by subst hK;exact _Cq.or (_Cs.or _cW)
def _du:CallR X (.type "int") (λxs H Q=>(∃i,xs=[.int i]/\Q (.int i) H)\/∃k,xs=[.bl k]/\Q (.int (if k then 1 else 0)) H):=_bv
def _dv K (hK:X.K=K<|>Ŕ)(hc:X.calm=true<|>Ŕ):CallR X (.builtin "all") (_dg K):=by subst hK;exact _dh hc
def _dw(K){o e es T name id r to t}{apos af}
  (pa:PlainAttrs T) (slot:Slot T name id) (uw:typeOf (.builtin id)=pure (.type "method_descriptor")) (hm:MtR X id r) (ho:PE X o to) (ha:PA X (e::es) t)
  (df:attributeBase o name X.env (eval o X.env)=eval o X.env<|>Ŕ)
  (fw:autoParam (((backTo af (starEach (e::es) X.env)).all (λx=>!x.1)&&(backToKw af (keywordEach [] X.env)).all (λx=>x.1.isSome)
   && decide ((e::es).length+([]:List Keyword).length+(if([]:List Keyword).isEmpty then 0 else 1)<30))=true) Ŕ)
  (db:Abe apos af<|>Ŕ) (hs:Abs e es X<|>Ŕ) (bm:Abb af es X<|>Ŕ) (hK:X.K=K<|>Ŕ):
  PE X (.Call (.Attribute o name apos) (e::es) [] af) (tBM K T r to t):=by subst hK;exact _cj pa slot uw hm ho ha df fw db hs bm
def _dx:bootBuiltins "len"=⇑(.builtin "len"):=by decide +kernel
def _dy:bootBuiltins "isinstance"=⇑(.builtin "isinstance"):=by decide +kernel
def _dz:bootBuiltins "all"=⇑(.builtin "all"):=by decide +kernel
def _dA:bootBuiltins "max"=⇑(.builtin "max"):=by decide +kernel
def _dB:bootBuiltins "int"=⇑(.type "int"):=by decide +kernel
def _dC:bootBuiltins "str"=⇑(.type "str"):=by decide +kernel
def _dD:bootBuiltins "bool"=⇑(.type "bool"):=by decide +kernel
def QK:bootBuiltins "list"=⇑(.type "list"):=by decide +kernel
def _dE:bootBuiltins "tuple"=⇑(.type "tuple"):=by decide +kernel
def _dF:bootBuiltins "dict"=⇑(.type "dict"):=by decide +kernel
end
def Cst(mg:Str->Option Value)(x:Str)(v:V):Prop:=∃u,mg x=⇑u/\RelV v u
section
variable {X:Cx}{x:Str}{p pos:Pos}{e:Expr}{es:List Expr}{t:TA}{ps:List Str}{sp:Sp}{k:Nat}{v:V}
def WZ(c:Cst X.mg x v)(hg:Gl X x<|>Ŕ)(hd:Abd x<|>ŕ):PE X (.Name x pos) (tC v):=by
 obtain⟨u,m,r⟩:=c;exact _az hg m r hd
end
def _dG:∀{ns:List Int} {m},PySem.W.WData.weightAll (ns.map PySem.W.WData.int)<=m->∀n∈ns,Builtin.Int.intBits n<=m
 | [],_,_,_,h=>nomatch h
 | a::r,m,h,n,hn=>by
  have h':(if a==0 then 0 else a.natAbs.log2+1)+1+PySem.W.WData.weightAll _<=m:=h;rcases aD hn with z|z
  ·subst z;have e:Builtin.Int.intBits n=(if n==0 then 0 else n.natAbs.log2+1):=rfl
   grind
  ·exact _dG ⋯ n z
def _dH{ns:List Int}(h:PySem.W.WData.layableAll [PySem.W.WData.list (ns.map PySem.W.WData.int)]=true):∀n∈ns,Builtin.Int.intBits n<=1048576:=by
 have h1:=(PySem.W.layW_cons h).1;unfold PySem.W.WData.layable at h1;simp at h1;have h2:PySem.W.WData.weightAll _<=2 ^ 20:=h1.2;exact _dG (~~~h2)
section
variable {X:Cx}
def _dI(K:Frag):List V->Hp->VK->Prop:=λxs H Q=>∃p ys,xs=[.ref p]/\(SqL K H p ys\/SqT K H p ys)/\∀l,H l=none->Q (.ref l) (upd H l (.lst ys))
def _dJ K (hK:X.K=K<|>Ŕ):CallR X (.type "list") (_dI K):=by subst hK;exact _cg
end
section
variable {X:Cx}{a8:LA9}{σ:L2.St}{H:Hp}{s:Shared}
def _dK{t' h'}(fp:List Addr)(I:Inv X a8 σ H s)(k:∀b o,b∉fp->s.heap.get? b=⇑o->h'.get? b=⇑o)(hf:∀b∈fp,wW X a8 H b):Inv X a8 σ H {s with heap:=h',toks:=t' }:=by
 have xf:∀b u,H b=⇑u->b∉fp:=λb u e z=>by rw[(hf b z).1]at e;cases e
 refine I.step (g':=s.gens) (d':=s.drawn) (λb hb=>?_) (λb o _ _ hc e _=>k b o hc e) (λb o _ _ hc e _=>#[o.slots,k b o hc e]) (λ_ _ _ _ n=>n)
  (λb o hc e=>#[o,k b o hc e]) (λ_ _ e=>e) (λ_ _ _ e=>e) (λb ps e=>#[(List.toArray []),by rw[e];simp]) (λm hm=>?_) (λb u e=>?_) I.bare
 ·obtain⟨_,f1,_,f3,f4,f5⟩:=hf b hb;exact#[f3.imp id λz=>Yh z,f1,f4,f5]
 ·obtain⟨o,es,ep,ho,r⟩:=hm;exact#[o,es,ep,k _ o (λz=>(hf _ z).2.1 rfl) ho,r]
 ·refine(I.hok b u e).stay (λc v hc q=>k c v ?_ q) (λ_ q=>q) λ_ _ q=>q
  rcases hc with z|z
  ·rw[z];exact xf b u e
  ·exact xf c _ z
end
section
variable {X:Cx}
def _dL:List V->Hp->VK->Prop:=λxs H Q=>(∃i,xs=[.int i]/\Q (.int i) H)\/(∃k,xs=[.bl k]/\Q (.int (if k then 1 else 0)) H)\/∃(x:Str) (n:Int),xs=[.str x]/\PySem.intText? x=⇑n/\x.length<=640/\Q (.int n) H
def _dM:CallR X (.type "int") _dL:=by
 intro a8 s σ H xs us Q I r h;rcases h with h|h|⟨x,n,rfl,hx,hl,q⟩
 ·exact _du a8 s σ H xs us Q I r (.inl h)
 ·exact _du a8 s σ H xs us Q I r (.inr h)
 ·obtain⟨u,rfl,t,rfl⟩:=xk r;exact PySem.W.KIN.call_text hx hl #[.int n,H,I.tok _,#[_,rfl],q]
end
def _dN{e env env0}(h:env.frame=env0.frame):noteFrame e env=noteFrame e env0:=by
 unfold noteFrame PySem.frameOf;rw[h]
structure Fl0 (h:Heap)(x:Addr)(C:Value)(vs:Array Value):Prop where
 ob:h.get? x=some {cls:=C,data:=.fields vs}
 sz:1<vs.size
structure FlT (h:Heap)(x T:Addr)(C:Value)(fl:Value):Prop where
 ex:∃vs,h.get? x=some {cls:=C,data:=.fields vs}/\vs[1]?=⇑(.ref T)
 tb:∃oT ts,h.get? T=⇑oT/\oT.data=.fields ts/\ts[3]?=⇑fl
 ne:T≠x
structure Chg (fs ch:List Addr)(h h':Heap):Prop where
 keep:∀b o,h.get? b=⇑o->b∉fs->b∉ch->h'.get? b=⇑o
 slot:∀b o,h.get? b=⇑o->b∉ch->∃sl,h'.get? b=some {cls:=o.cls,dict:=o.dict,data:=o.data,slots:=sl}
 size:h.objs.size<=h'.objs.size
def Chg.trans{fs ch ch' h h1 h2}(a:Chg fs ch h h1)(b:Chg fs ch' h1 h2)(hc:∀x∈ch',x∈ch\/h.get? x=none):Chg fs ch h h2 where
 keep:=λx o e h1 h2=>b.keep x o (a.keep x o e h1 h2) h1 λz=>(hc x z).elim h2 λq=>by rw[q]at e;cases e
 slot:=λx o e hn=>by
  obtain⟨sl,e1⟩:=a.slot x o e hn;obtain⟨om,e2⟩:=b.slot x _ e1 λz=>(hc x z).elim hn λq=>by rw[q]at e;cases e
  exact#[om,e2]
 size:=Yd a.size b.size
def Chg.mono{fs ch ch' h h1}(a:Chg fs ch h h1)(hc:∀x∈ch,x∈ch'):Chg fs ch' h h1:=#[λb o e h1 h2=>a.keep b o e h1 λz=>h2 (hc b z),λb o e h2=>a.slot b o e λz=>h2 (hc b z),a.size]
def Chg.of_upd{fs h a f}: Chg fs [a] h (h.update a f):=
  #[λb o e _ hn=>by rw[Z8 _ _ _ _ (λz=>hn (aB z))]; exact e,
   λb o e hn=>#[o.slots,by rw[Z8 _ _ _ _ (λz=>hn (aB z))]; exact e],by rw[Heap.size_update]; exact Xd _]
def Chg.of_push{fs h o}:Chg fs [] h (h.push o):=
 #[λb o e _ _=>X3 _ e,λb o e _=>#[o.slots,X3 _ e],by rw[Zb];lia]
def Chg.of_slots{fs h h'}(s:Heap.SlotsOnly fs h h'):Chg fs [] h h':=
 #[λb o e hn _=>(s.2.1 b hn).trans e,λb o e _=>s.2.2 b o e,by rw[s.1];exact Xd _]
def Chg.refl{fs ch h}:Chg fs ch h h:=#[λ_ _ e _ _=>e,λb o e _=>#[o.slots,e],Xd _]
section
variable {M:Model}{A:Around}{E:VP9}{s:Shared}{base:Heap}{env:Env}{outer:List Env}{L x T:Addr}{C fl:Value}
def _dO{head hadNext vs Q}(hA:A.frames=⇑(env::outer))(hF:s.heap.FunFrames base (env::outer))(hL:env.frame=⇑L)(ho:Fl0 s.heap x C vs)
  (h:∀h' T',Chg (frs (env::outer)) [x] s.heap h'->↥s<=T'->FlT h' x T' C (rawInt ↑L)->Q () {s with heap:=h' }):
  wpAny M A (do
   let a <-PySem.frameOf env
   let pl <-entryPlaceOf L hadNext
   let b <-EntryCells.newEntry head a Value.none (rawInt ↑L) Value.none pl
   setField (Value.ref x) 1 b) Q E s:=by
 refine X0 (wpAny_frameOf_fun hA hF hL λh1 s1=>?_);have hx:x∉frs _:=λz=>by
  obtain⟨_,o,e,hn⟩:=hF.mem z;rw[ho.ob]at e;cases e;exact hn _ rfl
 have o1:h1.get? x=some {cls:=C,data:=.fields vs}:=(s1.2.1 x hx).trans ho.ob;have fin:∀pl,IsPlace pl->wpAny M A (do
   let b <-EntryCells.newEntry head _ Value.none _ Value.none pl
   setField _ 1 b) Q E {s with heap:=h1}:=λpl bu=>by
  refine X0 ?_;unfold EntryCells.newEntry newFields;have har:([head,Value.ref L,Value.none,rawInt ↑L,Value.none]++if pl.isEmpty=true then List.replicate 6 Value.none else pl).toArray[3]?=⇑(rawInt ↑L):=by simp
  have hsz:([head,Value.ref L,Value.none,rawInt ↑L,Value.none]++if pl.isEmpty=true then List.replicate 6 Value.none else pl).toArray.size<=sizeLine+2:=by
   rcases bu with rfl|⟨_,_,_,_,_,_,_,rfl⟩<;>simp<;>decide
  generalize ([head,Value.ref L,Value.none,rawInt ↑L,Value.none]++if pl.isEmpty=true then List.replicate 6 Value.none else pl).toArray=ar at har hsz;refine Yc ?_ hsz;have o2:(h1.push {cls:=.type "traceback",data:=.fields ar}).get? x=some {cls:=C,data:=.fields vs}:=X3 _ o1;refine Yr o2 rfl ho.sz ?_;have bh:h1.objs.size≠x:=λe=>absurd (Xf o1) (e▸Ym _)
  have o3:((h1.push {cls:=.type "traceback",data:=.fields ar}).update x (Obj.mapFields λy=>y.setIfInBounds 1 (.ref h1.objs.size))).get? h1.objs.size=some {cls:=.type "traceback",data:=.fields ar}:=by
   rw[Z8 _ _ _ _ bh];exact X9 _ rfl
  refine h _ h1.objs.size (((Chg.of_slots s1).mono (nofun)).trans ((Chg.of_push.mono nofun).trans Chg.of_upd λy hy=>.inl hy) λy hy=>.inl hy) (s1.1▸Xd _) #[#[vs.setIfInBounds 1 _,?_,Array.getElem?_setIfInBounds_self_of_lt ho.sz],#[_,_,o3,rfl,har],bh];exact Xy _ o2 rfl
 exact X0 (wpAny_entryPlaceOf λpl bu=>fin pl bu)
def _dP{vs Q}(hA:A.frames=⇑(env::outer))(hF:s.heap.FunFrames base (env::outer))(hL:env.frame=⇑L)(ho:Fl0 s.heap x C vs)(hv:vs[1]?=⇑.none)
  (h:∀h' T',Chg (frs (env::outer)) [x] s.heap h'->↥s<=T'->FlT h' x T' C (rawInt ↑L)->Q () {s with heap:=h' }):wpAny M A (noteFrame (.ref x) env) Q E s:=by
 unfold noteFrame;rw[hL];exact X0 (Yy ho.ob rfl hv (_dO hA hF hL ho h))
def upd3{T oT ts v}{h:Heap}(e:h.get? T=⇑oT)(ed:oT.data=.fields ts)(h3:3<ts.size):
  ∃o' ts',(h.update T (Obj.mapFields λy=>y.setIfInBounds 3 v)).get? T=⇑o'/\o'.data=.fields ts'/\ts'[3]?=⇑v:=by
 obtain⟨c,d,dt,sl⟩:=oT;cases(ed);exact#[_,ts.setIfInBounds 3 v,Xy _ e rfl,rfl,Array.getElem?_setIfInBounds_self_of_lt h3]
def _dQ{Q}(hA:A.frames=⇑(env::outer))(hF:s.heap.FunFrames base (env::outer))(hL:env.frame=⇑L)(f:FlT s.heap x T C fl)
  (h:∀h' T',Chg (frs (env::outer)) [x,T] s.heap h'->(↥s<=T'\/T'=T)->FlT h' x T' C (rawInt ↑L)->Q () {s with heap:=h' }):wpAny M A (noteFrame (.ref x) env) Q E s:=by
 obtain⟨⟨vs,e1,v1⟩,⟨oT,ts,e2,d2,v2⟩,bh⟩:=f;have h3:3<ts.size:=by
  rw[Array.getElem?_eq_some_iff]at v2;exact v2.1
 have h1:1<vs.size:=by
  rw[Array.getElem?_eq_some_iff]at v1;exact v1.1
 unfold noteFrame;rw[hL];refine X0 (Yy e1 rfl v1 (X0 (Yy e2 d2 v2 ?_)))
 by_cases hf:(fl==rawInt ↑L)=true
 ·rw[Xb hf];have e:=eq_of_beq hf;subst e;exact X6 (h s.heap T Chg.refl (.inr rfl) #[#[vs,e1,v1],#[oT,ts,e2,d2,v2],bh])
 ·rw[Xj hf];refine X0 (Yr e2 d2 h3 ?_);have c1:Chg (frs (env::outer)) [x,T] s.heap (s.heap.update T (Obj.mapFields λy=>y.setIfInBounds 3 Value.none)):=Chg.of_upd.mono λy hy=>by
   grind
  have e1':(s.heap.update T (Obj.mapFields λy=>y.setIfInBounds 3 Value.none)).get? x=some {cls:=C,data:=.fields vs}:=by
   rw[Z8 _ _ _ _ bh.symm];exact e1
  have hF':(s.heap.update T (Obj.mapFields λy=>y.setIfInBounds 3 Value.none)).FunFrames base (env::outer):=by
   refine hF.of_keeps λb o e hn=>#[o,?_,rfl]
   rw[Z8 _ _ _ _ λz=>?_]
   ·exact e
   ·grind
  refine _dO hA hF' hL #[e1',h1] λh' T' c2 hs f'=>(h h' T' (c1.trans (c2.mono (ch':=[x,T]) λy hy=>by rw[aC hy];simp) λy hy=>.inl hy) (.inl ?_) f')
  rw[Heap.size_update]at hs;exact hs
def _dR{Q fr}(f:FlT s.heap x T C fl)(h:∀h',Chg (frs outer) [x,T] s.heap h'->FlT h' x T C (fr.elim Value.none λf=>rawInt ↑f)->Q () {s with heap:=h' }):wpAny M A (setFlight (.ref x) fr) Q E s:=by
 obtain⟨⟨vs,e1,v1⟩,⟨oT,ts,e2,d2,v2⟩,bh⟩:=f;have h3:3<ts.size:=by
  rw[Array.getElem?_eq_some_iff]at v2;exact v2.1
 refine X0 (Yy e1 rfl v1 (Yr e2 d2 h3 (h _ (Chg.of_upd.mono λy hy=>by rw[aC hy];simp) #[#[vs,?_,v1],upd3 e2 d2 h3,bh])))
 rwa [Z8 _ _ _ _ bh.symm]
end
structure XCls (K:Frag)(C:Addr):Prop where
 ga:findIn K (.ref C) "__getattribute__"=some ⇑(.builtin "BaseException.__getattribute__")
 gt:findIn K (.ref C) "__getattr__"=⇑none
 fo:PySem.W.findObj K C none "__class__"=⇑(.bind (.builtin "getset_descriptor.__get__") (.builtin "object.__class__"))
 ob:PySem.W.mroIn K C (.type "object")=⇑true
 bx:PySem.W.mroIn K C (.type "BaseException")=⇑true
 cl:(PySem.W.clsIn K C).isSome=true
def FpX(X:Cx)(a8:LA9)(H:Hp)(b:Addr):Prop:=
 H b=none/\b≠X.env.locals/\b∉X.fs/\(b∈X.ex\/X.s₀.heap.get? b=none)/\(∀x c,X.env.cells.lookup x=⇑c->c≠b)/\∀p∈X.pn++a8,p.1≠b
section
variable {X:Cx}{a8:LA9}{σ:L2.St}{H:Hp}{s:Shared}
def fpX{H' b}(I:Inv X a8 σ H s)(hb:s.heap.get? b=none)(hn:H' b=none):FpX X a8 H' b:=by
 refine#[hn,λz=>?_,λz=>?_,?_,λx c e z=>?_,λp hp z=>?_]
 ·obtain⟨m,⟨o,_,_,ho,_⟩,_⟩:=I.loc
  grind
 ·obtain⟨_,o,e,_⟩:=I.ok.funs.mem z
  by_cases hx:b∈X.ex
  ·exact I.ok.exfs b hx z
  ·obtain _:=I.base.there b o e hx
   grind
 ·by_cases hx:b∈X.ex
  ·exact .inl hx
  ·cases e:X.s₀.heap.get? b with
   |none=>exact .inr rfl
   |some o=>
    obtain⟨o',e'⟩:=I.base.there b o e hx
    grind
 ·obtain⟨v,o,ho,_⟩:=I.cell x c e
  grind
 ·have:=(I.pin p hp).1
  grind
def FpX.of{b}(h:wW X a8 H b):FpX X a8 H b:=#[h.1,h.2.1,h.2.2.1,h.2.2.2.1.imp id λz=>Yh z,h.2.2.2.2]
def _dS{h' ch}(I:Inv X a8 σ H s)(c:Chg (frs X.stack) ch s.heap h')(hf:∀b∈ch,FpX X a8 H b):Inv X a8 σ H {s with heap:=h' }:=by
 refine I.call (g':=s.gens) (t':=s.toks) (d':=s.drawn) #[λb o e _ h1 h2=>c.keep b o e h1 h2,λb o e _ _ h2=>c.slot b o e h2,λ_ _ _ n _=>n,λb o e h2=>?_,λ_ _ e=>e,λ_ _ _ e=>e,λ_ _ e=>#[(List.toArray []),by rw[e];simp]] (λb u e=>?_) I.bare λb hb=>?_
 ·obtain⟨sl,q⟩:=c.slot b o e h2;exact#[_,q]
 ·have no:∀d v,H d=⇑v->d∉frs X.stack/\d∉ch:=λd v e=>#[λz=>(by rw[I.stkFree d z]at e;cases e),λz=>(by rw[(hf d z).1]at e;cases e)]
  refine(I.hok b u e).stay (λd v hc q=>?_) (λ_ q=>q) λ_ _ q=>q
  rcases hc with z|z
  ·rw[z]at q ⊢;exact c.keep b v q (no b u e).1 (no b u e).2
  ·exact c.keep d v q (no d _ z).1 (no d _ z).2
 ·obtain⟨_,f1,_,f3,f4,f5⟩:=hf b hb;exact#[f3,f1,f4,f5]
end
structure Fx (X:Cx)(a8:LA9)(H:Hp)(h:Heap)(x:Addr)(C:Value):Prop where
 fp:FpX X a8 H x
 st:(∃vs,Fl0 h x C vs/\vs[1]?=⇑.none)\/∃T fl,FlT h x T C fl/\FpX X a8 H T
structure Xt (X:Cx)(a8:LA9)(σ:L2.St)(H:Hp)(x T:Addr)(C fl:Value)(s:Shared):Prop where
 inv:Inv X a8 σ H s
 fx:FpX X a8 H x
 fT:FpX X a8 H T
 f:FlT s.heap x T C fl
def Xt.to{X a8 σ H x T C fl s}(h:Xt X a8 σ H x T C fl s):Fx X a8 H s.heap x C:=#[h.fx,.inr #[T,fl,h.f,h.fT]]
def Xo(X:Cx)(E:XK)(e:Value)(s:Shared):Prop:=∃a8 σ H x C,e=.ref x/\Inv X a8 σ H s/\Fx X a8 H s.heap x C/\E C none H
def xW(X:Cx)(E:XK):Prop:=∀a8 σ H s x C,Inv X a8 σ H s->Fx X a8 H s.heap x C->E C none H->X.xe (.ref x) s
abbrev Cx.ex'(X:Cx)(E:XK):Cx:=X.wish (Xo X E)
def J4{X E}:xW (Cx.ex' X E) E:=λa8 σ H s x C I f q=>#[a8,σ,H,x,C,rfl,I.unwish,#[f.fp,f.st],q]
def JZ(X:Cx):Prop:=∃env0 out,X.stack=env0::out/\X.env.frame=env0.frame
section
variable {X:Cx}{a8:LA9}{σ:L2.St}{H:Hp}{s:Shared}{M:Model}{E':VP9}{x T:Addr}{C fl:Value}
def _dT{A Q}(top:JZ X)(hA:A.frames=X.A.frames)(I:Inv X a8 σ H s)(f:Fx X a8 H s.heap x C)(h:∀L T s',X.env.frame=⇑L->Xt X a8 σ H x T C (rawInt ↑L) s'->Q () s'):
  wpAny M A (noteFrame (.ref x) X.env) Q E' s:=by
 obtain⟨env0,out,e1,e2⟩:=top;have hF:=I.stack;have tu:A.frames=⇑(env0::out):=by rw[hA,I.ok.frames,e1]
 rw[e1]at hF;obtain⟨_,⟨L,o,hL,_⟩,_⟩:=id hF;rw[_dN e2];have uo:=e2.trans hL;rcases f.st with⟨vs,f0,hv⟩|⟨T,fl,fT,pT⟩
 ·refine _dP tu hF hL f0 hv λh' T' c hs p8=>h L T' _ uo #[?_,f.fp,fpX I (Yh hs) (I.hok.fresh hs),p8]
  rw[<-e1]at c;exact _dS I c λb hb=>by rw[aC hb];exact f.fp
 ·refine _dQ tu hF hL fT λh' T' c hs p8=>?_
  rw[<-e1]at c;refine h L T' _ uo #[_dS I c λb hb=>?_,f.fp,?_,p8]
  ·simp only[Yq,Y6,or_false]at hb;rcases hb with rfl|rfl
   ·exact f.fp
   ·exact pT
  ·rcases hs with hs|hs
   ·exact fpX I (Yh hs) (I.hok.fresh hs)
   ·rw[hs];exact pT
def _dU{A Q fr}(t:Xt X a8 σ H x T C fl s)(h:∀s',Xt X a8 σ H x T C (fr.elim Value.none λf=>rawInt ↑f) s'->Q () s'):wpAny M A (setFlight (.ref x) fr) Q E' s:=by
 refine _dR t.f λh' c p8=>h _ #[_dS t.inv c λb hb=>?_,t.fx,t.fT,p8]
 simp at hb;rcases hb with rfl|rfl
 ·exact t.fx
 ·exact t.fT
def _dV{α A what mn Q}(t:Xt X a8 σ H x T C fl s)(h:∀s' p8,Xt X a8 σ H x T C p8 s'->E' (.ref x) s'):wpAny M A (PySem.passOn what (.ref x) mn:Sem α) Q E' s:=by
 obtain⟨vs,e1,v1⟩:=t.f.ex;exact X0 (Yy e1 rfl v1 (X0 (_dU t λs' t'=>(wpAny_throw (h s' _ t')))))
def _dW{E}(top:JZ X):PassesOwn M X.A X.env (Xo X E):=by
 rintro e s' ⟨a8,σ,H,x,C,rfl,I,f,q⟩;refine _dT top rfl I f λL T s1 _ t=>?_
 obtain⟨vs,e1,v1⟩:=t.f.ex;exact X0 (Yy e1 rfl v1 (_dU t λs2 t2=>#[a8,σ,H,x,C,rfl,t2.inv,t2.to,q]))
end
def CXE(P:Program)(w:World):CXT:=λouter H s E e s'=>∃x T C fl H',e=.ref x/\s'.os=s.os/\AllBare s'.gens/\Un (frs outer) [] H H' s.heap s'.heap/\HOk P w H' s'.heap /\
 s.heap.get? x=none/\s.heap.get? T=none/\H' x=none/\H' T=none/\FlT s'.heap x T C fl/\E C none H'
def _dX{X E}(g:xW X E):_bB (CXE X.prog X.w) X E:=by
 rintro a8 σ H s e s' I ⟨x,T,C,fl,H',rfl,os,bare,un,hok,hx,hT,nx,nT,f,q⟩;refine g a8 σ H' s' x C (I.call' os un hok bare nofun) #[fpX I hx nx,.inr #[T,fl,f,fpX I hT nT]] q
def _dY{CX P w K mg base N qual scope f cd A outer s H E}:
  JZ (Jk CX P w K mg base N qual scope f cd A outer s H E):=#[_,_,rfl,rfl]
def _dZ{P w K mg base N qual scope f cd A outer s H E e}{s'}
  (h:Xo (Jk (CXE P w) P w K mg base N qual scope f cd A outer s H E) E e s'):(Jk (CXE P w) P w K mg base N qual scope f cd A outer s H E).xe e s':=by
 obtain⟨a8,σ,H',x,C,rfl,I,fx,q⟩:=h;show wpAny _ _ _ _ _ s';refine X0 (_dT _dY rfl I fx λL T s1 _ t=>(_dU t λs2 t2=>?_));have ge:∀b,FpX (Jk (CXE P w) P w K mg base N qual scope f cd A outer s H E) a8 H' b->s.heap.get? b=none:=λb hb=>hb.2.2.2.1.elim (nofun) λz=>z
 exact#[x,T,C,_,H',rfl,t2.inv.os,t2.inv.bare,t2.inv.base,t2.inv.hok,ge x t2.fx,ge T t2.fT,t2.fx.1,t2.fT.1,t2.f,q]
section
variable {P:Program}{w:World}{K:Frag}{mg:Str->Option Value}{base:Heap}
def _d0{x qual st f fd N ps k sp}(F:Fun K x qual st f fd)(S:FnScope N ps (jW st))(len:∀vs H Q E,sp vs H Q E->vs.length=ps.length)
  (ir:∀ce (A) (outer) (s) (H) (vs) (Q) (E),Room k (A.deeper (envOfC qual (jW st) ↥s f ce))->sp vs H Q E ->
   ∃t,PSs (Cx.ex' (Jk (CXE P w) P w K mg base N qual (jW st) f ce A outer s H E) E) (zK st) t/\t {nx:=λ_ H'=>Q .non H',rt:=Q} (L2.start N vs) H):FnOk P w K mg base (CXE P w) (k+1) f fd ps sp:=by
 obtain⟨oc,od,kV,gq,pm,an,ce,ct,mf,rfl,lk,iq⟩:=F.ex;refine _bK lk iq S len λA outer s H vs Q E hr ng=>?_
 obtain⟨t,h,q⟩:=ir ce A outer s H vs Q E hr ng;exact#[t,λa8 s' σ H' D I hw=>wpAny_mono (h a8 s' σ H' D (I.wish _) hw) (λf lc z=>z.unwish) λe lc z=>_dZ z,q]
def k7(P:Program)(w:World)(K:Frag)(mg:Str->Option Value)(base:Heap)(k:Nat)(x:Str)(ps:List Str)(sp:Sp):Prop:=
 ∃(f:Addr) (fd:FuncData),FnOk P w K mg base (CXE P w) k f fd ps sp/\Binds K fd ps []/\PySem.W.keepIn K (.ref f)=true/\mg x=⇑(.ref f)
end
section
variable {X:Cx}{x:Str}{p pos:Pos}{e:Expr}{es:List Expr}{t:TA}{ps:List Str}{sp:Sp}{k:Nat}{v:V}{E:XK}
def _d1(D:k7 X.prog X.w X.K X.mg X.base k x ps sp)(hr:Room k X.A)(g:xW X E)(ha:PA X (e::es) t)(hg:Gl X x<|>Ŕ)(fu:Abd x<|>ŕ)
  (he:Abs e es X<|>Ŕ) (bu:Abb pos es X<|>Ŕ):
  PE X (.Call (.Name x p) (e::es) [] pos) (wjr sp [] E t):=by
 obtain⟨f,fd,F,b,kp,m⟩:=D;exact _bD F hr hg m kp b .nil (_dX g) ha fu he bu
end
abbrev lcE(X:Cx)(scope:Scope)(N:List Str)(cl:List (Str×Addr))(C:Addr)(s0:Shared)(H0:Hp)(fp:List Addr)(EX:XK):Cx:=Cx.ex' (lcX X scope N cl C s0 H0 fp) EX
section
variable {prog:Program}{w:World}{A:Around}{R:Result->Shared->Prop}{s:Shared}
#where in
def _d2{fk gc ao fc scope pos it ac env}(Ex)(I:Nat->Shared->Prop)
  (fy:∀n s,I n s->wpAny (model prog w) A (pyNext it) (λr s1=>match r with
   | none=>R (.ok .next) s1
   | some v=>wpAny (model prog w) A (letOwnedTupleGo gc it v) (λ_ s2=>wpAny (model prog w) A (assign gc env v) (λ_ s3=>
     wpAny (model prog w) A (vji fc env) (λok s4=>
      if ok=true then
       wpAny (model prog w) A (eval fk env) (λx s5=>wpAny (model prog w) A (call (.builtin "list.append") [ac,x]) (λ_ s6=>∃m,m<n/\I m s6) Ex s5) Ex s4
      else ∃m,m<n/\I m s4) Ex s3) Ex s2) Ex s1) Ex s)
  (hx:∀e s,Ex e s->notedBy (model prog w) A env (λe s'=>R (.error e) s') e s) n (h:I n s):codeAny (model prog w) A (.compLoop (.ListComp fk [#[gc,ao,fc,0]] scope pos) 0 it ac env) R s:=by
 refine codeAny_loop rfl I (λn s hI=>(wpAny_noted ?_)) n h;rw[compTurn_list];refine wpAny_mono (X0 (wpAny_standAt (X0 (thn (fy n s hI) λr s1 h1=>?_)))) (λ_ _ q=>q) (λe s q=>?_)
 rotate_left
 ·exact hx e s q
 cases r with
 |none=>exact X6 h1
 |some v=>
  refine X0 (thn h1 λ_ s2 h2=>(X0 (thn h2 λ_ s3 h3=>(X0 (thn h3 λok s4 h4=>?_)))));cases ok with|false=>exact X6 #[rfl,h4]|true=>exact X0 (X0 (thn h4 λx s5 h5=>X0 (thn h5 λ_ s6 h6=>X6 (X6 #[rfl,h6]))))
end
section
variable {X:Cx}{tg ao fk:Expr}{fc:List Expr}{scope:Scope}{N:List Str}{k:Nat}{R:List Nat}{g:TG}{tt:TT}{te:TE}{pos:Pos}
def _d3{EX a8 cy}{σ σ':L2.St}{H2 H' s2 s' fp cl}{C x T:Addr}{Cc fl Q ac use}(gx:xW X EX)
  (I2:Inv X a8 σ H2 s2) (f2:∀b∈fp,wW X a8 H2 b) (hC:↥s2<=C) (t:Xt (lcX X scope N cl C s2 H2 fp) cy σ' H' x T Cc fl s') (q:EX Cc none H'):
  compPost (model X.prog X.w) X.A X.xe use Q ac C (.error (.ref x)) s':=by
 obtain⟨m,hn,_⟩:=t.inv.loc;refine#[m,hn,λh' sb mn _=>?_];have fC:=I2.fpOk hC t.inv.free;have J2:Inv X a8 σ H' {s' with heap:=h',toks:=s'.toks}:=(I2.call' t.inv.os t.inv.base t.inv.hok t.inv.bare λb hb=>#[((f2 b hb).2.2.2.1.imp id λz=>Yh z),(f2 b hb).2.1,(f2 b hb).2.2.2.2.1,(f2 b hb).2.2.2.2.2]).turned (λb o hb e=>(sb.2 b hb).trans e) fC.1 fC.2.1 fC.2.2.2.1 fC.2.2.2.2.1 fC.2.2.2.2.2;have fp':∀b,FpX (lcX X scope N cl C s2 H2 fp) cy H' b->FpX X a8 H' b:=λb hb=>by
  rcases hb.2.2.2.1 with z|z
  ·exact#[hb.1,(FpX.of (f2 b z)).2]
  ·exact fpX I2 z hb.1
 have nx:=t.fx.2.1;have nT:=t.fT.2.1;have f:FlT h' x T Cc fl:=by
  obtain⟨⟨vs,e1,v1⟩,⟨oT,ts,e2,d2,v2⟩,bh⟩:=t.f;exact#[#[vs,(sb.2 x nx).trans e1,v1],#[oT,ts,(sb.2 T nT).trans e2,d2,v2],bh]
 refine _dV #[J2,fp' x t.fx,fp' T t.fT,f] λs3 p8 t3=>gx a8 σ H' s3 x Cc t3.inv t3.to q
#where in
def _d4{EX a8}{σ:L2.St}{H2 s2 it fp tn J Q W cl}{E}
  {RR:Value->Addr->Result->Shared->Prop} (hc:X.calm=true) (top:JZ X) (sc:LcOk X scope N k R)
  (f7:∀x c,cl.lookup x=⇑c->X.env.cells.lookup x=⇑c) (cb:∀y∈scope.names,y.2=.free->∃c,cl.lookup y.1=⇑c)
  (hg:∀C s0 H0 fp,PG (lcE X scope N cl C s0 H0 fp EX) tg g) (ht:∀C s0 H0 fp,PTs (lcE X scope N cl C s0 H0 fp EX) fc tt) (he:∀C s0 H0 fp,PE (lcE X scope N cl C s0 H0 fp EX) fk te)
  (I2:Inv X a8 σ H2 s2) (T:Turn X.prog X.w X.K tg J fp it tn) (bo:tn 0 s2.heap) (f2:∀b∈fp,wW X a8 H2 b) (w0:∃m,W 0 m [] (JV k R σ) H2) (fy:LcW g tt te Q J W)
  (hRR:∀D C oC m ys H' s',Inv X (a8++[(C,oC)]) σ (upd H' D (.lst ys)) s'->s'.heap.get? C=⇑oC->s'.heap.Ns C m->wW X a8 (upd H' D (.lst ys)) C->Q (.ref D) (upd H' D (.lst ys))->RR (.ref D) C (.ok .next) s')
  (hER:∀D C s' cy σ' H' x T Cc fl,↥s2<=C->Xt (lcX X scope N cl C s2 H2 fp) cy σ' H' x T Cc fl s'->EX Cc none H'->RR (.ref D) C (.error (.ref x)) s'):
  ∅ (newList []) (λac s3=>∅ (newFunctionEnv scope X.env.globals cl [] X.env.qual none .none ⇑X.env) (λmn s4=>
   codeAny (model X.prog X.w) X.A (.compStart (.ListComp fk [#[tg,ao,fc,0]] scope pos) 0 (.ref it) ac {mn with scope:=relabel scope X.env}) (RR ac mn.locals) s4) E s3) E s2:=by
 have uv:∀b∈fp,∃o,s2.heap.get? b=⇑o:=λb hb=>let ⟨o,e,_⟩:=T.obj 0 _ bo b hb;#[o,e]
 refine Yc (wpAny_newFunctionEnv sc.nocell (by intro y hy;simp at hy) (λh1 tm sb1=>?_) sc.kind);generalize eH:s2.heap.push {cls:=.type "list",dict:=none,data:=.seq ([]:List Value).toArray}=Hx at tm sb1 ⊢;have eC:Hx.objs.size=↥s2+1:=by rw[<-eH,Zb]
 generalize eD:↥s2=D at eC;generalize eC':Hx.objs.size=C at tm sb1 eC ⊢;have u5:D≠C:=⋯
 have hC:↥s2<=C:=⋯
 have hD:↥s2<=D:=⋯
 have dw:=λb o e=>by
  exact sb1.extBut b o (Xk (Xq (Xf e) hC)) (X3 _ (eH▸X3 _ e))
 have accD:h1.get? D=⇑(XY [] 0):=by
  refine sb1.extBut _ _ u5 (X3 _ ?_);rw [<-eH,<-eD];exact X9 _ rfl
 have below:∀b∈fp,b≠D/\b≠C:=λb hb=>by
  obtain⟨o,e⟩:=uv b hb;exact#[Xk (Xq (Xf e) hD),Xk (Xq (Xf e) hC)]
 have jm:∀{H' oD},(∀b∈fp,H' b=none)->∀b∈fp,wW (lcE X scope N cl C s2 H2 fp EX) [(D,oD)] H' b:=fun {H' oD} hn b hb=>by
  obtain⟨_,f1,f3,f4,f5,f6⟩:=f2 b hb;refine#[hn b hb,(below b hb).2,λz=>?_,.inl hb,λx c h=>f5 x c (f7 x c h),λp hp=>?_]
  ·rcases aD (I2.stkSub b z)with y|y
   ·exact f1 y
   ·exact f3 y
  ·have e:p=(D,oD):=by
    have hp:p∈([]++[(D,oD)]:LA9):=hp
    simpa using hp
   rw [e];exact(below b hb).1.symm
 have loop:∀s3,s3={s2 with heap:=h1,toks:=s2.toks+([]:List (Str×Value)).length} ->
   codeAny (model X.prog X.w) X.A (.compLoop (.ListComp fk [#[tg,ao,fc,0]] scope pos) 0 (.ref it) (.ref D) (compEnvC scope cl C X.env)) (RR (.ref D) C) s3:=by
  rintro s3 rfl;obtain⟨m0,w0⟩:=w0;have hxx:∀e s,Xo (lcX X scope N cl C s2 H2 fp) EX e s->notedBy (model X.prog X.w) X.A (compEnvC scope cl C X.env) (λe s'=>RR (.ref D) C (.error e) s') e s:=by
   rintro e s ⟨cy,σ',H',x,Cc,rfl,I',f',q'⟩;exact _dT (X:=lcX X scope N cl C s2 H2 fp) top rfl I' f' λL T s1 _ t=>hER D C s1 cy σ' H' x T Cc _ hC t q'
  refine _d2 (Xo (lcX X scope N cl C s2 H2 fp) EX) (λn s'=>∃i ys ab nn σ' H',Inv (lcE X scope N cl C s2 H2 fp EX) [(D,XY ab nn)] σ' H' s'/\Vals ys ab/\tn i s'.heap/\(∀b∈fp,H' b=none)/\W i n ys σ' H') ?_ hxx m0
   #[0,[],[],0,_,H2,(_c4 I2 sc f2 uv hC hD u5 f7 cb dw tm accD (λv z=>by cases z)).wish _,.nil,T.keep _ _ _ bo (λb hb o e=>dw b o e),λb hb=>(f2 b hb).1,w0]
  rintro n s3 ⟨i,ys,ab,nn,σ3,H3,I3,rv,dl,ow,w3⟩;rcases fy i n ys σ3 H3 w3 with⟨stop,hz,qn⟩|⟨go,step⟩
  ·refine thn (T.done (lcE X scope N cl C s2 H2 fp EX) rfl rfl rfl hc i _ s3 σ3 H3 _ I3 (jm ow) dl stop) λr s4 hz=>?_
   obtain⟨hr,I4⟩:=hz;subst hr;show RR (.ref D) C (.ok .next) s4;have hD4:=I4.pin (D,XY ab nn) (by show _∈([]++[(D,XY ab nn)]:LA9);simp);have fD:=I2.fpOk hD hD4.2.1;have fC:=I2.fpOk hC I4.free;have J2:Inv X a8 σ (upd H3 D (.lst ys)) s4:=_c5 (I2.call' I4.os I4.base I4.hok I4.bare λb hb=>#[((f2 b hb).2.2.2.1.imp id λz=>Yh z),(f2 b hb).2.1,(f2 b hb).2.2.2.2.1,(f2 b hb).2.2.2.2.2]) hD4.2.1 fD.2.1 fD.2.2.2.1 fD.2.2.2.2.1 fD.2.2.2.2.2 #[hz,ab,nn,rv,hD4.1];obtain⟨mC,nC,_⟩:=I4.loc;obtain⟨oC,es,ep,hoC,hdC,uc⟩:=id nC;have fC':wW X a8 (upd H3 D (.lst ys)) C:=#[by rw[qx u5.symm];exact fC.1,fC.2];refine hRR D C oC mC ys H3 s4 (J2.pins_of λp hp=>?_) hoC nC fC' (qn D hD4.2.1);rcases aA hp with z|z
   ·exact J2.pin p (_ab _ z)
   ·rw[aC z];exact#[hoC,fC'.1,fC'.2.1,fC'.2.2.1,λv y=>by rw[hdC]at y;cases y]
  ·refine thn (T.item (lcE X scope N cl C s2 H2 fp EX) rfl rfl rfl hc i _ s3 σ3 H3 _ I3 (jm ow) dl go) λr s4 hz=>?_
   obtain⟨u,hr,h4⟩:=hz;subst hr;refine thn h4 λ_ s5 hz=>?_
   obtain⟨x,H5,I5,r5,y5,nz,fr5⟩:=hz;have jr:∀{σ' H' s' pl},Inv (lcE X scope N cl C s2 H2 fp EX) (pl++V6 fp s5.heap) σ' H' s'->tn (i+1) s'.heap/\∀b∈fp,H' b=none:=fun {σ' H' s' pl} I'=>by
    have q:∀b∈fp,∀o,s5.heap.get? b=⇑o->s'.heap.get? b=⇑o/\H' b=none:=λb hb o e=>by
     obtain⟨a1,a2,_⟩:=I'.pin (b,o) (_ab _ (_ab _ (_a5 hb e)));exact#[a1,a2]
    refine#[T.keep _ _ _ nz λb hb o e=>(q b hb o e).1,λb hb=>?_];obtain⟨o,e,_⟩:=T.obj _ _ nz b hb;exact(q b hb o e).2
   refine thn (hg C s2 H2 fp _ s5 σ3 H5 x u _ (I5.pinned (jm fr5) (T.obj _ _ nz)) r5 (step x H5 y5)) λ_ s6 #[σ6,H6,I6,Ny,Nn,hNy,hNn,q6]=>(thn (ht C s2 H2 fp _ s6 σ6 H6 _ I6 q6) λok s7 hz=>?_)
   obtain⟨H7,I7,q7⟩:=hz;cases ok with
   | false=>
    obtain⟨m',hm,w7⟩:=hNn _ q7;exact#[m',hm,i+1,ys,ab,nn,σ6,H7,I7.unpinned,rv,(jr I7).1,(jr I7).2,w7]
   | true=>
    refine thn (he C s2 H2 fp _ s7 σ6 H7 _ I7 q7) λu8 s8 hz=>?_
    obtain⟨y,H8,I8,r8,q8⟩:=hz;obtain⟨hz,m',hm,w8⟩:=hNy _ _ q8;have pD:=I8.pin (D,XY ab nn) (_ab _ (_ac _ (aB rfl)));have ae:=rv.length;refine append_at (hsz:=by rw[X8];lia) pD.1 λh9 sb9 e9=>?_
    have I9:Inv (lcE X scope N cl C s2 H2 fp EX) ([]++V6 fp s5.heap) σ6 H8 {s8 with heap:=h9,toks:=s8.toks}:=(I8.pins_of λp hp=>I8.pin p (_ab _ (_ab _ hp))).turned (it:=D) (λb o hb e=>(sb9.2 b hb).trans e) pD.2.1 u5 (.inr hD)
     (λx c h z=>by
      obtain⟨v,q⟩:=I2.cell x c (f7 x c h);exact absurd (Xq q.lt (z▸hD)) (Ym _))
     (λp hp z=>by
      have hp:p∈([]++([]++V6 fp s5.heap):LA9):=hp;have hp:p∈V6 fp s5.heap:= ~~~hp
      exact(below p.1 (_a6 hp).1).1 z)
    have e9':h9.get? D=⇑(XY (ab++[u8]) (nn+1)):=by rw[e9];simp[List.push_toArray]
    refine#[m',hm,i+1,ys++[y],ab++[u8],nn+1,σ6,H8,I9.pins_of λp hp=>?_,rv.append (.cons r8 .nil),(jr I9).1,(jr I9).2,w8];rw[aC hp];exact#[e9',pD.2.1,pD.2.2.1,pD.2.2.2.1,λv z=>by cases z]
 exact codeAny_compStart_list (loop _ rfl) (T.self _ 0 _ _ _ (T.keep _ _ _ bo λb hb o e=>dw b o e) (loop _ rfl))
def _d5{EX wi}(N)(k)(R)(hi:PI X tg ao wi)
  (hg:∀cl C s0 H0 fp,PG (lcE X scope N cl C s0 H0 fp EX) tg g) (ht:∀cl C s0 H0 fp,PTs (lcE X scope N cl C s0 H0 fp EX) fc tt) (he:∀cl C s0 H0 fp,PE (lcE X scope N cl C s0 H0 fp EX) fk te)
  (gx:xW X EX) (top:JZ X) (hc:X.calm=true<|>Ŕ) (hk:scope.kind=.function<|>Ŕ) (kr:Q9 X.N X.env.scope scope N k R=true<|>Ŕ) (hs:(∀x,foldedSetIterable ao X.env x=pure x)<|>Ŗ):
  PE X (.ListComp fk [#[tg,ao,fc,0]] scope pos) (tLC wi g tt te k R):=by
 intro a8 s σ H Q I h;have sc:=_cZ hk kr;obtain⟨cl,mj,f7,cb⟩:=_cY λy hy e=>I.ok.has y.1 (sc.caps y hy e)
 refine wpAny_comprehension_free rfl hs mj sc.kind sc.names (thn (hi a8 s σ H _ I h) λv s1 h1=>thn h1 λitv s2 h2=>?_);obtain⟨it,fp,tn,J,H2,e,I2,T,bo,f2,W,w0,fy⟩:=h2;subst e;refine _d4 hc top sc f7 cb (hg cl) (ht cl) (he cl) I2 T bo f2 w0 fy ?_ ?_
 rotate_left
 ·intro D C s' cy σ' H' x T Cc fl hC t q;exact _d3 gx I2 f2 hC t q
 intro D C oC m ys H' s' I' _ nC fC q;exact#[m,nC,λh' sb=>#[.ref D,_,I'.unpinned.turned (t':=s'.toks) (λb o hb e=>(sb.2 b hb).trans e) fC.1 fC.2.1 fC.2.2.2.1 fC.2.2.2.2.1 fC.2.2.2.2.2,rfl,q]]
end
structure ExAt (K:Frag)(x:Addr)(ox:Obj)(C:Addr):Prop where
 cls:ox.cls=.ref C
 no:PySem.W.notCls ox=true
 di:ox.dict=none
 xc:XCls K C
end L3
namespace Q
open PySem
inductive D where
 |non|bl (b:Bool)|int (i:Int)|str (z:Str)|tup (xs:List D)|lst (xs:List D)|dct (kvs:List (D×D))|obj (c:Str) (fs:List (Str×D))
instance:DecidableEq D:=λa b=>Classical.propDecidable (a=b)
instance:Inhabited D:=#[.non]
mutual
def D.pure:D->Bool
 |.tup xs=>D.pures xs|.lst _=>false|.dct _=>false|.obj _ _=>false|_=>true
def D.pures:List D->Bool
 |[]=>true|a::x=>D.pure a&&D.pures x
end
def D.pures_all:∀xs,D.pures xs=xs.all D.pure
 |[]=>by simp[D.pures]|a::x=>by rw[D.pures,List.all_cons,D.pures_all x]
@[simp] theorem D.pures_map {α:Type} f (xs:List α)(h:∀x∈xs,(f x).pure=true):D.pures (xs.map f)=true:=by
 rw[D.pures_all,Za];intro d hd;obtain⟨x,hx,rfl⟩:=aE hd;exact h x hx
mutual
def peq:D->D->Bool
 |.non,y=>(match y with|.non=>true|_=>false)|.bl a,y=>(match y with|.bl b=>a==b|.int b=>(if a then 1 else 0)==b|_=>false)|.int a,y=>(match y with|.bl b=>a==(if b then 1 else 0)|.int b=>a==b|_=>false)|.str a,y=>(match y with|.str b=>a==b|_=>false)|.lst a,y=>(match y with|.lst b=>peqs a b|_=>false)|.dct _,_=>false|.obj _ _,_=>false|.tup a,y=>match y with|.tup b=>peqs a b|_=>false
def peqs:List D->List D->Bool
 |[],[]=>true|a::as,b::bs=>peq a b&&peqs as bs|_,_=>false
end
mutual
def D.flat:Nat->D->Bool
 |0,.tup _=>false|0,.lst _=>false|n+1,.tup xs=>D.flats n xs|n+1,.lst xs=>D.flats n xs|_,.dct _=>false|_,.obj _ _=>false|_,_=>true
def D.flats:Nat->List D->Bool
 |_,[]=>true|n,a::x=>D.flat n a&&D.flats n x
end
mutual
def qK:Nat->D->Bool
 |_,.non=>true|_,.int _=>true|_,.str _=>true|n+1,.tup xs=>keyDs n xs|_,_=>false
def keyDs:Nat->List D->Bool
 |_,[]=>true|n,a::x=>qK n a&&keyDs n x
end
def unm : List (D × D) -> Bool
  |(.str _,_)::_=>false|_=>true
inductive Own where
 |no|rt|dp
 deriving DecidableEq
abbrev Sd:=Own×D
abbrev En:=List (Option Sd)
inductive Res (α:Type) where
 |ok (E:En) (a:α)
 |exc (E:En) (c:Str)
abbrev Ev(α:Type):=En->Option (Res α)
abbrev Ex:=Ev Sd
def bnd{α β:Type}(m:Option (Res α))(f:En->α->Option (Res β)):Option (Res β):=
 match m with
 |some (.ok E a)=>f E a|some (.exc E c)=>⇑(.exc E c)|none=>none
@[simp] theorem xxx {α β:Type}(E:En)(a:α)(f:En->α->Option (Res β)):bnd ⇑(.ok E a) f=f E a:=rfl
@[simp] theorem xwy {α β:Type}(E:En)(c:Str)(f:En->α->Option (Res β)):bnd ⇑(.exc E c) f=⇑(.exc E c):=rfl
@[simp] theorem xqw {α β:Type}(f:En->α->Option (Res β)):bnd none f=none:=rfl
def val{α:Type}(E:En)(x:Option α):Option (Res α):=x.map (Res.ok E)
@[simp] theorem xqd {α:Type}(E:En)(x:α):val E ⇑x=⇑(.ok E x):=rfl
@[simp] theorem xqe {α:Type}(E:En):val E (none:Option α)=none:=rfl
def cC(d:D):Ex:=λE=>⇑(.ok E (.dp,d))
def cV(i:Nat):Ex:=λE=>match E[i]? with
 |some ⇑(_,d)=>⇑(.ok (E.set i ⇑(.no,d)) (.no,d))|_=>none
def cMv(i:Nat):Ex:=λE=>match E[i]? with
 |some ⇑x=>⇑(.ok (E.set i none) x)|_=>none
def vV(i:Nat):Ex:=λE=>match E[i]? with
 |some ⇑x=>⇑(.ok E x)|_=>none
def vE(c:Ex):Ex:=λE=>bnd (c E) λE x=>⇑(.ok E (.no,x.2))
abbrev C9(z:Int):Ex:=vE (cC (.int z))
def cH(v:Ex):Ex:=λE=>bnd (v E) λE x=>if x.1=.no then ⇑(.ok E (.no,x.2))else if x.2.pure then ⇑(.ok E (.dp,x.2))else none
def cF1(f:Sd->Option Sd)(a:Ex):Ex:=λE=>bnd (a E) λE x=>val E (f x)
def cF2(f:Sd->Sd->Option Sd)(a b:Ex):Ex:=λE=>bnd (a E) λE x=>bnd (b E) λE y=>val E (f x y)
def pu1(f:D->Option D):Sd->Option Sd:=λx=>(f x.2).map λd=>(.dp,d)
def pu2(f:D->D->Option D):Sd->Sd->Option Sd:=λx y=>(f x.2 y.2).map λd=>(.dp,d)
def _d6:D->List D
 |.lst xs=>xs|.tup xs=>xs|.dct kvs=>kvs.map (·.2)|_=>[]
def qW(x:Sd):Bool:=x.1 != .dp||D.pures (_d6 x.2)
def sub:Own->Own
 |.dp=>.dp|_=>.no
def ixN(n:Nat)(i:Int):Option Nat:=if 0<=i then(if i<n then ⇑i.toNat else none)else if -(n:Int)<=i then ⇑(i+n).toNat else none
def ixD:D->D->Option D
 |.lst xs,.int i=>(ixN xs.length i).bind λj=>xs[j]?|.tup xs,.int i=>(ixN xs.length i).bind λj=>xs[j]?|.str z,.int i=>(ixN z.cps.size i).bind λj=>(z.cps.toList[j]?).map λc=>.str #[%[c|0]]|.dct kvs,k=>(kvs.find? λe=>decide (e.1=k)).map (·.2)|_,_=>none
def big:Nat:=16777216
def i2(f:Int->Int->Option Int):D->D->Option D
 |.int a,.int b=>(f a b).map .int|_,_=>none
def c2(f:Int->Int->Bool):D->D->Option D
 |.int a,.int b=>⇑(.bl (f a b))|_,_=>none
def Vz(a:Int):Bool:=decide (-(2 ^ 64)<a)&&decide (a<2 ^ 64)
def kq:Sd->Sd->Option Sd:=λx y=>match x.2,y.2 with
 |.int a,.int b=>⇑(.dp,.int (a+b))|.str a,.str b=>if a.cps.size+b.cps.size<=big then ⇑(.dp,.str (a++b))else none|.lst a,.lst b=>if a.length+b.length<=big/\qW x/\qW y then ⇑(.rt,.lst (a++b))else none|.tup a,.tup b=>if a.length+b.length<=big/\qW x/\qW y then ⇑(.no,.tup (a++b))else none|_,_=>none
def Q2(a b:Int):Bool:=Vz a||Vz b||(decide (a.natAbs.log2<2000000)&&decide (b.natAbs.log2<2000000))
def YX:Sd->Sd->Option Sd:=λx y=>match x.2,y.2 with
 |.int a,.int b=>if Q2 a b then ⇑(.dp,.int (a*b))else none|.lst a,.int k=>if -(2 ^ 63)<=k/\k<2 ^ 63/\a.length*k.toNat<=big/\qW x then ⇑(.rt,.lst (List.replicate k.toNat a).flatten)else none|.str z,.int n=>if(z.cps.size<=1024/\n<=1024/\-1024<=n)/\(Txt.mul z n).cps.size<=big then ⇑(.dp,.str (Txt.mul z n))else none|_,_=>none
def _d7:D->D->Option D:=i2 λa b=>⇑(a - b)
def zY:D->D->Option D:=i2 λa b=>if 0<b/\b.natAbs.log2<9000 then ⇑(a / b)else none
def v7:D->D->Option D:=i2 λa b=>if 0<b then ⇑(a % b)else none
def fEq:D->D->Option D:=λa b=>if a.flat 40&&b.flat 40 then ⇑(.bl (peq a b))else none
def fNe:D->D->Option D:=λa b=>if a.flat 40&&b.flat 40 then ⇑(.bl (!peq a b))else none
def isNon:D->Bool
 |.non=>true|_=>false
def fLt:D->D->Option D:=c2 λa b=>decide (a<b)
def fLe:D->D->Option D:=c2 λa b=>decide (a<=b)
def fGe:D->D->Option D:=c2 λa b=>decide (b<=a)
def zJ:D->Option D
 |.int a=>⇑(.int (-a))|_=>none
def _d8(a b:Str):Bool:=!(Builtin.Str.occurrences b a 0 b.length 1).isEmpty
def fIn:D->D->Option D:=λx y=>match y with
 |.lst ys=>if x.flat 30&&D.flats 30 ys then ⇑(.bl (ys.any λz=>peq z x))else none|.tup ys=>if x.flat 30&&D.flats 30 ys then ⇑(.bl (ys.any λz=>peq z x))else none
 |.str b=>(match x with
  |.str a=>⇑(.bl (_d8 a b))
  |_=>none)
 |.dct kvs=>⇑(.bl (kvs.any λe=>decide (e.1=x)))|_=>none
def VX:D->D->Option D:=λx y=>(fIn x y).bind λd=>match d with
 |.bl k=>⇑(.bl (!k))|_=>none
def kW:D->Option D
 |.lst xs=>⇑(.int xs.length)|.tup xs=>⇑(.int xs.length)|.str z=>⇑(.int z.length)|_=>none
def kind:D->String
 |.non=>"NoneType"|.bl _=>"bool"|.int _=>"int"|.str _=>"str"|.tup _=>"tuple"|.lst _=>"list"|.dct _=>"dict"|.obj _ _=>""
def isaK(t u:String):Bool:=t==u||(t == "bool" && u == "int")
def vx(u:String):D->Option D:=λd=>match d with
 |.obj _ _=>none|.dct _=>none|_=>⇑(.bl (isaK (kind d) u))
def fIsNon:D->Option D:=λd=>⇑(.bl (isNon d))
def fNotNon:D->Option D:=λd=>⇑(.bl (!isNon d))
abbrev Ts:=Ev Bool
def truth:D->Option Bool
 |.bl b=>⇑b|.non=>⇑false|.int i=>⇑(i != 0)|.str z=>⇑(z.cps.size != 0)|.lst xs=>⇑(!xs.isEmpty)|.tup xs=>⇑(!xs.isEmpty)|.dct xs=>⇑(!xs.isEmpty)|.obj _ _=>none
def tE(c:Ex):Ts:=λE=>bnd (c E) λE x=>val E (truth x.2)
def tAnd(a b:Ts):Ts:=λE=>bnd (a E) λE x=>if x then b E else ⇑(.ok E false)
def tOr(a b:Ts):Ts:=λE=>bnd (a E) λE x=>if x then ⇑(.ok E true)else b E
def tNot(a:Ts):Ts:=λE=>bnd (a E) λE x=>⇑(.ok E (!x))
def tYes:Ts:=λE=>⇑(.ok E true)
def cIf(t:Ts)(a b:Ex):Ex:=λE=>bnd (t E) λE x=>if x then a E else b E
def Q7(a b:Ex):Ex:=λE=>bnd (a E) λE x=>match x.2 with
 |.bl true=>b E|.bl false=>⇑(.ok E (.dp,.bl false))|_=>none
def J1:D->D->Option D:=λx y=>match y with
 |.dct _=>none|_=>fIn x y
def zZ:D->D->Option D:=λx y=>match y with
 |.dct _=>none|_=>VX x y
def f2First(f:D->Option D):Sd->Sd->Option Sd:=λx y=>if isNon y.2 then(f x.2).map λd=>(.dp,d)else none
def jQ:D->D->Option D:=λx y=>match x with
 |.dct _=>none|_=>ixD x y
def j9(a b:Ex):Ex:=λE=>bnd (a E) λE x=>bnd (b E) λE y=>val E ((jQ x.2 y.2).map λd=>(sub x.1,d))
def truthQ:D->Option Bool:=λd=>match d with
 |.dct _=>none|_=>truth d
def tEQ(c:Ex):Ts:=λE=>bnd (c E) λE x=>val E (truthQ x.2)
def _d9(c:Ex):Ex:=λE=>bnd (c E) λE x=>val E ((truthQ x.2).map λk=>(.dp,.bl (!k)))
def vX:List Ex->Ev (List Sd)
 |[],E=>⇑(.ok E [])|c::cs,E=>bnd (c E) λE x=>bnd (vX cs E) λE xs=>⇑(.ok E (x::xs))
def wQ(x:Sd):Bool:=x.1 == .dp||x.2.pure
def q9(o:Own)(cs:List Ex):Ex:=λE=>bnd (vX cs E) λE xs=>if o=.dp then(if xs.all wQ then ⇑(.ok E (.dp,.lst (xs.map (·.2))))else none)else ⇑(.ok E (.rt,.lst (xs.map (·.2))))
def kw(o:Own)(cs:List Ex):Ex:=λE=>bnd (vX cs E) λE xs=>if o=.dp then(if xs.all wQ then ⇑(.ok E (.dp,.tup (xs.map (·.2))))else none)else ⇑(.ok E (.no,.tup (xs.map (·.2))))
inductive Fl where
 |nx (E:En)|rt (E:En) (x:Sd)|ct (E:En)|bk (E:En)|xc (E:En) (c:Str)
abbrev Sm:=En->Option Fl
def ofE{α:Type}(m:Option (Res α))(f:En->α->Option Fl):Option Fl:=
 match m with
 |some (.ok E a)=>f E a|some (.exc E c)=>⇑(.xc E c)|none=>none
@[simp] theorem xxq {α:Type}(E:En)(a:α)(f:En->α->Option Fl):ofE ⇑(.ok E a) f=f E a:=rfl
@[simp] theorem xwa {α:Type}(E:En)(c:Str)(f:En->α->Option Fl):ofE ⇑(.exc E c) f=⇑(.xc E c):=rfl
@[simp] theorem xqq {α:Type}(f:En->α->Option Fl):ofE none f=none:=rfl
def j6(a b:Sm):Sm:=λE=>match a E with
 |some (.nx E)=>b E|r=>r
def k5:Sm:=λE=>⇑(.nx E)
def jw(i:Nat)(c:Ex):Sm:=λE=>ofE (c E) λE x=>⇑(.nx (E.set i ⇑x))
def jJ(c:Ex):Sm:=λE=>ofE (c E) λE x=>⇑(.rt E x)
def sIf(t:Ts)(a b:Sm):Sm:=λE=>ofE (t E) λE x=>if x then a E else b E
inductive Tg where
 |n (i:Nat)|t (ts:List Nat)
def setAll:List Nat->List D->En->Option En
 |[],[],E=>⇑E|i::is,d::ds,E=>setAll is ds (E.set i ⇑(.no,d))|_,_,_=>none
def Tg.put:Tg->D->En->Option En
 |.n i,d,E=>⇑(E.set i ⇑(.no,d))|.t is,.tup ds,E=>setAll is ds E|.t is,.lst ds,E=>setAll is ds E|.t _,_,_=>none
def Kj(is:List Nat)(c:Ex):Sm:=λE=>ofE (c E) λE x=>(Tg.put (.t is) x.2 E).map .nx
def Q5(tg:Tg)(b:Sm):List D->En->Option Fl
 | [],E=>⇑(.nx E)
 | d::ds,E=>match tg.put d E with
  |none=>none
  |some E=>match b E with
   |some (.nx E)=>Q5 tg b ds E|some (.ct E)=>Q5 tg b ds E|some (.bk E)=>⇑(.nx E)|r=>r
def kQ(it:Ev (List D))(tg:Tg)(b:Sm):Sm:=λE=>ofE (it E) λE ds=>Q5 tg b ds E
def whF(t:Ts)(b:Sm)(f:Sm):Sm:=λE=>match t E with
 |some (.ok E true)=>(match b E with
  |some (.nx E)=>f E|some (.ct E)=>f E|some (.bk E)=>⇑(.nx E)
  |r=>r)
 |some (.ok E false)=>⇑(.nx E)|some (.exc E c)=>⇑(.xc E c)|none=>none
def whN(t:Ts)(b:Sm):Nat->Sm
 |0=>λ_=>none|n+1=>whF t b (whN t b n)
open Classical in
def JX(t:Ts)(b:Sm):Sm:=λE=>if h:∃n r,whN t b n E=⇑r then ⇑h.choose_spec.choose else none
#where in
def _ea{t b E r}(h:JX t b E=⇑r):∃n,whN t b n E=⇑r:=by
 unfold JX at h
 split at h
 ·rename_i h2;exact#[_,h▸h2.choose_spec.choose_spec]
 ·cases h
def _eb{t b}(E):(∃E2,∀g,whF t b g E=g E2)\/∃q,∀g,whF t b g E=q:=by
 unfold whF;cases t E with
 | none=>exact .inr #[_,λ_=>rfl]
 | some r=>
  cases r with
  | exc=>exact .inr #[_,λ_=>rfl]
  | ok E1 k=>
   cases k with
   |false=>exact .inr #[_,λ_=>rfl]
   |true=>
    dsimp only;cases b E1 with|none=>exact .inr #[_,λ_=>rfl]|some f=>cases f<;>first|exact .inl #[_,λ_=>rfl]|exact .inr #[_,λ_=>rfl]
def _ec{t b}:∀{n E r},whN t b n E=⇑r->whN t b (n+1) E=⇑r
 |n+1,E,r,h=>by
  rcases _eb (t:=t) (b:=b) E with⟨E2,e⟩|⟨q,e⟩
  ·exact(e _).trans (_ec ((e _).symm.trans h))
  ·exact(e _).trans ((e _).symm.trans h)
def _ed{t b n E r}(h:whN t b n E=⇑r):∀k,whN t b (n+k) E=⇑r
 |0=>h|k+1=>_ec (_ed h k)
def _ee{t b n E r}(h:whN t b n E=⇑r):JX t b E=⇑r:=by
 have h2:∃n r,whN t b n E=⇑r:=#[n,r,h];unfold JX;rw[dif_pos h2];have a:=_ed h2.choose_spec.choose_spec n;have b:=_ed h h2.choose;rw[Nat.add_comm]at b;exact a.symm.trans b
def _ef {t b} (E): JX t b E = whF t b (JX t b) E:= by
  refine Option.ext λr=>#[λh=> ?_,λh=> ?_]
  · obtain⟨n,h⟩:= _ea h
    cases n with
    | zero=>cases h
    | succ n => rcases _eb (t:= t) (b:= b) E with⟨E2,e⟩|⟨q,e⟩
                · exact(e _).trans (_ee ((e _).symm.trans h))
                · exact(e _).trans ((e _).symm.trans h)
  · rcases _eb (t:= t) (b:= b) E with⟨E2,e⟩|⟨q,e⟩
    · obtain⟨n,h⟩:= _ea ((e _).symm.trans h)
      exact _ee (n:= n+1) ((e _).trans h)
    · exact _ee (n:= 1) ((e _).trans ((e _).symm.trans h))
def at'{α:Type}(L:List (Option α))(j:Nat):Option α:=(L[j]?).join
def clr{α:Type}:List Nat->List (Option α)->List (Option α)
 |[],L=>L|j::R,L=>clr R (L.set j none)
def back{α:Type}:List Nat->List (Option α)->List (Option α)->List (Option α)
 |j::R,q::B,L=>back R B (L.set j q)|_,_,L=>L
def ZZ(k:Nat)(R:List Nat)(E:En):En:=List.replicate k none++R.map (at' E)
def Jz(k:Nat)(R:List Nat)(B E:En):En:=back R (B.drop k) (clr R E)
def lcL(tg:Tg)(t:Ts)(c:Ex):List D->En->List Sd->Option (Res (List Sd))
 |[],B,ac=>⇑(.ok B ac)
 |d::ds,B,ac=>match tg.put d B with
  |none=>none|some B=>bnd (t B) λB x=>if x then bnd (c B) λB y=>lcL tg t c ds B (ac++[y])else lcL tg t c ds B ac
def mkL(o:Own)(E:En)(xs:List Sd):Option (Res Sd):=
 if o=.dp then(if xs.all wQ then ⇑(.ok E (.dp,.lst (xs.map (·.2))))else none)else ⇑(.ok E (.rt,.lst (xs.map (·.2))))
def cLC(o:Own)(k:Nat)(R:List Nat)(it:Ev (List D))(tg:Tg)(t:Ts)(c:Ex):Ex:=λE=>bnd (it E) λE ds=>
 match lcL tg t c ds (ZZ k R E) []with
 |some (.ok B xs)=>mkL o (Jz k R B E) xs|some (.exc B e)=>⇑(.exc (Jz k R B E) e)|none=>none
def Wv:Option (Option Sd)->Bool
 |some ⇑(_,.lst _)=>true|_=>false
def WX(g0:Option (Option Sd)->Bool)(g:Sd->D->D->Option D)(i:Nat)(kc vc:Ex):Sm:=λE=>ofE (vc E) λE v=>if g0 E[i]?=true then ofE (kc E) λE k=>(match E[i]? with
 |some ⇑s=>(g s k.2 v.2).map λd=>.nx (E.set i ⇑(.rt,d))
 |_=>none)else none
def v4(f:List D->D->Option (List D))(i:Nat)(c:Ex):Sm:=λE=>if Wv E[i]? then ofE (c E) λE x=>match E[i]? with
 |some ⇑(o,.lst xs)=>if o=.no then none else(match f xs x.2 with
  |some ys=>⇑(.nx (E.set i ⇑(if o=.dp/\wQ x then .dp else .rt,.lst ys)))
  |none=>none)
 |_=>none
 else none
def v3:List D->D->Option (List D):=λxs d=>if xs.length<big then ⇑(xs++[d])else none
def K9:D->Option D
 |.int i=>⇑(.int i)|.bl k=>⇑(.int (if k then 1 else 0))|.str z=>if z.length<=640 then(PySem.intText? z).map .int else none|_=>none
def W9:Sd->Option Sd:=λx=>match x.2 with
 |.lst xs=>if qW x then ⇑(.rt,.lst xs)else none|.tup xs=>if qW x then ⇑(.rt,.lst xs)else none|_=>none
def z7:Sd->Option Sd:=λx=>match x.2 with
 |.lst xs=>if qW x then ⇑(.no,.tup xs)else none|.tup xs=>if qW x then ⇑(.no,.tup xs)else none|_=>none
def bls:List D->Option (List Bool)
 |[]=>⇑[]|.bl b::ds=>(bls ds).map (b :: ·)|_=>none
def _eg:D->Option D
 |.lst ds=>(bls ds).map λbs=>.bl (bs.all id)|_=>none
def seqOf:D->Option (List D)
 |.lst xs=>⇑xs|.tup xs=>⇑xs|.str z=>if z.cps.size<=big then ⇑(z.cps.toList.map λc=>.str #[%[c|0]])else none|_=>none
def itS(c:Ex):Ev (List D):=λE=>bnd (c E) λE x=>val E (seqOf x.2)
def zQ(i:Int):Bool:=decide (-(2 ^ 62)<=i)&&decide (i<2 ^ 62)
def k4(lo hi:Int):List D:=(List.range (hi - lo).toNat).map λ(k:Nat)=>.int (lo+(k:Int))
def vZ(c:Ex):Ev (List D):=λE=>bnd (c E) λE x=>match x.2 with
 |.int j=>if zQ j/\j.toNat<=big then ⇑(.ok E (k4 0 j))else none|_=>none
def W5(c:Ex):Ex:=λE=>bnd (c E) λE x=>match x.2 with
 |.int j=>if zQ j/\j.toNat<=big then ⇑(.ok E (.rt,.lst (k4 0 j)))else none|_=>none
abbrev Fn:=List Sd->Option (Res Sd)
def fn(n:Nat)(b:Sm):Fn:=λxs=>match b (xs.map some++List.replicate (n - xs.length) none)with
 |some (.rt E x)=>⇑(.ok E x)|some (.nx E)=>⇑(.ok E (.dp,.non))|some (.xc E c)=>⇑(.exc E c)|_=>none
def letAll(xs:List Sd):List Sd:=xs.map λx=>(.no,x.2)
def jx(f:Fn)(cs:List Ex):Ex:=λE=>bnd (vX cs E) λE xs=>match f (letAll xs)with
 |some (.ok _ y)=>⇑(.ok E y)|some (.exc _ c)=>⇑(.exc E c)|none=>none
end Q
namespace Q
open PySem PySem.Spec PyProof.Rows L2 L3
mutual
def VJ(w:PySem.World):D->Int
 |.int i=>hashInt i|.str z=>hashStr w z|.tup xs=>reduceHash (Builtin.Tuple.tupleHashOf (hashDs w xs))|_=>4238894112
def hashDs(w:PySem.World):List D->List Int
 |[]=>[]|a::x=>VJ w a::hashDs w x
end
def Kd:Type:={d:D // qK 6 d=true}
instance:DecidableEq Kd:=λa b=>Classical.propDecidable (a=b)
abbrev Ent:=Kd×Addr×Value
def qV(a:Addr)(es:List Ent)(ep:Nat):HO:=.ext λw h=>∃o ds,h.get? a=⇑o/\o.ExactDict/\o.data=.dict ds ep/\ds.toList=es.map λx=>(#[VJ w x.1.1,.ref x.2.1,x.2.2]:DictEntry)
mutual
def PuR(K:Frag)(H:Hp):D->V->Prop
 |.non,v=>v=.non|.int i,v=>v=.int i|.str z,v=>v=.str z/\z.length<=sizeLine|.tup ds,v=>∃a xs,v=.ref a/\SqT K H a xs/\PuRs K H ds xs|_,_=>False
def PuRs(K:Frag)(H:Hp):List D->List V->Prop
 |[],xs=>xs=[]|d::ds,xs=>∃x r,xs=x::r/\PuR K H d x/\PuRs K H ds r
end
def DcN(K:Frag)(H:Hp)(a:Addr)(ks:List D)(vs:List V):Prop:=∃(es:List Ent) (ep:Nat),H a=⇑(qV a es ep)/\(a==sysModules)=false/\es.length<=sizeLine/\(es.map (·.1)).Nodup/\ks=es.map (·.1.1)/\(∀x∈es,PuR K H x.1.1 (.ref x.2.1))/\Vals vs (es.map (·.2.2))
def DcI(H:Hp)(a:Addr)(ks:List D)(vs:List V):Prop:=∃(kv:List (Int×V)) (m:Str),H a=⇑(.dK (kv.map λp=>(Sum.inl p.1,p.2)))/\ks=.str m::kv.map (λp=>D.int p.1)/\vs=.non::kv.map (·.2)
def DcA(K:Frag)(H:Hp)(a:Addr)(ks:List D)(vs:List V):Prop:=DcN K H a ks vs\/DcI H a ks vs
def DcA.un{K H a kvs vs}(h:DcA K H a (kvs.map (·.1)) vs)(hu:unm kvs=true):DcN K H a (kvs.map (·.1)) vs:=by
 rcases h with h|⟨kv,m,_,h,_⟩
 ·exact h
 ·cases kvs with
  |nil=>cases h
  |cons p r=>
   obtain⟨k,d⟩:=p;injection h with h1 _;subst h1;cases hu
def _eh(K:Frag)(a:Addr)(xs:List V):Prop:=∃(ab:Array Value) (n:Nat),K.lookup a=some {cls:=.type "list",data:=.seq ab n}/\ab.size<=sizeLine/\Vals xs ab.toList
def _ei(K:Frag)(H:Hp)(a:Addr)(xs:List V):Prop:=(∃o,H a=⇑(.frz o (.lst xs)))\/_eh K a xs
def LsR(K:Frag)(H:Hp)(a:Addr)(xs:List V):Prop:=Rd H a (.lst xs)\/_eh K a xs
def LsR.of{K H a xs}(h:_ei K H a xs):LsR K H a xs:=h.imp .inr id
def LsR.sq{K H a xs}(h:LsR K H a xs):SqL K H a xs:=by
 rcases h with h|⟨ab,n,h1,h2,h3⟩
 ·exact .inl h
 ·exact .inr #[_,ab,n,h1,rfl,rfl,rfl,h2,h3]
def LsR.is{X a8}{σ:L2.St}{H s a xs}(I:L2.Inv X a8 σ H s)(h:LsR X.K H a xs):xs.length<=sizeLine/\∃(ab:List Value) (n:Nat),Vals xs ab/\s.heap.get? a=some {cls:=.type "list",data:=.seq ab.toArray n}:=by
 rcases h with h|⟨ab,n,h1,h2,h3⟩
 ·obtain⟨z,ab,n,r,e⟩:=h.ok I.hok;exact#[z,ab,n,r,e]
 ·have hl:=h3.length;simp at hl;exact#[⋯,ab.toList,n,h3,~~~(I.kIn a _ h1)]
def ExD(K:Frag)(H:Hp)(c:Str)(v:V):Prop:=∃x o C,v=.ref x/\H x=⇑(.frz o (.ext λ_ _=>True))/\ExAt K x o C/\nsIn K mainGlobals c=some ⇑(.ref C)
mutual
def RepL(K:Frag)(H:Hp)(g:Bool):D->V->List Addr->Prop
 |.non,v,as=>v=.non/\as=[]|.bl b,v,as=>v=.bl b/\as=[]|.int i,v,as=>v=.int i/\as=[]|.str z,v,as=>v=.str z/\as=[]/\z.length<=sizeLine|.tup ds,v,as=>∃a xs,v=.ref a/\SqT K H a xs/\RepA K H g ds xs as|.lst ds,v,as=>∃a xs bs,v=.ref a/\RepA K H g ds xs bs/\((H a=⇑(.lst xs)/\as=a::bs)\/(g=true/\_ei K H a xs/\as=bs))|.dct kvs,v,as=>∃a xs bs,v=.ref a/\RepP K H g kvs xs bs/\DcA K H a (kvs.map (·.1)) xs/\as=a::bs|.obj c _,v,as=>as=[]/\ExD K H c v
def RepA(K:Frag)(H:Hp)(g:Bool):List D->List V->List Addr->Prop
 |[],xs,as=>xs=[]/\as=[]|d::ds,xs,as=>∃x r bs cs,xs=x::r/\as=bs++cs/\RepL K H g d x bs/\RepA K H g ds r cs
def RepP(K:Frag)(H:Hp)(g:Bool):List (D×D)->List V->List Addr->Prop
 |[],xs,as=>xs=[]/\as=[]|(_,d)::ds,xs,as=>∃x r bs cs,xs=x::r/\as=bs++cs/\RepL K H g d x bs/\RepP K H g ds r cs
end
def RepR(K:Frag)(H:Hp):D->V->List Addr->Prop
 |.lst ds,v,as=>∃a xs bs,v=.ref a/\RepA K H true ds xs bs/\H a=⇑(.lst xs)/\as=a::bs|.dct kvs,v,as=>∃a xs bs,v=.ref a/\RepP K H true kvs xs bs/\DcA K H a (kvs.map (·.1)) xs/\as=a::bs|_,_,_=>False
def RepO(K:Frag)(H:Hp):Own->D->V->List Addr->Prop
 |.no=>RepL K H true|.rt=>RepR K H|.dp=>RepL K H false
section
variable {K:Frag}{H H':Hp}
def Kp(H H':Hp)(as:List Addr):Prop:=(∀a xs,H a=⇑(.tup xs)->H' a=⇑(.tup xs))/\(∀a o u,H a=⇑(.frz o u)->H' a=⇑(.frz o u))/\∀a∈as,∀ob,H a=⇑ob->H' a=⇑ob
def Kp.left{as bs}(k:Kp H H' (as++bs)):Kp H H' as:=#[k.1,k.2.1,λa ha=>k.2.2 a (_ac _ ha)]
def Kp.right{as bs}(k:Kp H H' (as++bs)):Kp H H' bs:=#[k.1,k.2.1,λa ha=>k.2.2 a (_ab _ ha)]
def Kp.tail{a bs}(k:Kp H H' (a::bs)):Kp H H' bs:=#[k.1,k.2.1,λb hb=>k.2.2 b (_ad _ hb)]
def Kp.tupT{as a xs}(k:Kp H H' as)(h:SqT K H a xs):SqT K H' a xs:=by
 rcases h with(h|⟨o,h⟩)|h
 ·exact .inl (.inl (k.1 a xs h))
 ·exact .inl (.inr #[o,k.2.1 a o _ h])
 ·exact .inr h
def Kp.frzL{as a xs}(k:Kp H H' as)(h:_ei K H a xs):_ei K H' a xs:=by
 rcases h with⟨o,h⟩|h
 ·exact .inl #[o,k.2.1 a o _ h]
 ·exact .inr h
mutual
theorem PuR.kp{as}(k:Kp H H' as):∀{d v},PuR K H d v->PuR K H' d v
 |.non,_,h=>h|.int _,_,h=>h
 |.tup ds,_,h=>by
  obtain⟨a,xs,e,s,r⟩:=h;exact#[a,xs,e,k.tupT s,PuRs.kp k r]
 |.bl _,_,h=>h.elim|.str _,_,h=>by unfold PuR at h ⊢;exact h|.lst _,_,h=>h.elim|.dct _,_,h=>h.elim|.obj _ _,_,h=>h.elim
theorem PuRs.kp{as}(k:Kp H H' as):∀{ds xs},PuRs K H ds xs->PuRs K H' ds xs
 |[],_,h=>by unfold PuRs at h ⊢;exact h
 |d::ds,_,h=>by
  obtain⟨x,r,e,h1,h2⟩:=h;exact#[x,r,e,PuR.kp k h1,PuRs.kp k h2]
end
def Kp.dcn{a bs ks vs}(k:Kp H H' (a::bs))(h:DcN K H a ks vs):DcN K H' a ks vs:=by
 obtain⟨es,ep,e,h1,h2,h3,h4,h5,h6⟩:=h;exact#[es,ep,k.2.2 a X5 _ e,h1,h2,h3,h4,λx hx=>PuR.kp k (h5 x hx),h6]
def Kp.dca{a bs ks vs}(k:Kp H H' (a::bs))(h:DcA K H a ks vs):DcA K H' a ks vs:=by
 rcases h with h|⟨kv,m,e,h⟩
 ·exact .inl (k.dcn h)
 ·exact .inr #[kv,m,k.2.2 a X5 _ e,h]
def Kp.of_same{as}(s:k9 H H'):Kp H H' as:=#[λa xs h=>s a _ h,λa o u h=>s a _ h,λa _ ob h=>s a ob h]
mutual
theorem RepL.kp{g}:∀{d v as},RepL K H g d v as->Kp H H' as->RepL K H' g d v as
 | .non,_,_,h,_=>h| .bl _,_,_,h,_=>h| .int _,_,_,h,_=>h| .str _,_,_,h,_=>by unfold RepL at h ⊢;exact h
 | .tup ds,_,_,h,k=>by
  obtain⟨a,xs,e,s,r⟩:=h;exact#[a,xs,e,k.tupT s,RepA.kp r k]
 | .lst ds,_,_,h,k=>by
  obtain⟨a,xs,bs,e,r,q⟩:=h;refine#[a,xs,bs,e,?_,?_]
  ·rcases q with⟨_,rfl⟩|⟨_,_,rfl⟩
   ·exact RepA.kp r k.tail
   ·exact RepA.kp r k
  ·rcases q with⟨h1,rfl⟩|⟨hg,h1,rfl⟩
   ·exact .inl #[k.2.2 a X5 _ h1,rfl]
   ·exact .inr #[hg,k.frzL h1,rfl]
 |.dct kvs,_,_,h,k=>by
  obtain⟨a,xs,bs,e,r,q,rfl⟩:=h;exact#[a,xs,bs,e,RepP.kp r k.tail,k.dca q,rfl]
 |.obj _ _,_,_,h,k=>by
  obtain⟨e,x,o,C,h1,h2,h3⟩:=h;exact#[e,x,o,C,h1,k.2.1 _ _ _ h2,h3]
theorem RepA.kp{g}:∀{ds xs as},RepA K H g ds xs as->Kp H H' as->RepA K H' g ds xs as
 |[],_,_,h,_=>by unfold RepA at h ⊢;exact h
 |d::ds,_,_,h,k=>by
  obtain⟨x,r,bs,cs,e1,rfl,h1,h2⟩:=h;exact#[x,r,bs,cs,e1,rfl,RepL.kp h1 k.left,RepA.kp h2 k.right]
theorem RepP.kp{g}:∀{ds xs as},RepP K H g ds xs as->Kp H H' as->RepP K H' g ds xs as
 |[],_,_,h,_=>by unfold RepP at h ⊢;exact h
 |_::ds,_,_,h,k=>by
  obtain⟨x,r,bs,cs,e1,rfl,h1,h2⟩:=h;exact#[x,r,bs,cs,e1,rfl,RepL.kp h1 k.left,RepP.kp h2 k.right]
end
mutual
theorem RepL.wk:∀{d v as},RepL K H false d v as->RepL K H true d v as
 |.non,_,_,h=>h|.bl _,_,_,h=>h|.int _,_,_,h=>h|.str _,_,_,h=>by unfold RepL at h ⊢;exact h
 |.tup ds,_,_,h=>by
  obtain⟨a,xs,e,s,r⟩:=h;exact#[a,xs,e,s,RepA.wk r]
 |.lst ds,_,_,h=>by
  obtain⟨a,xs,bs,e,r,q⟩:=h;refine#[a,xs,bs,e,RepA.wk r,?_];rcases q with q|⟨z,_⟩
  ·exact .inl q
  ·grind
 |.dct kvs,_,_,h=>by
  obtain⟨a,xs,bs,e,r,q,z⟩:=h;exact#[a,xs,bs,e,RepP.wk r,q,z]
 |.obj _ _,_,_,h=>h
theorem RepA.wk:∀{ds xs as},RepA K H false ds xs as->RepA K H true ds xs as
 |[],_,_,h=>h
 |d::ds,_,_,h=>by
  obtain⟨x,r,bs,cs,e1,e2,h1,h2⟩:=h;exact#[x,r,bs,cs,e1,e2,RepL.wk h1,RepA.wk h2]
theorem RepP.wk:∀{ds xs as},RepP K H false ds xs as->RepP K H true ds xs as
 |[],_,_,h=>h
 |_::ds,_,_,h=>by
  obtain⟨x,r,bs,cs,e1,e2,h1,h2⟩:=h;exact#[x,r,bs,cs,e1,e2,RepL.wk h1,RepP.wk h2]
end
mutual
theorem RepL.al{g}:∀{d v as},RepL K H g d v as->∀a∈as,(∃xs,H a=⇑(.lst xs))\/(∃ φ,H a=⇑(.ext φ))\/∃kvs,H a=⇑(.dK kvs)
 | .non,_,_,h=>by rw[h.2];exact λ_ z=>nomatch z| .bl _,_,_,h=>by rw[h.2];exact λ_ z=>nomatch z| .int _,_,_,h=>by rw[h.2];exact λ_ z=>nomatch z| .str _,_,_,h=>by rw[h.2.1];exact nofun
 | .tup ds,_,_,h=>by
  obtain⟨a,xs,e,s,r⟩:=h;exact RepA.al r
 | .lst ds,_,_,h=>by
  obtain⟨a,xs,bs,e,r,q⟩:=h;rcases q with⟨h1,rfl⟩|⟨_,_,rfl⟩
  ·intro b hb;rcases aD hb with rfl|hb
   ·exact .inl #[_,h1]
   ·exact RepA.al r b hb
  ·exact RepA.al r
 | .dct kvs,_,_,h=>by
  obtain⟨a,xs,bs,e,r,q,rfl⟩:=h;intro b hb;rcases aD hb with rfl|hb
  ·rcases q with⟨es,ep,q,_⟩|⟨kv,m,q,_⟩
   ·exact .inr (.inl #[_,q])
   ·exact .inr (.inr #[_,q])
  ·exact RepP.al r b hb
 |.obj _ _,_,_,h=>by rw[h.1];exact nofun
theorem RepA.al{g}:∀{ds xs as},RepA K H g ds xs as->∀a∈as,(∃xs,H a=⇑(.lst xs))\/(∃ φ,H a=⇑(.ext φ))\/∃kvs,H a=⇑(.dK kvs)
 |[],_,_,h=>by rw[h.2];exact nofun
 |d::ds,_,_,h=>by
  obtain⟨x,r,bs,cs,e1,rfl,h1,h2⟩:=h;intro a ha;rcases aA ha with ha|ha
  ·exact RepL.al h1 a ha
  ·exact RepA.al h2 a ha
theorem RepP.al{g}:∀{ds xs as},RepP K H g ds xs as->∀a∈as,(∃xs,H a=⇑(.lst xs))\/(∃ φ,H a=⇑(.ext φ))\/∃kvs,H a=⇑(.dK kvs)
 |[],_,_,h=>by rw[h.2];exact nofun
 |_::ds,_,_,h=>by
  obtain⟨x,r,bs,cs,e1,rfl,h1,h2⟩:=h;intro a ha;rcases aA ha with ha|ha
  ·exact RepL.al h1 a ha
  ·exact RepP.al h2 a ha
end
mutual
theorem RepL.pu{g g'}:∀{d v as},RepL K H g d v as->d.pure=true->as=[]/\RepL K H g' d v []
 |.non,_,_,h,_=>#[h.2,h.1,rfl]|.bl _,_,_,h,_=>#[h.2,h.1,rfl]|.int _,_,_,h,_=>#[h.2,h.1,rfl]|.str _,_,_,h,_=>#[h.2.1,h.1,rfl,h.2.2]
 |.tup ds,_,_,h,p=>by
  obtain⟨a,xs,e,s,r⟩:=h;obtain⟨z,r'⟩:=RepA.pu (g':=g') r (p);exact#[z,a,xs,e,s,r']
 |.lst ds,_,_,h,p=>by cases p|.dct ds,_,_,h,p=>by cases p|.obj _ _,_,_,h,p=>by unfold D.pure at p;cases p
theorem RepA.pu{g g'}:∀{ds xs as},RepA K H g ds xs as->D.pures ds=true->as=[]/\RepA K H g' ds xs []
 |[],_,_,h,_=>#[h.2,h.1,rfl]
 |d::ds,_,_,h,p=>by
  unfold D.pures at p;rw[Bool.and_eq_true]at p;obtain⟨x,r,bs,cs,e1,rfl,h1,h2⟩:=h;obtain⟨rfl,q1⟩:=RepL.pu (g':=g') h1 p.1;obtain⟨rfl,q2⟩:=RepA.pu (g':=g') h2 p.2;exact#[rfl,x,r,[],[],e1,rfl,q1,q2]
end
def RepR.wk{d v as}(h:RepR K H d v as):RepL K H true d v as:=by
 cases d<;>first|exact False.elim h|skip
 all_goals
  obtain⟨a,xs,bs,e,r,q,z⟩:=h
  first|exact#[a,xs,bs,e,r,.inl #[q,z]]|exact#[a,xs,bs,e,r,q,z]
def RepR.kp{d v as}(h:RepR K H d v as)(k:Kp H H' as):RepR K H' d v as:=by
 cases d<;>first|exact False.elim h|skip
 all_goals
  obtain⟨a,xs,bs,e,r,q,rfl⟩:=h
  first|exact#[a,xs,bs,e,r.kp k.tail,k.2.2 a X5 _ q,rfl]|exact#[a,xs,bs,e,r.kp k.tail,k.dca q,rfl]
def RepO.wk:∀{o d v as},RepO K H o d v as->RepL K H true d v as
 |.no,_,_,_,h=>h|.rt,_,_,_,h=>RepR.wk h|.dp,_,_,_,h=>RepL.wk h
def RepO.kp:∀{o d v as},RepO K H o d v as->Kp H H' as->RepO K H' o d v as
 |.no,_,_,_,h,k=>RepL.kp h k|.rt,_,_,_,h,k=>RepR.kp h k|.dp,_,_,_,h,k=>RepL.kp h k
end
structure Sl where
 o:Own
 d:D
 v:V
 as:List Addr
def Sl.own(x:Sl):List Addr:=match x.o with
 |.no=>[]|.rt=>x.as.take 1|.dp=>x.as
def Sl.frz(x:Sl):List Addr:=match x.o with
 |.no=>x.as|.rt=>x.as.drop 1|.dp=>[]
def Sl.parts(x:Sl):x.own++x.frz=x.as:=by
 unfold Sl.own Sl.frz;cases x.o with|no=>rfl|rt=>exact List.take_append_drop 1 x.as|dp=>exact Xv _
def Sl.own_as{x:Sl}{a}(h:a∈x.own):a∈x.as:=by rw[<-x.parts];exact _ac _ h
def Sl.frz_as{x:Sl}{a}(h:a∈x.frz):a∈x.as:=by rw[<-x.parts];exact _ab _ h
def Sl.as_of{x:Sl}{a}(h:a∈x.as):a∈x.own\/a∈x.frz:=by rw[<-x.parts]at h;exact aA h
def Sl.let(x:Sl):Sl:={x with o:=.no}
abbrev Ls:=List (Option Sl)
def jv(L:Ls):List Addr:=L.flatMap λx=>x.elim [] Sl.own
def jZ(L:Ls):List Addr:=L.flatMap λx=>x.elim [] Sl.frz
@[simp] theorem wzs:jv []=[]:=rfl
@[simp] theorem ww3:jZ []=[]:=rfl
@[simp] theorem k3 x (L:Ls):jv (⇑x::L)=x.own++jv L:=by simp[jv]
@[simp] theorem vY x (L:Ls):jZ (⇑x::L)=x.frz++jZ L:=by simp[jZ]
@[simp] theorem qvh (L:Ls):jv (none::L)=jv L:=by simp[jv]
@[simp] theorem qju (L:Ls):jZ (none::L)=jZ L:=by simp[jZ]
@[simp] theorem kj (L T):jv (L++T)=jv L++jv T:=by simp[jv]
@[simp] theorem v5 (L T):jZ (L++T)=jZ L++jZ T:=by simp[jZ]
def mem_owned{L a}:a∈jv L↔∃x,⇑x∈L/\a∈x.own:=by
 unfold jv;rw[List.mem_flatMap];constructor
 ·rintro ⟨y,hy,h⟩;cases y with|none=>simp_all|some x=>exact#[x,hy,h]
 ·rintro ⟨x,hx,h⟩;exact#[⇑x,hx,h]
def mem_frozen{L a}:a∈jZ L↔∃x,⇑x∈L/\a∈x.frz:=by
 unfold jZ;rw[List.mem_flatMap];constructor
 ·rintro ⟨y,hy,h⟩;cases y with|none=>simp_all|some x=>exact#[x,hy,h]
 ·rintro ⟨x,hx,h⟩;exact#[⇑x,hx,h]
def Sl.ok(K:Frag)(H:Hp)(x:Sl):Prop:=RepO K H x.o x.d x.v x.as
def Sl.ok.al{K H}{x:Sl}(h:x.ok K H):∀a∈x.as,(∃xs,H a=⇑(.lst xs))\/(∃ φ,H a=⇑(.ext φ))\/∃kvs,H a=⇑(.dK kvs):=(RepO.wk h).al
def Sl.ok.some{K H}{x:Sl}(h:x.ok K H){a}(ha:a∈x.as):H a≠none:=λz=>by
 rcases h.al a ha with⟨xs,e⟩|⟨xs,e⟩|⟨xs,e⟩<;>(rw[z]at e;cases e)
structure World (K:Frag)(H:Hp)(L:Ls):Prop where
 ok:∀x,⇑x∈L->x.ok K H
 nd:(jv L).Nodup
 ds:∀a∈jv L,a∉jZ L
structure Step (H:Hp)(L:Ls)(H':Hp)(L':Ls):Prop where
 keep:∀a ob,H a=⇑ob->a∉jv L->H' a=⇑ob
 own:∀a∈jv L',a∈jv L\/H a=none
 frz:∀a∈jZ L',a∈jZ L\/a∈jv L\/H a=none
section
variable {K:Frag}{H H1 H2 H':Hp}{L L1 L2' L' T:Ls}{x y:Sl}
def World.own_al(w:World K H L){a}(h:a∈jv L):(∃xs,H a=⇑(.lst xs))\/(∃ φ,H a=⇑(.ext φ))\/∃kvs,H a=⇑(.dK kvs):=by
 obtain⟨x,hx,ha⟩:=mem_owned.mp h;exact(w.ok x hx).al a (Sl.own_as ha)
def World.own_some(w:World K H L){a}(h:a∈jv L):H a≠none:=by
 obtain⟨x,hx,ha⟩:=mem_owned.mp h;exact(w.ok x hx).some (Sl.own_as ha)
def World.frz_some(w:World K H L){a}(h:a∈jZ L):H a≠none:=by
 obtain⟨x,hx,ha⟩:=mem_frozen.mp h;exact(w.ok x hx).some (Sl.frz_as ha)
def Step.refl:Step H L H L:=#[λ_ _ h _=>h,λ_ h=>.inl h,λ_ h=>.inl h]
def Step.trans(a:Step H L H1 L1)(b:Step H1 L1 H2 L2'):Step H L H2 L2' where
 keep:=λc ob h hn=>b.keep c ob (a.keep c ob h hn) λz=>(a.own c z).elim hn λe=>by rw[h]at e;cases e
 own:=λc hc=>by
  rcases b.own c hc with z|z
  ·exact a.own c z
  ·by_cases h:c∈jv L
   ·exact .inl h
   ·refine .inr ?_;cases e:H c with|none=>rfl|some ob=>rw[a.keep c ob e h]at z;cases z
 frz:=λc hc=>by
  rcases b.frz c hc with z|z|z
  ·exact a.frz c z
  ·exact .inr (a.own c z)
  ·by_cases h:c∈jv L
   ·exact .inr (.inl h)
   ·refine .inr (.inr ?_);cases e:H c with|none=>rfl|some ob=>rw[a.keep c ob e h]at z;cases z
def Step.kp(a:Step H L H' L')(w:World K H L){as}(h:∀b∈as,b∉jv L):Kp H H' as:=by
 have no:∀b ob,H b=⇑ob->(∀xs,ob≠.lst xs)->(∀ φ,ob≠.ext φ)->(∀kvs,ob≠.dK kvs)->H' b=⇑ob:=λb ob e h1 h2 h3=>a.keep b ob e λz=>by
  rcases w.own_al z with _|_|_
  ·grind
  ·grind
  ·grind
 exact#[λb xs e=>no b _ e (λ_ z=>(nomatch z)) (λ_ z=>(nomatch z)) (λ_ z=>(nomatch z)),λb o u e=>no b _ e (λ_ z=>(nomatch z)) (λ_ z=>(nomatch z)) (λ_ z=>(nomatch z)),λb hb ob e=>a.keep b ob e (h b hb)]
def Step.frame(a:Step H L H' L')(w:World K H (L++T))(w':World K H' L')(wL:World K H L):World K H' (L'++T):=by
 have nd:=w.nd;rw [kj,Xa]at nd;have dis:=λb hb hT=>nd.2.2 b hb b hT rfl
 have lq:=λx hx=>w.ok x (_ab _ hx)
 have nT:∀x,⇑x∈T->∀b∈x.as,b∉jv L:=λx hx b hb hL=>by
  rcases Sl.as_of hb with z|z
  ·exact dis b hL (mem_owned.mpr #[x,hx,z])
  ·refine w.ds b (by rw[kj];exact _ac _ hL) ?_;rw[v5];exact _ab _ (mem_frozen.mpr #[x,hx,z])
 refine#[λx hx=>?_,?_,λb hb=>?_]
 ·rcases aA hx with hx|hx
  ·exact w'.ok x hx
  ·exact(lq x hx).kp (a.kp wL (nT x hx))
 ·rw[kj,Xa];refine#[w'.nd,nd.2.1,λb hb c hc e=>?_];subst e;obtain⟨x,hx,lm⟩:=mem_owned.mp hc;rcases a.own b hb with z|z
  ·exact dis b z hc
  ·exact(lq x hx).some (Sl.own_as lm) z
 ·rw[kj]at hb;rw[v5];intro hf;rcases aA hb with hb|hb
  ·rcases aA hf with hf|hf
   ·exact w'.ds b hb hf
   ·obtain⟨x,hx,lm⟩:=mem_frozen.mp hf;rcases a.own b hb with z|z
    ·exact nT x hx b (Sl.frz_as lm) z
    ·exact(lq x hx).some (Sl.frz_as lm) z
  ·rcases aA hf with hf|hf
   ·obtain⟨x,hx,lm⟩:=mem_owned.mp hb;rcases a.frz b hf with z|z|z
    ·exact w.ds b (by rw[kj];exact _ab _ hb) (by rw[v5];exact _ac _ z)
    ·exact dis b z hb
    ·exact(lq x hx).some (Sl.own_as lm) z
   ·exact w.ds b (by rw[kj];exact _ab _ hb) (by rw[v5];exact _ab _ hf)
def World.left(w:World K H (L++T)):World K H L:=by
 have nd:=w.nd;rw[kj,Xa]at nd;exact#[λx hx=>w.ok x (_ac _ hx),nd.1,λa ha hf=>w.ds a (by rw[kj];exact _ac _ ha) (by rw[v5];exact _ac _ hf)]
def World.right(w:World K H (L++T)):World K H T:=by
 have nd:=w.nd;rw[kj,Xa]at nd;exact#[λx hx=>w.ok x (_ab _ hx),nd.2.1,λa ha hf=>w.ds a (by rw[kj];exact _ab _ ha) (by rw[v5];exact _ab _ hf)]
def World.comm(w:World K H (L++T)):World K H (T++L):=by
 refine#[λx hx=>w.ok x ?_,?_,λa ha hf=>w.ds a ?_ ?_]
 ·grind
 ·have nd:=w.nd;rw[kj,Xa]at nd ⊢;exact#[nd.2.1,nd.1,λa ha b hb e=>nd.2.2 b hb a ha e.symm]
 ·rw[kj]at ha ⊢;rcases aA ha with h|h
  ·exact _ab _ h
  ·exact _ac _ h
 ·rw[v5]at hf ⊢;rcases aA hf with h|h
  ·exact _ab _ h
  ·exact _ac _ h
def World.tail{q}(w:World K H (q::L)):World K H L:=World.right (L:=[q]) w
def World.head(w:World K H (⇑x::L)):x.ok K H:=w.ok x X5
def World.apart(w:World K H (⇑x::L)):∀a∈x.as,a∉jv L:=λa ha hL=>by
 rcases Sl.as_of ha with z|z
 ·have nd:=w.nd;rw[k3,Xa]at nd;exact nd.2.2 a z a hL rfl
 ·exact w.ds a (_ab _ hL) (_ac _ z)
def World.cons(w:World K H L)(h:x.ok K H)(n:x.own.Nodup)(h1:∀a∈x.own,a∉jv L)(h2:∀a∈x.own,a∉jZ L)(h3:∀a∈x.frz,a∉jv L)(h4:∀a∈x.own,a∉x.frz):World K H (⇑x::L):=by
 refine#[λy hy=>?_,?_,λa ha hf=>?_]
 ·rcases aD hy with z|z
  ·grind
  ·exact w.ok y z
 ·rw[k3,Xa];exact#[n,w.nd,λa ha b hb e=>by subst e;exact h1 a ha hb]
 ·rcases aA ha with ha|ha
  ·simp_all
  ·rcases aA hf with hf|hf
   ·exact h3 a hf ha
   ·exact w.ds a ha hf
def World.consNo(w:World K H L)(h:x.ok K H)(ho:x.o=.no)(h3:∀a∈x.as,a∉jv L):World K H (⇑x::L):=by
 have e1:x.own=[]:=by unfold Sl.own;rw[ho]
 have e2:x.frz=x.as:=by unfold Sl.frz;rw[ho]
 exact w.cons h (by simp_all) (e1▸nofun) (by simp_all) (e2▸h3) (by simp_all)
def World.consPu(w:World K H L)(h:x.ok K H)(e:x.as=[]):World K H (⇑x::L):=by
 have e1:∀a,a∉x.own:=λa ha=>by have:=Sl.own_as ha;rw[e]at this;exact nomatch this
 have e2:∀a,a∉x.frz:=λa ha=>by have:=Sl.frz_as ha;rw[e]at this;exact nomatch this
 have e3:=List.eq_nil_iff_forall_not_mem.mpr e1;exact w.cons h (by simp_all) (λa z=>absurd z (e1 a)) (λa z=>absurd z (e1 a)) (λa z=>absurd z (e2 a)) (λa z=>absurd z (e1 a))
def _ej{L:Ls}{i q}(h:⇑y∈L.set i q):q=⇑y\/⇑y∈L:=by
 rcases List.mem_or_eq_of_mem_set h with z|z
 ·exact .inr z
 ·exact .inl z.symm
def YV{i a}(h:a∈jv (L.set i ⇑x)):a∈x.own\/a∈jv L:=by
 obtain⟨y,hy,ha⟩:=mem_owned.mp h;rcases _ej hy with z|z
 ·grind
 ·exact .inr (mem_owned.mpr #[y,z,ha])
def _ek{i a}(h:a∈jZ (L.set i ⇑x)):a∈x.frz\/a∈jZ L:=by
 obtain⟨y,hy,ha⟩:=mem_frozen.mp h;rcases _ej hy with z|z
 ·grind
 ·exact .inr (mem_frozen.mpr #[y,z,ha])
def _el:∀{L i},(x.own++jv L).Nodup->(jv (L.set i ⇑x)).Nodup
 |[],_,h=>by simp
 |q::L,0,h=>by
  rw[List.set_cons_zero,k3];have e:jv (q::L)=q.elim [] Sl.own++jv L:=by simp[jv]
  rw[e,Xa]at h;obtain⟨h1,h2,h3⟩:=h;rw[Xa]at h2 ⊢;exact#[h1,h2.2.1,λa ha b hb=>h3 a ha b (_ab _ hb)]
 |q::L,i+1,h=>by
  rw[List.set_cons_succ];have e:∀M,jv (q::M)=q.elim [] Sl.own++jv M:=λM=>by simp[jv]
  rw[e]at h ⊢;rw[Xa]at h;obtain⟨h1,h2,h3⟩:=h;rw[Xa]at h2;rw[Xa];refine#[h2.1,_el (by rw[Xa];exact#[h1,h2.2.1,λa ha b hb=>h3 a ha b (_ab _ hb)]),λa ha b hb e=>?_];subst e;rcases YV hb with z|z
  ·exact h3 a z a (_ac _ ha) rfl
  ·exact h2.2.2 a ha a z rfl
def World.set{i}(w:World K H (⇑x::L)):World K H (L.set i ⇑x):=by
 refine#[λy hy=>?_,_el (by have:=w.nd;rwa [k3]at this),λa ha hf=>?_]
 ·rcases _ej hy with z|z
  ·cases z;exact w.head
  ·exact w.ok y (_ad _ z)
 ·refine w.ds a ?_ ?_
  ·rw[k3];exact List.mem_append.mpr (YV ha)
  ·rw[vY];exact List.mem_append.mpr (_ek hf)
def Step.set{i}:Step H (⇑x::L) H (L.set i ⇑x) where
 keep:=λ_ _ h _=>h
 own:=λa ha=>.inl (List.mem_append.mpr (YV ha))
 frz:=λa ha=>.inl (List.mem_append.mpr (_ek ha))
def Step.drop{q}:Step H (q::L) H L where
 keep:=λ_ _ h _=>h
 own:=λa ha=>.inl (by rw[show(q::L:Ls)=[q]++L from rfl];exact _ab _ ha)
 frz:=λa ha=>.inl (by rw[show(q::L:Ls)=[q]++L from rfl];exact _ab _ ha)
def vz{i:Nat}(h:L[i]?=some ⇑x):⇑x∈L:=Yu h
def _em(x:Sl):x.let.own=[]/\x.let.frz=x.as/\x.let.as=x.as:=#[rfl,rfl,rfl]
def _en{i a}(h:a∈jv (L.set i ⇑x.let)):a∈jv L:=by
 rcases YV h with z|z
 ·exact nomatch z
 ·exact z
def _eo:∀{L i},(jv L).Nodup->(∀a∈jv L,a∉jZ L)->L[i]?=⇑(⇑x)->∀a∈x.as,a∉jv (L.set i ⇑x.let)
 | [],_,_,_,h,_,_=>by simp_all
 | q::L,0,nd,ds,h,a,ha=>by
  have e:q=⇑x:= ~~~h
  subst e;intro hm;rcases Sl.as_of ha with z|z
  ·rw[k3,Xa]at nd;exact nd.2.2 a z a hm rfl
  ·exact ds a (_ab _ hm) (_ac _ z)
 | q::L,i+1,nd,ds,h,a,ha=>by
  have e:∀M,jv (q::M)=q.elim [] Sl.own++jv M:=λM=>by simp[jv]
  have f:jZ (q::L)=q.elim [] Sl.frz++jZ L:=by simp[jZ]
  intro hm;rw[e,Xa]at nd;rcases aA hm with hm|hm
  ·rcases Sl.as_of ha with z|z
   ·exact nd.2.2 a hm a (mem_owned.mpr #[x,vz h,z]) rfl
   ·exact ds a (_ac _ hm) (by rw[f];exact _ab _ (mem_frozen.mpr #[x,vz h,z]))
  ·exact _eo nd.2.1 (λb hb hf=>ds b (_ab _ hb) (f▸_ab _ hf)) h a ha hm
def JW(h:x.ok K H):x.let.ok K H:=RepO.wk h
def World.let{i}(w:World K H L)(h:L[i]?=some ⇑x):World K H (L.set i ⇑x.let):=by
 refine#[λy hy=>?_,_el ((_em x).1▸w.nd),λa ha hf=>?_]
 ·rcases _ej hy with z|z
  ·cases z;exact JW (w.ok x (vz h))
  ·exact w.ok y z
 ·rcases _ek hf with z|z
  ·exact(_eo w.nd w.ds h) a z ha
  ·exact w.ds a (_en ha) z
def World.read{i}(w:World K H L)(h:L[i]?=some ⇑x):World K H (⇑x.let::L.set i ⇑x.let):=
 (w.let h).consNo (JW (w.ok x (vz h))) rfl (_eo (x:=x) w.nd w.ds h)
def Step.read{i}(h:L[i]?=some ⇑x):Step H L H (⇑x.let::L.set i ⇑x.let) where
 keep:=λ_ _ h _=>h
 own:=λa ha=>.inl (_en ha)
 frz:=λa ha=>by
  have hx:=vz h;have q:∀a∈x.as,a∈jZ L\/a∈jv L\/H a=none:=λa ha=>by
   rcases Sl.as_of ha with z|z
   ·exact .inr (.inl (mem_owned.mpr #[x,hx,z]))
   ·exact .inl (mem_frozen.mpr #[x,hx,z])
  rcases aA ha with z|z
  ·exact q a z
  ·rcases _ek z with z|z
   ·exact q a z
   ·exact .inl z
end
inductive Mt:En->L2.St->Ls->Prop
 |nil:Mt [] [] []
 |un {E:En} {σ:L2.St} {L:Ls} {y:Option V}:Mt E σ L->Mt (none::E) (y :: σ) (none::L)
 |cons {E:En} {σ:L2.St} {L:Ls} {x:Sl}:Mt E σ L->Mt (⇑(x.o,x.d)::E) (⇑x.v :: σ) (⇑x::L)
def Mt.get:∀{E σ L} {i:Nat} {o d},Mt E σ L->E[i]?=⇑(⇑(o,d))->∃x,L[i]?=some ⇑x/\x.o=o/\x.d=d/\σ[i]?=some ⇑x.v
 |_,_,_,_,_,_,.nil,h=>by simp_all|_,_,_,0,_,_,.un _,h=>by simp_all|_,_,_,i+1,_,_,.un m,h=>by simpa using m.get (~~~h)
 |_,_,_,0,_,_,.cons (x:=x) m,h=>by
  simp at h;exact#[x,by simp,h.1,h.2,by simp]
 |_,_,_,i+1,_,_,.cons m,h=>by simpa using m.get (~~~h)
def Mt.set{x}:∀{E σ L} (i),Mt E σ L->Mt (E.set i ⇑(x.o,x.d)) (σ.set i ⇑x.v) (L.set i ⇑x)
 |_,_,_,_,.nil=>.nil|_,_,_,0,.un m=>.cons m|_,_,_,i+1,.un m=>.un (m.set i)|_,_,_,0,.cons m=>.cons m|_,_,_,i+1,.cons m=>.cons (m.set i)
def Mt.let{x}:∀{E σ L i},Mt E σ L->L[i]?=⇑(⇑x)->Mt (E.set i ⇑(.no,x.d)) σ (L.set i ⇑x.let)
 |_,_,_,_,.nil,h=>by simp_all|_,_,_,i+1,.un m,h=>.un (m.let (~~~h))
 |_,_,_,0,.cons (x:=y) m,h=>by
  have e:y=x:= ~~~h
  subst e;exact .cons (x:=y.let) m
 |_,_,_,i+1,.cons m,h=>.cons (m.let (~~~h))
def Mt.len:∀{E σ L},Mt E σ L->E.length=σ.length/\L.length=σ.length
 |_,_,_,.nil=>#[rfl,rfl]|_,_,_,.un m=>by simp[m.len]|_,_,_,.cons m=>by simp[m.len]
def sls(L:Ls):List Sl:=L.filterMap id
def Qk L:jv L=(sls L).flatMap Sl.own:=by
 induction L with
 |nil=>rfl
 |cons q L ih=>
  cases q with|none=>rw[qvh,ih];rfl|some x=>rw[k3,ih];rfl
def QQ L:jZ L=(sls L).flatMap Sl.frz:=by
 induction L with
 |nil=>rfl
 |cons q L ih=>
  cases q with|none=>rw[qju,ih];rfl|some x=>rw[vY,ih];rfl
def mem_sls{L x}:x∈sls L↔⇑x∈L:=by simp[sls]
@[simp] theorem W6 (L T):sls (L++T)=sls L++sls T:=by simp[sls]
@[simp] theorem vve (L:Ls):sls (none::L)=sls L:=rfl
@[simp] theorem xqk (x:Sl)(L:Ls):sls (⇑x::L)=x::sls L:=rfl
@[simp] theorem xvc:sls []=[]:=rfl
@[simp] theorem xvd T:sls (T.map some)=T:=by simp[sls]
@[simp] theorem xvb k:sls (List.replicate k none)=[]:=by
 induction k with|zero=>rfl|succ k ih=>rw[List.replicate_succ,vve,ih]
def _ep{α β:Type}(f:α->List β){l l':List α}(h:l.Sublist l'):(l.flatMap f).Sublist (l'.flatMap f):=by
 induction h with|slnil=>exact List.Sublist.refl _|cons a _ ih=>rw[List.flatMap_cons];exact List.Sublist.trans ih (List.sublist_append_right _ _)|cons_cons a _ ih=>rw[List.flatMap_cons];exact List.Sublist.append (List.Sublist.refl _) ih
section
variable {K:Frag}{H H':Hp}{L L' M M':Ls}
def World.same(w:World K H L)(p:(sls L).Perm (sls L')):World K H L':=by
 have po:(jv L).Perm (jv L'):=by rw[Qk,Qk];exact p.flatMap_right _
 have pf:(jZ L).Perm (jZ L'):=by rw[QQ,QQ];exact p.flatMap_right _
 exact#[λx hx=>w.ok x (mem_sls.mp (p.mem_iff.mpr (mem_sls.mpr hx))),po.nodup_iff.mp w.nd,λa ha hf=>w.ds a (po.mem_iff.mpr ha) (pf.mem_iff.mpr hf)]
def Step.same(s:Step H L H' L')(p:(sls L).Perm (sls M))(p':(sls L').Perm (sls M')):Step H M H' M':=by
 have po:(jv L).Perm (jv M):=by rw[Qk,Qk];exact p.flatMap_right _
 have pf:(jZ L).Perm (jZ M):=by rw[QQ,QQ];exact p.flatMap_right _
 have po':(jv L').Perm (jv M'):=by rw[Qk,Qk];exact p'.flatMap_right _
 have pf':(jZ L').Perm (jZ M'):=by rw[QQ,QQ];exact p'.flatMap_right _
 exact#[λa ob h hn=>s.keep a ob h λz=>hn (po.mem_iff.mp z),λa ha=>(s.own a (po'.mem_iff.mpr ha)).imp (λz=>po.mem_iff.mp z) id,
  λa ha=>(s.frz a (pf'.mem_iff.mpr ha)).imp (λz=>pf.mem_iff.mp z) λz=>z.imp (λz=>po.mem_iff.mp z) id]
def World.sub(w:World K H L)(p:(sls L').Sublist (sls L)):World K H L':=by
 refine#[λx hx=>w.ok x (mem_sls.mp (p.subset (mem_sls.mpr hx))),?_,λa ha hf=>w.ds a ?_ ?_]
 ·have:=w.nd;rw[Qk]at this ⊢;exact(_ep _ p).nodup this
 ·rw[Qk]at ha ⊢;exact(_ep _ p).subset ha
 ·rw[QQ]at hf ⊢;exact(_ep _ p).subset hf
def Step.sub(s:Step H L H' L')(p:(sls M).Sublist (sls L')):Step H L H' M:=by
 refine#[s.keep,λa ha=>s.own a ?_,λa ha=>s.frz a ?_]
 ·rw[Qk]at ha ⊢;exact(_ep _ p).subset ha
 ·rw[QQ]at ha ⊢;exact(_ep _ p).subset ha
end
def _eq:∀{L:Ls} {j},(sls (at' L j::L.set j none)).Perm (sls L)
 | [],j=>by simp[at']
 | q::L,0=>by
  cases q with|none=>simp[at']|some x=>simp[at']
 | q::L,j+1=>by
  have ih:=_eq (L:=L) (j:=j);have e:at' (q::L) (j+1)=at' L j:=by simp[at']
  rw[e];have e2:∀a b M,(sls (a::b::M)).Perm (sls (b::a::M)):=λa b M=>by
   cases a<;>cases b<;>simp[sls]
   exact List.Perm.swap ..
  refine(e2 _ _ _).trans ?_;cases q with|none=>simpa [sls]using ih|some y=>simpa [sls]using ih
def _er:∀{R} {L:Ls},R.Nodup->(sls (R.map (at' L)++clr R L)).Perm (sls L)
 | [],L,_=>by simp[clr]
 | j::R,L,h=>by
  rw[Yn]at h;have e:R.map (at' L)=R.map (at' (L.set j none)):=by
   apply Y5;intro i hi;have:j≠i:=λe=>h.1 (e▸hi)
   unfold at';rw[Yt this]
  rw[List.map_cons,clr,e];have ih:=_er (L:=L.set j none) h.2;refine List.Perm.trans ?_ (_eq (j:=j));cases hq:at' L j with|none=>simpa [sls]using ih|some x=>simpa [sls]using ih
def _es{α}:∀{R} {L:List (Option α)},(clr R L).length=L.length
 |[],_=>rfl|j::R,L=>by rw[clr,_es,List.length_set]
def _et{α}:∀{R} {L:List (Option α)} {j},j∈R->at' (clr R L) j=none
 | [],_,_,h=>by grind
 | i :: R,L,j,h=>by
  rw [clr]
  by_cases hR:j∈R
  ·exact _et hR
  ·have e:j=i:=by simpa [hR]using h
   subst e;have gen:∀{R} {M:List (Option α)},j∉R->at' (clr R M) j=at' M j:=by
    intro R
    induction R with
    |nil=>intro M _;rfl
    |cons r R ih=>
     intro M h;rw[Yq,not_or]at h;rw[clr,ih h.2];unfold at';rw[Yt (Ne.symm h.1)]
   rw[gen hR];unfold at'
   by_cases hl:j<L.length
   ·rw[List.getElem?_set_self hl];rfl
   ·rw[List.set_eq_of_length_le ⋯,Xz ⋯];rfl
def _eu:∀{R} {B L:Ls},R.Nodup->(∀j∈R,at' L j=none)->(∀j∈R,j<L.length)->B.length=R.length->(sls (back R B L)).Perm (sls (B++L))
 | [],B,L,_,_,_,hl=>by
  have:B=[]:= ~~~hl
  subst this;simp [back]
 | j :: R,q::B,L,hn,hz,hr,hl=>by
  rw [Yn]at hn;have ih:=_eu (L:=L.set j q) hn.2 (λi hi=>by
   have:j≠i:=λe=>hn.1 (e▸hi)
   unfold at';rw [Yt this];exact hz i (_ad _ hi)) (λi hi=>by rw[List.length_set];exact hr i (_ad _ hi)) (~~~hl)
  refine ih.trans ?_;have sp:∀{M i},at' M i=none->i<M.length->(sls (M.set i q)).Perm (sls (q::M)):=by
   intro M
   induction M with
   | nil=>intro i _ h;simp at h
   | cons r M ihM=>
    intro i h1 h2;cases i with
    | zero=>
     have:r=none:=by simpa [at']using h1
     subst this;cases q<;>simp[sls]
    | succ i=>
     have:=ihM (by simpa [at']using h1) (~~~h2);cases r with
     | none=>cases q<;>simpa [sls]using this
     | some y=>
      cases q with
      |none=>simpa [sls]using this
      |some x=>
       exact(this.cons y).trans (List.Perm.swap ..)
  rw[W6];have h2:(sls B++sls _).Perm _:=(sp (hz j X5) (hr j X5)).append_left _;refine h2.trans ?_;cases q with
  |none=>simp
  |some x=>
   simp only[W6];exact List.perm_middle
section
variable {K:Frag}{H H1 H2 H':Hp}{L L1 L' T:Ls}{x y:Sl}
def _ev(p:L.Perm L'):(jv L).Perm (jv L'):=p.flatMap_right _
def _ew(p:L.Perm L'):(jZ L).Perm (jZ L'):=p.flatMap_right _
def World.perm(w:World K H L)(p:L.Perm L'):World K H L':=
 #[λx hx=>w.ok x (p.mem_iff.mpr hx),(_ev p).nodup_iff.mp w.nd,λa ha hf=>w.ds a ((_ev p).mem_iff.mpr ha) ((_ew p).mem_iff.mpr hf)]
def Step.perm(s : Step H L H' L'){M M' : Ls}(p : L.Perm M)(p' : L'.Perm M'): Step H M H' M':=
  #[λa ob h hn=>s.keep a ob h λz=>hn ((_ev p).mem_iff.mp z),
   λa ha=>(s.own a ((_ev p').mem_iff.mpr ha)).imp (λz=>(_ev p).mem_iff.mp z) id,
   λa ha=>(s.frz a ((_ew p').mem_iff.mpr ha)).imp (λz=>(_ew p).mem_iff.mp z) λz=>z.imp (λz=>(_ev p).mem_iff.mp z) id]
def Step.frm(s:Step H L H' L'):Step H (L++T) H' (L'++T) where
 keep:=λa ob h hn=>s.keep a ob h λz=>hn (by rw[kj];exact _ac _ z)
 own:=λa ha=>by
  rw[kj]at ha ⊢;rcases aA ha with z|z
  ·exact(s.own a z).imp (_ac _) id
  ·exact .inl (_ab _ z)
 frz:=λa ha=>by
  rw[v5]at ha ⊢;rw[kj];rcases aA ha with z|z
  ·exact(s.frz a z).imp (_ac _) λz=>z.imp (_ac _) id
  ·exact .inl (_ab _ z)
def _ex(w:World K H (T++L))(s:Step H L H' L')(w':World K H' L'):World K H' (T++L')/\Step H (T++L) H' (T++L'):=by
 have w1:=w.comm;exact#[(s.frame w1 w' w1.left).comm,s.frm.perm List.perm_append_comm List.perm_append_comm]
end
def ex8{α β γ:Type}{P:Prop}{a b c d e:α->β->γ->Prop}(h:∃x y z,a x y z/\b x y z/\c x y z/\d x y z/\e x y z)(f:∀x y z,a x y z->b x y z->c x y z->d x y z->e x y z->P):P:=
 h.elim λx h=>h.elim λy h=>h.elim λz h=>f x y z h.1 h.2.1 h.2.2.1 h.2.2.2.1 h.2.2.2.2
def ex7{α β γ:Type}{P:Prop}{a b c d:α->β->γ->Prop}(h:∃x y z,a x y z/\b x y z/\c x y z/\d x y z)(f:∀x y z,a x y z->b x y z->c x y z->d x y z->P):P:=
 h.elim λx h=>h.elim λy h=>h.elim λz h=>f x y z h.1 h.2.1 h.2.2.1 h.2.2.2
def kY{X e t t'}(h:PE X e t)(w:∀ σ H Q,t' σ H Q->t σ H Q):PE X e t':=λa8 s σ H Q I q=>h a8 s σ H Q I (w σ H Q q)
def _ey{X e t t'}(h:PT X e t)(w:∀ σ H Q,t' σ H Q->t σ H Q):PT X e t':=λa8 s σ H Q I q=>h a8 s σ H Q I (w σ H Q q)
def K7{X e t t'}(h:PS X e t)(w:∀D σ H,t' D σ H->t D σ H):PS X e t':=λa8 s σ H D I q=>h a8 s σ H D I (w D σ H q)
def _ez{X e t t'}(h:PSs X e t)(w:∀D σ H,t' D σ H->t D σ H):PSs X e t':=λa8 s σ H D I q=>h a8 s σ H D I (w D σ H q)
structure Fx0 where
 K:Frag
 mg:Str->Option Value
 EX:XK
def Xc{α:Type}(Z:Fx0)(σ:L2.St)(H:Hp)(L:Ls)(r:Res α):Prop:=∀E' c,r=.exc E' c->∀C L' H',Z.mg c=⇑(.ref C)->Mt E' σ L'->World Z.K H' L'->Step H L H' L'->Z.EX (.ref C) none H'
def Xc.step{α Z σ H H1 L L1}{r:Res α}(x:Xc Z σ H L r)(s:Step H L H1 L1):Xc Z σ H1 L1 r:=λE' c e C L' H' hm m w s'=>x E' c e C L' H' hm m w (s.trans s')
def Xc.map{α β Z σ H L}{r:Res α}{E' c}(x:Xc Z σ H L r)(e:r=.exc E' c):Xc Z σ H L (.exc E' c:Res β):=λE1 c1 e1=>by
 injection e1 with h1 h2;subst h1 h2;exact x _ _ e
def tQ(Z:Fx0)(q:Bool)(c:Ex):TE:=fun σ H Q=>∃E L r,Mt E σ L/\World Z.K H L/\c E=⇑r/\Xc Z σ H L r /\
 ∀E' a,r=.ok E' a->∀(x:Sl) L' H',x.o=a.1->x.d=a.2->Mt E' σ L'->World Z.K H' (⇑x::L')->Step H L H' (⇑x::L')->(q=true->k9 H H'/\∀b∈x.own,H b=none)->Q x.v H'
def Src(H:Hp)(L:Ls)(as:List Addr):Prop:=∀b∈as,b∈jZ L\/b∈jv L\/H b=none
def Src.back{H H1 L L1 as}(h:Src H1 L1 as)(s:Step H L H1 L1):Src H L as:=λb hb=>by
 rcases h b hb with z|z|z
 ·exact s.frz b z
 ·exact .inr (s.own b z)
 ·by_cases ho:b∈jv L
  ·exact .inr (.inl ho)
  ·refine .inr (.inr ?_);cases e:H b with|none=>rfl|some ob=>rw[s.keep b ob e ho]at z;cases z
def tV(Z:Fx0)(q:Bool)(c:Ex):TE:=fun σ H Q=>∃E L r,Mt E σ L/\World Z.K H L/\c E=⇑r/\Xc Z σ H L r /\
 ∀E' a,r=.ok E' a->∀(x:Sl) L' H',x.o=a.1->x.d=a.2->Mt E' σ L'->World Z.K H' L'->x.ok Z.K H'->(∀b∈x.frz,b∉jv L')->Src H L x.as->Step H L H' L'->(q=true->k9 H H')->Q x.v H'
def QE(X:Cx)(Z:Fx0)(q:Bool)(c:Ex)(e:Expr):Prop:=PE X e (tQ Z q c)
def QV(X:Cx)(Z:Fx0)(q:Bool)(c:Ex)(e:Expr):Prop:=PE X e (tV Z q c)
section
variable {X:Cx}{Z:Fx0}{q qa qb:Bool}{a b c:Ex}{e ea eb:Expr}{pos:Pos}{α:Type}{σ:L2.St}{H:Hp}{L:Ls}{E:En}
def wv{β m}{F:En->α->Option _}{r:Res β}(h:bnd m F=⇑r):(∃E1 x,m=⇑(.ok E1 x)/\F E1 x=⇑r)\/∃E1 c,m=⇑(.exc E1 c)/\r=.exc E1 c:=by
 cases m with
 |none=>cases h
 |some q=>
  cases q with|ok E1 x=>exact .inl #[E1,x,rfl,h]|exc E1 c=>exact .inr #[E1,c,rfl,(_aa h).symm]
def W3{F}{r:Res α}{G}(m:Mt E σ L)(w:World Z.K H L)(h:bnd (a E) F=⇑r)(xc:Xc Z σ H L r)
  (k:∀E1 s,F E1 s=⇑r->∀x L1 H1,x.o=s.1->x.d=s.2->Mt E1 σ L1->World Z.K H1 (⇑x::L1)->Step H L H1 (⇑x::L1)->(q=true->k9 H H1/\∀b∈x.own,H b=none)->G x.v H1):tQ Z q a σ H G:=by
 rcases wv h with⟨E1,s,h1,h2⟩|⟨E1,c,h1,h2⟩
 ·exact#[E,L,_,m,w,h1,(λ_ _ z=>by cases z),λE' s' z x L' H' e1 e2 m' w' st sm=>by
   injection z with z1 z2;subst z1 z2;exact k _ _ h2 x L' H' e1 e2 m' w' st sm]
 ·exact#[E,L,_,m,w,h1,xc.map h2,λE' s' z=>by cases z]
def qY{F}{r:Res α}{G}(m:Mt E σ L)(w:World Z.K H L)(h:bnd (a E) F=⇑r)(xc:Xc Z σ H L r)
  (k:∀E1 s,F E1 s=⇑r->∀(x:Sl) L1 H1,x.o=s.1->x.d=s.2->Mt E1 σ L1->World Z.K H1 L1->x.ok Z.K H1->(∀b∈x.frz,b∉jv L1)->Src H L x.as->Step H L H1 L1->(q=true->k9 H H1)->G x.v H1):tV Z q a σ H G:=by
 rcases wv h with⟨E1,s,h1,h2⟩|⟨E1,c,h1,h2⟩
 ·exact#[E,L,_,m,w,h1,(λ_ _ z=>by cases z),λE' s' z x L' H' e1 e2 m' w' ok fr sr st sm=>by
   injection z with z1 z2;subst z1 z2;exact k _ _ h2 x L' H' e1 e2 m' w' ok fr sr st sm]
 ·exact#[E,L,_,m,w,h1,xc.map h2,λE' s' z=>by cases z]
def K3{x:Sl}{K H1 H2 L1 L2'}(ok:x.ok K H1)(fr:∀b∈x.frz,b∉jv L1)(st:Step H1 L1 H2 L2')(sm:k9 H1 H2):x.ok K H2/\∀b∈x.frz,b∉jv L2':=
 #[RepO.kp ok (Kp.of_same sm),λb hb ho=>(st.own b ho).elim (fr b hb) λz=>ok.some (Sl.frz_as hb) z]
def x6{x}{r:Res α}(h:val E x=⇑r):∃y,x=⇑y/\r=.ok E y:=by
 cases x with|none=>cases h|some y=>exact#[y,rfl,(_aa h).symm]
def QE.weak(h:QE X Z true c e):QE X Z q c e:=kY h fun σ H Q ai=>ex8 ai λE L r m w hc xc k=>#[E,L,r,m,w,hc,xc,λE' s z x L' H' e1 e2 m' w' st sm=>k E' s z x L' H' e1 e2 m' w' st λ_=>sm rfl]
def _eA{x H1}{L1:Ls}(st:Step H L H1 (⇑x::L1)):Src H L x.as:=λb hb=>by
 rcases Sl.as_of hb with z|z
 ·exact .inr (st.own b (_ac _ z))
 ·exact st.frz b (_ac _ z)
def j7(h:QE X Z q c e):QV X Z q (vE c) e:=kY h fun σ H Q ai=>ex8 ai λE L r m w hc xc k=>
 W3 m w hc xc λE1 s h1 x L1 H1 e1 e2 m1 w1 st sm=>by
  cases _aa h1;exact k _ _ rfl x.let L1 H1 rfl e2 m1 w1.tail (JW w1.head) (λb hb=>w1.apart b hb) (_eA (x:=x) st) (st.trans Step.drop) λhq=>(sm hq).1
def Jw{x H1 L1}(st:Step H L H1 L1)(sr:Src H L x.as)(ho:x.own=[]):Step H L H1 (⇑x::L1) where
 keep:=st.keep
 own:=λb hb=>by rw[k3,ho]at hb;exact st.own b hb
 frz:=λb hb=>by
  rcases aA hb with z|z
  ·exact sr b (Sl.frz_as z)
  ·exact st.frz b z
def _eB{x:Sl}(h:x.o=.no):x.own=[]:=by unfold Sl.own;rw[h]
def _eC{x:Sl}(h:x.o=.no):x.frz=x.as:=by unfold Sl.frz;rw[h]
def _eD{x:Sl}(h:x.as=[]):x.own=[]:=List.eq_nil_iff_forall_not_mem.mpr λa ha=>by have:=Sl.own_as ha;rw[h]at this;exact nomatch this
def jz(h:QV X Z q c e):QE X Z q (cH c) e:=kY h fun σ H Q ai=>ex8 ai λE L r m w hc xc k=>
 qY m w hc xc λE1 s h1 x L1 H1 e1 e2 m1 w1 ok fr sr st sm=>by
  by_cases ho:s.1=.no
  ·rw[Xb ho]at h1;cases _aa h1;have eo:=e1.trans ho;exact k _ _ rfl x L1 H1 eo e2 m1 (w1.consNo ok eo λb hb=>fr b (_eC eo▸hb)) (Jw st sr (_eB eo)) λhq=>#[sm hq,by rw[_eB eo];exact λ_ z=>(nomatch z)]
  ·rw[Xj ho]at h1
   by_cases hp:s.2.pure=true
   ·rw[Xb hp]at h1;cases _aa h1;obtain⟨z,rp⟩:=RepL.pu (g':=false) (RepO.wk ok) (by simp_all);exact k _ _ rfl #[.dp,x.d,x.v,[]] L1 H1 rfl e2 m1 (w1.consPu rp rfl) (Jw st (nofun) rfl) λhq=>#[sm hq,λ_ z=>(nomatch z)]
   ·simp_all
def q_C{d v}(h:PE X e (tC v))(hr:∀H,RepL Z.K H false d v []):QE X Z true (cC d) e:=kY h fun σ H Q ai=>ex8 ai λE L r m w hc xc k=>by
 cases _aa hc;exact k _ _ rfl #[.dp,d,v,[]] L H rfl rfl m (w.consPu (hr H) rfl) (Jw Step.refl (nofun) rfl) λ_=>#[λ_ _ z=>z,λ_ z=>(nomatch z)]
#where in
def q_V{i}(h:PE X e (wV i)):QE X Z true (cV i) e:=kY h fun σ H Q ai=>ex8 ai λE L r m w hc xc k=>by
 unfold cV at hc
 split at hc
 ·rename_i o d hE;cases _aa hc;obtain⟨x,h1,h2,h3,h4⟩:=m.get hE;refine#[x.v,h4,k _ _ rfl x.let _ H rfl h3 ?_ (w.read h1) (Step.read h1) λ_=>#[λ_ _ z=>z,λ_ z=>(nomatch z)]];have:=m.let h1
  rwa [h3]at this
 ·cases hc
def _eE:∀{E σ} {L} j,Mt E σ L->Mt (E.set j none) σ (L.set j none):=by
 intro E σ L j m
 induction m generalizing j with
 |nil=>exact .nil
 |un m ih=>cases j with|zero=>exact .un m|succ j=>exact .un (ih j)
 |cons m ih=>cases j with|zero=>exact .un m|succ j=>exact .cons (ih j)
def _eF{x}:∀{L:Ls} {i},L[i]?=⇑(⇑x)->(none::L).Perm (⇑x::L.set i none)
 |[],_,h=>by simp_all
 |q::L,0,h=>by
  have e:q=⇑x:= ~~~h
  subst e;exact List.Perm.swap ..
 |q::L,i+1,h=>by
  have:=_eF (~~~h);exact(List.Perm.swap ..).trans ((this.cons q).trans (List.Perm.swap ..))
#where in
def Qj{i}(h:PE X e (wV i)):QE X Z false (cMv i) e:=kY h fun σ H Q ai=>ex8 ai λE L r m w hc xc k=>by
 unfold cMv at hc
 split at hc
 ·rename_i s hE;cases _aa hc;obtain⟨x,h1,h2,h3,h4⟩:=m.get hE;have wn:World Z.K H (none::L):=#[λy hy=>w.ok y (by simp_all),~~~w.nd,~~~w.ds];have sn:Step H L H (none::L):=#[λ_ _ z _=>z,λa z=>.inl (by simp_all),λa z=>.inl (by simp_all)];exact#[x.v,h4,k _ _ rfl x _ H h2 h3 (_eE i m) (wn.perm (_eF h1)) (sn.trans (Step.refl.perm (List.Perm.refl _) (_eF h1))) λz=>(nomatch z)]
 ·cases hc
#where in
def q_vV{i}(h:PE X e (wV i)):QV X Z true (vV i) e:=kY h fun σ H Q ai=>ex8 ai λE L r m w hc xc k=>by
 unfold vV at hc
 split at hc
 ·rename_i s hE;cases _aa hc;obtain⟨x,h1,h2,h3,h4⟩:=m.get hE;have hx:=vz h1;refine#[x.v,h4,k _ _ rfl x L H h2 h3 m w (w.ok x hx) (λb hb ho=>w.ds b ho (mem_frozen.mpr #[x,hx,hb])) (λb hb=>?_) Step.refl λ_=>λ_ _ z=>z];rcases Sl.as_of hb with z|z
  ·exact .inr (.inl (mem_owned.mpr #[x,hx,z]))
  ·exact .inl (mem_frozen.mpr #[x,hx,z])
 ·cases hc
structure Out (K:Frag)(H H':Hp)(z:Sl)(fr:List Addr):Prop where
 same:k9 H H'
 ok:z.ok K H'
 new:∀b∈z.own,H b=none
 nd:z.own.Nodup
 fr:∀b∈z.frz,b∈fr
def Ad1(K:Frag)(r:V->Hp->VK->Prop)(f:Sd->Option Sd):Prop:=∀(H:Hp) (x:Sl) (s:Sd) (Q:VK),x.ok K H->f (x.o,x.d)=⇑s->(∀(z:Sl) H',z.o=s.1->z.d=s.2->Out K H H' z x.frz->Q z.v H')->r x.v H Q
def Ad2(K:Frag)(r:R2)(f:Sd->Sd->Option Sd):Prop:=∀(H:Hp) (x y:Sl) (s:Sd) (Q:VK),x.ok K H->y.ok K H->f (x.o,x.d) (y.o,y.d)=⇑s->(∀(z:Sl) H',z.o=s.1->z.d=s.2->Out K H H' z (x.frz++y.frz)->Q z.v H')->r x.v y.v H Q
def _eG{K H H' d v fr}(s:k9 H H')(r:RepL K H' false d v []):Out K H H' #[.dp,d,v,[]] fr:=#[s,r,λ_ h=>(nomatch h),Xp,λ_ h=>(nomatch h)]
def z8{H}:k9 H H:=λ_ _ z=>z
def kZ{H H1 H2}(a:k9 H H1)(b:k9 H1 H2):k9 H H2:=λc ob h=>b c ob (a c ob h)
def Qx{z fr H1 H2 L1}(w:World Z.K H1 L1)(st:Step H L H1 L1)(o:Out Z.K H1 H2 z fr)(ap:∀b∈fr,b∉jv L1)(al:∀b∈fr,H1 b≠none)(sr:Src H L fr):
  World Z.K H2 (⇑z::L1)/\Step H L H2 (⇑z::L1):=by
 have w2:World Z.K H2 L1:=#[λx hx=>RepO.kp (w.ok x hx) (Kp.of_same o.same),w.nd,w.ds];refine#[w2.cons o.ok o.nd (λb hb ho=>w.own_some ho (o.new b hb)) (λb hb hf=>w.frz_some hf (o.new b hb)) (λb hb=>ap b (o.fr b hb)) (λb hb hf=>al b (o.fr b hf) (o.new b hb)),(#[λb ob h hn=>o.same b ob (st.keep b ob h hn),λb hb=>?_,λb hb=>?_])]
 ·rcases aA hb with z|z
  ·by_cases ho:b∈jv L
   ·exact .inl ho
   ·refine .inr ?_;cases e:H b with|none=>rfl|some ob=>have:=o.new b z;rw[st.keep b ob e ho]at this;cases this
  ·exact st.own b z
 ·rcases aA hb with z|z
  ·exact sr b (o.fr b z)
  ·exact st.frz b z
def Vv{as bs}(h:Src H L as)(hb:∀b∈bs,b∈as):Src H L bs:=λb z=>h b (hb b z)
def _eH{as bs}(h:Src H L as)(h':Src H L bs):Src H L (as++bs):=λb z=>(aA z).elim (h b) (h' b)
def J8{H H1 b}(s:k9 H H1)(h:H1 b=none):H b=none:=by
 cases e:H b with|none=>rfl|some ob=>rw[s b ob e]at h;cases h
def XZ{r f}(ad:Ad1 Z.K r f){Q}(h:tQ Z q (cF1 f a) σ H Q):tUn r (tV Z q a) σ H Q:=by
 obtain⟨E,L,R,m,w,hc,xc,k⟩:=h;refine qY m w hc xc λE1 s h1 x L1 H1 e1 e2 m1 w1 ok fr sr st sm=>?_
 obtain⟨z,hz,rfl⟩:=x6 h1;refine ad H1 x z Q ok (by simp_all) λy H' ho hd o=>?_
 obtain⟨w3,dl⟩:=Qx w1 st o fr (λb hb=>ok.some (Sl.frz_as hb)) (Vv sr λb hb=>Sl.frz_as hb);exact k _ _ rfl y L1 H' ho hd m1 w3 dl λhq=>#[kZ (sm hq) o.same,λb hb=>J8 (sm hq) (o.new b hb)]
def _eI{r f}(ad:Ad2 Z.K r f){Q}(h:tQ Z qa (cF2 f a b) σ H Q):tOp r (tV Z qa a) (tV Z true b) σ H Q:=by
 obtain⟨E,L,R,m,w,hc,xc,k⟩:=h;refine qY m w hc xc λE1 s h1 x L1 H1 e1 e2 m1 w1 ok fr sr st sm=>(qY m1 w1 h1 (xc.step st) λE2 s2 h2 y L2 H2 e3 e4 m2 w2 gm ou pd bo dk=>?_)
 obtain⟨z,hz,rfl⟩:=x6 h2;have kx:=K3 ok fr bo (dk rfl);refine ad H2 x y z Q kx.1 gm (by simp_all) λy' H' ho hd o=>?_
 obtain⟨w3,dl⟩:=Qx w2 (st.trans bo) o (λb hb=>(aA hb).elim (kx.2 b) (ou b)) (λb hb=>(aA hb).elim (λz=>kx.1.some (Sl.frz_as z)) λz=>gm.some (Sl.frz_as z))
  (_eH (Vv sr λb hb=>Sl.frz_as hb) (Vv (pd.back st) λb hb=>Sl.frz_as hb))
 exact k _ _ rfl y' L2 H' ho hd m2 w3 dl λhq=>#[kZ (sm hq) (kZ (dk rfl) o.same),λb hb=>J8 (kZ (sm hq) (dk rfl)) (o.new b hb)]
def Vq{op r f}(ho:OpR X (binaryOp op) r)(ad:Ad2 Z.K r f)(ha:QV X Z qa a ea)(hb:QV X Z true b eb):QE X Z qa (cF2 f a b) (.BinOp ea op eb pos):=
 kY (_a9 ho ha hb) fun σ H Q h=>_eI ad h
def W0{op r f}(ho:OpR X (compareOp op) r)(ad:Ad2 Z.K r f)(ha:QV X Z qa a ea)(hb:QV X Z true b eb)(hm:behindInMarks op eb=false):QE X Z qa (cF2 f a b) (.Compare ea [op] [eb] pos):=
 kY (_bm ho ha hb hm) fun σ H Q h=>_eI ad h
def q_un{op r f}(ho:UnR X (unaryOp op) r)(ad:Ad1 Z.K r f)(ha:QV X Z q a ea):QE X Z q (cF1 f a) (.UnaryOp op ea pos):=
 kY (_ba ho ha) fun σ H Q h=>XZ ad h
def RepA.get{K H g}:∀{ds xs as} {i:Nat} {d},RepA K H g ds xs as->ds[i]?=⇑d->∃v bs,xs[i]?=⇑v/\RepL K H g d v bs/\∀b∈bs,b∈as
 | [],_,_,_,_,_,e=>by simp_all
 | d::ds,_,_,i,d',h,e=>by
  obtain⟨x,r,bs,cs,rfl,rfl,h1,h2⟩:=h;cases i with
  |zero=>
   have e:d=d':= ~~~e
   subst e;exact#[x,bs,by simp,h1,λb hb=>_ac _ hb]
  |succ i=>
   obtain⟨v,bp,e1,e2,e3⟩:=RepA.get h2 (~~~e);exact#[v,bp,~~~e1,e2,λb hb=>_ab _ (e3 b hb)]
def RepA.len{K H g}:∀{ds xs as},RepA K H g ds xs as->ds.length=xs.length
 |[],_,_,h=>by rw[h.1];rfl
 |d::ds,_,_,h=>by
  obtain⟨x,r,bs,cs,rfl,rfl,h1,h2⟩:=h;simp[RepA.len h2]
def items{K H}{x:Sl}{ds}(ok:x.ok K H)(h:x.d=.lst ds\/x.d=.tup ds):∃a xs bs,x.v=.ref a/\((x.d=.lst ds/\LsR K H a xs)\/(x.d=.tup ds/\SqT K H a xs))/\RepA K H (x.o != .dp) ds xs bs/\(∀b∈bs,b∈x.as)/\(x.o≠.dp->∀b∈bs,b∈x.frz):=by
 obtain⟨o,d,v,as⟩:=x;rcases h with rfl|rfl
 ·cases o with
  |no=>
   have ok:RepL K H true _ v as:=ok;obtain⟨a,xs,bs,rfl,r,q⟩:=ok;rcases q with⟨q,rfl⟩|⟨_,q,rfl⟩
   ·exact#[a,xs,bs,rfl,.inl #[rfl,.inl (.inl q)],r,λb hb=>_ad _ hb,λ_ b hb=>_ad _ hb]
   ·exact#[a,xs,as,rfl,.inl #[rfl,.of q],r,λb hb=>hb,λ_ b hb=>hb]
  |rt=>
   obtain⟨a,xs,bs,rfl,r,q,rfl⟩:=(ok);exact#[a,xs,bs,rfl,.inl #[rfl,.inl (.inl q)],r,λb hb=>_ad _ hb,λ_ b hb=>by simpa [Sl.frz]using hb]
  |dp=>
   have ok:RepL K H false _ v as:=ok;obtain⟨a,xs,bs,rfl,r,q⟩:=ok;rcases q with⟨q,rfl⟩|⟨z,_⟩
   ·exact#[a,xs,bs,rfl,.inl #[rfl,.inl (.inl q)],r,λb hb=>_ad _ hb,λz=>absurd rfl z]
   ·grind
 ·cases o with
  |no=>
   obtain⟨a,xs,rfl,q,r⟩:=ok;exact#[a,xs,as,rfl,.inr #[rfl,q],r,λb hb=>hb,λ_ b hb=>hb]
  |rt=>exact(ok).elim
  |dp=>
   obtain⟨a,xs,rfl,q,r⟩:=ok;exact#[a,xs,as,rfl,.inr #[rfl,q],r,λb hb=>hb,λz=>absurd rfl z]
def zW{K H}{x:Sl}{ds}(ok:x.ok K H)(h:x.d=.lst ds\/x.d=.tup ds)(hl:qW (x.o,x.d)=true):∃a xs bs,x.v=.ref a/\((x.d=.lst ds/\LsR K H a xs)\/(x.d=.tup ds/\SqT K H a xs))/\RepA K H true ds xs bs/\(∀b∈bs,b∈x.frz):=by
 obtain⟨a,xs,bs,e,q,r,h1,h2⟩:=items ok h
 by_cases ho:x.o=.dp
 ·have hp:D.pures ds=true:=by
   unfold qW at hl;rw[show(x.o,x.d).1=Own.dp from ho]at hl;have:_d6 x.d=ds:=by rcases h with h|h<;>rw[h]<;>rfl
   simpa [this]using hl
  obtain⟨rfl,r'⟩:=RepA.pu (g':=true) r hp;exact#[a,xs,[],e,q,r',nofun]
 ·have:(x.o != Own.dp)=true:= ~~~ho
  rw[this]at r;exact#[a,xs,bs,e,q,r,h2 ho]
end
section
variable {K:Frag}{H:Hp}{x y:Sl}
def qj{i}(ok:x.ok K H)(h:x.d=.int i):x.v=.int i:=by
 have:=RepO.wk ok;rw[h]at this;exact this.1
def Q0{i}(ok:x.ok K H)(h:x.d=.bl i):x.v=.bl i:=by
 have:=RepO.wk ok;rw[h]at this;exact this.1
def _eJ(ok:x.ok K H)(h:x.d=.non):x.v=.non:=by
 have:=RepO.wk ok;rw[h]at this;exact this.1
def zx{z}(ok:x.ok K H)(h:x.d=.str z):x.v=.str z/\z.length<=sizeLine:=by
 have:=RepO.wk ok;rw[h]at this;exact#[this.1,this.2.2]
def vw{i g}:RepL K H g (.int i) (.int i) []:=#[rfl,rfl]
def _eK{i g}:RepL K H g (.bl i) (.bl i) []:=#[rfl,rfl]
def _eL{g}:RepL K H g .non .non []:=#[rfl,rfl]
def ZK{z g}(h:z.length<=sizeLine):RepL K H g (.str z) (.str z) []:=#[rfl,rfl,h]
def KK{i fr}:Out K H H #[.dp,.int i,.int i,[]] fr:=_eG z8 vw
def wJ{i fr}:Out K H H #[.dp,.bl i,.bl i,[]] fr:=_eG z8 _eK
def _eM{z fr}(h:z.length<=sizeLine):Out K H H #[.dp,.str z,.str z,[]] fr:=_eG z8 (ZK h)
#where in
def _eN{C}{g:Int->Int->Int}{f}(h:∀i j k,f i j=⇑k->C i j/\k=g i j):Ad2 K (rI C λi j=>.int (g i j)) (pu2 (i2 f)):=by
 intro H x y s Q ox oy hf k;unfold pu2 i2 at hf;dsimp only at hf
 split at hf
 ·rename_i i j e1 e2;cases hk:f i j with
  |none=>rw[hk]at hf;cases hf
  |some n=>
   rw[hk]at hf;cases _aa hf;obtain⟨hc,rfl⟩:=h i j n hk;exact#[i,j,qj ox e1,qj oy e2,hc,k _ H rfl rfl KK]
 ·cases hf
#where in
def _eO{g:Int->Int->Int}{f}(h:∀i j,f i j=⇑(g i j)):Ad2 K (rI0 λi j=>.int (g i j)) (pu2 (i2 f)):=by
 intro H x y s Q ox oy hf k;unfold pu2 i2 at hf;dsimp only at hf
 split at hf
 ·rename_i i j e1 e2;rw[h]at hf;cases _aa hf;exact#[i,j,qj ox e1,qj oy e2,k _ H rfl rfl KK]
 ·cases hf
#where in
def Kq{g}:Ad2 K (rI0 λi j=>.bl (g i j)) (pu2 (c2 g)):=by
 intro H x y s Q ox oy hf k;unfold pu2 c2 at hf;dsimp only at hf
 split at hf
 ·rename_i i j e1 e2;cases _aa hf;exact#[i,j,qj ox e1,qj oy e2,k _ H rfl rfl wJ]
 ·cases hf
def _eP:Ad2 K (rI0 λi j=>.int (i - j)) (pu2 _d7):=_eO λ_ _=>rfl
#where in
def _eQ:Ad2 K (rI _c8 λi j=>.int (i / j)) (pu2 zY):=_eN λi j k h=>by
 split at h
 ·rename_i c;exact#[c,(_aa h).symm]
 ·grind
#where in
def _eR:Ad2 K (rI (λ_ j=>0<j) λi j=>.int (i % j)) (pu2 v7):=_eN λi j k h=>by
 split at h
 ·rename_i c;exact#[c,(_aa h).symm]
 ·grind
end
def _eS(K:Frag):R2:=λx y H Q=>∃l b xs zs,x=.ref l/\y=.ref b/\LsR K H l xs/\LsR K H b zs/\xs.length+zs.length<=sizeLine/\∀p,H p=none->Q (.ref p) (upd H p (.lst (xs++zs)))
def op_catL{X}:OpR X (binaryOp .Add) (_eS X.K):=by
 rintro a8 s σ H x y v u Q I rx ry ⟨l,b,xs,zs,rfl,rfl,hH,hB,hz,q⟩;cases rx;cases ry;obtain⟨z,ab,n,r,e⟩:=hH.is I;obtain⟨z2,ic,n2,r2,e2⟩:=hB.is I;have hl:=r.length;have hl2:=r2.length;refine PySem.P.add_list e e2 ?_ (by rw[X8,X8];lia);have ea:ab.toArray++ic.toArray=(ab++ic).toArray:=by simp
 rw[ea];exact#[.ref _,_,I.lnew (t':=s.toks) (r.append r2) (by rw[Xe];lia),rfl,q _ I.fresh]
def _eT(K:Frag):R2:=λx y H Q=>∃a b ys,x=.ref a/\y=.ref b/\SqT K H a []/\SqT K H b ys/\Q (.ref b) H
def op_catE{X}:OpR X (binaryOp .Add) (_eT X.K):=by
 rintro a8 s σ H x y v u Q I rx ry ⟨a,b,ys,rfl,rfl,ha,hb,q⟩;cases rx;cases ry;obtain⟨ab,r1,p1,_⟩:=I.tuple ha;obtain⟨ic,r2,p2,_⟩:=I.tuple hb;obtain⟨⟨cls,dd,data,sl⟩,ho,hc,n,hd⟩:=id p1;obtain⟨⟨cls2,dd2,data2,om⟩,ju,ph,n2,kg⟩:=id p2;subst hc hd ph kg;have e:=r1.nil_iff.mpr rfl;subst e;exact concat_meets #[_,ho,rfl] #[_,ju,rfl] noFill_tuple_add seq_tuple_add PySem.F.slot_tuple_add PySem.F.entry_tuple_add (PySem.F.args_tuple_add_2 _ _)
   (tuple_addW0 a b [].toArray ic.toArray n n2 dd dd2 sl om (by simp)) #[ho,ju,#[.ref b,H,I,rfl,q]]
def _eU(K:Frag):R2:=λx y H Q=>rI0 (λi j=>.int (i+j)) x y H Q\/(∃i j,x=.str i/\y=.str j/\i.length+j.length<=sizeLine/\Q (.str (i++j)) H)\/_eS K x y H Q\/_eT K x y H Q\/_bY K x y H Q
def _eV{X K}(hK:X.K=K):OpR X (binaryOp .Add) (_eU K):=by subst hK;exact op_add.or (_Oa.or (op_catL.or (op_catE.or _bZ)))
def RepA.app{K H g ds' xs' bp}(h':RepA K H g ds' xs' bp):∀{ds xs as},RepA K H g ds xs as->RepA K H g (ds++ds') (xs++xs') (as++bp)
 |[],_,_,h=>by rw[h.1,h.2];exact h'
 |d::ds,_,_,h=>by
  obtain⟨x,r,bs,cs,rfl,rfl,h1,h2⟩:=h;rw[List.cons_append];exact#[x,r++xs',bs,cs++bp,rfl,by rw[Xs],h1,RepA.app h' h2]
def wx{H p o}(h:H p=none):k9 H (upd H p o):=λb u q=>by rw[qx (Jx q h)];exact q
def KQ{K H p ds xs bs fr}(hp:H p=none)(r:RepA K H true ds xs bs)(hb:∀b∈bs,b∈fr):Out K H (upd H p (.lst xs)) #[.rt,.lst ds,.ref p,p::bs] fr:=by
 refine#[wx hp,#[p,xs,bs,rfl,r.kp (Kp.of_same (wx hp)),vW,rfl],λb hb=>?_,?_,λb fq=>hb b (by simpa [Sl.frz]using fq)]
 ·have:b=p:=by simpa [Sl.own]using hb
  rw[this];exact hp
 ·simp[Sl.own]
def _eW{K H p ds xs bs fr}(hp:H p=none)(r:RepA K H true ds xs bs)(hb:∀b∈bs,b∈fr):Out K H (upd H p (.tup xs)) #[.no,.tup ds,.ref p,bs] fr:=by
 refine#[wx hp,?_,λb hb=>(nomatch hb),Xp,λb fq=>hb b fq];show RepL K _ true _ _ bs;exact#[p,xs,rfl,SqT.of vW,r.kp (Kp.of_same (wx hp))]
#where in
def _eX{K}:Ad2 K (_eU K) kq:=by
 intro H x y s Q ox oy hf k;unfold kq at hf;dsimp only at hf
 split at hf
 ·rename_i i j e1 e2;cases _aa hf;exact .inl #[i,j,qj ox e1,qj oy e2,k _ H rfl rfl KK]
 ·rename_i i j e1 e2
  split at hf
  ·rename_i hl;cases _aa hf;have qc:(i++j).length<=sizeLine:=by rw[strLen_append];exact hl
   exact .inr (.inl #[i,j,(zx ox e1).1,(zx oy e2).1,hl,k _ H rfl rfl (_eM qc)])
  ·cases hf
 ·rename_i i j e1 e2
  split at hf
  ·rename_i hl;cases _aa hf;obtain⟨a,xs,bs,e3,q3,r3,h3⟩:=zW ox (.inl e1) hl.2.1;obtain⟨b,ys,cs,e4,q4,r4,h4⟩:=zW oy (.inl e2) hl.2.2;have q3:LsR K H a xs:=by rcases q3 with⟨_,z⟩|⟨z,_⟩;exact z;rw[e1]at z;cases z
   have q4:LsR K H b ys:=by rcases q4 with⟨_,z⟩|⟨z,_⟩;exact z;rw[e2]at z;cases z
   exact .inr (.inr (.inl #[a,b,xs,ys,e3,e4,q3,q4,by rw[<-r3.len,<-r4.len];exact hl.1,λp hp=>(k _ _ rfl rfl (KQ hp (r4.app r3) λb hb=>(aA hb).elim (λz=>_ac _ (h3 b z)) λz=>_ab _ (h4 b z)))]))
  ·cases hf
 ·rename_i i j e1 e2
  split at hf
  ·rename_i hl;cases _aa hf;obtain⟨a,xs,bs,e3,q3,r3,h3⟩:=zW ox (.inr e1) hl.2.1;obtain⟨b,ys,cs,e4,q4,r4,h4⟩:=zW oy (.inr e2) hl.2.2;have q3:SqT K H a xs:=by rcases q3 with⟨z,_⟩|⟨_,z⟩;rw[e1]at z;cases z;exact z
   have q4:SqT K H b ys:=by rcases q4 with⟨z,_⟩|⟨_,z⟩;rw[e2]at z;cases z;exact z
   have ap:=r4.app r3;have tu:=λb hb=>(aA hb).elim (λz=>_ac _ (h3 b z)) λz=>_ab _ (h4 b z)
   have same:∀c zs,zs=xs++ys->SqT K H c zs->Q (.ref c) H:=λc zs e hq=>by
    refine k #[.no,.tup _,.ref c,bs++cs] H rfl rfl #[z8,?_,λb hb=>(nomatch hb),Xp,tu];show RepL K H true _ _ _;exact#[c,zs,rfl,hq,by rw[e];exact ap]
   by_cases hx:xs=[]
   ·subst hx;exact .inr (.inr (.inr (.inl #[a,b,ys,e3,e4,q3,q4,same b ys rfl q4])))
   ·refine .inr (.inr (.inr (.inr #[a,b,xs,ys,e3,e4,q3,q4,hx,by rw[<-r3.len,<-r4.len];exact hl.1,λhy=>?_,λhy p hp=>?_])))
    ·exact same a xs (by rw[hy,Xv]) q3
    ·exact k _ _ rfl rfl (_eW hp ap tu)
  ·cases hf
 ·cases hf
def tT(Z:Fx0)(q:Bool)(c:Ts):TT:=fun σ H Q=>∃E L r,Mt E σ L/\World Z.K H L/\c E=⇑r/\Xc Z σ H L r /\
 ∀E' k,r=.ok E' k->∀L' H',Mt E' σ L'->World Z.K H' L'->Step H L H' L'->(q=true->k9 H H')->Q k H'
def QT(X:Cx)(Z:Fx0)(q:Bool)(c:Ts)(e:Expr):Prop:=PT X e (tT Z q c)
def QW(X:Cx)(Z:Fx0)(q:Bool)(c:Ts)(e:Expr):Prop:=PW X e (tT Z q c)
section
variable {X:Cx}{Z:Fx0}{q qa qb:Bool}{a b c:Ex}{u v:Ts}{e ea eb:Expr}{es:List Expr}{pos:Pos}{α β:Type}{σ:L2.St}{H:Hp}{L:Ls}{E:En}
def _eY{e t t'}(h:PW X e t)(w:∀ σ H Q,t' σ H Q->t σ H Q):PW X e t':=λwh a8 s σ H Q I q=>h wh a8 s σ H Q I (w σ H Q q)
def _eZ{F}{r:Res α}{G}(m:Mt E σ L)(w:World Z.K H L)(h:bnd (u E) F=⇑r)(xc:Xc Z σ H L r)
  (k:∀E1 s,F E1 s=⇑r->∀L1 H1,Mt E1 σ L1->World Z.K H1 L1->Step H L H1 L1->(q=true->k9 H H1)->G s H1):tT Z q u σ H G:=by
 rcases wv h with⟨E1,s,h1,h2⟩|⟨E1,c,h1,h2⟩
 ·exact#[E,L,_,m,w,h1,(λ_ _ z=>by cases z),λE' s' z L' H' m' w' st sm=>by
   injection z with z1 z2;subst z1 z2;exact k _ _ h2 L' H' m' w' st sm]
 ·exact#[E,L,_,m,w,h1,xc.map h2,λE' s' z=>by cases z]
def _e0(ha:QT X Z q u ea):QW X Z q u (.BoolOp .And [ea] pos):=_aB ha
def Jv(ha:QT X Z q u ea):QW X Z q u (.BoolOp .Or [ea] pos):=_aC ha
def _e1(ha:QT X Z q u ea)(hb:QW X Z q v (.BoolOp .And (eb::es) pos)):QW X Z q (Q.tAnd u v) (.BoolOp .And (ea::eb::es) pos):=
 _eY (_aD ha hb) fun σ H Q ai=>ex8 ai λE L r m w hc xc k=>_eZ m w hc xc λE1 s h1 L1 H1 m1 w1 st sm=>by
  cases s with
  |true=>
   exact#[E1,L1,r,m1,w1,h1,xc.step st,λE' k' z L' H' m' w' dv lw=>k E' k' z L' H' m' w' (st.trans dv) λhq=>kZ (sm hq) (lw hq)]
  |false=>grind
def x3(ha:QT X Z q u ea)(hb:QW X Z q v (.BoolOp .Or (eb::es) pos)):QW X Z q (Q.tOr u v) (.BoolOp .Or (ea::eb::es) pos):=
 _eY (_aE ha hb) fun σ H Q ai=>ex8 ai λE L r m w hc xc k=>_eZ m w hc xc λE1 s h1 L1 H1 m1 w1 st sm=>by
  cases s with
  |false=>
   exact#[E1,L1,r,m1,w1,h1,xc.step st,λE' k' z L' H' m' w' dv lw=>k E' k' z L' H' m' w' (st.trans dv) λhq=>kZ (sm hq) (lw hq)]
  |true=>grind
def QW.pt(h:QW X Z q u e):QT X Z q u e:=PW.pt h
def vQ(ha:QT X Z q u ea):QT X Z q (Q.tNot u) (.UnaryOp .Not ea pos):=
 _ey (_aF ha) fun σ H Q ai=>ex8 ai λE L r m w hc xc k=>_eZ m w hc xc λE1 s h1 L1 H1 m1 w1 st sm=>by
  cases _aa h1;exact k _ _ rfl L1 H1 m1 w1 st sm
def ww{op r f}(ho:OpR X (compareOp op) r)(ad:Ad2 Z.K r f)(ha:QV X Z qa a ea)(hb:QV X Z true b eb)(hm:behindInMarks op eb=false)(hf:∀x y s,f x y=⇑s->∃k,s.2=.bl k):QT X Z qa (Q.tE (cF2 f a b)) (.Compare ea [op] [eb] pos):=
 _ey (_bn ho ha hb hm) fun σ H Q ai=>ex8 ai λE L r m w hc xc k=>by
  refine _eI ad ?_;rcases wv hc with⟨E1,s,h1,h2⟩|⟨E1,c,h1,h2⟩
  ·refine#[E,L,_,m,w,h1,(λ_ _ z=>by cases z),λE' s' z x L' H' e1 e2 m' w' st sm=>?_];injection z with z1 z2;subst z1 z2;obtain⟨kk,hk⟩:∃k,s.2=.bl k:=by
    rcases wv h1 with⟨E2,s2,h3,h4⟩|⟨_,_,_,z⟩
    ·rcases wv h4 with⟨E3,s3,h5,h6⟩|⟨_,_,_,z⟩
     ·obtain⟨y,hy,z⟩:=x6 h6;cases z;exact hf _ _ _ hy
     ·cases z
    ·cases z
   rw[hk]at h2;cases _aa h2;exact#[kk,Q0 w'.head (e2.trans hk),k _ _ rfl L' H' m' w'.tail (st.trans Step.drop) λhq=>(sm hq).1]
  ·exact#[E,L,_,m,w,h1,xc.map h2,λE' s' z=>by cases z]
end
def Pn(pn:List Nat)(σ σ':L2.St):Prop:=∀p∈pn,σ'[p]?=σ[p]?
def Pn.refl{pn σ}:Pn pn σ σ:=λ_ _=>rfl
def Pn.trans{pn σ σ1 σ2}(a:Pn pn σ σ1)(b:Pn pn σ1 σ2):Pn pn σ σ2:=λp hp=>(b p hp).trans (a p hp)
def Pn.set{pn σ σ1 i y}(a:Pn pn σ σ1)(h:i∉pn):Pn pn σ (σ1.set i y):=λp hp=>by
 have:i≠p:=λe=>h (e▸hp)
 rw[Yt this];exact a p hp
def FlP(Z:Fx0)(pn:List Nat)(D:Ends)(σ:L2.St)(H:Hp)(L:Ls):Fl->Prop
 |.nx E'=>∀ σ' L' H',Pn pn σ σ'->Mt E' σ' L'->World Z.K H' L'->Step H L H' L'->D.nx σ' H'|.ct E'=>∀ σ' L' H',Pn pn σ σ'->Mt E' σ' L'->World Z.K H' L'->Step H L H' L'->D.ct σ' H'|.bk E'=>∀ σ' L' H',Pn pn σ σ'->Mt E' σ' L'->World Z.K H' L'->Step H L H' L'->D.bk σ' H'|.rt E' a=>∀(x:Sl) σ' L' H',x.o=a.1->x.d=a.2->Pn pn σ σ'->Mt E' σ' L'->World Z.K H' (⇑x::L')->Step H L H' (⇑x::L')->D.rt x.v H'|.xc E' c=>∀C σ' L' H',Z.mg c=⇑(.ref C)->Pn pn σ σ'->Mt E' σ' L'->World Z.K H' L'->Step H L H' L'->Z.EX (.ref C) none H'
def FlP.step{Z pn D σ σ1 H H1 L L1 r}(k:FlP Z pn D σ H L r)(s:Step H L H1 L1)(p:Pn pn σ σ1):FlP Z pn D σ1 H1 L1 r:=by
 cases r with|nx E'=>exact fun σ' L' H' p' m w s'=>k σ' L' H' (p.trans p') m w (s.trans s')|ct E'=>exact fun σ' L' H' p' m w s'=>k σ' L' H' (p.trans p') m w (s.trans s')|bk E'=>exact fun σ' L' H' p' m w s'=>k σ' L' H' (p.trans p') m w (s.trans s')|rt E' a=>exact λx σ' L' H' e1 e2 p' m w s'=>k x σ' L' H' e1 e2 (p.trans p') m w (s.trans s')|xc E' c=>exact λC σ' L' H' hm p' m w s'=>k C σ' L' H' hm (p.trans p') m w (s.trans s')
def FlP.xc{α Z pn D σ H L E' c}(k:FlP Z pn D σ H L (.xc E' c)):Xc Z σ H L (.exc E' c:Res α):=λE1 c1 e C L' H' hm m w s=>by
 injection e with h1 h2;subst h1 h2;exact k C σ L' H' hm Pn.refl m w s
def tS(Z:Fx0)(pn:List Nat)(c:Sm):TS:=λD σ H=>∃E L r,Mt E σ L/\World Z.K H L/\c E=⇑r/\FlP Z pn D σ H L r
def QS(X:Cx)(Z:Fx0)(pn:List Nat)(c:Sm)(st:Stmt):Prop:=PS X st (tS Z pn c)
def QSs(X:Cx)(Z:Fx0)(pn:List Nat)(c:Sm)(st:List Stmt):Prop:=PSs X st (tS Z pn c)
section
variable {X:Cx}{Z:Fx0}{pn:List Nat}{q qa qb:Bool}{a b c:Ex}{u v:Ts}{A B:Sm}{e ea eb:Expr}{st:Stmt}{ss tt:List Stmt}{pos:Pos}{α:Type}{σ:L2.St}{H:Hp}{L:Ls}{E:En}{D:Ends}
def _e2{m}{F:En->α->Option Fl}{r}(h:ofE m F=⇑r):(∃E1 x,m=⇑(.ok E1 x)/\F E1 x=⇑r)\/∃E1 c,m=⇑(.exc E1 c)/\r=.xc E1 c:=by
 cases m with
 |none=>cases h
 |some q=>
  cases q with|ok E1 x=>exact .inl #[E1,x,rfl,h]|exc E1 c=>exact .inr #[E1,c,rfl,(_aa h).symm]
def Wq{F r G}(m:Mt E σ L)(w:World Z.K H L)(h:ofE (a E) F=⇑r)(k:FlP Z pn D σ H L r)
  (g:∀E1 s,F E1 s=⇑r->∀x L1 H1,x.o=s.1->x.d=s.2->Mt E1 σ L1->World Z.K H1 (⇑x::L1)->Step H L H1 (⇑x::L1)->(q=true->k9 H H1/\∀b∈x.own,H b=none)->G x.v H1):tQ Z q a σ H G:=by
 rcases _e2 h with⟨E1,s,h1,h2⟩|⟨E1,c,h1,rfl⟩
 ·exact#[E,L,_,m,w,h1,(λ_ _ z=>by cases z),λE' s' z x L' H' e1 e2 m' w' st sm=>by
   injection z with z1 z2;subst z1 z2;exact g _ _ h2 x L' H' e1 e2 m' w' st sm]
 ·exact#[E,L,_,m,w,h1,k.xc,λE' s' z=>by cases z]
def _e3{F r G}(m:Mt E σ L)(w:World Z.K H L)(h:ofE (u E) F=⇑r)(k:FlP Z pn D σ H L r)
  (g:∀E1 s,F E1 s=⇑r->∀L1 H1,Mt E1 σ L1->World Z.K H1 L1->Step H L H1 L1->G s H1):tT Z q u σ H G:=by
 rcases _e2 h with⟨E1,s,h1,h2⟩|⟨E1,c,h1,rfl⟩
 ·exact#[E,L,_,m,w,h1,(λ_ _ z=>by cases z),λE' s' z L' H' m' w' st sm=>by
   injection z with z1 z2;subst z1 z2;exact g _ _ h2 L' H' m' w' st]
 ·exact#[E,L,_,m,w,h1,k.xc,λE' s' z=>by cases z]
def _e4:QSs X Z pn k5 []:=_ez _aK λD σ H ai=>ex7 ai λE L r m w hc k=>by
 cases _aa hc;exact k σ L H Pn.refl m w Step.refl
def j8(h1:QS X Z pn A st)(h2:QSs X Z pn B ss):QSs X Z pn (j6 A B) (st::ss):=_ez (_aL h1 h2) λD σ H ai=>ex7 ai λE L r m w hc k=>by
 unfold j6 at hc;cases ha:A E with
 |none=>rw[ha]at hc;cases hc
 |some f=>
  rw[ha]at hc;cases f with|nx E1=>exact#[E,L,_,m,w,ha,fun σ' L' H' p m' w' s=>#[E1,L',r,m',w',hc,k.step s p]]|ct E1=>cases _aa hc;exact#[E,L,_,m,w,ha,k]|bk E1=>cases _aa hc;exact#[E,L,_,m,w,ha,k]|rt E1 x=>cases _aa hc;exact#[E,L,_,m,w,ha,k]|xc E1 x=>cases _aa hc;exact#[E,L,_,m,w,ha,k]
def k8(h1:QS X Z pn A st):QSs X Z pn A [st]:=_aM h1
def _e5(h:QE X Z q a ea):QS X Z pn (jJ a) (.Return ⇑ea pos):=K7 (_aO h) λD σ H ai=>ex7 ai λE L r m w hc k=>
 Wq m w hc k λE1 s h1 x L1 H1 e1 e2 m1 w1 st _=>by
  cases _aa h1;exact k x σ L1 H1 e1 e2 Pn.refl m1 w1 st
def q_if(hc:QT X Z q u e)(ha:QSs X Z pn A ss)(hb:QSs X Z pn B tt):QS X Z pn (sIf u A B) (.If e ss tt pos):=K7 (_aP hc ha hb) λD σ H ai=>ex7 ai λE L r m w hc k=>
 _e3 m w hc k λE1 s h1 L1 H1 m1 w1 st=>by
  cases s with|true=>rw[Xb rfl]at h1 ⊢;exact#[E1,L1,r,m1,w1,h1,k.step st Pn.refl]|false=>rw[Xj ⋯]at h1 ⊢;exact#[E1,L1,r,m1,w1,h1,k.step st Pn.refl]
def QY{x i s}(m:Mt E σ L)(e1:x.o=s.1)(e2:x.d=s.2):Mt (E.set i ⇑s) (σ.set i ⇑x.v) (L.set i ⇑x):=by
 have:=m.set (x:=x) i;rw[e1,e2]at this;exact this
def _e6{i y ay}(hN:X.N.Nodup)(hi:X.N[i]?=⇑y)(hx:Loc X.env.scope y)(h:QE X Z q a ea)(hp:i∉pn<|>ŕ)(hs:swapsWith ea ⇑(.Name y ay) pos.line X.env=pure false<|>Ŕ)(hf:X.fn y=true\/X.env.scope.names.lookup y=⇑.local<|>Ř):
  QS X Z pn (jw i a) (.Assign [.Name y ay] ea pos):=K7 (_aV hN hi hx h hs hf) λD σ H ai=>ex7 ai λE L r m w hc k=>
 Wq m w hc k λE1 s h1 x L1 H1 e1 e2 m1 w1 st _=>by
  cases _aa h1;exact k _ _ H1 (Pn.refl.set hp) (QY m1 e1 e2) w1.set (st.trans Step.set)
def _e7{i y ay}(hp:i∉pn)(h:PS X (.Assign [.Name y ay] ea pos) (λD σ H=>tQ Z q a σ H λv H1=>D.nx (σ.set i ⇑v) H1)):
  QS X Z pn (jw i a) (.Assign [.Name y ay] ea pos):=K7 h λD σ H ai=>ex7 ai λE L r m w hc k=>
 Wq m w hc k λE1 s h1 x L1 H1 e1 e2 m1 w1 st _=>by
  cases _aa h1;exact k _ _ H1 (Pn.refl.set hp) (QY m1 e1 e2) w1.set (st.trans Step.set)
def _e8(hp:PassesOwn (model X.prog X.w) X.A X.env X.xe)(hc:QT X Z q u e)(hb:QSs X Z pn B ss):QS X Z pn (JX u B) (.While e ss [] pos):=K7 (_aY hp hc hb) λD σ H ai=>ex7 ai λE L r m w hr k=>by
 obtain⟨n0,hn⟩:=_ea hr;refine#[λn σ1 H1=>∃E1 L1,Mt E1 σ1 L1/\World Z.K H1 L1/\whN u B n E1=⇑r/\Step H L H1 L1/\Pn pn σ σ1,#[n0,E,L,m,w,hn,Step.refl,Pn.refl],?_];rintro n σ1 H1 ⟨E1,L1,m1,w1,h1,i8,p1⟩;cases n with
 | zero=>cases h1
 | succ n=>
  have k1:=k.step i8 p1;unfold whN whF at h1;cases ht:u E1 with
  | none=>rw[ht]at h1;cases h1
  | some f=>
   rw [ht]at h1;cases f with
   | exc E2 c=>
    cases _aa h1;exact#[E1,L1,_,m1,w1,ht,k1.xc,λE' s' z=>by cases z]
   | ok E2 kk=>
    refine#[E1,L1,_,m1,w1,ht,(λ_ _ z=>by cases z),λE' s' z L' H' m' w' st sm=>?_];injection z with z1 z2;subst z1 z2;cases kk with
    | false=>
     rw[Xj ⋯];cases _aa h1;exact k1 σ1 L' H' Pn.refl m' w' st
    | true=>
     rw[Xb rfl];dsimp only at h1;refine#[fun σ2 H2=>∃E2 L2,Mt E2 σ2 L2/\World Z.K H2 L2/\whN u B n E2=⇑r/\Step H L H2 L2/\Pn pn σ σ2,fun σ2 H2 h2=>#[n,by omega,h2],?_];cases hB:B E2 with
     |none=>rw[hB]at h1;cases h1
     |some g=>
      rw[hB]at h1;have k2:=k1.step st Pn.refl;refine#[E2,L',g,m',w',hB,?_];cases g with|nx E3=>exact fun σ3 L3 H3 p3 m3 w3 s3=>#[E3,L3,m3,w3,h1,i8.trans (st.trans s3),p1.trans p3]|ct E3=>exact fun σ3 L3 H3 p3 m3 w3 s3=>#[E3,L3,m3,w3,h1,i8.trans (st.trans s3),p1.trans p3]|bk E3=>cases _aa h1;exact k2|rt E3 x=>cases _aa h1;exact k2|xc E3 c=>cases _aa h1;exact k2
end
structure Walks (K:Frag)(J:It)(T:List Sl)(ds:List D):Prop where
 no:∀t∈T,t.o=.no
 go:∀i H,(∀t∈T,t.ok K H)->i<ds.length->J.go i H
 stop:∀H,(∀t∈T,t.ok K H)->J.stop ds.length H
 yld:∀i H v H' d,(∀t∈T,t.ok K H)->J.yld i H v H'->ds[i]?=⇑d->∃z:Sl,z.o=.no/\z.d=d/\z.v=v/\k9 H H'/\z.ok K H'/\∀b∈z.as,∃t∈T,b∈t.as
def tI(Z:Fx0)(q:Bool)(it:Ev (List D)):TI:=fun σ H R=>∃E L r,Mt E σ L/\World Z.K H L/\it E=⇑r/\Xc Z σ H L r /\
 ∀E' ds,r=.ok E' ds->∀J T L' H',Mt E' σ L'->World Z.K H' (L'++T.map some)->Step H L H' (L'++T.map some)->ds.length<=sizeLine->(q=true->k9 H H')->Walks Z.K J T ds->R J H'
def QI(X:Cx)(Z:Fx0)(q:Bool)(tg:Expr)(it:Ev (List D))(e:Expr):Prop:=PI X tg e (tI Z q it)
def _e9(K:Frag)(H0:Hp)(T:List Sl)(H:Hp):Prop:=(∀t∈T,t.ok K H)/\∀t∈T,Kp H0 H t.as
structure WalksD (K:Frag)(H0:Hp)(J:It)(T:List Sl)(ds:List D):Prop where
 no:∀t∈T,t.o=.no
 go:∀i H,_e9 K H0 T H->i<ds.length->J.go i H
 stop:∀H,_e9 K H0 T H->J.stop ds.length H
 yld:∀i H v H' d,_e9 K H0 T H->J.yld i H v H'->ds[i]?=⇑d->∃z:Sl,z.o=.no/\z.d=d/\z.v=v/\k9 H H'/\z.ok K H'/\∀b∈z.as,∃t∈T,b∈t.as
def Walks.D{K H0 J T ds}(h:Walks K J T ds):WalksD K H0 J T ds:=#[h.no,λi H o=>h.go i H o.1,λH o=>h.stop H o.1,λi H v H' d o=>h.yld i H v H' d o.1]
def tID(Z:Fx0)(q:Bool)(it:Ev (List D)):TI:=fun σ H R=>∃E L r,Mt E σ L/\World Z.K H L/\it E=⇑r/\Xc Z σ H L r /\
 ∀E' ds,r=.ok E' ds->∀J T L' H',Mt E' σ L'->World Z.K H' (L'++T.map some)->Step H L H' (L'++T.map some)->ds.length<=sizeLine->(q=true->k9 H H')->WalksD Z.K H' J T ds->R J H'
def QID(X:Cx)(Z:Fx0)(q:Bool)(tg:Expr)(it:Ev (List D))(e:Expr):Prop:=PI X tg e (tID Z q it)
def QI.D{X Z q tg it e}(h:QI X Z q tg it e):QID X Z q tg it e:=λa8 s σ H R I hz=>h a8 s σ H R I (by
 obtain⟨E,L,r,m,w,e,x,k⟩:=hz;exact#[E,L,r,m,w,e,x,λE' ds z J T L' H' m' w' st hl sm wk=>k E' ds z J T L' H' m' w' st hl sm wk.D])
structure WalksS (K:Frag)(q:Bool)(H0:Hp)(J:It)(T:List Sl)(ds:List D):Prop where
 no:∀t∈T,t.o=.no
 go:∀i H,(∀t∈T,t.ok K H)->(q=true->k9 H0 H)->i<ds.length->J.go i H
 stop:∀H,(∀t∈T,t.ok K H)->(q=true->k9 H0 H)->J.stop ds.length H
 yld:∀i H v H' d,(∀t∈T,t.ok K H)->(q=true->k9 H0 H)->J.yld i H v H'->ds[i]?=⇑d->∃z:Sl,z.o=.no/\z.d=d/\z.v=v/\k9 H H'/\z.ok K H'/\∀b∈z.as,∃t∈T,b∈t.as
def _fa{K q H0 J T ds}(h:Walks K J T ds):WalksS K q H0 J T ds:=#[h.no,λi H o _=>h.go i H o,λH o _=>h.stop H o,λi H v H' d o _=>h.yld i H v H' d o]
def tIS(Z:Fx0)(q:Bool)(it:Ev (List D)):TI:=fun σ H R=>∃E L r,Mt E σ L/\World Z.K H L/\it E=⇑r/\Xc Z σ H L r /\
 ∀E' ds,r=.ok E' ds->∀J T L' H',Mt E' σ L'->World Z.K H' (L'++T.map some)->Step H L H' (L'++T.map some)->ds.length<=sizeLine->(q=true->k9 H H')->WalksS Z.K q H J T ds->R J H'
def QIS(X:Cx)(Z:Fx0)(q:Bool)(tg:Expr)(it:Ev (List D))(e:Expr):Prop:=PI X tg e (tIS Z q it)
def _fb{X Z q tg it e}(h:QI X Z q tg it e):QIS X Z q tg it e:=λa8 s σ H R I hz=>h a8 s σ H R I (by
 obtain⟨E,L,r,m,w,e,x,k⟩:=hz;exact#[E,L,r,m,w,e,x,λE' ds z J T L' H' m' w' st hl sm wk=>k E' ds z J T L' H' m' w' st hl sm (_fa wk)])
def tG(Z:Fx0)(pn:List Nat)(tg:Tg):TG:=λv σ H Q=>∃(E:En) (L:Ls) (z:Sl) (E':En),Mt E σ L/\World Z.K H (⇑z::L)/\z.o=.no/\z.v=v/\tg.put z.d E=⇑E' /\
 ∀ σ' L',Pn pn σ σ'->Mt E' σ' L'->World Z.K H L'->Step H (⇑z::L) H L'->Q σ' H
def QG(X:Cx)(Z:Fx0)(pn:List Nat)(tg:Tg)(e:Expr):Prop:=PG X e (tG Z pn tg)
section
variable {X:Cx}{Z:Fx0}{pn:List Nat}{e:Expr}{σ:L2.St}{H:Hp}{L:Ls}{E:En}
def _fc{t t'}(h:PG X e t)(w:∀v σ H Q,t' v σ H Q->t v σ H Q):PG X e t':=λa8 s σ H x v Q I r q=>h a8 s σ H x v Q I r (w x σ H Q q)
def _fd{i}(h:PG X e (V3 i))(hp:i∉pn<|>ŕ):QG X Z pn (.n i) e:=_fc h λv σ H Q hz=>by
 obtain⟨E,L,z,E',m,w,ho,hv,bz,k⟩:=hz;cases _aa bz;rw[<-hv];exact k _ _ (Pn.refl.set hp) (QY m ho rfl) w.set Step.set
def gNs:List Nat->TGs
 |[]=>xwr|i::is=>vk9 (V3 i) (gNs is)
def _fe{Q M σ0}:∀{is ds xs bs E L σ E'},Mt E σ L->World Z.K H L->RepA Z.K H true ds xs bs->(∀b∈bs,b∉jv L)->(∀b∈bs,b∈jZ M)->Step H M H L->Pn pn σ0 σ ->
  setAll is ds E=⇑E'->(∀i∈is,i∉pn)->(∀ σ' L',Pn pn σ0 σ'->Mt E' σ' L'->World Z.K H L'->Step H M H L'->Q σ' H)->gNs is xs σ H Q
 | [],[],xs,bs,E,L,σ,E',m,w,r,_,_,st,p,e,_,k=>by
  cases _aa e;exact#[r.1,k σ L p m w st]
 | [],_::_,_,_,_,_,_,_,_,_,_,_,_,_,_,e,_,_=>by cases e| _::_,[],_,_,_,_,_,_,_,_,_,_,_,_,_,e,_,_=>by cases e
 | i::is,d::ds,xs,bs,E,L,σ,E',m,w,r,hb,hf,st,p,e,hi,k=>by
  obtain⟨x,rr,cs,es,rfl,rfl,h1,h2⟩:=r;have s1:Step H M H (L.set i ⇑#[.no,d,x,cs]):=by
   refine#[λ_ _ h _=>h,λa ha=>?_,λa ha=>?_]
   ·rcases YV ha with z|z
    ·exact nomatch z
    ·exact st.own a z
   ·rcases _ek ha with z|z
    ·exact .inl (hf a (_ac _ z))
    ·exact st.frz a z
  exact#[x,rr,rfl,_fe (QY (x:=#[.no,d,x,cs]) m rfl rfl) (w.consNo (x:=#[.no,d,x,cs]) h1 rfl λb fq=>hb b (_ac _ fq)).set h2 (λb fq ho=>by
   rcases YV ho with z|z
   ·exact nomatch z
   ·exact hb b (_ab _ fq) z) (λb fq=>hf b (_ab _ fq)) s1 (p.set (hi i X5)) e (λj hj=>hi j (_ad _ hj)) k]
def _ff:∀{is ds E E'},setAll is ds E=⇑E'->is.length=ds.length
 |[],[],_,_,_=>rfl|i::is,d::ds,E,E',e=>by rw[Xm,Xm,_ff (E:=E.set i _) e]
def _fg(K:Frag)(n:Nat)(t:TGs):TG:=λv σ H Q=>∃a xs,v=.ref a/\(SqT K H a xs\/SqL K H a xs)/\xs.length=n/\t xs σ H Q
section
variable {prog:Program}{w:PySem.World}{A:Around}{E':VP9}
def _fh{it t items}(bh:t≠it):∀n i (s) (Q),s.heap.IsListIter it t i->s.heap.IsList t items->i+n<=items.size ->
  (∀h',h'.IsListIter it t (i+n)->Heap.SameBut it s.heap h'->Q ((items.toList.drop i).take n) {s with heap:=h' })->wpAny (model prog w) A (draw (.ref it) n) Q E' s
 | 0,i,s,Q,fh,_,_,hQ=>by
  exact X6 (~~~(hQ s.heap fh (Heap.SameBut.refl ..)))
 | n+1,i,s,Q,fh,ht,gl,hQ=>by
  have cj:i<items.size:=by omega
  refine X0 (wpAny_pyNext_list_item fh ht (x:=items[i]) (by simp) λh₁ r9 ut=>?_);have ht₁:h₁.IsList t items:=by
   obtain⟨o,ho,r⟩:=ht;exact#[o,(ut.2 t bh).trans ho,r]
  refine X0 (Ya (_fh bh n _ _ _ r9 ht₁ (by omega) λh₂ hit₂ hs₂=>X6 ?_));have hd:items.toList.drop i=items[i]::items.toList.drop (i+1):=by simp[List.drop_eq_getElem_cons,cj]
  have:=hQ h₂ ⋯ (ut.trans hs₂)
  simp_all
def _fi{s t items Q}(hh:A.handled=none)(ht:s.heap.IsList t items)
  (hQ:∀h',Heap.ExtBut ↥s s.heap h'->Q items.toList {s with heap:=h' }):wpAny (model prog w) A (unpackItems (.ref t) items.size none) Q E' s:=by
 have cj:t≠↥s:=by obtain⟨o,ho,_⟩:=ht;exact Xk (Xf ho)
 refine X0 (X0 (Z0 ht.typeIs slot_list_iter.lookup (X6 (X0 (Ya (Zg ht ?_))))));have ht0:∀o,(s.heap.push o).IsList t items:=λo=>by
  obtain⟨ob,ho,r⟩:=ht;exact#[ob,X3 _ ho,r]
 refine X0 (Ya (_fh cj items.size 0 _ _ #[_,X9 _ rfl,rfl,rfl] (ht0 _) (by simp) λh₁ r9 ut=>?_));have lz:List.take items.size (List.drop 0 items.toList)=items.toList:=by
  rw[List.drop_zero];exact List.take_of_length_le (by simp)
 rw[lz,Xj (by simp)];have ht₁:h₁.IsList t items:=by
  obtain⟨o,ho,r⟩:=ht0 _;exact#[o,(ut.2 t cj).trans ho,r]
 exact X0 (Ya (wpAny_pyNext_list_end hh r9 ht₁ (by simp) λh₂ he₂=>(X6 (hQ h₂ λb o hb e=>he₂ b o hb (ut.extBut b o hb (X3 _ e))))))
def _fj{s env cw x1 pos t items Q}(hh:A.handled=none)(ht:s.heap.IsList t items)
  (hn:(assignEach cw env).length=items.size) (uu:(assignEach cw env).findIdx? (·.1)=none)
  (h:∀h',Heap.ExtBut ↥s s.heap h'->wpAny (model prog w) A (assignInOrder ((assignEach cw env).map (·.2)) items.toList) Q E' {s with heap:=h' }):
  wpAny (model prog w) A (assign (.Tuple cw x1 pos) env (.ref t)) Q E' s:=by
 refine X0 (wpAny_standAt ?_);unfold unpack;rw[hn,uu];exact X0 (Ya (_fi hh ht h))
end
def xw K {es k t n pos}(h:PGs X es t)(hc:X.calm=true<|>Ŕ)(hK:X.K=K<|>Ŕ)
  (hn:(assignEach es X.env).length=n<|>Ŕ) (ba:(assignEach es X.env).findIdx? (·.1)=none<|>Ŕ):PG X (.Tuple es k pos) (_fg K n t):=by
 subst hK;rintro a8 s σ H v u Q I r ⟨a,xs,e1,hq,hl,hw⟩;subst e1;cases r;rcases hq with hq|hq
 ·obtain⟨ab,rv,ht,hz⟩:=I.tuple hq;refine assign_Tuple_tuple (I.ok.hd hc) ht (by simp[hn,<-hl,rv.length]) ba λh' hx=>?_
  have I1:L2.Inv X a8 σ H {s with heap:=h' }:=I.kept (t':=s.toks) λb o e=>hx b o (Xk (Xf e)) e
  exact h a8 _ σ H xs _ Q I1 (by simp_all) hw
 ·obtain⟨ab,rv,ht,hz⟩:=I.list hq;refine _fj (I.ok.hd hc) ht.isList (by simp[hn,<-hl,rv.length]) ba λh' hx=>?_
  have I1:L2.Inv X a8 σ H {s with heap:=h' }:=I.kept (t':=s.toks) λb o e=>hx b o (Xk (Xf e)) e
  exact h a8 _ σ H xs _ Q I1 (~~~rv) hw
def xV{is}(h:PG X e (_fg Z.K is.length (gNs is)))(hp:(∀i∈is,i∉pn)<|>ŕ):QG X Z pn (.t is) e:=_fc h λv σ H Q hz=>by
 obtain⟨E,L,z,E',m,w,ho,hv,bz,k⟩:=hz;have fin:∀ds,_->setAll is ds E=⇑E'->_fg Z.K is.length (gNs is) v σ H Q:=λds hd bz=>by
  obtain⟨a,xs,bs,e1,q1,r,h1,h2⟩:=items w.head hd;rw[ho]at r;refine#[a,xs,hv.symm.trans e1,?_,by rw[_ff bz,r.len],_fe m w.tail r (λb hb=>w.apart b (h1 b hb)) (λb hb=>?_) Step.drop Pn.refl bz hp k]
  ·rcases q1 with⟨_,z'⟩|⟨_,z'⟩
   ·exact .inr z'.sq
   ·exact .inl z'
  ·rw[vY,_eC ho];exact _ac _ (h1 b hb)
 cases hd:z.d with|tup ds=>rw[hd]at bz;exact fin ds (.inr hd) bz|lst ds=>rw[hd]at bz;exact fin ds (.inl hd) bz|_=>rw[hd]at bz;cases bz
def Vx{is q c ea tg pos}(h:QE X Z q c ea)(hg:QG X Z pn (.t is) tg)(hs:swapsWithSole [tg] ea pos.line X.env=pure false<|>Ŕ)(hw:swappedStores [tg] ea X.env=pure none<|>Ŕ)(h1:(assignEach [tg] X.env).map (·.2)=[assign tg X.env]<|>Ŕ):
  QS X Z pn (Kj is c) (.Assign [tg] ea pos):=K7 (_aU h hg hs hw h1) λD σ H ai=>ex7 ai λE L r m w hc k=>
 Wq m w (hc) k λE1 s h1 x L1 H1 e1 e2 m1 w1 st _=>by
  cases hp:Tg.put _ s.2 E1 with
  |none=>rw[hp]at h1;cases h1
  |some E2=>
   rw[hp]at h1;cases _aa h1;exact#[E1,L1,x.let,E2,m1,(w1.tail.consNo (JW w1.head) rfl λb hb=>w1.apart b hb),rfl,rfl,by rw[show x.let.d=s.2 from e2];exact hp,fun σ' L' p m' w' s'=>k σ' L' H1 p m' w' ((Jw (x:=x.let) (st.trans Step.drop) (_eA (x:=x) st) rfl).trans s')]
end
section
variable {X:Cx}{Z:Fx0}{pn:List Nat}{q:Bool}{tg ao:Expr}{it:Ev (List D)}{t:Tg}{B:Sm}{ss:List Stmt}{pos:Pos}{σ:L2.St}{H:Hp}{L:Ls}{E:En}
def _fk{K}{T:List Sl}{H1 H2 L1 z}(w:World K H1 (L1++T.map some))(hT:∀t∈T,t.o=.no)(sm:k9 H1 H2)(ok:z.ok K H2)(ho:z.o=.no)(hz:∀b∈z.as,∃t∈T,b∈t.as):
  World K H2 ((⇑z::L1)++T.map some)/\Step H1 (L1++T.map some) H2 ((⇑z::L1)++T.map some):=by
 have w2:World K H2 _:=#[λx hx=>RepO.kp (w.ok x hx) (Kp.of_same sm),w.nd,w.ds];have hf:∀b∈z.as,b∈jZ (L1++T.map some):=λb hb=>by
  obtain⟨t,ht,hbt⟩:=hz b hb;rw[v5];exact _ab _ (mem_frozen.mpr #[t,Xx ht,by rw[_eC (hT t ht)];exact hbt])
 refine#[w2.consNo ok ho λb hb hL=>w2.ds b hL (hf b hb),λa ob h _=>sm a ob h,λa ha=>?_,λa ha=>?_]
 ·rw[List.cons_append,k3,_eB ho]at ha;exact .inl ha
 ·rw[List.cons_append,vY,_eC ho]at ha;rcases aA ha with q|q
  ·exact .inl (hf a q)
  ·exact .inl q
def stay{K T L1 L2 H1 H2}(w:World K H1 (L1++T))(s:Step H1 L1 H2 L2)(w2:World K H2 L2):World K H2 (L2++T)/\Step H1 (L1++T) H2 (L2++T):=#[s.frame w w2 w.left,s.frm]
def Step.dropT{T H1 L1}:Step H1 (L1++T) H1 L1:=#[λ_ _ h _=>h,λa ha=>.inl (by rw[kj];exact _ac _ ha),λa ha=>.inl (by rw[v5];exact _ac _ ha)]
def Kp.trans{H H1 H2 as}(a:Kp H H1 as)(b:Kp H1 H2 as):Kp H H2 as:=#[λc xs e=>b.1 c xs (a.1 c xs e),λc o u e=>b.2.1 c o u (a.2.1 c o u e),λc hc ob e=>b.2.2 c hc ob (a.2.2 c hc ob e)]
def _fl{K H2 H3 L2 L3}{T:List Sl}(w:World K H2 (L2++T.map some))(hT:∀t∈T,t.o=.no)(s:Step H2 L2 H3 L3){H0}(h:∀t∈T,Kp H0 H2 t.as):∀t∈T,Kp H0 H3 t.as:=λt ht=>
 (h t ht).trans (s.kp w.left λb hb z=>w.ds b (by rw[kj];exact _ac _ z) (by
  rw[v5];exact _ab _ (mem_frozen.mpr #[t,Xx ht,by rw[_eC (hT t ht)];exact hb])))
def _fm(hp:PassesOwn (model X.prog X.w) X.A X.env X.xe)(hc:X.calm=true)(hi:QID X Z q tg it ao)(hg:QG X Z pn t tg)(hb:QSs X Z pn B ss)(hs:(∀x,foldedSetIterable ao X.env x=pure x)<|>Ŗ):QS X Z pn (kQ it t B) (.For tg ao ss [] pos):=K7 (_a7 hp hc hi hg hb hs) λD σ H ai=>ex7 ai λE L r m w hr k=>by
 rcases _e2 hr with⟨E1,ds,h1,h2⟩|⟨E1,c,h1,rfl⟩
 rotate_left
 ·exact#[E,L,_,m,w,h1,k.xc,λE' s' z=>by cases z]
 refine#[E,L,_,m,w,h1,(λ_ _ z=>by cases z),λE' ds' z J T L' H' m' w' st hz _ wk=>?_];injection z with z1 z2;subst z1 z2;have lq:∀{H2 L2},World Z.K H2 (L2++T.map some)->∀t∈T,t.ok Z.K H2:=λw2 t ht=>w2.ok t (_ab _ (Xx ht))
 refine#[λi n σ1 H1=>∃E1 L1,Mt E1 σ1 L1/\World Z.K H1 (L1++T.map some)/\Step H L H1 (L1++T.map some)/\Pn pn σ σ1/\Q5 t B (ds.drop i) E1=⇑r/\i<=ds.length/\n=ds.length - i/\∀t∈T,Kp H' H1 t.as,#[_,E1,L',m',w',st,Pn.refl,h2,Y1 _,rfl,λ_ _=>Kp.of_same z8],?_];rintro i n σ1 H1 ⟨E1,L1,m1,w1,i8,p1,f1,hi,rfl,a8⟩
 by_cases cj:i<ds.length
 ·have hd:ds.drop i=ds[i]::ds.drop _:=List.drop_eq_getElem_cons cj;rw [hd]at f1;unfold Q5 at f1;cases bz:t.put ds[i] E1 with
  | none=>rw[bz]at f1;cases f1
  | some E2=>
   rw[bz]at f1;dsimp only at f1;refine .inr #[wk.go i H1 #[lq w1,a8] cj,fun σ2 H2=>∃E2 L2,Mt E2 σ2 L2/\World Z.K H2 _/\Step H L H2 _/\Pn pn σ σ2/\Q5 t B _ E2=⇑r/\∀t∈T,Kp H' H2 t.as,fun σ2 H2 hz=>by obtain⟨E2,L2,a1,a2,a3,a4,a5,a6⟩:=hz;exact#[ds.length - _,by omega,E2,L2,a1,a2,a3,a4,a5,cj,rfl,a6],λv H2 hy=>?_];obtain⟨z,zo,zd,zv,sm,vn,zas⟩:=wk.yld i H1 v H2 ds[i] #[lq w1,a8] hy (X1 cj);obtain⟨wz,sz⟩:=_fk w1 wk.no sm vn zo zas;refine#[E1,L1,z,E2,m1,wz.left,zo,zv,by rw[zd];exact bz,fun σ2 L2 p2 m2 w2 bo=>?_];obtain⟨w3,dl⟩:=stay wz bo w2;have gz:=i8.trans (sz.trans dl);have pw:=λt ht=>(a8 t ht).trans (Kp.of_same sm)
   cases hB:B E2 with
   | none=>rw[hB]at f1;cases f1
   | some g=>
    rw[hB]at f1;refine#[E2,L2,g,m2,w2,hB,?_];cases g with
    |nx E3=>
     intro σ3 L3 H3 p3 m3 w4 s3;obtain⟨w5,s5⟩:=stay w3 s3 w4;exact#[E3,L3,m3,w5,gz.trans s5,(p1.trans p2).trans p3,f1,_fl w3 wk.no s3 pw]
    |ct E3=>
     intro σ3 L3 H3 p3 m3 w4 s3;obtain⟨w5,s5⟩:=stay w3 s3 w4;exact#[E3,L3,m3,w5,gz.trans s5,(p1.trans p2).trans p3,f1,_fl w3 wk.no s3 pw]
    |bk E3=>
     have e:=_aa f1;subst e;intro σ3 L3 H3 p3 m3 w4 s3;exact k σ3 L3 H3 ((p1.trans p2).trans p3) m3 w4 ((gz.trans Step.dropT).trans s3)
    |rt E3 x=>
     have e:=_aa f1;subst e;intro y σ3 L3 H3 e1 e2 p3 m3 w4 s3;exact k y σ3 L3 H3 e1 e2 ((p1.trans p2).trans p3) m3 w4 ((gz.trans Step.dropT).trans s3)
    |xc E3 c=>
     have e:=_aa f1;subst e;intro C σ3 L3 H3 hm p3 m3 w4 s3;exact k C σ3 L3 H3 hm ((p1.trans p2).trans p3) m3 w4 ((gz.trans Step.dropT).trans s3)
 ·have e:i=ds.length:=by omega
  subst e;rw[List.drop_length]at f1;cases _aa f1;exact .inl #[wk.stop H1 #[lq w1,a8],k σ1 L1 H1 p1 m1 w1.left (i8.trans Step.dropT)]
def _fn(hp:PassesOwn (model X.prog X.w) X.A X.env X.xe)(hc:X.calm=true)(hi:QI X Z q tg it ao)(hg:QG X Z pn t tg)(hb:QSs X Z pn B ss)(hs:(∀x,foldedSetIterable ao X.env x=pure x)<|>Ŗ):QS X Z pn (kQ it t B) (.For tg ao ss [] pos):=_fm hp hc hi.D hg hb hs
end
mutual
def qJ(h:Heap):D->Value->Prop
 |.non,u=>u=.none|.bl b,u=>u=.bool b|.int i,u=>∃t,u=.int i t|.str z,u=>∃t,u=.str z t|.tup ds,u=>∃a us,u=.ref a/\h.IsTuple a us.toArray/\CReps h ds us|.lst ds,u=>∃a us,u=.ref a/\h.IsList a us.toArray/\CReps h ds us|.dct _,_=>False|.obj _ _,_=>False
def CReps(h:Heap):List D->List Value->Prop
 |[],us=>us=[]|d::ds,us=>∃u r,us=u::r/\qJ h d u/\CReps h ds r
end
def _fo{n k}:D.flat n (.dct k)=false:=by cases n<;>simp[D.flat]
def _fp{n c k}:D.flat n (.obj c k)=false:=by cases n<;>simp[D.flat]
section
variable {X:Cx}{a8:LA9}{σ:L2.St}{H:Hp}{s:Shared}
mutual
theorem QZ(I:Inv X a8 σ H s){g}:∀{n d v as u},RepL X.K H g d v as->d.flat n=true->RelV v u->qJ s.heap d u
 | _,.non,_,_,_,h,_,r=>by
  unfold RepL at h;rw[h.1]at r;exact r
 | _,.bl _,_,_,_,h,_,r=>by
  unfold RepL at h;rw[h.1]at r;exact r
 | _,.int _,_,_,_,h,_,r=>by
  unfold RepL at h;rw[h.1]at r;exact r
 | _,.str _,_,_,_,h,_,r=>by
  unfold RepL at h;rw[h.1]at r;unfold qJ;exact r
 | 0,.tup ds,_,_,_,h,f,r=>by cases f
 | n+1,.tup ds,_,_,_,h,f,r=>by
  obtain⟨a,xs,rfl,q,ra⟩:=h;cases r;obtain⟨ab,rv,p,_⟩:=I.tuple q;exact#[a,ab,rfl,p,creps_of I ra f rv]
 | 0,.lst ds,_,_,_,h,f,r=>by cases f
 | n+1,.lst ds,_,_,_,h,f,r=>by
  obtain⟨a,xs,bs,rfl,ra,q⟩:=h;cases r;have q':SqL X.K H a xs:=by
   rcases q with⟨q,_⟩|⟨_,q,_⟩
   ·exact SqL.of q
   ·exact(LsR.of q).sq
  obtain⟨ab,rv,p,_⟩:=I.list q';exact#[a,ab,rfl,p.isList,creps_of I ra f rv]
 |_,.dct _,_,_,_,h,f,r=>by rw[_fo]at f;cases f|_,.obj _ _,_,_,_,h,f,r=>by rw[_fp]at f;cases f
theorem creps_of(I:Inv X a8 σ H s){g}:∀{n ds xs as us},RepA X.K H g ds xs as->D.flats n ds=true->Vals xs us->CReps s.heap ds us
 | _,[],_,_,_,h,_,r=>by
  rw[h.1]at r;cases r;unfold CReps;rfl
 | n,d::ds,_,_,_,h,f,r=>by
  unfold D.flats at f;rw[Bool.and_eq_true]at f;obtain⟨x,rr,bs,cs,rfl,rfl,h1,h2⟩:=h;cases r with
  |cons r1 r2=>
   exact#[_,_,rfl,QZ I h1 f.1 r1,creps_of I h2 f.2 r2]
end
end
def CReps.len{h}:∀{ds us},CReps h ds us->ds.length=us.length
 |[],_,r=>by rw[r];rfl
 |d::ds,_,r=>by
  obtain⟨u,rr,rfl,_,h2⟩:=r;simp[CReps.len h2]
def CReps.get{h}:∀{ds us} {j:Nat} {d},CReps h ds us->ds[j]?=⇑d->∃u,us[j]?=⇑u/\qJ h d u
 | [],_,_,_,_,e=>by simp_all
 | d::ds,_,j,d',r,e=>by
  obtain⟨u,rr,rfl,h1,h2⟩:=r;cases j with
  |zero=>simp_all
  |succ j=>
   obtain _:=CReps.get h2 (~~~e)
   simp_all
def _fq{h:Heap}{a x y}(p:h.IsTuple a x)(q:h.IsTuple a y):x=y:=by
 obtain⟨o,h1,_,n,h2⟩:=p;obtain⟨o',h3,_,n',h4⟩:=q
 grind
def _fr{h:Heap}{a x y}(p:h.IsList a x)(q:h.IsList a y):x=y:=by
 obtain⟨o,h1,_,n,h2⟩:=p;obtain⟨o',h3,_,n',h4⟩:=q
 grind
def _fs{h:Heap}{a x y}(p:h.IsList a x)(q:h.IsTuple a y):False:=by
 obtain⟨o,h1,h2,_⟩:=p;obtain⟨o',h3,h4,_⟩:=q
 grind
inductive Cv (h:Heap):D->Value->Prop
 |non:Cv h .non .none
 |bl (b:Bool):Cv h (.bl b) (.bool b)
 |int (i:Int) (t:_):Cv h (.int i) (.int i t)
 |str (z:Str) (t:_):Cv h (.str z) (.str z t)
 |lst {ds:List D} {a:Addr} {us:List Value} (p:h.IsList a us.toArray) (q:CReps h ds us):Cv h (.lst ds) (.ref a)
 |tup {ds:List D} {a:Addr} {us:List Value} (p:h.IsTuple a us.toArray) (q:CReps h ds us):Cv h (.tup ds) (.ref a)
def crv{h d u}(r:qJ h d u):Cv h d u:=by
 cases d<;>unfold qJ at r
 all_goals first|exact r.elim|(subst r;constructor)|(obtain⟨_,rfl⟩:=r;constructor)|(obtain⟨_,_,rfl,p,q⟩:=r;first|exact .lst p q|exact .tup p q)
#where in
mutual
theorem _ft{h d d' u}(a:qJ h d u)(b:qJ h d' u):d=d':=by
 cases d<;>cases crv a<;>cases crv b<;>try rfl
 ·exact(_fs ‹_› ‹_›).elim
 ·rename_i p r _ _ r' p';cases Array.mk.inj (_fq p p');rw[_Ci r r']
 ·rename_i p r _ _ r' p';cases Array.mk.inj (_fr p p');rw[_Ci r r']
 ·exact(_fs ‹_› ‹_›).elim
theorem _Ci{h}:∀{ds ds' us},CReps h ds us->CReps h ds' us->ds=ds'
 | [],ds',us,a,b=>by
  unfold CReps at a;subst a;cases ds' with|nil=>rfl|cons d ds=>unfold CReps at b;obtain⟨_,_,e,_⟩:=b;cases e
 | d::ds,ds',us,a,b=>by
  unfold CReps at a;obtain⟨u,r,rfl,h1,h2⟩:=a;cases ds' with
  |nil=>unfold CReps at b;cases b
  |cons d' ds'=>
   obtain⟨u',r',e,h3,h4⟩:=b;cases e;rw[_ft h1 h3,_Ci h2 h4]
end
mutual
theorem XV:∀{n d},d.flat n=true->peq d d=true
 |_,.non,_=>by rfl|_,.bl b,_=>by unfold peq;simp|_,.int b,_=>by unfold peq;simp|_,.str b,_=>by unfold peq;simp|n+1,.tup ds,f=>peqs_refl f|n+1,.lst ds,f=>peqs_refl f|_,.dct _,f=>by rw[_fo]at f;cases f|_,.obj _ _,f=>by rw[_fp]at f;cases f
theorem peqs_refl:∀{n d},D.flats n d=true->peqs d d=true
 |_,[],_=>by rfl
 |n,d::ds,f=>by
  unfold D.flats at f;rw[Bool.and_eq_true]at f;unfold peqs;rw[XV f.1,peqs_refl f.2];rfl
end
def _fu:∀{n ds} {j:Nat} {d},D.flats n ds=true->ds[j]?=⇑d->d.flat n=true
 |_,[],_,_,_,e=>by simp_all
 |n,d::ds,j,d',f,e=>by
  unfold D.flats at f;rw[Bool.and_eq_true]at f;cases j with|zero=>simp_all|succ j=>exact _fu f.2 (~~~e)
def pAt(as bs:List D)(j:Nat):Bool:=match as[j]?,bs[j]? with
 |some a,⇑b=>peq a b|_,_=>true
def _fv:∀as bs,as.length=bs.length->(List.range as.length).all (pAt as bs)=peqs as bs
 |[],[],_=>by rfl
 |a::as,b::bs,h=>by
  rw[Xm,List.range_succ_eq_map,List.all_cons,List.all_map];unfold peqs;rw[<-(_fv as bs (~~~h))];rfl
def _fw:∀as bs,as.length≠bs.length->peqs as bs=false
 |[],[],h=>by simp_all
 |a::as,b::bs,h=>by
  unfold peqs;rw[_fw as bs (~~~h),Bool.and_false]
 |[],_::_,_=>by rfl|_::_,[],_=>by rfl
def _fx(as bs):((List.range (min as.length bs.length)).all (pAt as bs)&&as.length==bs.length)=peqs as bs:=by
 by_cases e:as.length=bs.length
 ·rw[<-e,Nat.min_self,_fv as bs e];simp[e]
 ·rw[_fw as bs e]
  grind
section
variable {s:Shared}
def _fy{as bs us ws A}(ra:CReps s.heap as us)(rb:CReps s.heap bs ws)
  (h:∀(j:Nat) (d d') (u w),as[j]?=⇑d->bs[j]?=⇑d'->qJ s.heap d u->qJ s.heap d' w->SeqAt.EqAt A s u w (peq d d')):
  ∀j h1 (h2:j<ws.toArray.size),SeqAt.EqAt A s us.toArray[j] ws.toArray[j] (pAt as bs j):=λj h1 h2=>by
 have l1:=ra.len;have l2:=rb.len;simp at h1 h2;have ha:j<as.length:=⋯
 have hb:j<bs.length:=⋯
 obtain⟨u,eu,ru⟩:=ra.get (X1 ha);obtain⟨w,ew,jo⟩:=rb.get (X1 hb);have e1:us.toArray[j]=u:=by
  simp_all
 have e2:ws.toArray[j]=w:=by
  simp_all
 have e3:pAt as bs j=peq as[j] bs[j]:=by
  unfold pAt;rw[X1 ha,X1 hb]
 rw[e1,e2,e3];exact h j _ _ u w (X1 ha) (X1 hb) ru jo
#where in
def _fz{A d d' u w}(hu:A.units<cLine)(r:qJ s.heap d u)(r':qJ s.heap d' w)
  (el:∀as bs (us ws),(d=.lst as\/d=.tup as)->(d'=.lst bs\/d'=.tup bs)->CReps s.heap as us->CReps s.heap bs ws->∀j (h1) (h2:j<ws.toArray.size),SeqAt.EqAt A.in1 s us.toArray[j] ws.toArray[j] (pAt as bs j)):
  SeqAt.RcAt A s u w (peq d d'):=by
 cases crv r<;>cases crv r'<;>unfold peq<;>try dsimp only
 ·exact SeqAt.RcAt.none_none
 ·exact SeqAt.RcAt.none_bool _
 ·exact SeqAt.RcAt.none_int _ _
 ·exact SeqAt.RcAt.none_str _ _
 ·exact SeqAt.RcAt.none_list ‹_› hu
 ·exact SeqAt.RcAt.none_tuple ‹_› hu
 ·exact SeqAt.RcAt.bool_none _
 ·exact SeqAt.RcAt.bool_bool _ _
 ·exact SeqAt.RcAt.bool_int _ _ _
 ·exact SeqAt.RcAt.bool_str _ _ _
 ·exact SeqAt.RcAt.bool_list _ ‹_› hu
 ·exact SeqAt.RcAt.bool_tuple _ ‹_› hu
 ·exact SeqAt.RcAt.int_none _ _
 ·exact SeqAt.RcAt.int_bool _ _ _
 ·exact SeqAt.RcAt.int_int _ _ _ _
 ·exact SeqAt.RcAt.int_str _ _ _ _
 ·exact SeqAt.RcAt.int_list _ _ ‹_› hu
 ·exact SeqAt.RcAt.int_tuple _ _ ‹_› hu
 ·exact SeqAt.RcAt.str_none _ _
 ·exact SeqAt.RcAt.str_bool _ _ _
 ·exact SeqAt.RcAt.str_int _ _ _ _
 ·exact SeqAt.RcAt.str_str _ _ _ _
 ·exact SeqAt.RcAt.str_list _ _ ‹_› hu
 ·exact SeqAt.RcAt.str_tuple _ _ ‹_› hu
 ·exact SeqAt.RcAt.list_none ‹_› hu
 ·exact SeqAt.RcAt.list_bool _ ‹_› hu
 ·exact SeqAt.RcAt.list_int _ _ ‹_› hu
 ·exact SeqAt.RcAt.list_str _ _ ‹_› hu
 ·rename_i as a us p ra bs b ws p' rb;have l1:=ra.len;have l2:=rb.len
  by_cases hl:as.length=bs.length
  ·rw[<-_fv as bs hl];have z:=SeqAt.RcAt.lists (A:=A) (s:=s) (e:=pAt as bs) p p' (by simp only[X8];lia) hu (el as bs us ws (.inl rfl) (.inl rfl) ra rb);rw[X8,<-l1]at z;exact z
  ·rw[_fw as bs hl];exact SeqAt.RcAt.lists_lengths p p' (by simp only[X8,bne_iff_ne];lia) hu
 ·exact SeqAt.RcAt.list_tuple ‹_› ‹_› hu
 ·exact SeqAt.RcAt.tuple_none ‹_› hu
 ·exact SeqAt.RcAt.tuple_bool _ ‹_› hu
 ·exact SeqAt.RcAt.tuple_int _ _ ‹_› hu
 ·exact SeqAt.RcAt.tuple_str _ _ ‹_› hu
 ·exact SeqAt.RcAt.tuple_list ‹_› ‹_› hu
 ·rename_i as a us p ra bs b ws p' rb;rw[<-_fx as bs];have z:=SeqAt.RcAt.tuples (A:=A) (s:=s) (e:=pAt as bs) p p' hu (el as bs us ws (.inr rfl) (.inr rfl) ra rb);rw[X8,X8,<-ra.len,<-rb.len]at z;exact z
#where in
def _fA{A d d' u w}(hu:A.units<cLine)(r:qJ s.heap d u)(r':qJ s.heap d' w)
  (el:∀as bs (us ws),(d=.lst as\/d=.tup as)->(d'=.lst bs\/d'=.tup bs)->CReps s.heap as us->CReps s.heap bs ws->∀j (h1) (h2:j<ws.toArray.size),SeqAt.EqAt A.in1 s us.toArray[j] ws.toArray[j] (pAt as bs j)):
  SeqAt.RcNeAt A s u w (!peq d d'):=by
 cases crv r<;>cases crv r'<;>unfold peq<;>try dsimp only
 ·exact SeqAt.RcNeAt.none_none
 ·exact SeqAt.RcNeAt.none_bool _
 ·exact SeqAt.RcNeAt.none_int _ _
 ·exact SeqAt.RcNeAt.none_str _ _
 ·exact SeqAt.RcNeAt.none_list ‹_› hu
 ·exact SeqAt.RcNeAt.none_tuple ‹_› hu
 ·exact SeqAt.RcNeAt.bool_none _
 ·exact SeqAt.RcNeAt.bool_bool _ _
 ·exact SeqAt.RcNeAt.bool_int _ _ _
 ·exact SeqAt.RcNeAt.bool_str _ _ _
 ·exact SeqAt.RcNeAt.bool_list _ ‹_› hu
 ·exact SeqAt.RcNeAt.bool_tuple _ ‹_› hu
 ·exact SeqAt.RcNeAt.int_none _ _
 ·exact SeqAt.RcNeAt.int_bool _ _ _
 ·exact SeqAt.RcNeAt.int_int _ _ _ _
 ·exact SeqAt.RcNeAt.int_str _ _ _ _
 ·exact SeqAt.RcNeAt.int_list _ _ ‹_› hu
 ·exact SeqAt.RcNeAt.int_tuple _ _ ‹_› hu
 ·exact SeqAt.RcNeAt.str_none _ _
 ·exact SeqAt.RcNeAt.str_bool _ _ _
 ·exact SeqAt.RcNeAt.str_int _ _ _ _
 ·exact SeqAt.RcNeAt.str_str _ _ _ _
 ·exact SeqAt.RcNeAt.str_list _ _ ‹_› hu
 ·exact SeqAt.RcNeAt.str_tuple _ _ ‹_› hu
 ·exact SeqAt.RcNeAt.list_none ‹_› hu
 ·exact SeqAt.RcNeAt.list_bool _ ‹_› hu
 ·exact SeqAt.RcNeAt.list_int _ _ ‹_› hu
 ·exact SeqAt.RcNeAt.list_str _ _ ‹_› hu
 ·rename_i as a us p ra bs b ws p' rb;have l1:=ra.len;have l2:=rb.len
  by_cases hl:as.length=bs.length
  ·rw[<-_fv as bs hl];have z:=SeqAt.RcNeAt.lists (A:=A) (s:=s) (e:=pAt as bs) p p' (by simp only[X8];lia) hu (el as bs us ws (.inl rfl) (.inl rfl) ra rb);rw[X8,<-l1]at z;exact z
  ·rw[_fw as bs hl];exact SeqAt.RcNeAt.lists_lengths p p' (by simp only[X8,bne_iff_ne];lia) hu
 ·exact SeqAt.RcNeAt.list_tuple ‹_› ‹_› hu
 ·exact SeqAt.RcNeAt.tuple_none ‹_› hu
 ·exact SeqAt.RcNeAt.tuple_bool _ ‹_› hu
 ·exact SeqAt.RcNeAt.tuple_int _ _ ‹_› hu
 ·exact SeqAt.RcNeAt.tuple_str _ _ ‹_› hu
 ·exact SeqAt.RcNeAt.tuple_list ‹_› ‹_› hu
 ·rename_i as a us p ra bs b ws p' rb;rw[<-_fx as bs];have z:=SeqAt.RcNeAt.tuples (A:=A) (s:=s) (e:=pAt as bs) p p' hu (el as bs us ws (.inr rfl) (.inr rfl) ra rb);rw[X8,X8,<-ra.len,<-rb.len]at z;exact z
def _fB{A a a' b}(px:Value.ref a=Value.ref a'->b=true)(rc:SeqAt.RcAt A s (.ref a) (.ref a') b):SeqAt.EqAt A s (.ref a) (.ref a') b:=by
 by_cases e:a=a'
 ·subst e;rw[px rfl];exact SeqAt.EqAt.same _
 ·exact SeqAt.EqAt.of_refs e rc
def _fC{A d d' u w}(hu:A.units<cLine)(r:qJ s.heap d u)(r':qJ s.heap d' w)(px:u=w->peq d d'=true)(rc:SeqAt.RcAt A s u w (peq d d')):SeqAt.EqAt A s u w (peq d d'):=by
 cases crv r<;>cases crv r'<;>try unfold peq
 ·exact SeqAt.EqAt.same _
 ·exact SeqAt.EqAt.none_bool _
 ·exact SeqAt.EqAt.none_int _ _
 ·exact SeqAt.EqAt.none_str _ _
 ·exact SeqAt.EqAt.none_list ‹_› hu
 ·exact SeqAt.EqAt.none_tuple ‹_› hu
 ·exact SeqAt.EqAt.bool_none _
 ·exact SeqAt.EqAt.bool_bool _ _
 ·exact SeqAt.EqAt.bool_int _ _ _
 ·exact SeqAt.EqAt.bool_str _ _ _
 ·exact SeqAt.EqAt.bool_list _ ‹_› hu
 ·exact SeqAt.EqAt.bool_tuple _ ‹_› hu
 ·exact SeqAt.EqAt.int_none _ _
 ·exact SeqAt.EqAt.int_bool _ _ _
 ·exact SeqAt.EqAt.int_int _ _ _ _
 ·exact SeqAt.EqAt.int_str _ _ _ _
 ·exact SeqAt.EqAt.int_list _ _ ‹_› hu
 ·exact SeqAt.EqAt.int_tuple _ _ ‹_› hu
 ·exact SeqAt.EqAt.str_none _ _
 ·exact SeqAt.EqAt.str_bool _ _ _
 ·exact SeqAt.EqAt.str_int _ _ _ _
 ·exact SeqAt.EqAt.str_str _ _ _ _
 ·exact SeqAt.EqAt.str_list _ _ ‹_› hu
 ·exact SeqAt.EqAt.str_tuple _ _ ‹_› hu
 ·exact SeqAt.EqAt.list_none ‹_› hu
 ·exact SeqAt.EqAt.list_bool _ ‹_› hu
 ·exact SeqAt.EqAt.list_int _ _ ‹_› hu
 ·exact SeqAt.EqAt.list_str _ _ ‹_› hu
 ·exact _fB px rc
 ·exact _fB px rc
 ·exact SeqAt.EqAt.tuple_none ‹_› hu
 ·exact SeqAt.EqAt.tuple_bool _ ‹_› hu
 ·exact SeqAt.EqAt.tuple_int _ _ ‹_› hu
 ·exact SeqAt.EqAt.tuple_str _ _ ‹_› hu
 ·exact _fB px rc
 ·exact _fB px rc
def Ww:∀n {d d' u w A},d.flat n=true->qJ s.heap d u->qJ s.heap d' w->A.units+n<cLine->SeqAt.EqAt A s u w (peq d d')
 | n,d,d',u,w,A,f,r,r',hu=>by
  refine _fC ⋯ r r' (λe=>?_) (_fz ⋯ r r' λas bs us ws h1 h2 ra rb=>?_)
  rotate_left
  ·cases n with
   |zero=>rcases h1 with rfl|rfl<;>(unfold D.flat at f;cases f)
   |succ n=>
    have fs:D.flats n as=true:=by rcases h1 with rfl|rfl<;>(unfold D.flat at f;exact f)
    exact _fy ra rb λj d d' u w e1 e2 q1 q2=>Ww n (_fu fs e1) q1 q2 ⋯
  ·subst e;rw[_ft r' r];exact XV f
end
section
variable {X:Cx}{Z:Fx0}{K:Frag}
def _fD(K:Frag):R2:=λx y H Q=>∃d d' as bs,RepL K H true d x as/\RepL K H true d' y bs/\d.flat 40=true/\d'.flat 40=true/\Q (.bl (peq d d')) H
def _fE(K:Frag):R2:=λx y H Q=>∃d d' as bs,RepL K H true d x as/\RepL K H true d' y bs/\d.flat 40=true/\d'.flat 40=true/\Q (.bl (!peq d d')) H
def _fF(hu:X.A.units+64<cLine)(hK:X.K=K<|>Ŕ):OpR X (compareOp .Eq) (_fD K):=by
 subst hK;rintro a8 s σ H x y v u Q I rx ry ⟨d,d',as,bs,h1,h2,f1,f2,q⟩;refine _fz ⋯ (QZ I h1 f1 rx) (QZ I h2 f2 ry) (λas bs us ws e1 e2 ra rb=>_fy ra rb λj d d' u w e3 e4 q1 q2=>?_) _ _ _ _ #[.bl _,H,I,rfl,q];have fs:D.flats 39 as=true:=by rcases e1 with rfl|rfl<;>(unfold D.flat at f1;exact f1)
 exact Ww 39 (_fu fs e3) q1 q2 ⋯
def _fG(hu:X.A.units+64<cLine)(hK:X.K=K<|>Ŕ):OpR X (compareOp .NotEq) (_fE K):=by
 subst hK;rintro a8 s σ H x y v u Q I rx ry ⟨d,d',as,bs,h1,h2,f1,f2,q⟩;refine _fA ⋯ (QZ I h1 f1 rx) (QZ I h2 f2 ry) (λas bs us ws e1 e2 ra rb=>_fy ra rb λj d d' u w e3 e4 q1 q2=>?_) _ _ _ _ #[.bl _,H,I,rfl,q];have fs:D.flats 39 as=true:=by rcases e1 with rfl|rfl<;>(unfold D.flat at f1;exact f1)
 exact Ww 39 (_fu fs e3) q1 q2 ⋯
def _fH:Ad2 K (_fD K) (pu2 fEq):=by
 intro H x y s Q ox oy hf k;unfold pu2 fEq at hf
 by_cases hc:(x.d.flat 40&&y.d.flat 40)=true
 ·rw[Xb hc]at hf;rw[Bool.and_eq_true]at hc;cases _aa hf;exact#[x.d,y.d,x.as,y.as,RepO.wk ox,RepO.wk oy,hc.1,hc.2,k _ H rfl rfl wJ]
 ·simp_all
def _fI:Ad2 K (_fE K) (pu2 fNe):=by
 intro H x y s Q ox oy hf k;unfold pu2 fNe at hf
 by_cases hc:(x.d.flat 40&&y.d.flat 40)=true
 ·rw[Xb hc]at hf;rw[Bool.and_eq_true]at hc;cases _aa hf;exact#[x.d,y.d,x.as,y.as,RepO.wk ox,RepO.wk oy,hc.1,hc.2,k _ H rfl rfl wJ]
 ·simp_all
end
mutual
def _fJ:D->Nat
 |.tup xs=>drwDs xs+1|_=>1
def drwDs:List D->Nat
 |[]=>0|a::x=>_fJ a+drwDs x
end
mutual
theorem _fK{n:Nat}{d:D}(h:qK n d=true):d.flat n=true:=by
 cases d<;>cases n<;>unfold qK at h<;>first|rfl|(cases h)|skip
 exact _Kf h
theorem _Kf{n:Nat}{ds:List D}(h:keyDs n ds=true):D.flats n ds=true:=by
 cases ds<;>unfold keyDs at h<;>unfold D.flats
 ·rfl
 rw[Bool.and_eq_true]at h;rw[_fK h.1,_Kf h.2];rfl
end
mutual
theorem _fL{n m:Nat}{a b:D}(ha:qK n a=true)(hb:qK m b=true):peq a b=decide (a=b):=by
 cases a<;>first|(cases n<;>(unfold qK at ha;cases ha);done)|(cases b<;>first|(cases m<;>(unfold qK at hb;cases hb);done)|(simp[peq];done)|(simp[peq];first|rfl|exact Bool.beq_eq_decide_eq _ _)|skip)
 cases n<;>cases m<;>unfold qK at ha hb<;>first|(cases ha)|(cases hb)|simpa [peq]using keys_peq ha hb
theorem keys_peq{n m:Nat}{a b:List D}(ha:keyDs n a=true)(hb:keyDs m b=true):peqs a b=decide (a=b):=by
 cases a<;>cases b<;>unfold keyDs at ha hb<;>simp[peqs]
 rw[Bool.and_eq_true]at ha hb;rw[_fL ha.1 hb.1,keys_peq ha.2 hb.2]
end
#where in
def _fM{h:Heap}{n:Nat}:∀{ds:List D} {us:List Value},keyDs n ds=true->CReps h ds us->∀u∈us,∃d,qK n d=true/\qJ h d u:=by
 intro ds
 induction ds<;>intro us hk r u hu<;>unfold CReps at r
 ·subst r;cases hu
 ·rename_i ih;obtain⟨v,r,rfl,h1,h2⟩:=r;unfold keyDs at hk;rw[Bool.and_eq_true]at hk;rcases aD hu with rfl|hu
  ·exact#[_,hk.1,h1]
  ·exact ih hk.2 h2 u hu
#where in
def _fN{h : Heap}{P : Nat -> Value -> Prop}(b : ∀n u,(u = .none \/ (∃i t,u = .int i t) \/ ∃x t,u = .str x t) -> P n u)(st : ∀n a (us : List Value),h.IsTuple a us.toArray -> (∀u ∈ us,P n u) -> P (n+1) (.ref a)): ∀n {d : D} {u : Value},qK n d = true -> qJ h d u -> P n u:= by
  intro n
  induction n <;> intro d u hk hr <;> cases crv hr <;> unfold qK at hk <;> first
    |(cases hk; done)
    |exact b _ _ (.inl rfl)
    |exact b _ _ (.inr (.inl ⟨_,_,rfl⟩))
    |exact b _ _ (.inr (.inr ⟨_,_,rfl⟩))
    |skip
  rename_i ih _ _ _ p q;refine st _ _ _ p λu hu=> ?_
  obtain⟨d,k,r⟩:= _fM hk q u hu;exact ih k r
section
variable {prog:Program}{w:PySem.World}{A:Around}{E:VP9}{s:Shared}
def _fO{Q:Int->Shared->Prop}(h:Q 4238894112 {s with toks:=s.toks+1}):wpAny (model prog w) A (pyHash .none) Q E s:=by
 have ty:s.TypeIs Value.none "NoneType":=rfl;unfold pyHash;refine X0 ?_;refine X6 (X0 (Z0 ty F.slot_NoneType_hash.lookup ?_));show wpAny _ _ (callSpecialIfBoundUnlessNone? Value.none "__hash__" _ >>= _) Q E s;refine X0 (wpAny_callSpecialIfBoundUnlessNone?_slot ty F.slot_NoneType_hash (Y3 F.slot_NoneType_hash ty F.entry_NoneType_hash ?_ (F.args_NoneType_hash_1 _)));refine wpAny_ret_mkInt ?_;show wpAny _ _ (if(decide (-(2:Int) ^ 63<=(4238894112:Int))&&decide ((4238894112:Int)<2 ^ 63))=true then _ else _) Q E _;rw[Xb ⋯];exact X6 h
def _fP{d:D}:∀ds:List D,hashDs w (ds++[d])=hashDs w ds++[VJ w d]
 |[]=>by simp[hashDs]|a::x=>by rw[List.cons_append,hashDs,_fP x];rfl
def _fQ{d:D}:∀ds:List D,drwDs (ds++[d])=drwDs ds+_fJ d
 |[]=>by simp[drwDs]|a::x=>by rw[List.cons_append,drwDs,drwDs,_fQ x];lia
#where in
def _fR:∀(n:Nat) {d:D} {u:Value} {A:Around} {s:Shared} {Q:Int->Shared->Prop},qK n d=true->qJ s.heap d u->A.units+4*n<cLine->Q (VJ w d) {s with toks:=s.toks+_fJ d}->wpAny (model prog w) A (pyHash u) Q E s:=by
 intro n
 induction n<;>intro d u A s Q hk hr hu h<;>cases crv hr<;>unfold qK at hk<;>first|(cases hk;done)|((with_reducible refine _fO ?_);exact h)|((with_reducible refine wpAny_pyHash_int ?_);exact h)|((with_reducible refine wpAny_pyHash_str ?_);exact h)|skip
 rename_i n ih ds a us ht hi;have ty:=ht.typeIs;obtain⟨ob,wp,f7,nn,t4⟩:=ht;unfold pyHash;unfold pyHashByItsType;refine X0 (wpAny_cRoomFor_or (.inr ⋯) ?_);refine X0 (Z0 ty F.slot_tuple_hash.lookup ?_);show wpAny _ _ (if(⇑(Value.builtin "tuple.__hash__")==⇑Value.none)=true then _ else _) Q E s;rw [Xj (show ¬(⇑(Value.builtin "tuple.__hash__")==⇑Value.none)=true by rw[beq_builtin_none];exact Bool.false_ne_true)];refine X0 (Z0 ty F.slot_tuple_hash.lookup ?_);show wpAny _ _ (callSpecialIfBoundUnlessNone? (Value.ref a) "__hash__" _ >>= _) Q E s;refine X0 (wpAny_callSpecialIfBoundUnlessNone?_slot ty F.slot_tuple_hash (Y3 F.slot_tuple_hash ty F.entry_tuple_hash ?_ (F.args_tuple_hash_1 _)));show wpAny _ _ (Builtin.Tuple.tupleItemsOf (Value.ref a) >>= _) _ _ s;refine X0 (wpAny_tupleItemsOf wp t4 ?_);refine X0 ?_;rw [<-Array.forIn_toList];refine wpAny_forIn_list _ (λaa (b:Array Int) s'=>∃pre post,ds=pre++post/\keyDs n post=true/\CReps s.heap post aa/\b.toList=hashDs w pre/\s'={s with toks:=s.toks+drwDs pre}) _ ?_ ?_ _ _ #[[],ds,rfl,hk,hi,rfl,rfl]
 ·rintro x aa b s' ⟨pre,post,rfl,n9,hl,hb,rfl⟩;cases post with
  | nil=>unfold CReps at hl;cases hl
  | cons d post=>
   unfold CReps at hl;obtain⟨u1,r1,e1,h1,h2⟩:=hl;injection e1 with e1 e2;subst e1 e2;unfold keyDs at n9;rw[Bool.and_eq_true]at n9;have ru:A.in1.units+4*n<cLine:=by show A.units+1+4*n<cLine;lia
   have fin:∃p q,pre++d::post=p++q/\keyDs n q=true/\CReps s.heap q aa/\(b.push (VJ w d)).toList=hashDs w p/\({s with toks:=s.toks+drwDs pre+_fJ d}:Shared)={s with toks:=s.toks+drwDs p}:=
    #[pre++[d],post,by simp,n9.2,h2,by rw[_fP,<-hb];simp,by rw[_fQ,Nat.add_assoc]]
   refine X0 (ih n9.1 h1 ru ?_)
   first
    |exact X6 fin
    |exact X0 (X6 (X6 fin))
 ·rintro b s' ⟨pre,post,rfl,n9,hl,hb,rfl⟩;have:post=[]:=by
   cases post with|nil=>rfl|cons d post=>unfold CReps at hl;obtain⟨_,_,z,_⟩:=hl;cases z
  subst this;rw[Xv]at h;show wpAny _ _ (retInt (Builtin.Tuple.tupleHashOf b.toList)) _ _ _;rw[hb];refine wpAny_ret_mkInt ?_;generalize hv:Builtin.Tuple.tupleHashOf (hashDs w pre)=v;have h:Q (reduceHash v) {s with toks:=s.toks+drwDs pre+1}:=by rw[<-hv];unfold VJ _fJ at h;rw[Nat.add_assoc];exact h
  show wpAny _ _ (if(decide (-(2:Int) ^ 63<=v)&&decide (v<2 ^ 63))=true then _ else _) Q E _;unfold reduceHash at h
  by_cases hq:(decide (-(2:Int) ^ 63<=v)&&decide (v<2 ^ 63))=true
  ·rw[Xb hq]at h ⊢;exact X6 h
  ·rw[Xj hq]at h ⊢;exact X0 (Zl (X6 h))
def _fS(n m:Nat){d:D}{u:Value}{A:Around}{s:Shared}{Q:Bool->Shared->Prop}(hm:n<=m)(hk:qK n d=true)(hr:qJ s.heap d u)(h:Q true s):wpAny (model prog w) A (eqIsQuiet m u) Q E s:=by
 refine _fN (P:=λn u=>∀m (Q:Bool->Shared->Prop),n<=m->Q true s->wpAny (model prog w) A (eqIsQuiet m u) Q E s) ?_ (λn a us ht hi m Q hm h=>?_) n hk hr m Q hm h
 ·rintro n u (rfl|⟨i,t,rfl⟩|⟨i,t,rfl⟩) m Q _ h<;>(rw[eqIsQuiet_byValue m rfl];exact X6 h)
 have ty:=ht.typeIs;obtain⟨ob,wp,f7,nn,t4⟩:=ht;cases m
 ·lia
 unfold eqIsQuiet;refine X0 (Z0 ty F.slot_tuple_eq.lookup ?_);show wpAny _ _ (isInstance (Value.ref a) (.type "tuple") >>= _) _ _ s;refine X0 (wpAny_isInstance ty isSubtype_tuple_tuple ?_);simp only[Bool.not_true,Bool.false_eq_true,if_false];refine X0 (wpAny_seqItems wp t4 (X0 ?_));show wpAny _ _ (forIn us.toArray _ _) _ _ s;rw[<-Array.forIn_toList];refine wpAny_forIn_list _ (λaa r s'=>r.1=none/\s'=s/\∀u∈aa,u∈us) _ ?_ ?_ _ _ #[rfl,rfl,λ_ h=>h]
 ·rintro v aa r s' ⟨hr,rfl,hu⟩;refine X0 (hi v (hu v X5) _ _ ⋯ ?_);simp only[Bool.not_true,Bool.false_eq_true,if_false];exact X6 #[rfl,rfl,λu h=>hu u (_ad _ h)]
 ·rintro ⟨r1,r2⟩ s' ⟨hz,rfl,_⟩;cases hz;exact X6 h
end
mutual
theorem _fT{h h':Heap}(et:∀b ob us n,h.get? b=⇑ob->ob.cls=.type "tuple"->ob.data=.seq us n->h'.get? b=⇑ob){n:Nat}{d:D}{u:Value}(hk:qK n d=true)(r:qJ h d u):qJ h' d u:=by
 cases d<;>cases n<;>unfold qK at hk<;>unfold qJ at r ⊢<;>first|exact r|(cases hk;done)|skip
 obtain⟨a,us,e,⟨ob,wp,hc,nn,t4⟩,hi⟩:=r;exact#[a,us,e,#[ob,et a ob _ _ wp hc t4,hc,nn,t4],_Ck et hk hi]
theorem _Ck{h h':Heap}(et:∀b ob us n,h.get? b=⇑ob->ob.cls=.type "tuple"->ob.data=.seq us n->h'.get? b=⇑ob){n:Nat}{ds:List D}{us:List Value}(hk:keyDs n ds=true)(r:CReps h ds us):CReps h' ds us:=by
 cases ds<;>unfold CReps at r ⊢
 ·exact r
 unfold keyDs at hk;rw[Bool.and_eq_true]at hk;obtain⟨u,rr,e,h1,h2⟩:=r;exact#[u,rr,e,_fT et hk.1 h1,_Ck et hk.2 h2]
end
def _fU(prog:Program)(w:PySem.World):HeapKind prog w Kd where
 is:=λh k a=>qJ h k.1 (.ref a)
 hash:=λk=>VJ w k.1
 draws:=λk=>_fJ k.1
 room:=λA=>A.units+40<cLine
 inj:=λhx hy=>Subtype.ext (_ft hx hy)
 keeps:=fun {h h' k a d o es ep} x ho hd hs=>_fT (λb ob us n e _ z=>(hs.2 b (by rintro rfl;rw[ho]at e;cases e;rw[hd]at z;cases z)).trans e) k.2 x
 pyHash:=fun {A E s k a Q} hu hk h=>_fR 6 k.2 hk (Nat.lt_of_le_of_lt (Nat.add_le_add_left ⋯ _) hu) h
 eqBool:=fun {A E s x y a b Q} hu hx hy h=>by
  have e:peq x.1 y.1=decide (x=y):=by
   rw[_fL x.2 y.2]
   by_cases z:x=y
   ·rw[Xg z,Xg (congrArg Subtype.val z)]
   ·rw[Xl z,Xl λq=>z (Subtype.ext q)]
  have:=Ww (s:=s) 6 (A:=A) (_fK x.2) hx hy (Nat.lt_of_le_of_lt (Nat.add_le_add_left ⋯ _) hu);rw[e]at this;exact this prog w E Q h
 quiet:=fun {A E s k a Q} hk h=>_fS 6 8 ⋯ k.2 hk h
abbrev Sl.sd(x:Sl):Sd:=(x.o,x.d)
def tA(Z:Fx0)(q:Bool)(cs:List Ex):TA:=fun σ H Q=>∃E L r,Mt E σ L/\World Z.K H L/\vX cs E=⇑r/\Xc Z σ H L r /\
 ∀E' ys,r=.ok E' ys->∀(xs:List Sl) L' H',xs.map Sl.sd=ys->Mt E' σ L'->World Z.K H' (xs.map some++L')->Step H L H' (xs.map some++L')->(q=true->k9 H H'/\∀b∈jv (xs.map some),H b=none)->Q (xs.map Sl.v) H'
def QA(X:Cx)(Z:Fx0)(q:Bool)(cs:List Ex)(es:List Expr):Prop:=PA X es (tA Z q cs)
def _fV{X es t t'}(h:PA X es t)(w:∀ σ H Q,t' σ H Q->t σ H Q):PA X es t':=λpos a8 s σ H Q I q=>h pos a8 s σ H Q I (w σ H Q q)
section
variable {X:Cx}{Z:Fx0}{pn:List Nat}{q:Bool}{c:Ex}{cs:List Ex}{e:Expr}{es:List Expr}{pos:Pos}{σ:L2.St}{H:Hp}{L:Ls}{E:En}
noncomputable def jq:QA X Z true [] []:=_fV wY fun σ H Q ai=>ex8 ai λE L r m w hc xc k=>by
 cases _aa hc;exact k _ _ rfl [] L H rfl m w Step.refl λ_=>#[λ_ _ z=>z,λ_ z=>(nomatch z)]
def j5(h:QE X Z q c e)(hs:QA X Z q cs es)(ba:Abs e es X<|>Ŕ):QA X Z q (c::cs) (e::es):=
 _fV (wj h hs ba) fun σ H Q ai=>ex8 ai λE L r m w hc xc k=>by
  refine W3 m w (hc) xc λE1 s h1 x L1 H1 e1 e2 m1 w1 st sm=>?_
  rcases wv h1 with⟨E2,ys,h2,h3⟩|⟨E2,cc,h2,h3⟩
  ·cases _aa h3;refine#[E1,L1,_,m1,w1.tail,h2,(λ_ _ z=>by cases z),λE' ys' z xs L2 H2 e3 m2 w2 bo dk=>?_];injection z with z1 z2;subst z1 z2;obtain⟨w3,dl⟩:=_ex (T:=[⇑x]) w1 bo w2;refine k _ _ rfl (x::xs) L2 H2 (by rw[List.map_cons,e3];simp[Sl.sd,e1,e2]) m2 w3 (st.trans dl) λhq=>?_
   obtain⟨a1,a2⟩:=sm hq;obtain⟨b1,b2⟩:=dk hq;refine#[kZ a1 b1,λb hb=>?_];rcases aA hb with z|z
   ·exact a2 b z
   ·exact J8 a1 (b2 b z)
  ·exact#[E1,L1,_,m1,w1.tail,h2,(xc.step (st.trans Step.drop)).map h3,λE' s' z=>by cases z]
end
section
variable {X:Cx}{Z:Fx0}{q:Bool}{cs:List Ex}{es:List Expr}{pos:Pos}{σ:L2.St}{H:Hp}{L:Ls}{E:En}{α:Type}
def _fW:∀{cs E E' ys},vX cs E=⇑(.ok E' ys)->ys.length=cs.length
 | [],E,E',ys,h=>by cases _aa h;rfl
 | c::cs,E,E',ys,h=>by
  rcases wv (h)with⟨E1,x,h1,h2⟩|⟨_,_,_,z⟩
  ·rcases wv h2 with⟨E2,xs,h3,h4⟩|⟨_,_,_,z⟩
   ·cases _aa h4;rw[Xm,Xm,_fW h3]
   ·cases z
  ·cases z
def _fX{F}{r:Res α}{G}(m:Mt E σ L)(w:World Z.K H L)(h:bnd (vX cs E) F=⇑r)(xc:Xc Z σ H L r)
  (k:∀E1 ys,F E1 ys=⇑r->ys.length=cs.length->∀(xs:List Sl) L1 H1,xs.map Sl.sd=ys->Mt E1 σ L1->World Z.K H1 (xs.map some++L1)->Step H L H1 (xs.map some++L1)->(q=true->k9 H H1/\∀b∈jv (xs.map some),H b=none)->G (xs.map Sl.v) H1):tA Z q cs σ H G:=by
 rcases wv h with⟨E1,s,h1,h2⟩|⟨E1,c,h1,h2⟩
 ·exact#[E,L,_,m,w,h1,(λ_ _ z=>by cases z),λE' s' z xs L' H' e1 m' w' st sm=>by
   injection z with z1 z2;subst z1 z2;exact k _ _ h2 (_fW h1) xs L' H' e1 m' w' st sm]
 ·exact#[E,L,_,m,w,h1,xc.map h2,λE' s' z=>by cases z]
def _fY{K H}(g):∀{xs:List Sl},(∀x∈xs,x.ok K H)->(g=false->∀x∈xs,wQ x.sd=true)->∃bs,RepA K H g (xs.map Sl.d) (xs.map Sl.v) bs/\(∀b∈bs,∃x∈xs,b∈x.as)/\(g=false->bs=jv (xs.map some))/\(g=true->bs=xs.flatMap Sl.as)
 | [],_,_=>#[[],#[rfl,rfl],λ_ h=>(nomatch h),λ_=>rfl,λ_=>rfl]
 | x :: xs,h,ht=>by
  obtain⟨bs,r,hb,ho,hg⟩:=_fY g (λy hy=>h y (_ad _ hy)) λhg y hy=>ht hg y (_ad _ hy)
  have hx:=h x X5;have jc:∃cs,RepL K H g x.d x.v cs/\(∀b∈cs,b∈x.as)/\(g=false->cs=x.own)/\(g=true->cs=x.as):=by
   cases g with
   | true=>exact#[x.as,RepO.wk hx,λb hb=>hb,(λz=>by cases z),λ_=>rfl]
   | false=>
    by_cases ho:x.o=.dp
    ·refine#[x.as,?_,λb hb=>hb,λ_=>?_,λz=>by cases z]
     ·have:=hx;unfold Sl.ok at this;rw[ho]at this;exact this
     ·unfold Sl.own;rw[ho]
    ·have hp:x.d.pure=true:=by
      rcases Bool.or_eq_true_iff.mp (ht rfl x X5)with z|z
      ·simp_all
      ·exact z
     obtain⟨z,rp⟩:=RepL.pu (g':=false) (RepO.wk hx) hp;exact#[[],rp,λ_ h=>(nomatch h),λ_=>(_eD z).symm,λz=>by cases z]
  obtain⟨cs,r1,h1,h2,h3⟩:=jc;refine#[cs++bs,?_,λb fq=>?_,λuz=>?_,λuz=>?_]
  ·exact#[x.v,xs.map Sl.v,cs,bs,rfl,rfl,r1,r]
  ·rcases aA fq with z|z
   ·exact#[x,X5,h1 b z]
   ·simp_all
  ·rw[List.map_cons,k3,h2 uz,ho uz]
  ·rw[List.flatMap_cons,h3 uz,hg uz]
def _fZ{K H H' d}{o:Own}{v ps}{xs:List Sl}{L}(w:World K H (xs.map some++L))(out:∀bs,RepA K H true (xs.map Sl.d) (xs.map Sl.v) bs->Out K H H' #[o,d,v,ps++bs] bs):
  ∃bs,World K H' (⇑#[o,d,v,ps++bs]::L)/\Step H (xs.map some++L) H' (⇑#[o,d,v,ps++bs]::L):=by
 obtain⟨bs,r,hb,_,_⟩:=_fY true (λx hx=>w.ok x (_ac _ (Xx hx))) (λz=>by cases z);have ap:∀b∈bs,b∉jv L:=λb fq hL=>by
  obtain⟨x,hx,lm⟩:=hb b fq;rcases Sl.as_of lm with z|z
  ·have nd:=w.nd;rw[kj,Xa]at nd;exact nd.2.2 b (mem_owned.mpr #[x,Xx hx,z]) b hL rfl
  ·exact w.ds b (by rw[kj];exact _ab _ hL) (by rw[v5];exact _ac _ (mem_frozen.mpr #[x,Xx hx,z]))
 have al:∀b∈bs,H b≠none:=λb fq=>by
  obtain⟨x,hx,lm⟩:=hb b fq;exact(w.ok x (_ac _ (Xx hx))).some lm
 have sr:Src H (xs.map some++L) bs:=λb fq=>by
  obtain⟨x,hx,lm⟩:=hb b fq;rcases Sl.as_of lm with z|z
  ·exact .inr (.inl (by rw[kj];exact _ac _ (mem_owned.mpr #[x,Xx hx,z])))
  ·exact .inl (by rw[v5];exact _ac _ (mem_frozen.mpr #[x,Xx hx,z]))
 have st:Step H (xs.map some++L) H L:=#[λ_ _ h _=>h,λa ha=>.inl (by rw[kj];exact _ab _ ha),λa ha=>.inl (by rw[v5];exact _ab _ ha)];exact#[bs,Qx (Z:=#[K,λ_=>none,λ_ _ _=>True]) w.right st (out bs r) ap al sr]
def _f0{K H p}{xs:List Sl}{L}(w:World K H (xs.map some++L))(hp:H p=none):
  ∃bs,World K (upd H p (.lst (xs.map Sl.v))) (⇑#[.rt,.lst (xs.map Sl.d),.ref p,p::bs]::L)/\Step H (xs.map some++L) (upd H p (.lst (xs.map Sl.v))) (⇑#[.rt,.lst (xs.map Sl.d),.ref p,p::bs]::L):=
 _fZ (ps:=[p]) w λ_ r=>KQ hp r λ_ h=>h
def _f1{K H p}{xs:List Sl}{L}(w:World K H (xs.map some++L))(hp:H p=none):
  ∃bs,World K (upd H p (.tup (xs.map Sl.v))) (⇑#[.no,.tup (xs.map Sl.d),.ref p,bs]::L)/\Step H (xs.map some++L) (upd H p (.tup (xs.map Sl.v))) (⇑#[.no,.tup (xs.map Sl.d),.ref p,bs]::L):=
 _fZ (ps:=[]) w λ_ r=>_eW hp r λ_ h=>h
def _f2{K H H'}{xs:List Sl}{L d v ps}(w:World K H (xs.map some++L))(ht:∀x∈xs,wQ x.sd=true)(hp:∀b∈ps,H b=none)(nd:ps.Nodup)(sm:k9 H H')
  (rep:∀bs,RepA K H false (xs.map Sl.d) (xs.map Sl.v) bs->RepL K H' false d v (ps++bs)):
  World K H' (⇑#[.dp,d,v,ps++jv (xs.map some)]::L)/\Step H (xs.map some++L) H' (⇑#[.dp,d,v,ps++jv (xs.map some)]::L):=by
 obtain⟨bs,r,hb,ho,_⟩:=_fY false (λx hx=>w.ok x (_ac _ (Xx hx))) (λ_=>ht);have e:=ho rfl;subst e;have w2:World K H' _:=#[λx hx=>RepO.kp (w.ok x hx) (Kp.of_same sm),w.nd,w.ds];have ndx:=w.nd;rw[kj,Xa]at ndx;have al:∀b∈jv _,H b≠none:=λb hb=>w.own_some (by rw[kj];exact _ac _ hb)
 refine#[w2.right.cons (rep _ r) ?_ (λa ha hL=>?_) (λa ha hf=>?_) (λa ha=>(nomatch ha)) (λa ha=>λz=>(nomatch z)),#[λa ob h _=>sm a ob h,λa ha=>?_,λa ha=>?_]]
 ·show(ps++jv _).Nodup;rw[Xa];exact#[nd,ndx.1,λa ha b hb e=>by subst e;exact al a hb (hp a ha)]
 ·rcases aA (ha)with z|z
  ·exact w.own_some (by rw[kj];exact _ab _ hL) (hp a z)
  ·exact ndx.2.2 a z a hL rfl
 ·rcases aA (ha)with z|z
  ·exact w.frz_some (by rw[v5];exact _ab _ hf) (hp a z)
  ·exact w.ds a (by rw[kj];exact _ac _ z) (by rw[v5];exact _ab _ hf)
 ·rw[k3]at ha;rcases aA ha with z|z
  ·rcases aA (z)with y|y
   ·exact .inr (hp a y)
   ·exact .inl (by rw[kj];exact _ac _ y)
  ·simp_all
 ·exact .inl (by rw[v5];exact _ab _ ha)
def _f3{xs:List Sl}{ys}(h:xs.map Sl.sd=ys):xs.map Sl.d=ys.map (·.2):=by rw[<-h,Xi];rfl
def _f4{xs:List Sl}{ys}(h:xs.map Sl.sd=ys)(ht:ys.all wQ=true):∀x∈xs,wQ x.sd=true:=λx hx=>by
 rw[<-h,List.all_map,Za]at ht;exact ht x hx
def _f5{o}{xs:List Sl}{ys E' r L' H1}{Q:VK}{Hq Lq}(h:mkL o E' ys=⇑r)(e:xs.map Sl.sd=ys)(w:World Z.K H1 (xs.map some++L'))(st:Step Hq Lq H1 (xs.map some++L'))(sm:q=true->k9 Hq H1/\∀b∈jv (xs.map some),Hq b=none)
  (k:∀E'' a,r=.ok E'' a->∀x L'' H',x.o=a.1->x.d=a.2->Mt E'' σ L''->World Z.K H' (⇑x::L'')->Step Hq Lq H' (⇑x::L'')->(q=true->k9 Hq H'/\∀b∈x.own,Hq b=none)->Q x.v H') (m:Mt E' σ L'):
  ∀ p,H1 p=none->Q (.ref p) (upd H1 p (.lst (xs.map Sl.v))):=by
 intro p hp;unfold mkL at h
 by_cases ho:o=.dp
 ·rw[Xb ho]at h
  by_cases ht:ys.all wQ=true
  ·rw[Xb ht]at h;cases _aa h;obtain⟨w2,s2⟩:=_f2 (d:=.lst _) w (_f4 e ht) (λb hb=>by rw[aC hb];exact hp) (by simp) (wx hp) (λbs r=>by
    exact#[p,_,bs,rfl,r.kp (Kp.of_same (wx hp)),.inl #[vW,rfl]])
   refine k _ _ rfl _ L' _ rfl (by rw[_f3 e]) m w2 (st.trans s2) λhq=>#[kZ (sm hq).1 (wx hp),λb hb=>?_]
   rcases aA (hb)with z|z
   ·rw[aC z];exact J8 (sm hq).1 hp
   ·exact(sm hq).2 b z
  ·simp_all
 ·rw[Xj ho]at h;cases _aa h;obtain⟨bs,w2,s2⟩:=_f0 w hp;refine k _ _ rfl _ L' _ rfl (by rw[_f3 e]) m w2 (st.trans s2) λhq=>#[kZ (sm hq).1 (wx hp),λb hb=>?_]
  have:b=p:=by simpa [Sl.own]using hb
  rw[this];exact J8 (sm hq).1 hp
def _f6{xs:List Sl}{ys n}(h:xs.map Sl.sd=ys)(hl:ys.length=n)(hz:n<=1000):(xs.map Sl.v).length<=sizeLine:=by
 have:xs.length=n:=by rw[<-hl,<-h,X4]
 rw[X4,this];exact Yd hz ⋯
def wX{o}(h:QA X Z q cs es)(hz:(cs.length<=1000)<|>ŕ):QE X Z q (q9 o cs) (.List es pos):=kY (_bA h) fun σ H Q ai=>ex8 ai λE L r m w hc xc k=>
 _fX m w (hc) xc λE1 ys h1 hl xs L1 H1 e1 m1 w1 st sm=>#[_f6 e1 hl hz,_f5 (E':=E1) (h1) e1 w1 st sm k m1]
def kK{o x1}(h:QA X Z q cs es)(hz:(cs.length<=1000)<|>ŕ):QE X Z q (kw o cs) (.Tuple es x1 pos):=kY (_bz h) fun σ H Q ai=>ex8 ai λE L r m w hc xc k=>
 _fX m w (hc) xc λE1 ys h1 hl xs L1 H1 e1 m1 w1 st sm=>#[_f6 e1 hl hz,λp hp=>by
  by_cases ho:o=.dp
  ·rw[Xb ho]at h1
   by_cases ht:ys.all wQ=true
   ·rw[Xb ht]at h1;cases _aa h1;obtain⟨w2,s2⟩:=_f2 (d:=.tup _) (ps:=[]) w1 (_f4 e1 ht) (λb hb=>(nomatch hb)) (by simp) (wx hp) (λbs r=>by
     exact#[p,_,rfl,SqT.of vW,r.kp (Kp.of_same (wx hp))])
    exact k _ _ rfl _ L1 _ rfl (by rw[_f3 e1]) m1 w2 (st.trans s2) λhq=>#[kZ (sm hq).1 (wx hp),λb hb=>(sm hq).2 b hb]
   ·simp_all
  ·rw[Xj ho]at h1;cases _aa h1;obtain⟨bs,w2,s2⟩:=_f1 w1 hp;exact k _ _ rfl _ L1 _ rfl (by rw[_f3 e1]) m1 w2 (st.trans s2) λhq=>#[kZ (sm hq).1 (wx hp),λb hb=>(nomatch hb)]]
end
def spF(K:Frag)(mg:Str->Option Value)(n:Nat)(f:Fn):Sp:=λvs H Q E=>∃(xs:List Sl) (r:Res Sd),vs=xs.map Sl.v/\xs.length=n/\World K H (xs.map some)/\f (xs.map Sl.sd)=⇑r /\
 (∀E' c,r=.exc E' c->∀C H',mg c=⇑(.ref C)->Step H (xs.map some) H' []->E (.ref C) none H') /\
 ∀E' a,r=.ok E' a->∀(x:Sl) H',x.o=a.1->x.d=a.2->World K H' [⇑x]->Step H (xs.map some) H' [⇑x]->Q x.v H'
def _f7{K mg n f}{ps:List Str}(hn:ps.length=n):∀vs H Q E,spF K mg n f vs H Q E->vs.length=ps.length:=λvs H Q E hz=>by obtain⟨xs,r,e,hl,_⟩:=hz;rw[e,X4,hl,hn]
def _f8:∀(xs:List Sl) (k),Mt (xs.map (λx=>⇑x.sd)++List.replicate k none) (xs.map (λx=>⇑x.v)++List.replicate k none) (xs.map some++List.replicate k none)
 |[],0=>.nil
 |[],k+1=>by
  exact .un (_f8 [] k)
 |x::xs,k=>.cons (_f8 xs k)
def _f9{X K mg N n nn B body H vs Q E}(hN:N.length=nn)(t:QSs X #[K,mg,E] [] B body)(h:spF K mg n (fn nn B) vs H Q E):
  ∃t,PSs X body t/\t {nx:=λ_ H'=>Q .non H',rt:=Q} (L2.start N vs) H:=by
 refine#[_,t,?_];obtain⟨xs,r,rfl,hl,w,hf,hx,hk⟩:=h;unfold fn at hf;rw[X4,Xi]at hf;have e1:L2.start N (xs.map Sl.v)=xs.map (λx=>⇑x.v)++List.replicate (nn - xs.length) none:=by
  unfold L2.start;rw[Xi,X4,hN];rfl
 have wL:World K H (xs.map some++List.replicate (nn - xs.length) none):=w.same (by simp);have sL:Step H (xs.map some) H (xs.map some++List.replicate (nn - xs.length) none):=Step.refl.same (List.Perm.refl _) (by simp);cases hB:B _ with
 | none=>rw[show(some∘Sl.sd)=(λx:Sl=>⇑x.sd)from rfl,hB]at hf;cases hf
 | some g=>
  rw[show(some∘Sl.sd)=(λx:Sl=>⇑x.sd)from rfl,hB]at hf;refine#[_,_,g,e1▸(_f8 xs _),wL,hB,?_];cases g with
  |nx E1=>
   cases _aa hf;intro σ' L' H' _ m' w' s';exact hk _ _ rfl _ H' rfl rfl (World.consPu (x:=#[.dp,.non,.non,[]]) #[λ_ z=>(nomatch z),Xp,λ_ z=>(nomatch z)] (show RepL K H' false .non .non []from _eL) rfl) (Jw ((sL.trans s').sub (by simp)) (λb hb=>(nomatch hb)) rfl)
  |rt E1 a=>
   cases _aa hf;intro x σ' L' H' e2 e3 _ m' w' s';exact hk _ _ rfl x H' e2 e3 (w'.sub (by simp)) ((sL.trans s').sub (by simp))
  |xc E1 c=>
   cases _aa hf;intro C σ' L' H' hm _ m' w' s';exact hx _ _ rfl C H' hm ((sL.trans s').sub (by simp))
  |ct E1=>cases hf|bk E1=>cases hf
section
variable {X:Cx}{Z:Fx0}{q:Bool}{cs:List Ex}{e:Expr}{es:List Expr}{pos p:Pos}{x:Str}{ps:List Str}{k n:Nat}{f:Fn}
def K4:∀xs:List Sl,jv ((xs.map Sl.let).map some)=[]
 |[]=>rfl|x::xs=>by rw[List.map_cons,List.map_cons,k3,K4 xs];rfl
def _ga:∀xs:List Sl,jZ ((xs.map Sl.let).map some)=xs.flatMap Sl.as
 |[]=>rfl|x::xs=>by rw[List.map_cons,List.map_cons,vY,_ga xs];rfl
def _gb(xs:List Sl):(xs.map Sl.let).map Sl.sd=letAll (xs.map Sl.sd):=by
 unfold letAll;rw[Xi,Xi];rfl
def _gc{K H}{xs:List Sl}{L}(w:World K H (xs.map some++L)):World K H ((xs.map Sl.let).map some++L)/\Step H (xs.map some++L) H ((xs.map Sl.let).map some++L):=by
 have nd:=w.nd;rw[kj,Xa]at nd;have cl:∀a∈xs.flatMap Sl.as,a∈jv _\/a∈jZ _:=λa ha=>by
  obtain⟨x,hx,hax⟩:=List.mem_flatMap.mp ha;exact(Sl.as_of hax).imp (λz=>mem_owned.mpr #[x,Xx hx,z]) λz=>mem_frozen.mpr #[x,Xx hx,z]
 refine#[#[λx hx=>?_,by rw[kj,K4];exact nd.2.1,λa ha hf=>?_],λ_ _ h _=>h,λa ha=>?_,λa ha=>?_]
 ·rcases aA hx with hx|hx
  ·obtain⟨y,hy,e⟩:=aE hx;cases e;obtain⟨z,hz,rfl⟩:=aE hy;exact JW (w.ok z (_ac _ (Xx hz)))
  ·exact w.ok x (_ab _ hx)
 ·rw[kj,K4]at ha;rw[v5,_ga]at hf;rcases aA hf with z|z
  ·rcases cl a z with z|z
   ·exact nd.2.2 a z a ha rfl
   ·exact w.ds a (by simp_all) (by simp_all)
  ·exact w.ds a (by simp_all) (by simp_all)
 ·rw[kj,K4]at ha
  simp_all
 ·rw[v5,_ga]at ha;rw[v5,kj];rcases aA ha with z|z
  ·rcases cl a z with z|z
   ·exact .inr (.inl (_ac _ z))
   ·exact .inl (_ac _ z)
  ·exact .inl (_ab _ z)
def _gd(D:k7 X.prog X.w X.K X.mg X.base k x ps (spF Z.K Z.mg n f))(hr:Room k X.A)(g:xW X Z.EX)(ha:QA X Z q cs (e::es))(hn:cs.length=n<|>Ŕ)(hg:Gl X x<|>Ŕ)(fu:Abd x<|>ŕ)
  (he:Abs e es X<|>Ŕ) (bu:Abb pos es X<|>Ŕ):
  QE X Z q (jx f cs) (.Call (.Name x p) (e::es) [] pos):=kY (_d1 D hr g ha hg fu he bu) fun σ H Q ai=>ex8 ai λE L r m w hc xc kk=>
 _fX m w (hc) xc λE1 ys h1 hl xs L1 H1 e1 m1 w1 st sm=>by
  rw [Xv];have ae:xs.length=n:=by rw[<-hn,<-hl,<-e1,X4]
  cases hf:f (letAll ys)with
  | none=>simp_all
  | some fr=>
   rw[hf]at h1;obtain⟨wl,sl⟩:=_gc w1;have ev:xs.map Sl.v=(xs.map Sl.let).map Sl.v:=by rw[Xi];rfl
   rw[ev];refine#[xs.map Sl.let,fr,rfl,by rw[X4];exact ae,wl.left,by rw[<-e1]at hf;rw[_gb];exact hf,λE' c ee C H' hm s'=>?_,λE' a ee y H' e2 e3 w' s'=>?_]
   ·subst ee;cases _aa h1;obtain⟨w2,s2⟩:=stay wl s' #[λ_ z=>(nomatch z),Xp,λ_ z=>(nomatch z)];exact xc _ _ rfl C L1 H' hm m1 w2 ((st.trans sl).trans s2)
   ·subst ee;cases _aa h1;obtain⟨w2,s2⟩:=stay wl s' w';refine kk _ _ rfl y L1 H' e2 e3 m1 w2 ((st.trans sl).trans s2) λhq=>?_
    obtain⟨a1,a2⟩:=sm hq;refine#[λb ob hb=>s'.keep b ob (a1 b ob hb) λz=>?_,λb hb=>?_]
    ·rw[K4]at z;exact nomatch z
    ·rcases s'.own b (_ac _ hb)with z|z
     ·rw[K4]at z;exact nomatch z
     ·exact J8 a1 z
end
def _ge(K:Frag):R2:=λx y H Q=>∃l k xs,x=.ref l/\y=.int k/\LsR K H l xs/\-(2 ^ 63)<=k/\k<2 ^ 63/\xs.length*k.toNat<=sizeLine /\
 ∀p,H p=none->Q (.ref p) (upd H p (.lst (List.replicate k.toNat xs).flatten))
def op_repR{X}:OpR X (binaryOp .Mult) (_ge X.K):=by
 rintro a8 s σ H x y v u Q I rx ry ⟨l,k,xs,rfl,rfl,hH,h1,h2,hz,q⟩;cases rx;obtain⟨t,rfl⟩:=ry;obtain⟨z,ab,n,r,e⟩:=hH.is I;have ae:ab.toArray.size*k.toNat<=sizeLine:=by rw[X8,<-r.length];exact hz
 have hcap:¬ab.toArray.size*k.toNat>(2 ^ 63 - 1) / 8:=by
  have:sizeLine<=(2 ^ 63 - 1) / 8:=⋯
  lia
 have og:¬(!Builtin.List.listFitsIndex k)=true:=by
  rw[fitsIndex_both h1 h2];exact Bool.false_ne_true
 have uq:¬Builtin.List.listTooLong (ab.toArray.size*k.toNat)=true:=by
  rw[_cm ae];exact Bool.false_ne_true
 have eq:List.foldl (λx1 x2=>x1++x2) (List.toArray []) (List.replicate (if ab.toArray.isEmpty=true then 0 else k.toNat) ab.toArray)=(List.replicate k.toNat ab).flatten.toArray:=by
  have f0:∀m,List.foldl (λx1 x2=>x1++x2) (List.toArray []) (List.replicate m ab.toArray)=(List.replicate m ab).flatten.toArray:=λm=>by
   have:=_cl ab m []
   simp_all
  cases ab with|nil=>simp|cons a r'=>simp_all
 refine wpAny_binaryOp_repeat_ref ⋯ #[_,e,rfl] (λs'=>typeIs_int s' k t) noFill_list_mul F.fills_int_mul F.slot_int_rmul repeat_list F.slot_int_index.lookup
  (call_meets F.slot_int_rmul (typeIs_int s k t) F.entry_int_rmul (F.args_int_rmul_2 _ _) (int___rmul___int_list k t l ab.toArray n)
   #[e,rfl,#[_,e,rfl],call_meets F.slot_list_mul #[_,e,rfl] F.entry_list_mul (F.args_list_mul_2 _ _) (AutoListH.list___mul___list_int_3 l ab.toArray n k t og hcap uq) #[e,?_]])
 rw[eq];exact#[.ref _,_,I.lnew (t':=s.toks) (r.rep k.toNat) (by rw[_cr,Nat.mul_comm];exact hz),rfl,q _ I.fresh]
def _gf(K:Frag):R2:=λx y H Q=>rI IntMulOk (λi j=>.int (i*j)) x y H Q\/_ge K x y H Q\/_dl x y H Q
def _gg{X K}(hK:X.K=K<|>Ŕ):OpR X (binaryOp .Mult) (_gf K):=by subst hK;exact op_mulI.or (op_repR.or _dm)
def _gh{a}(h:a.natAbs.log2<2000000):Builtin.Int.intBits a<=2000000:=by
 unfold Builtin.Int.intBits
 split
 ·simp_all
 ·omega
def mulOk_of{a b}(h:Q2 a b=true):IntMulOk a b:=by
 unfold Q2 Vz at h;simp at h;rcases h with(h|h)|h
 ·exact .of_left (intBits_le_64 h.1 h.2)
 ·exact .of_right (intBits_le_64 h.1 h.2)
 ·have h1:=_gh h.1;have h2:=_gh h.2;unfold IntMulOk Builtin.Int.intTooBig;have e:2 ^ 27=134217728:=⋯
  have hb:bitsLine=134217728:=e
  grind
def RepA.reps{K H ds xs bs}(h:RepA K H true ds xs bs):∀k,∃cs,RepA K H true (List.replicate k ds).flatten (List.replicate k xs).flatten cs/\∀b∈cs,b∈bs
 |0=>#[[],by simp only[List.replicate_zero,List.flatten_nil];unfold RepA;exact#[rfl,rfl],λ_ z=>(nomatch z)]
 |k+1=>by
  obtain⟨cs,r,hc⟩:=RepA.reps h k;exact#[bs++cs,r.app h,λb hb=>(aA hb).elim id (hc b)]
#where in
def _gi{K}:Ad2 K (_gf K) YX:=by
 intro H x y s Q ox oy hf k;unfold YX at hf;dsimp only at hf
 split at hf
 ·rename_i i j e1 e2
  split at hf
  ·rename_i hm;cases _aa hf;exact .inl #[i,j,qj ox e1,qj oy e2,mulOk_of hm,k _ H rfl rfl KK]
  ·cases hf
 ·rename_i a n e1 e2
  split at hf
  ·rename_i hc;cases _aa hf;obtain⟨l,xs,bs,e3,q3,r3,h3⟩:=zW ox (.inl e1) hc.2.2.2;have q3:LsR K H l xs:=by rcases q3 with⟨_,z⟩|⟨z,_⟩;exact z;rw[e1]at z;cases z
   obtain⟨cs,r4,h4⟩:=r3.reps n.toNat;exact .inr (.inl #[l,n,xs,e3,qj oy e2,q3,hc.1,hc.2.1,by rw[<-r3.len];exact hc.2.2.1,λp hp=>(k _ _ rfl rfl (KQ hp r4 λb hb=>_ac _ (h3 b (h4 b hb))))])
  ·cases hf
 ·rename_i z n e1 e2
  split at hf
  ·rename_i hc;cases _aa hf;exact .inr (.inr #[z,n,(zx ox e1).1,qj oy e2,hc.1,k _ H rfl rfl (_eM hc.2)])
  ·cases hf
 ·cases hf
def dec(h:Heap)(u:Value):D:=open Classical in if e:∃d,qJ h d u then e.choose else .non
def _gj{h u d}(r:qJ h d u):dec h u=d:=by
 unfold dec;have e:∃d,qJ h d u:=#[d,r];rw[dif_pos e];exact _ft e.choose_spec r
def _gk{h d}:∀{ds us},CReps h ds us->us.any (λu=>peq (dec h u) d)=ds.any λz=>peq z d
 |[],_,r=>by rw[r];rfl
 |z::ds,_,r=>by
  obtain⟨u,rr,rfl,h1,h2⟩:=r;rw[Zj,Zj,_gj h1,_gk h2]
def _gl{h}:∀{ds us u},CReps h ds us->u∈us->∃d∈ds,qJ h d u
 | [],_,_,r,hu=>by rw[r]at hu;cases hu
 | z::ds,_,u,r,hu=>by
  obtain⟨u',rr,rfl,h1,h2⟩:=r;rcases aD hu with rfl|hu
  ·exact#[z,X5,h1]
  ·obtain⟨d,hd,c⟩:=_gl h2 hu;exact#[d,_ad _ hd,c]
def _gm:∀{n ds d},D.flats n ds=true->d∈ds->d.flat n=true
 |_,[],_,_,h=>by grind
 |n,z::ds,d,f,h=>by
  unfold D.flats at f;rw[Bool.and_eq_true]at f;rcases aD h with rfl|h
  ·exact f.1
  ·exact _gm f.2 h
section
variable {X:Cx}{Z:Fx0}{K:Frag}{q qa qb:Bool}{a b c:Ex}{u v:Ts}{e ea eb:Expr}{es:List Expr}{pos p:Pos}{σ:L2.St}{H:Hp}{L:Ls}{E:En}
def _gn(K:Frag)(ll:Bool):R2:=λx y H Q=>∃d ds as bs p xs,RepL K H true d x as/\y=.ref p/\(SqL K H p xs\/SqT K H p xs)/\RepA K H true ds xs bs/\d.flat 30=true/\D.flats 30 ds=true/\Q (.bl (if ll then !(ds.any λz=>peq z d)else ds.any λz=>peq z d)) H
def _go(hu:X.A.units+64<cLine):OpR X (compareOp .In) (_gn X.K false):=by
 rintro a8 s σ H x y v u Q I rx ry ⟨d,ds,as,bs,p,xs,h1,rfl,hq,ra,f1,f2,q⟩;cases ry;have he:∀{us},CReps s.heap ds us->∀w,w∈us.toArray->SeqAt.EqAt X.A.in1 s w v (peq (dec s.heap w) d):=fun {us} cr w hw=>by
  obtain⟨d',hd,c⟩:=_gl cr (~~~hw);rw[_gj c];exact Ww 30 (_gm f2 hd) c (QZ I h1 f1 rx) (by grind)
 rcases hq with hq|hq
 ·obtain⟨ab,r,pl,hz⟩:=I.list hq;have cr:=creps_of I ra f2 r;refine SeqAt.in_listAt _ pl.isList (he cr) #[.bl _,H,I,rfl,?_]
  rwa [List.any_toArray,_gk cr]
 ·obtain⟨ab,r,pl,hz⟩:=I.tuple hq;have cr:=creps_of I ra f2 r;refine SeqAt.in_tupleAt _ pl (he cr) #[.bl _,H,I,rfl,?_]
  rwa [List.any_toArray,_gk cr]
def _gp(hu:X.A.units+64<cLine):OpR X (compareOp .NotIn) (_gn X.K true):=by
 rintro a8 s σ H x y v u Q I rx ry ⟨d,ds,as,bs,p,xs,h1,rfl,hq,ra,f1,f2,q⟩;cases ry;have he:∀{us},CReps s.heap ds us->∀w,w∈us.toArray->SeqAt.EqAt X.A.in1 s w v (peq (dec s.heap w) d):=fun {us} cr w hw=>by
  obtain⟨d',hd,c⟩:=_gl cr (~~~hw);rw[_gj c];exact Ww 30 (_gm f2 hd) c (QZ I h1 f1 rx) (by grind)
 rcases hq with hq|hq
 ·obtain⟨ab,r,pl,hz⟩:=I.list hq;have cr:=creps_of I ra f2 r;refine SeqAt.notIn_listAt _ pl.isList (he cr) #[.bl _,H,I,rfl,?_]
  rwa [List.any_toArray,_gk cr]
 ·obtain⟨ab,r,pl,hz⟩:=I.tuple hq;have cr:=creps_of I ra f2 r;refine SeqAt.notIn_tupleAt _ pl (he cr) #[.bl _,H,I,rfl,?_]
  rwa [List.any_toArray,_gk cr]
def _gq(ll:Bool):R2:=λx y H Q=>∃i j,x=.str i/\y=.str j/\Q (.bl (if ll then !_d8 i j else _d8 i j)) H
def opInStr:OpR X (compareOp .In) (_gq false):=λa8 s σ H x y v u Q I rx ry hz=>by obtain⟨i,j,e1,e2,q⟩:=hz;exact _bj a8 s σ H x y v u Q I rx ry #[i,j,e1,e2,q]
def opNotInStr:OpR X (compareOp .NotIn) (_gq true):=λa8 s σ H x y v u Q I rx ry hz=>by obtain⟨i,j,e1,e2,q⟩:=hz;exact _cf a8 s σ H x y v u Q I rx ry #[i,j,e1,e2,q]
def _gr(K:Frag)(ll:Bool):R2:=λx y H Q=>_gq ll x y H Q\/_gn K ll x y H Q
def _gs(hu:X.A.units+64<cLine)(hK:X.K=K<|>Ŕ):OpR X (compareOp .In) (_gr K false):=by subst hK;exact opInStr.or (_go hu)
def _gt(hu:X.A.units+64<cLine)(hK:X.K=K<|>Ŕ):OpR X (compareOp .NotIn) (_gr K true):=by subst hK;exact opNotInStr.or (_gp hu)
def JK{H l xs}(h:LsR K H l xs):SqL K H l xs:=h.sq
def _gu{x y:Sl}{ys}{ll:Bool}{Q}(ox:x.ok K H)(oy:y.ok K H)(hy:y.d=.lst ys\/y.d=.tup ys)(hc:(x.d.flat 30&&D.flats 30 ys)=true)
  (k:Q (.bl (if ll then !(ys.any λz=>peq z x.d)else ys.any λz=>peq z x.d)) H):_gr K ll x.v y.v H Q:=by
 rw[Bool.and_eq_true]at hc;obtain⟨l,xs,bs,e3,q3,r3,_⟩:=items oy hy;have r3':RepA K H true ys xs bs:=by
  cases ho:(y.o != .dp)with|true=>rw[ho]at r3;exact r3|false=>rw[ho]at r3;exact r3.wk
 refine .inr #[x.d,ys,x.as,bs,l,xs,RepO.wk ox,e3,?_,r3',hc.1,hc.2,k];rcases q3 with⟨_,z⟩|⟨_,z⟩
 ·exact .inl (JK z)
 ·exact .inr z
#where in
def _gv:Ad2 K (_gr K false) (pu2 J1):=by
 intro H x y s Q ox oy hf k;unfold pu2 J1 fIn at hf;dsimp only at hf;cases hy:y.d with
 | lst ys=>
  rw[hy]at hf;dsimp only at hf
  split at hf
  ·rename_i hc;cases _aa hf;exact _gu ox oy (.inl hy) hc (k _ H rfl rfl wJ)
  ·cases hf
 | tup ys=>
  rw[hy]at hf;dsimp only at hf
  split at hf
  ·rename_i hc;cases _aa hf;exact _gu ox oy (.inr hy) hc (k _ H rfl rfl wJ)
  ·cases hf
 | str b=>
  rw[hy]at hf;dsimp only at hf
  split at hf
  ·rename_i a hx;cases _aa hf;exact .inl #[a,b,(zx ox hx).1,(zx oy hy).1,k _ H rfl rfl wJ]
  ·cases hf
 |_=>simp_all
#where in
def _gw:Ad2 K (_gr K true) (pu2 zZ):=by
 intro H x y s Q ox oy hf k;unfold pu2 zZ VX fIn at hf;dsimp only at hf;cases hy:y.d with
 | lst ys=>
  rw[hy]at hf;dsimp only at hf
  split at hf
  ·rename_i hc;cases _aa hf;exact _gu ox oy (.inl hy) hc (k _ H rfl rfl wJ)
  ·cases hf
 | tup ys=>
  rw[hy]at hf;dsimp only at hf
  split at hf
  ·rename_i hc;cases _aa hf;exact _gu ox oy (.inr hy) hc (k _ H rfl rfl wJ)
  ·cases hf
 | str b=>
  rw[hy]at hf;dsimp only at hf
  split at hf
  ·rename_i a hx;cases _aa hf;exact .inl #[a,b,(zx ox hx).1,(zx oy hy).1,k _ H rfl rfl wJ]
  ·cases hf
 |_=>rw[hy]at hf;cases hf
def _gx{g d v as}(h:RepL K H g d v as):decide (v=.non)=isNon d:=by
 cases d with|non=>unfold RepL at h;rw[h.1];rfl|bl _=>unfold RepL at h;rw[h.1];rfl|int _=>unfold RepL at h;rw[h.1];rfl|str _=>unfold RepL at h;rw[h.1];rfl|tup _=>unfold RepL at h;obtain⟨a,xs,e,_⟩:=h;rw[e];rfl|lst _=>unfold RepL at h;obtain⟨a,xs,bs,e,_⟩:=h;rw[e];rfl|dct _=>unfold RepL at h;obtain⟨a,xs,bs,e,_⟩:=h;rw[e];rfl|obj _ _=>unfold RepL at h;obtain⟨_,x,o,C,e,_⟩:=h;rw[e];rfl
#where in
def _gy:Ad2 K (λx y H Q=>y=.non/\Q (.bl (decide (x=.non))) H) (f2First fIsNon):=by
 intro H x y s Q ox oy hf k;unfold f2First fIsNon at hf
 split at hf
 ·rename_i hy;cases _aa hf;have e:=_gx (RepO.wk oy);rw[hy]at e;refine#[Yo e,?_];rw[_gx (RepO.wk ox)];exact k _ H rfl rfl wJ
 ·grind
#where in
def _gz:Ad2 K (λx y H Q=>y=.non/\Q (.bl (!decide (x=.non))) H) (f2First fNotNon):=by
 intro H x y s Q ox oy hf k;unfold f2First fNotNon at hf
 split at hf
 ·rename_i hy;cases _aa hf;have e:=_gx (RepO.wk oy);rw[hy]at e;refine#[Yo e,?_];rw[_gx (RepO.wk ox)];exact k _ H rfl rfl wJ
 ·grind
#where in
def _gA:Ad1 K (rU λi=>.int (-i)) (pu1 zJ):=by
 intro H x s Q ox hf k;unfold pu1 zJ at hf
 split at hf
 ·rename_i i e;cases _aa hf;exact#[i,qj ox e,k _ H rfl rfl KK]
 ·cases hf
def _gB n i:_root_.Q.ixN n i=L2.ixN n i:=rfl
def _gC{x y:Sl}{d Q}(ox:x.ok K H)(oy:y.ok K H)(hf:jQ x.d y.d=⇑d)(k:∀z:Sl,z.o=sub x.o->z.d=d->z.ok K H->(∀b∈z.frz,b∈x.frz)->(∀b∈z.as,b∈x.as)->Q z.v H):rIx K x.v y.v H Q:=by
 have seq:∀ds,(x.d=.lst ds\/x.d=.tup ds)->∀i,y.d=.int i->((_root_.Q.ixN ds.length i).bind λj=>ds[j]?)=⇑d->rIx K x.v y.v H Q:=by
  intro ds hx i hy hd;obtain⟨l,xs,bs,e3,q3,r3,h3,h4⟩:=items ox hx;cases hj:_root_.Q.ixN ds.length i with
  | none=>grind
  | some j=>
   rw [hj]at hd;obtain⟨v,cs,e4,r4,h5⟩:=r3.get (hd);have jd:atI xs i=⇑v:=by
    unfold atI
    rwa [<-r3.len,<-_gB,hj]
   have fin:Q v H:=by
    cases ho:x.o with
    | dp=>
     rw[ho]at r4;exact k #[.dp,d,v,cs] (by rw[ho];rfl) rfl r4 (λb hb=>(nomatch hb)) λb hb=>h3 b (h5 b hb)
    | no=>
     rw[ho]at r4;exact k #[.no,d,v,cs] (by rw[ho];rfl) rfl r4 (λb hb=>h4 ⋯ b (h5 b hb)) λb hb=>h3 b (h5 b hb)
    | rt=>
     rw[ho]at r4;exact k #[.no,d,v,cs] (by rw[ho];rfl) rfl r4 (λb hb=>h4 ⋯ b (h5 b hb)) λb hb=>h3 b (h5 b hb)
   rcases q3 with⟨_,z⟩|⟨_,z⟩
   ·exact .inl #[l,xs,i,v,e3,qj oy hy,JK z,jd,fin]
   ·exact .inr (.inl #[l,xs,i,v,e3,qj oy hy,z,jd,fin])
 unfold jQ at hf;cases hx:x.d with
 | lst ds=>
  rw [hx]at hf;cases hy:y.d with| int i=>rw[hy]at hf;exact seq ds (.inl hx) i hy hf| _=>rw[hy]at hf;cases hf
 | tup ds=>
  rw [hx]at hf;cases hy:y.d with| int i=>rw[hy]at hf;exact seq ds (.inr hx) i hy hf| _=>rw[hy]at hf;cases hf
 | str z=>
  rw [hx]at hf;cases hy:y.d with
  | int i=>
   rw [hy]at hf;have hf:((_root_.Q.ixN z.cps.size i).bind λj=>(z.cps.toList[j]?).map λc=>D.str #[%[c|0]])=⇑d:=hf;cases hj:_root_.Q.ixN z.cps.size i with
   | none=>grind
   | some j=>
    rw[hj]at hf;cases hc:z.cps.toList[j]? with
    | none=>rw[Option.bind_some,hc]at hf;cases hf
    | some c=>
     rw[Option.bind_some,hc]at hf;cases _aa hf;have jd:atI z.cps.toList i=⇑c:=by
      unfold atI
      rwa [Y4,<-_gB,hj]
     obtain⟨e1,hz⟩:=zx ox hx;refine .inr (.inr #[z,i,c,e1,qj oy hy,hz,jd,?_]);have rp:∀g,RepL K H g _ (.str #[%[c|0]]) []:=λg=>ZK (show 1<=sizeLine by decide)
     cases ho:x.o with|dp=>exact k #[.dp,.str #[%[c|0]],.str #[%[c|0]],[]] (by rw[ho];rfl) rfl (rp false) (λb hb=>(nomatch hb)) λb hb=>(nomatch hb)|no=>exact k #[.no,.str #[%[c|0]],.str #[%[c|0]],[]] (by rw[ho];rfl) rfl (rp true) (λb hb=>(nomatch hb)) λb hb=>(nomatch hb)|rt=>exact k #[.no,.str #[%[c|0]],.str #[%[c|0]],[]] (by rw[ho];rfl) rfl (rp true) (λb hb=>(nomatch hb)) λb hb=>(nomatch hb)
  |_=>rw[hy]at hf;cases hf
 |non=>rw[hx]at hf;cases hf|bl _=>rw[hx]at hf;cases hf|int _=>rw[hx]at hf;cases hf|dct _=>simp_all|obj _ _=>rw[hx]at hf;cases hf
def q_ix(ha:QV X Z qa a ea)(hb:QV X Z true b eb)(hs:_b2 eb)(hK:X.K=Z.K<|>Ŕ):QV X Z qa (j9 a b) (.Subscript ea eb pos):=
 kY (_b3 (hK▸_b8) ha hb hs) fun σ H Q ai=>ex8 ai λE L r m w hc xc k=>by
  refine qY m w (hc) xc λE1 s h1 x L1 H1 e1 e2 m1 w1 ok fr sr st sm=>(qY m1 w1 h1 (xc.step st) λE2 s2 h2 y L2 H2 e3 e4 m2 w2 gm ou pd bo dk=>?_)
  obtain⟨z,hz,rfl⟩:=x6 h2;cases hf:jQ s.2 s2.2 with
  |none=>simp_all
  |some d=>
   rw[hf]at hz;cases _aa hz;have kx:=K3 ok fr bo (dk rfl);exact _gC kx.1 gm (by rw[e2,e4];exact hf) λz zo zd vn zf za=>k _ _ rfl z L2 H2 (by simp_all) zd m2 w2 vn (λb hb=>kx.2 b (zf b hb)) (Vv sr za) (st.trans bo) λhq=>kZ (sm hq) (dk rfl)
def V7(ht:QT X Z q u e)(ha:QE X Z q a ea)(hb:QE X Z q b eb):QE X Z q (cIf u a b) (.IfExp e ea eb pos):=kY (_aJ ht ha hb) fun σ H Q ai=>ex8 ai λE L r m w hc xc k=>
 _eZ m w (hc) xc λE1 s h1 L1 H1 m1 w1 st sm=>by
  have fin:∀{c},c E1=⇑r->tQ Z q c σ H1 Q:=λhc=>#[E1,L1,r,m1,w1,hc,xc.step st,λE' a z x L' H' e1 e2 m' w' dv lw=>k E' a z x L' H' e1 e2 m' w' (st.trans dv) λhq=>#[kZ (sm hq) (lw hq).1,λb hb=>J8 (sm hq) ((lw hq).2 b hb)]]
  cases s with|true=>simp_all|false=>rw[Xj (by simp)]at h1 ⊢;exact fin h1
def _gD{op}(h:QE X Z q a ea):QE X Z q a (.BoolOp op [ea] pos):=_aG h
def _gE(ha:QV X Z q a ea)(hb:QE X Z q b (.BoolOp .And (eb::es) pos)):QE X Z q (Q7 a b) (.BoolOp .And (ea::eb::es) pos):=kY (_aH ha hb) fun σ H Q ai=>ex8 ai λE L r m w hc xc k=>
 qY m w (hc) xc λE1 s h1 x L1 H1 e1 e2 m1 w1 ok fr sr st sm=>by
  cases hs:s.2 with
  | bl kk=>
   rw[hs]at h1;refine#[kk,Q0 ok (e2.trans hs),?_];cases kk with
   |true=>
    exact#[E1,L1,r,m1,w1,h1,xc.step st,λE' a z x L' H' e1 e2 m' w' dv lw=>k E' a z x L' H' e1 e2 m' w' (st.trans dv) λhq=>#[kZ (sm hq) (lw hq).1,λb hb=>J8 (sm hq) ((lw hq).2 b hb)]]
   |false=>
    cases _aa h1;obtain⟨w3,dl⟩:=Qx w1 st (wJ (fr:=[])) (λ_ z=>(nomatch z)) (λ_ z=>(nomatch z)) (λ_ z=>(nomatch z));exact k _ _ rfl _ L1 H1 rfl rfl m1 w3 dl λhq=>#[sm hq,λ_ z=>(nomatch z)]
  |_=>rw[hs]at h1;cases h1
def _gF{x:Sl}{k}(ok:x.ok K H)(h:truth x.d=⇑k)(hd:∀kvs,x.d≠.dct kvs):_bp K x.v H k:=by
 cases hx:x.d with
 |non=>rw[hx]at h;rw[_eJ ok hx];exact(_aa h).symm|bl b=>rw[hx]at h;rw[Q0 ok hx];exact(_aa h).symm|int i=>rw[hx]at h;rw[qj ok hx];exact(_aa h).symm
 |str z=>
  rw[hx]at h;obtain⟨e,hz⟩:=zx ok hx;rw[e];refine#[hz,?_];rw[<-_aa h];show _=(((z.cps.size:Nat):Int) != 0);rw[Bool.eq_iff_iff];simp
 |lst ds=>
  rw[hx]at h;obtain⟨a,xs,bs,e,q,r,_⟩:=items ok (.inl hx);rw[e];have q':LsR K H a xs:=by rcases q with⟨_,z⟩|⟨z,_⟩;exact z;rw[hx]at z;cases z
  refine .inl #[xs,JK q',?_];rw[<-_aa h];have:=r.len;cases ds<;>cases xs<;>simp_all
 |tup ds=>
  rw[hx]at h;obtain⟨a,xs,bs,e,q,r,_⟩:=items ok (.inr hx);rw[e];have q':SqT K H a xs:=by rcases q with⟨z,_⟩|⟨_,z⟩;rw[hx]at z;cases z;exact z
  refine .inr (.inl #[xs,q',?_]);rw[<-_aa h];have:=r.len;cases ds<;>cases xs<;>simp_all
 |dct kvs=>exact absurd hx (hd kvs)|obj c f=>rw[hx]at h;cases h
def _gG{d k}(h:truthQ d=⇑k):truth d=⇑k/\∀kvs,d≠.dct kvs:=by
 cases d<;>first|exact#[h,nofun]|cases h
def vJ(h:QV X Z q a ea)(he:(∀gf,isTrue ea X.env gf=(do let v <-gf;standAt ea.pos;holding [v] (truthy v)))<|>Ŗ)(hK:X.K=Z.K<|>Ŕ):QT X Z q (tEQ a) ea:=_ey (_bt h he) fun σ H Q ai=>ex8 ai λE L r m w hc xc k=>
 qY m w (show bnd (a E) _=⇑r from hc) xc λE1 s h1 x L1 H1 e1 e2 m1 w1 ok fr sr st sm=>by
  obtain⟨kk,hk,rfl⟩:=x6 h1;obtain⟨h2,h3⟩:=_gG hk;exact#[kk,hK▸_gF ok (by rw[e2];exact h2) (by rw[e2];exact h3),k _ _ rfl L1 H1 m1 w1 st sm]
def _gH(h:QV X Z q a ea)(hK:X.K=Z.K<|>Ŕ):QE X Z q (_d9 a) (.UnaryOp .Not ea pos):=by
 intro a8 s σ H Q I ⟨E,L,r,m,w,hc,xc,k⟩;refine UnaryOp_ (thn (h a8 s σ H _ I (qY (G:=λv H1=>∃kk,_bp X.K v H1 kk/\Q (.bl (!kk)) H1) m w (hc) xc λE1 s h1 x L1 H1 e1 e2 m1 w1 ok fr sr st sm=>?_)) λv s1 #[x,H1,I1,r1,kk,t1,q1]=>?_)
 ·obtain⟨y,hy,rfl⟩:=x6 h1;cases hk:truthQ s.2 with
  |none=>simp_all
  |some kk=>
   rw[hk]at hy;cases _aa hy;obtain⟨h2,h3⟩:=_gG hk;refine#[kk,hK▸_gF ok (by rw[e2];exact h2) (by rw[e2];exact h3),?_];obtain⟨w3,dl⟩:=Qx w1 st (wJ (fr:=[])) (λ_ z=>(nomatch z)) (λ_ z=>(nomatch z)) (λ_ z=>(nomatch z));exact k _ _ rfl _ L1 H1 rfl rfl m1 w3 dl λhq=>#[sm hq,λ_ z=>(nomatch z)]
 ·exact not_of (thn (_bs a8 s1 σ H1 x v _ I1 r1 #[kk,t1,q1]) λc s2 hz=>by obtain⟨H2,I2,q2⟩:=hz;exact#[.bl _,H2,I2,rfl,q2])
end
def _gI{α:Type}:∀{L i} {q:α},L[i]?=⇑q->∃A B,L=A++q::B/\∀q',L.set i q'=A++q'::B
 |[],_,_,h=>by simp at h
 |a::L,0,q,h=>by
  have e:a=q:= ~~~h
  subst e;exact#[[],L,rfl,λ_=>rfl]
 |a::L,i+1,q,h=>by
  obtain⟨A,B,e,f⟩:=_gI (~~~h);exact#[a::A,B,by rw[e];rfl,λq'=>by rw[List.set_cons_succ,f];rfl]
section
variable {K:Frag}{H:Hp}{M T L:Ls}{y y':Sl}{l:Addr}{ob:HO}
def World.write(w:World K H (⇑y::(T++M)))(hl:l∈y.own)(ok':y'.ok K (upd H l ob))(nd:y'.own.Nodup)(h1:∀a∈y'.own,a∈y.own\/a∈jv T)(h2:∀a∈y'.frz,a∈y.as\/a∈jv T\/a∈jZ T)(h3:∀a∈y'.own,a∉y'.frz):
  World K (upd H l ob) (⇑y'::M)/\Step H (⇑y::(T++M)) (upd H l ob) (⇑y'::M):=by
 have wn:=w.nd;rw [k3,kj,Xa,Xa]at wn;obtain⟨n1,⟨n2,n3,n4⟩,n5⟩:=wn;have oy:l∈jv (⇑y::(T++M)):=_ac _ hl;have jb:=w.own_al oy;have ds:∀a,(a∈y.own\/a∈jv T\/a∈jv M)->¬(a∈y.frz\/a∈jZ T\/a∈jZ M):=λa ha hf=>by
  refine w.ds a ?_ ?_
  ·rw[k3,kj];rcases ha with z|z|z
   ·exact _ac _ z
   ·exact _ab _ (_ac _ z)
   ·exact _ab _ (_ab _ z)
  ·rw[vY,v5];rcases hf with z|z|z
   ·exact _ac _ z
   ·exact _ab _ (_ac _ z)
   ·exact _ab _ (_ab _ z)
 have noM:∀z,⇑z∈M->l∉z.as:=λz hz ha=>by
  rcases Sl.as_of ha with q|q
  ·exact n5 l hl l (_ab _ (mem_owned.mpr #[z,hz,q])) rfl
  ·exact ds l (.inl hl) (.inr (.inr (mem_frozen.mpr #[z,hz,q])))
 have ke:∀a o,H a=⇑o->a≠l->upd H l ob a=⇑o:=λa o e ne=>by rw[qx ne];exact e
 have kp:∀as,l∉as->Kp H _ as:=λas hn=>by
  refine#[λa xs e=>ke a _ e λz=>?_,λa o u e=>ke a _ e λz=>?_,λa ha o e=>ke a o e λz=>hn (z▸ha)]
  ·grind
  ·subst z;rcases jb with⟨_,q⟩|⟨_,q⟩|⟨_,q⟩<;>(rw[e]at q;cases q)
 have wM:World K (upd H l ob) M:=by
  have w1:=w.tail.right;exact#[λz hz=>RepO.kp (w1.ok z hz) (kp _ (noM z hz)),w1.nd,w1.ds]
 refine#[wM.cons ok' nd (λa ha hM=>?_) (λa ha hM=>?_) (λa ha hM=>?_) h3,λa o e hn=>ke a o e λz=>hn (z▸oy),λa ha=>?_,λa ha=>?_]
 ·rcases h1 a ha with z|z
  ·exact n5 a z a (_ab _ hM) rfl
  ·exact n4 a z a hM rfl
 ·rcases h1 a ha with z|z
  ·exact ds a (.inl z) (.inr (.inr hM))
  ·exact ds a (.inr (.inl z)) (.inr (.inr hM))
 ·rcases h2 a ha with z|z|z
  ·rcases Sl.as_of z with z|z
   ·exact n5 a z a (_ab _ hM) rfl
   ·exact ds a (.inr (.inr hM)) (.inl z)
  ·exact n4 a z a hM rfl
  ·exact ds a (.inr (.inr hM)) (.inr (.inl z))
 ·rw[k3,kj];rcases aA ha with z|z
  ·rcases h1 a z with z|z
   ·exact .inl (_ac _ z)
   ·exact .inl (_ab _ (_ac _ z))
  ·exact .inl (_ab _ (_ab _ z))
 ·rw[k3,kj,vY,v5];rcases aA ha with z|z
  ·rcases h2 a z with z|z|z
   ·rcases Sl.as_of z with z|z
    ·exact .inr (.inl (_ac _ z))
    ·exact .inl (_ac _ z)
   ·exact .inr (.inl (_ab _ (_ac _ z)))
   ·exact .inl (_ab _ (_ac _ z))
  ·exact .inl (_ab _ (_ab _ z))
def World.writeAt{i}(w:World K H (T++L))(hy:L[i]?=some ⇑y)(hl:l∈y.own)(ok':y'.ok K (upd H l ob))(nd:y'.own.Nodup)(h1:∀a∈y'.own,a∈y.own\/a∈jv T)(h2:∀a∈y'.frz,a∈y.as\/a∈jv T\/a∈jZ T)(h3:∀a∈y'.own,a∉y'.frz):
  World K (upd H l ob) (L.set i ⇑y')/\Step H (T++L) (upd H l ob) (L.set i ⇑y'):=by
 obtain⟨A,B,e,f⟩:=_gI hy;rw[f];subst e;have p:(T++(A++⇑y::B)).Perm (⇑y::(T++(A++B))):=by
  refine(List.Perm.append_left T (List.perm_middle)).trans List.perm_middle
 obtain⟨w2,s2⟩:=World.write (w.perm p) hl ok' nd h1 h2 h3;exact#[w2.perm List.perm_middle.symm,s2.perm p.symm List.perm_middle.symm]
end
def RepA.snoc{K H g d x cs}(h:RepL K H g d x cs){ds xs bs}(r:RepA K H g ds xs bs):RepA K H g (ds++[d]) (xs++[x]) (bs++cs):=by
 refine RepA.app ?_ r;exact#[x,[],cs,[],rfl,by simp,h,by unfold RepA;exact#[rfl,rfl]]
def _gJ{K H}{y:Sl}{ds}(ok:y.ok K H)(hd:y.d=.lst ds)(ho:y.o≠.no):∃l xs bs,y.v=.ref l/\H l=⇑(.lst xs)/\y.as=l::bs/\l∈y.own/\RepA K H (y.o != .dp) ds xs bs:=by
 obtain⟨o,d,v,as⟩:=y;dsimp only at hd ho;subst hd;cases o with
 |no=>exact absurd rfl ho
 |rt=>
  obtain⟨a,xs,bs,rfl,r,q,rfl⟩:=(ok);exact#[a,xs,bs,rfl,q,rfl,by simp[Sl.own],r]
 |dp=>
  have ok:RepL K H false _ v as:=ok;obtain⟨a,xs,bs,rfl,r,q⟩:=ok;rcases q with⟨q,rfl⟩|⟨z,_⟩
  ·exact#[a,xs,bs,rfl,q,rfl,by simp[Sl.own],r]
  ·grind
def _gK{K H T L i y l xs xs' bs cs o' ds'}(w:World K H (T++L))(hy:L[i]?=some ⇑y)(hH:H l=⇑(.lst xs))(ha:y.as=l::bs)(hl:l∈y.own)(hv:y.v=.ref l)
  (r:RepA K H (o' != .dp) ds' xs' cs) (hc:(o'=.rt/\∀a∈cs,a∈bs\/a∈jv T\/a∈jZ T)\/(o'=.dp/\y.o=.dp/\cs.Nodup/\∀a∈cs,a∈bs\/a∈jv T)):
  World K (upd H l (.lst xs')) (L.set i ⇑#[o',.lst ds',y.v,l::cs])/\Step H (T++L) (upd H l (.lst xs')) (L.set i ⇑#[o',.lst ds',y.v,l::cs]):=by
 have oL:=mem_owned.mpr #[y,vz hy,hl];have oy:l∈jv (T++L):=by rw[kj];exact _ab _ oL
 have nd:=w.nd;rw [kj,Xa]at nd;have nT:=λz=>nd.2.2 l z l oL rfl
 have yn:y.own.Nodup:=by
  obtain⟨A,B,e,_⟩:=_gI hy;have:=nd.2.1;rw[e,kj,Xa]at this;exact(List.nodup_append.mp this.2.1).1
 have nb:l∉bs:=λz=>by
  cases ho:y.o with
  | no=>unfold Sl.own at hl;rw[ho]at hl;exact nomatch hl
  | rt=>
   have:l∈y.frz:=by unfold Sl.frz;rw[ho,ha];exact z
   exact w.ds l oy (by rw[v5];exact _ab _ (mem_frozen.mpr #[y,vz hy,this]))
  | dp=>
   unfold Sl.own at yn;rw[ho,ha]at yn;exact(List.nodup_cons.mp yn).1 z
 have nc:l∉cs:=λz=>by
  rcases hc with⟨_,hc⟩|⟨_,_,_,hc⟩
  ·rcases hc l z with q|q|q
   ·exact nb q
   ·exact nT q
   ·exact(λz=>w.ds l oy (by rw[v5];exact _ac _ z)) q
  ·rcases hc l z with q|q
   ·exact nb q
   ·exact nT q
 have kp:Kp H (upd H l (.lst xs')) cs:=by
  have k2:∀a o,H a=⇑o->a≠l->upd H l (.lst xs') a=⇑o:=λa o e ne=>by rw[qx ne];exact e
  refine#[λa zs e=>k2 a _ e λz=>?_,λa o u e=>k2 a _ e λz=>?_,λa ha o e=>k2 a o e λz=>nc (z▸ha)]
  ·grind
  ·grind
 have r':=r.kp kp;rcases hc with⟨rfl,hc⟩|⟨rfl,nw,hnd,hc⟩
 ·refine World.writeAt w hy hl (y':=_) #[l,xs',cs,hv,r',vW,rfl] (by simp[Sl.own]) (λa h=>?_) (λa h=>?_) (λa h z=>?_)
  ·have:a=l:=by simpa [Sl.own]using h
   grind
  ·rcases hc a (by simpa [Sl.frz]using h)with q|q
   ·exact .inl (ha▸_ad _ q)
   ·exact .inr q
  ·have:a=l:=by simpa [Sl.own]using h
   subst this;exact nc (by simpa [Sl.frz]using z)
 ·have oa:y.own=y.as:=by unfold Sl.own;rw[nw]
  refine World.writeAt w hy hl (y':=_) ?_ (List.nodup_cons.mpr #[nc,hnd]) (λa h=>?_) (λa h=>(nomatch h)) (λa h z=>(nomatch z))
  ·show RepL K _ false _ y.v _;exact#[l,xs',cs,hv,r',.inl #[vW,rfl]]
  ·rcases aD (h)with q|q
   ·grind
   ·rcases hc a q with q|q
    ·exact .inl (by rw[oa,ha];exact _ad _ q)
    ·exact .inr q
section
variable {X:Cx}{Z:Fx0}{pn:List Nat}{q:Bool}{c:Ex}{e:Expr}{σ:L2.St}{H:Hp}{L:Ls}{E:En}
def _gL{K}{x:Sl}{ds}(ok:x.ok K H)(hd:x.d=.lst ds):tyV K "list" x.v H:=by
 obtain⟨a,xs,bs,e1,q1,_⟩:=items ok (.inl hd);rw[e1];rcases q1 with⟨_,z⟩|⟨z,_⟩
 ·exact .inl #[rfl,xs,z.sq]
 ·grind
def _gM{K}{x:Sl}(ok:x.ok K H) b (hb:b=false->wQ x.sd=true):∃cs,RepL K H b x.d x.v cs/\(∀a∈cs,a∈x.as)/\(b=false->∀a∈cs,a∈x.own)/\(b=false->x.own.Nodup->cs.Nodup):=by
 cases b with
 | true=>exact#[x.as,RepO.wk ok,λ_ h=>h,(λz=>by cases z),(λz=>by cases z)]
 | false=>
  by_cases ho:x.o=.dp
  ·have e:x.own=x.as:=by unfold Sl.own;rw[ho]
   refine#[x.as,?_,λ_ h=>h,λ_ a h=>by rw[e];exact h,λ_ n=>by rw[e]at n;exact n];have:=ok;unfold Sl.ok at this;rw[ho]at this;exact this
  ·have hp:x.d.pure=true:=by
    rcases Bool.or_eq_true_iff.mp (hb rfl)with z|z
    ·exact absurd (~~~z) ho
    ·exact z
   obtain⟨z,rp⟩:=RepL.pu (g':=false) (RepO.wk ok) hp;exact#[[],rp,λ_ h=>(nomatch h),λ_ _ h=>(nomatch h),λ_ _=>Xp]
def W4{α:Type}{l:List α}{i x}(h:l[i]?=⇑x):l.set i x=l:=by
 obtain⟨h1,h2⟩:=aF h;rw[<-h2];simp
def mut1 {D' f i r} {G:V->V->Hp->Prop} (m:Mt E σ L) (w:World Z.K H L) (hc:v4 f i c E=⇑r) (k:FlP Z pn D' σ H L r)
  (g:∀ l (x) (xs) (ds ds') (d) (bs cs) (H1) (gg),f ds d=⇑ds'->H1 l=⇑(.lst xs)->RepA Z.K H1 gg ds xs bs->RepL Z.K H1 gg d x cs ->
   (∀ xs' es,RepA Z.K H1 gg ds' xs' es->(∀a∈es,a∈bs\/a∈cs)->((bs++cs).Nodup->es.Nodup)->D'.nx σ (upd H1 l (.lst xs')))->G (.ref l) x H1):
  ∃ v,σ[i]?=some ⇑v/\tyV Z.K "list" v H/\tQ Z q c σ H (G v):=by
 unfold v4 at hc;cases h0:E[i]? with
 | none=>rw[h0]at hc;cases hc
 | some s0 =>
  cases s0 with
  | none=>rw[h0]at hc;cases hc
  | some s0=>
   obtain ⟨o0,d0⟩:=s0;cases d0 with
   | lst ds0=>
    rw [h0]at hc;obtain ⟨x0,a1,a2,a3,a4⟩:=m.get h0;refine #[x0.v,a4,_gL (w.ok x0 (vz a1)) a3,(Wq m w hc k λE1 s h1 x L1 H1 e1 e2 m1 w1 st _=>?_)];cases hE:E1[i]? with
    | none=>rw[hE]at h1;cases h1
    | some s1=>
     cases s1 with
     | none=>rw[hE]at h1;cases h1
     | some s1=>
      obtain⟨oo,dd⟩:=s1;rw [hE]at h1;cases dd with
      | lst ds=>
       dsimp only at h1
       by_cases kf:oo=.no
       ·rw [Xb kf]at h1;cases h1
       ·rw [Xj kf]at h1;cases hfd:f ds s.2 with
        | none=>rw[hfd]at h1;cases h1
        | some ds'=>
         rw[hfd]at h1;obtain⟨y,b1,b2,b3,b4⟩:=m1.get hE;have hv:y.v=x0.v:=by rw[a4]at b4;exact(_aa (_aa b4)).symm
         obtain⟨l,xs,bs,c1,c2,c3,c4,c5⟩:=_gJ (w1.ok y (_ad _ (vz b1))) b3 (b2▸kf);have ex0:=hv▸c1;rw[ex0];have wT:=w1;have nq:=w1.head;have nd:=w1.nd;rw[k3,Xa]at nd;have oT:jv [⇑x]=x.own:=by simp
         have fT:jZ [⇑x]=x.frz:=by simp
         by_cases hd:oo=.dp/\wQ s=true
         ·rw[Xb hd]at h1;cases _aa h1;have hyo:=b2.trans hd.1;rw[hyo]at c5;obtain⟨cs,r1,h3,h4,h5⟩:=_gM nq false λ_=>by rw[show x.sd=s from by simp[Sl.sd,e1,e2]];exact hd.2
          refine g l x.v xs ds ds' s.2 bs cs H1 false hfd c2 c5 (e2▸r1) λxs' es re he hn=>?_
          have ynd:(bs++cs).Nodup:=by
           have yo:y.own=l::bs:=by unfold Sl.own;rw[hyo,c3]
           obtain⟨A,B,e,_⟩:=_gI b1;have q:=nd.2.1;rw[e,kj,k3,Xa]at q;have q2:=(List.nodup_append.mp q.2.1).1;rw[yo]at q2;rw[Xa];refine#[(List.nodup_cons.mp q2).2,h5 rfl nd.1,λa ha b hb mz=>?_];subst mz;exact nd.2.2 a (h4 rfl a hb) a (mem_owned.mpr #[y,vz b1,by rw[yo];exact _ad _ ha]) rfl
          obtain⟨w3,s3⟩:=_gK (o':=.dp) (ds':=ds') (xs':=xs') wT b1 c2 c3 c4 c1 re (.inr #[rfl,hyo,hn ynd,λa ha=>(he a ha).imp id λz=>by rw[oT];exact h4 rfl a z]);refine k σ _ _ Pn.refl ?_ w3 (st.trans s3);have:=m1.set (x:=#[.dp,.lst ds',y.v,l::es]) i;rw[W4 b4]at this;exact this
         ·rw[Xj hd]at h1;cases _aa h1;have c6:RepA Z.K H1 true ds xs bs:=by
           cases hb:(y.o != .dp)with|true=>rw[hb]at c5;exact c5|false=>rw[hb]at c5;exact c5.wk
          refine g l x.v xs ds ds' s.2 bs x.as H1 true hfd c2 c6 (e2▸RepO.wk nq) λxs' es re he hn=>?_
          obtain⟨w3,s3⟩:=_gK (o':=.rt) (ds':=ds') (xs':=xs') wT b1 c2 c3 c4 c1 re (.inl #[rfl,λa ha=>(he a ha).imp id λz=>by rw[oT,fT];exact Sl.as_of z]);refine k σ _ _ Pn.refl ?_ w3 (st.trans s3);have:=m1.set (x:=#[.rt,.lst ds',y.v,l::es]) i;rw[W4 b4]at this;exact this
      |_=>cases h1
   |_=>rw[h0]at hc;cases hc
def _gN{i o apos af pos}(hb:PE X (.Call (.Attribute o "append" apos) [e] [] af) (tBM Z.K "list" _cn (wV i) (qv6 (tQ Z q c) xqh)))(hs:swapsWith (.Call (.Attribute o "append" apos) [e] [] af) none pos.line X.env=pure false<|>Ŕ):
  QS X Z pn (v4 v3 i c) (.Expr (.Call (.Attribute o "append" apos) [e] [] af) pos):=K7 (_aN hb hs) λD σ H ai=>ex7 ai λE L r m w hc k=>
 mut1 m w hc k λl x xs ds ds' d bs cs H1 gg hf hH ra rx fin=>by
  unfold v3 at hf
  by_cases hl:ds.length<big
  ·rw[Xb hl]at hf;cases _aa hf;exact#[l,xs,x,rfl,rfl,hH,by rw[<-ra.len];exact hl,fin _ _ (RepA.snoc rx ra) (λa ha=>aA ha) λh=>h]
  ·rw[Xj hl]at hf;cases hf
end
section
variable {X:Cx}{Z:Fx0}{pn:List Nat}{q:Bool}{kc vc:Ex}{e ke ve:Expr}{st:Stmt}
def _gO{d:D}{o:Own}{ob:Addr->HO}{C:Addr->Prop}(h:PE X e λ_ H Q=>∀p,H p=none->C p->Q (.ref p) (upd H p (ob p)))(ho:o≠.no)(ok:∀H p,C p->Sl.ok Z.K (upd H p (ob p)) #[o,d,.ref p,[p]]):QE X Z true (λE=>⇑(.ok E (o,d))) e:=kY h fun σ H Q ai=>ex8 ai λE L r m w hc xc k=>by
 intro p hp hs;cases _aa hc;have out:Out Z.K H (upd H p (ob p)) #[o,d,.ref p,[p]] []:=by
  refine#[wx hp,ok H p hs,λb hb=>?_,?_,λb hb=>?_]<;>cases o<;>simp_all [Sl.own,Sl.frz]
 obtain⟨w2,s2⟩:=Qx w Step.refl out (nofun) (nofun) (nofun);exact k _ _ rfl #[o,d,.ref p,[p]] L _ rfl rfl m w2 s2 λ_=>#[out.same,out.new]
#where in
def _gP{g0 g}{i:Nat}{W:V->V->V->Hp->(Hp->Prop)->Prop}(hp:PS X st λD σ H=>tQ Z q vc σ H λv H1=>wV i σ H1 λo H2=>tV Z true kc σ H2 λy H3=>W o y v H3 λH4=>D.nx σ H4)(hg:g0 none=false/\g0 ⇑none=false)
  (spec:∀{H L} {y x z:Sl} {d} {C:Hp->Prop},L[i]?=⇑(⇑y)->World Z.K H (⇑x::L)->z.ok Z.K H->g (y.o,y.d) z.d x.d=⇑d->(∀H' as,World Z.K H' (L.set i ⇑#[.rt,d,y.v,as])->Step H (⇑x::L) H' (L.set i ⇑#[.rt,d,y.v,as])->C H')->W y.v z.v x.v H C):
  QS X Z pn (WX g0 g i kc vc) st:=K7 hp λD σ H ai=>ex7 ai λE L r m w hr k=>
 Wq m w hr k λE1 s1 h1 x L1 H1 e1 e2 m1 w1 i8 _=>by
  split at h1
  ·rename_i hd
   match h0:E1[i]? with
   |none=>rw[h0,hg.1]at hd;cases hd|some none=>rw[h0,hg.2]at hd;cases hd
   |some ⇑s0=>
   obtain⟨y0,a1,a2,a3,a4⟩:=m1.get h0;refine#[y0.v,a4,?_];rcases _e2 h1 with⟨E2,ky,hk1,n8⟩|⟨E2,c,hk1,rfl⟩
   ·refine#[E1,L1,_,m1,w1.tail,hk1,(λ_ _ z=>by cases z),λE' s' z zk L2 H2 f1 f2 m2 w2 m8 frz _ bo sm=>?_];injection z with z1 z2;subst z1 z2
    match hE:E2[i]? with
    |none=>rw[hE]at n8;cases n8|some none=>rw[hE]at n8;cases n8
    |some ⇑s2=>
    rw[hE]at n8;obtain⟨d,dm,rfl⟩:=Option.map_eq_some_iff.mp n8;obtain⟨y,b1,b2,b3,b4⟩:=m2.get hE;have hyv:y.v=y0.v:=by rw[a4]at b4;exact(_aa (_aa b4)).symm
    obtain⟨w3,dl⟩:=_ex (T:=[⇑x]) w1 bo w2;rw[<-hyv];refine spec (d:=d) b1 w3 m8 (by rw[b2,b3,f2,e2];exact dm) λH' as w4 gz=>k σ _ _ Pn.refl ?_ w4 ((i8.trans dl).trans gz)
    have:=m2.set (x:=#[.rt,d,y.v,as]) i;rw[W4 b4]at this;exact this
   ·exact#[E1,L1,_,m1,w1.tail,hk1,(λE' c' e C L' H' hm m' w' st=>by injection e with z1 z2;subst z1 z2;exact k C σ L' H' hm Pn.refl m' w' ((i8.trans Step.drop).trans st)),λE' s' z=>by cases z]
  ·cases h1
end
section
variable {X:Cx}{Z:Fx0}{pn:List Nat}{q:Bool}{a b c:Ex}{tg e ea eb:Expr}{σ:L2.St}{H:Hp}{L:Ls}{E:En}{pos p:Pos}
def _gQ{a8 H1 s1 x t R}(I1:L2.Inv X a8 σ H1 s1)(q:R (Its x) H1):∅ (pyIter (.str x t)) (PIE X a8 σ tg R) X.xe s1:=by
 have fp:∀b∈[↥s1],wW X a8 H1 b:=λb hb=>by
  have e:b=↥s1:= ~~~hb
  subst e;exact I1.fpOk (Xd _) (I1.hok.fresh (Xd _))
 cases ha:x.cps.all _
 ·exact wpAny_pyIter_wide ha #[↥s1,[↥s1],_,_,H1,rfl,I1.kept (t':=s1.toks) λb o e=>X3 _ e,_di (λA' hA=>PySem.Walks.strWide hA _ x t) (λ_ _ _ _ _ st h=>wpAny_pyIter_striter_wide st h) ⋯,#[_,X9 _ rfl,rfl,rfl],fp,q]
 ·exact wpAny_pyIter_ascii ha #[↥s1,[↥s1],_,_,H1,rfl,I1.kept (t':=s1.toks) λb o e=>X3 _ e,_di (λA' hA=>PySem.Walks.strAscii hA _ x t) (λ_ _ _ _ _ st h=>wpAny_pyIter_striter_ascii st h) ⋯,#[_,X9 _ rfl,rfl,rfl],fp,q]
def _gR{K}{H} c:Sl.ok K H #[.no,.str #[%[c|0]],.str #[%[c|0]],[]]:=by
 show RepL K H true _ _ _;exact ZK (show 1<=sizeLine by decide)
def _gS{K}{H} i:Sl.ok K H #[.no,.int i,.int i,[]]:=by
 show RepL K H true _ _ _;exact vw
def iAny(K:Frag)(tl:TE):TI:=fun σ H R=>tl σ H λx H1=>(∃a xs,x=.ref a/\SqL K H1 a xs/\(xs.length<=sizeLine->R (Itl K a) H1))\/(∃a xs,x=.ref a/\SqT K H1 a xs/\(xs.length<=sizeLine->R (Itt K a) H1))\/∃z,x=.str z/\R (Its z) H1
def _gT{l tl}(hl:PE X l tl):PI X tg l (iAny X.K tl):=by
 intro a8 s σ H R I h;refine thn (hl a8 s σ H _ I h) λv s1 hz=>?_
 obtain⟨x,H1,I1,r1,q1⟩:=hz;rcases q1 with⟨a,xs,rfl,hq,q⟩|⟨a,xs,rfl,hq,q⟩|⟨z,rfl,q⟩
 ·cases r1;obtain⟨ab,rv,p,hz⟩:=I1.list hq;refine Zg p.isList (#[↥s1,[↥s1],_,_,H1,rfl,I1.kept (t':=s1.toks) λb o e=>X3 _ e,_a0 a _,#[_,X9 _ rfl,rfl,rfl],λb hb=>?_,q hz]);have e:b=↥s1:= ~~~hb
  subst e;exact I1.fpOk (Xd _) (I1.hok.fresh (Xd _))
 ·cases r1;obtain⟨ab,rv,p,hz⟩:=I1.tuple hq;refine wpAny_pyIter_tuple (p) (#[↥s1,[↥s1],_,_,H1,rfl,I1.kept (t':=s1.toks) λb o e=>X3 _ e,_a1 a _,#[_,X9 _ rfl,rfl,rfl],λb hb=>?_,q hz]);have e:b=↥s1:= ~~~hb
  subst e;exact I1.fpOk (Xd _) (I1.hok.fresh (Xd _))
 ·obtain⟨t,rfl⟩:=r1;exact _gQ I1 q
def _gU{K}{x:Sl}{es l}(hx:x.d=.lst es)(ev:x.v=.ref l):∀H2,x.let.ok K H2->∃ys cs,SqL K H2 l ys/\RepA K H2 true es ys cs/\∀b∈cs,b∈x.as:=λH2 hok=>by
 obtain⟨a',ys,cs,wt,q4,r4,h4,_⟩:=items hok (.inl hx);cases V.ref.inj (wt.symm.trans ev);rcases q4 with⟨_,z⟩|⟨z,_⟩
 ·exact#[ys,cs,z.sq,r4,h4]
 ·rw[show x.let.d=D.lst es from hx]at z;cases z
def _gV{K}{x:Sl}{es l}(hx:x.d=.tup es)(ev:x.v=.ref l):∀H2,x.let.ok K H2->∃ys cs,SqT K H2 l ys/\RepA K H2 true es ys cs/\∀b∈cs,b∈x.as:=λH2 hok=>by
 obtain⟨a',ys,cs,wt,q4,r4,h4,_⟩:=items hok (.inr hx);cases V.ref.inj (wt.symm.trans ev);rcases q4 with⟨z,_⟩|⟨_,z⟩
 ·rw[show x.let.d=D.tup es from hx]at z;cases z
 ·exact#[ys,cs,z,r4,h4]
def _gW{K H1 x L1}(w1:World K H1 (⇑x::L1))(st:Step H L H1 (⇑x::L1)):World K H1 (L1++[x.let].map some)/\Step H L H1 (L1++[x.let].map some):=by
 refine#[World.comm (w1.tail.consNo (JW w1.head) rfl λb hb=>w1.apart b hb),st.keep,λb hb=>?_,λb hb=>?_]
 ·have:b∈jv L1:=by simpa [_em]using hb
  exact st.own b (_ab _ this)
 ·have:b∈jZ L1\/b∈x.as:=by simpa [_em]using hb
  rcases this with z|z
  ·exact st.frz b (_ab _ z)
  ·exact _eA st b z
abbrev ItS(S:Hp->List V->Prop):It:=#[λi H=>∃xs x,S H xs/\xs[i]?=⇑x,λi H x H'=>H'=H/\∀xs,S H xs->xs[i]?=⇑x,λi H=>∃xs,S H xs/\xs.length<=i]
def _gX{K S}{x:Sl}{es}(ag:∀H2,x.let.ok K H2->∃ys cs,S H2 ys/\RepA K H2 true es ys cs/\∀b∈cs,b∈x.as):Walks K (ItS S) [x.let] es:=by
 refine#[λt ht=>by rw[aC ht];rfl,λi H2 hok hi=>?_,λH2 hok=>?_,λi H2 v H3 d hok hy je=>?_]
 all_goals obtain⟨ys,cs,s1,s2,s3⟩:=ag H2 (hok _ (aB rfl))
 ·have hl:=s2.len;exact#[ys,ys[i]'_,s1,X1 ⋯]
 ·exact#[ys,s1,by rw[s2.len];exact Xd _]
 ·obtain⟨rfl,hy⟩:=hy;obtain⟨v',bp,f1,f2,f3⟩:=s2.get je;have:=hy ys s1;rw[f1]at this;cases _aa this;exact#[#[.no,d,v,bp],rfl,rfl,rfl,z8,f2,λb hb=>#[x.let,aB rfl,s3 b (f3 b hb)]]
#where in
def v8(h:QE X Z q c e)(hK:X.K=Z.K<|>Ŕ):QI X Z q tg (itS c) e:=λa8 s σ H R I ai=>ex8 ai λE L r m w hc xc k=>by
 refine(hK▸_gT h) a8 s σ H R I (W3 m w (hc) xc λE1 s h1 x L1 H1 e1 e2 m1 w1 st sm=>?_);obtain⟨ds,hd,rfl⟩:=x6 h1;have ok:=w1.head;obtain⟨wT,sT⟩:=_gW w1 st;cases hx:x.d with
 | lst es=>
  rw[<-e2,hx]at hd;cases _aa hd;obtain⟨a,_,_,ev,_⟩:=items ok (.inl hx);have ag:=_gU (K:=Z.K) hx ev;obtain⟨xs,bs,q3,r3,_⟩:=ag H1 (JW ok);exact .inl #[a,xs,ev,q3,λae=>k _ _ rfl _ [x.let] L1 H1 m1 wT sT (r3.len▸ae) (λhq=>(sm hq).1) (_gX ag)]
 | tup es=>
  rw[<-e2,hx]at hd;cases _aa hd;obtain⟨a,_,_,ev,_⟩:=items ok (.inr hx);have ag:=_gV (K:=Z.K) hx ev;obtain⟨xs,bs,q3,r3,_⟩:=ag H1 (JW ok);exact .inr (.inl #[a,xs,ev,q3,λae=>k _ _ rfl _ [x.let] L1 H1 m1 wT sT (r3.len▸ae) (λhq=>(sm hq).1) (_gX ag)])
 | str z=>
  rw[<-e2,hx]at hd;have hd:(if z.cps.size<=big then ⇑_ else none)=⇑ds:=hd
  split at hd
  ·rename_i hz;cases _aa hd;refine .inr (.inr #[z,(zx ok hx).1,k _ _ rfl _ [] L1 H1 m1 (~~~w1.tail) (~~~(st.trans Step.drop)) (by rw[X4];exact hz) (λhq=>(sm hq).1) #[λt ht=>(nomatch ht),λi H2 _ hi=>?_,λH2 _=>?_,λi H2 v H3 d _ hy je=>?_]])
   ·show i<z.cps.size
    simp_all
   ·show(z.cps.toList.map λc=>D.str #[%[c|0]]).length=z.cps.size;simp
   ·obtain⟨e3,cc,hc,rfl⟩:=hy;subst e3;rw[Xh,Yp,hc]at je;cases _aa je;exact#[_,rfl,rfl,rfl,z8,_gR cc,λb hb=>(nomatch hb)]
  ·cases hd
 |_=>rw[<-e2,hx]at hd;cases hd
def _gY{K}(lo hi):Walks K (Itr lo (hi - lo).toNat) [] (k4 lo hi):=by
 have hl:(k4 lo hi).length=(hi - lo).toNat:=by simp[k4]
 refine#[λt ht=>(nomatch ht),λi H _ jt=>by rw[hl]at jt;exact jt,λH _=>by rw[hl];exact Xd _,λi H v H' d _ hy hd=>?_];obtain⟨e,rfl⟩:=hy;subst e;unfold k4 at hd;rw[Xh]at hd;cases hr:(List.range (hi - lo).toNat)[i]? with
 | none=>simp_all
 | some j=>
  rw[hr]at hd;have:j=i:=by
   obtain⟨_,h2⟩:=aF hr
   simpa using h2.symm
  subst this;cases _aa hd;exact#[_,rfl,rfl,rfl,z8,_gS _,λb hb=>(nomatch hb)]
def _gZ{i}(h:zQ i=true):-(2 ^ 62)<=i/\i<2 ^ 62:=by
 unfold zQ at h
 simpa using h
#where in
def xv(ha:QV X Z q a ea)(hg:Gl X "range")(hm:X.mg "range"=none)(ba:starEach [ea] X.env=[(false,eval ea X.env)]<|>Ŕ):QI X Z q tg (vZ a) (.Call (.Name "range" p) [ea] [] pos):=λa8 s σ H R I ai=>ex8 ai λE L r m w hc xc k=>by
 refine(_a4 hg hm (wj ha wY ba) ba) a8 s σ H R I (qY m w (hc) xc λE1 s h1 x L1 H1 e1 e2 m1 w1 ok fr sr st sm=>?_);cases hx:s.2 with
 | int j=>
  rw[hx]at h1;dsimp only at h1
  split at h1
  ·rename_i hj;cases _aa h1;obtain⟨j1,j2⟩:=_gZ hj.1;refine#[j,by rw[(qj ok (e2.trans hx))],j1,j2,?_];have wk:=_gY (K:=Z.K) 0 j;rw[Int.sub_zero]at wk;exact k _ _ rfl _ [] L1 H1 m1 (by simp_all) (by simp_all) (by simp only[k4,X4,Y7,Int.sub_zero];exact hj.2) sm wk
  ·grind
 |_=>simp_all
def Mt.clr:∀{R E L},Mt E σ L->Mt (Q.clr R E) σ (Q.clr R L)
 | [],_,_,m=>m
 | j::R,E,L,m=>by
  have un:∀{E σ} {L} j,Mt E σ L->Mt (E.set j none) σ (L.set j none):=by
   intro E σ L j m
   induction m generalizing j with
   |nil=>exact .nil
   |un m ih=>cases j with|zero=>exact .un m|succ j=>exact .un (ih j)
   |cons m ih=>cases j with|zero=>exact .un m|succ j=>exact .cons (ih j)
  show Mt (Q.clr R _) σ _;exact Mt.clr (un j m)
def Mt.drop:∀{E σ L} (k),Mt E σ L->Mt (E.drop k) (σ.drop k) (L.drop k)
 |_,_,_,0,m=>m|_,_,_,k+1,.nil=>.nil|_,_,_,k+1,.un m=>m.drop k|_,_,_,k+1,.cons m=>m.drop k
def Mt.none_at:∀{E σ L} {j:Nat},Mt E σ L->E[j]?=⇑none->L[j]?=⇑none
 |_,_,_,_,.nil,h=>by simp_all|_,_,_,0,.un _,_=>by simp|_,_,_,j+1,.un m,h=>by simpa using m.none_at (~~~h)|_,_,_,j+1,.cons m,h=>by simpa using m.none_at (~~~h)
def Mt.pick:∀{R:List Nat},Mt E σ L->Mt (R.map (at' E)) (R.map (at' σ)) (R.map (at' L))
 | [],_=>.nil
 | j::R,m=>by
  rw[List.map_cons,List.map_cons,List.map_cons];cases hE:E[j]? with
  | none=>
   have hl:=m.len;have:L[j]?=none:=by rw[List.getElem?_eq_none_iff]at hE ⊢;lia
   rw[show at' E j=none from by unfold at';rw[hE];rfl,show at' L j=none from by unfold at';rw[this];rfl];exact .un m.pick
  | some s=>
   cases s with
   |none=>
    have:L[j]?=⇑none:=m.none_at hE;rw[show at' E j=none from by unfold at';rw[hE];rfl,show at' L j=none from by unfold at';rw[this];rfl];exact .un m.pick
   |some s=>
    obtain⟨x,h1,h2,h3,h4⟩:=m.get hE;rw[show at' E j=⇑(x.o,x.d)from by unfold at';rw[hE,h2,h3];rfl,show at' L j=⇑x from by unfold at';rw[h1];rfl,show at' σ j=⇑x.v from by unfold at';rw[h4];rfl];exact .cons m.pick
def Mt.rep:∀{k},Mt E σ L->Mt (List.replicate k none++E) (List.replicate k none++σ) (List.replicate k none++L)
 |0,m=>by simp_all
 |k+1,m=>by
  exact .un m.rep
def Mt.back:∀{R B τ M E L},Mt E σ L->Mt B τ M->(∀(i j:Nat) (v),R[i]?=⇑j->τ[i]?=⇑(⇑v)->σ[j]?=some ⇑v)->Mt (Q.back R B E) σ (Q.back R M L)
 | [],B,τ,M,E,L,m,_,_=>by simpa [Q.back]using m| j::R,_,_,_,E,L,m,.nil,_=>by simpa [Q.back]using m
 | j::R,_,_,_,E,L,m,.un mB,h=>by
  have un:∀{E σ} {L} j,Mt E σ L->Mt (E.set j none) σ (L.set j none):=by
   intro E σ L j m
   induction m generalizing j with
   |nil=>exact .nil
   |un m ih=>cases j with|zero=>exact .un m|succ j=>exact .un (ih j)
   |cons m ih=>cases j with|zero=>exact .un m|succ j=>exact .cons (ih j)
  show Mt _ σ (Q.back R _ _);exact Mt.back (un j m) mB λi jj v e1 e2=>h (i+1) jj v (~~~e1) (~~~e2)
 |j::R,_,_,_,E,L,m,.cons (x:=x) mB,h=>by
  have m1:=m.set (x:=x) j;rw[W4 (h 0 j x.v (by simp) (by simp))]at m1;show Mt _ σ (Q.back R _ _);exact Mt.back m1 mB λi jj v e1 e2=>h (i+1) jj v (~~~e1) (~~~e2)
section
variable {ao fk:Expr}{fc:List Expr}{scope:Scope}{N:List Str}{k:Nat}{R:List Nat}{it:Ev (List D)}{tt:Tg}{u:Ts}{o:Own}{q1 q2:Bool}
def _g0:JV k R σ=List.replicate k none++R.map (at' σ):=rfl
def _g1{K M}(hR:R.Nodup)(w:World K H (L++M)):World K H ((List.replicate k none++R.map (at' L))++(Q.clr R L++M))/\Step H (L++M) H ((List.replicate k none++R.map (at' L))++(Q.clr R L++M)):=by
 have p:(sls (L++M)).Perm (sls ((List.replicate k none++R.map (at' L))++(Q.clr R L++M))):=by
  have:=_er (L:=L) hR;rw[W6]at this;simp;rw[<-Xs];exact(this.append_right _).symm
 exact#[w.same p,Step.refl.same (List.Perm.refl _) p]
def _g2{K B M H2}(hR:R.Nodup)(hr:∀j∈R,j<L.length)(hB:B.length=k+R.length)(w:World K H2 (B++(Q.clr R L++M))):World K H2 (Q.back R (B.drop k) (Q.clr R L)++M)/\Step H2 (B++(Q.clr R L++M)) H2 (Q.back R (B.drop k) (Q.clr R L)++M):=by
 have p2:(sls (Q.back R (B.drop k) (Q.clr R L)++M)).Perm (sls (B.drop k++(Q.clr R L++M))):=by
  rw[W6,<-Xs,W6 _];exact(_eu hR (λj hj=>_et hj) (λj hj=>by rw[_es];exact hr j hj) (by simp_all)).append_right _
 have sub:(sls (B.drop k++(Q.clr R L++M))).Sublist (sls (B++(Q.clr R L++M))):=by
  rw[W6,W6 B];exact List.Sublist.append ((List.drop_sublist k B).filterMap _) (List.Sublist.refl _)
 exact#[(w.sub sub).same p2.symm,(Step.refl.sub sub).same (List.Perm.refl _) p2.symm]
def _g3:∀{is es E E'},setAll is es E=⇑E'->E'.length=E.length
 |[],[],_,_,h=>by cases _aa h;rfl|i::is,d::es,E,E',h=>by rw[_g3 (E:=E.set i _) h,List.length_set]
def _g4{t:Tg}{d E E'}(h:t.put d E=⇑E'):E'.length=E.length:=by
 cases t with
 |n i=>cases _aa h;rw[List.length_set]
 |t is=>
  cases d with|tup es=>exact _g3 (h)|lst es=>exact _g3 (h)|_=>cases h
def _g5{nN Q}(hσ:σ.length=nN)(hR:R.Nodup)(hr:∀j∈R,j<nN)(h:tQ Z q (cLC o k R it tt u c) σ H Q):tLC (tIS Z q it) (tG Z ((List.range R.length).map (k + ·)) tt) (tT Z q u) (tQ Z q c) k R σ H Q:=by
 obtain⟨E,L,r,m,w,ia,xc,kk⟩:=h;have ia:bnd (it E) (λE ds=>match lcL tt u c ds (ZZ k R E) []with
  | some (.ok B xs)=>mkL o (Jz k R B E) xs| some (.exc B e)=>⇑(.exc (Jz k R B E) e)
  | none=>none)=⇑r:=ia
 rcases wv ia with⟨E1,ds,h1,h2⟩|⟨E1,cc,h1,h2⟩
 rotate_left
 ·exact#[E,L,_,m,w,h1,xc.map h2,λE' s' z=>by cases z]
 refine#[E,L,_,m,w,h1,(λ_ _ z=>by cases z),λE' ds' z J T L1 H1 m1 w1 st hz sm wk=>?_];injection z with z1 z2;subst z1 z2;have hL1:∀j∈R,j<L1.length:=λj hj=>by have:=m1.len;have:=hr j hj;lia
 obtain⟨wB,sB⟩:=_g1 (k:=k) hR w1;cases hrB:lcL tt u c ds (ZZ k R E1) []with
 | none=>simp_all
 | some rB=>
  rw [hrB]at h2;have lq:∀{H2 A B},World Z.K H2 (A++(B++(_root_.Q.clr R L1++T.map some)))->∀t∈T,t.ok Z.K H2:=λw2 t ht=>w2.ok t (_ab _ (_ab _ (_ab _ (Xx ht))))
  have mB0:Mt (ZZ k R E1) (JV k R σ) (List.replicate k none++R.map (at' L1)):=(m1.pick (R:=R)).rep;have ul:∀{B LB τ H2 A},Mt B τ LB->τ.length=k+R.length->Pn ((List.range R.length).map (k + ·)) (JV k R σ) τ->World Z.K H2 (LB++(A++(_root_.Q.clr R L1++T.map some))) ->
    Mt (Jz k R B E1) σ (_root_.Q.back R (LB.drop k) (_root_.Q.clr R L1))/\World Z.K H2 (A++_root_.Q.back R (LB.drop k) (_root_.Q.clr R L1))/\Step H2 (LB++(A++(_root_.Q.clr R L1++T.map some))) H2 (A++_root_.Q.back R (LB.drop k) (_root_.Q.clr R L1)):=fun {B LB τ H2 A} mB lB pB wB2=>by
   have hl:LB.length=k+R.length:=by rw[mB.len.2];exact lB
   have pm:(LB++(A++(_root_.Q.clr R L1++T.map some))).Perm (LB++(_root_.Q.clr R L1++(A++T.map some))):=by
    refine List.Perm.append_left _ ?_;rw [<-Xs,<-Xs];exact List.Perm.append_right _ List.perm_append_comm
   obtain⟨w3,s3⟩:=_g2 (k:=k) hR hL1 hl (wB2.perm pm);have wo:(_root_.Q.back R (LB.drop k) (_root_.Q.clr R L1)++(A++T.map some)).Perm ((A++_root_.Q.back R (LB.drop k) (_root_.Q.clr R L1))++T.map some):=by
    rw [<-Xs];exact List.Perm.append_right _ List.perm_append_comm
   refine#[(Mt.back (m1.clr) (mB.drop k) λi j v e1 e2=>?_),(w3.perm wo).left,(s3.perm pm.symm wo).trans Step.dropT];have hi:=(aF e1).1;rw [List.getElem?_drop,(pB (k+i) (List.mem_map.mpr #[i,List.mem_range.mpr hi,rfl])),_g0,Y8 (by simp),Zd,show k+i - k=i from by lia,Xh,e1]at e2;have e4:at' σ j=⇑v:= ~~~e2
   unfold at' at e4;cases hh:σ[j]? with| none=>simp_all| some s=>simp_all
  refine#[λi n ys τ H2=>∃(B:En) (LB:Ls) (ac:List Sl),Mt B τ LB/\τ.length=k+R.length/\Pn ((List.range R.length).map (k + ·)) (JV k R σ) τ/\World Z.K H2 (LB++(ac.map some++(_root_.Q.clr R L1++T.map some)))/\Step H L H2 (LB++(ac.map some++(_root_.Q.clr R L1++T.map some))) /\
   ys=ac.map Sl.v/\lcL tt u c (ds.drop i) B (ac.map Sl.sd)=⇑rB/\i<=ds.length/\ac.length<=i/\n=ds.length - i/\(q=true->k9 H H2/\∀b∈jv (ac.map some),H b=none),#[_,ZZ k R E1,_,[],mB0,by simp[JV],Pn.refl,wB,st.trans sB,rfl,hrB,Y1 _,Y1 _,rfl,λhq=>#[sm hq,λ_ z=>(nomatch z)]],?_]
  rintro i n ys τ H2 ⟨B,LB,ac,mB,lB,pB,wB2,sB2,rfl,f1,hi,au,rfl,smB⟩
  by_cases cj:i<ds.length
  rotate_left
  ·have e:i=ds.length:=⋯
   subst e;rw [List.drop_length]at f1;cases _aa f1;obtain⟨m3,w3,s3⟩:=ul mB lB pB wB2;exact .inl #[wk.stop H2 (lq wB2) (λhq=>(smB hq).1),by rw[X4];lia,(_f5 (σ:=σ) (Q:=Q) (o:=o) (xs:=ac) h2 rfl w3 (sB2.trans s3) smB kk m3)]
  ·have hd:ds.drop i=ds[i]::ds.drop (i+1):=List.drop_eq_getElem_cons cj;rw [hd]at f1;unfold lcL at f1;cases bz:tt.put ds[i] B with
   | none=>rw[bz]at f1;cases f1
   | some B2=>
    rw [bz]at f1;dsimp only at f1;refine .inr #[wk.go i H2 (lq wB2) (λhq=>(smB hq).1) cj,λv H3 hy=>?_];obtain⟨z,zo,zd,zv,smz,vn,zas⟩:=wk.yld i H2 v H3 ds[i] (lq wB2) (λhq=>(smB hq).1) hy (X1 cj);have pm:(LB++(ac.map some++(_root_.Q.clr R L1++T.map some))).Perm ((LB++(ac.map some++_root_.Q.clr R L1))++T.map some):=by
     rw[<-Xs (ac.map some),<-Xs]
    obtain⟨wz,sz⟩:=_fk (wB2.perm pm) wk.no smz vn zo zas;have wz':World Z.K H3 ((⇑z::LB)++(ac.map some++(_root_.Q.clr R L1++T.map some))):=wz.perm (by
     rw[List.cons_append,List.cons_append];exact List.Perm.cons _ pm.symm)
    have sz':Step H2 (LB++(ac.map some++(_root_.Q.clr R L1++T.map some))) H3 ((⇑z::LB)++(ac.map some++(_root_.Q.clr R L1++T.map some))):=sz.perm pm.symm (by
     rw[List.cons_append,List.cons_append];exact List.Perm.cons _ pm.symm)
    refine#[B,LB,z,B2,mB,wz'.left,zo,zv,by rw[zd];exact bz,fun τ2 LB2 p2 mB2 wB3 sB3=>?_];obtain⟨w4,s4⟩:=stay wz' sB3 wB3;have lB2:τ2.length=k+R.length:=by
     have h1:=mB2.len.1;have h2:=mB.len.1;have h3:=_g4 bz;lia
    have p3:=pB.trans p2;have vi:Step H L H3 (LB2++(ac.map some++(_root_.Q.clr R L1++T.map some))):=sB2.trans (sz'.trans s4);have im:q=true->k9 H H3/\∀b∈jv (ac.map some),H b=none:=λhq=>#[kZ (smB hq).1 smz,(smB hq).2]
    refine#[λy H5=>∃(B:En) (LB:Ls) (f9:List Sl),Mt B τ2 LB/\World Z.K H5 (LB++(f9.map some++(_root_.Q.clr R L1++T.map some)))/\Step H L H5 (LB++(f9.map some++(_root_.Q.clr R L1++T.map some)))/\ac.map Sl.v++[y]=f9.map Sl.v/\f9.length=ac.length+1/\lcL tt u c (ds.drop (i+1)) B (f9.map Sl.sd)=⇑rB/\(q=true->k9 H H5/\∀b∈jv (f9.map some),H b=none),
     λH5=>∃B LB,Mt B τ2 LB/\World Z.K H5 (LB++(ac.map some++(_root_.Q.clr R L1++T.map some)))/\Step H L H5 (LB++(ac.map some++(_root_.Q.clr R L1++T.map some)))/\lcL tt u c (ds.drop (i+1)) B (ac.map Sl.sd)=⇑rB/\(q=true->k9 H H5/\∀b∈jv (ac.map some),H b=none),
     λy H5 hz=>by obtain⟨B5,LB5,acc5,c1,c2,c3,c4,c5,c6,c7⟩:=hz;exact#[by rw[X4];lia,ds.length - (i+1),⋯,B5,LB5,acc5,c1,lB2,p3,c2,c3,c4,c6,cj,⋯,rfl,c7],
     λH5 hz=>by obtain⟨B5,LB5,c1,c2,c3,c6,c7⟩:=hz;exact#[ds.length - (i+1),⋯,B5,LB5,ac,c1,lB2,p3,c2,c3,rfl,c6,cj,⋯,rfl,c7],?_]
    have xcB:∀{α H6 L6 B6 cc A},rB=.exc B6 cc->World Z.K H6 (L6++(A++(_root_.Q.clr R L1++T.map some)))->Step H L H6 (L6++(A++(_root_.Q.clr R L1++T.map some)))->Xc Z τ2 H6 L6 (.exc B6 cc:Res α):=fun {α H6 L6 B6 cc A} er w6 s6 E7 c7 e7 C L7 H7 hm m7 w7 s7=>by
     injection e7 with e8 e9;subst e8 e9;subst er;cases _aa h2;obtain⟨w8,s8⟩:=stay w6 s7 w7;obtain⟨m9,w9,s9⟩:=ul m7 lB2 p3 w8;exact xc _ _ rfl C _ H7 hm m9 w9.right ((s6.trans (s8.trans s9)).trans #[λ_ _ h _=>h,λa ha=>.inl (by rw[kj];exact _ab _ ha),λa ha=>.inl (by rw[v5];exact _ab _ ha)])
    rcases wv f1 with⟨B4,kb,g1,g2⟩|⟨B4,cc,g1,g2⟩
    rotate_left
    ·exact#[B2,LB2,_,mB2,wB3,g1,xcB g2 w4 vi,λE' s' z=>by cases z]
    refine#[B2,LB2,_,mB2,wB3,g1,(λ_ _ z=>by cases z),λE' s' z LB4 H4 mB4 wB4 sB4 rh=>?_];injection z with z1 z2;subst z1 z2;obtain⟨w5,s5⟩:=stay w4 sB4 wB4;have mi:=vi.trans s5;cases kb with
    | false=>
     rw[Xj ⋯]at g2 ⊢;exact#[B4,LB4,mB4,w5,mi,g2,λhq=>#[kZ (im hq).1 (rh hq),(im hq).2]]
    | true=>
     rw[Xb rfl]at g2 ⊢;rcases wv g2 with⟨B6,y,g3,g4⟩|⟨B6,cc,g3,g4⟩
     rotate_left
     ·exact#[B4,LB4,_,mB4,wB4,g3,xcB g4 w5 mi,λE' s' z=>by cases z]
     refine#[B4,LB4,_,mB4,wB4,g3,(λ_ _ z=>by cases z),λE' s' z x LB6 H6 ex ey mB6 wB6 sB6 sm6=>?_];injection z with z1 z2;subst z1 z2;obtain⟨w7,s7⟩:=stay w5 sB6 wB6;have pm3:((⇑x::LB6)++(ac.map some++(_root_.Q.clr R L1++T.map some))).Perm (LB6++((ac++[x]).map some++(_root_.Q.clr R L1++T.map some))):=by
      rw[X7,List.cons_append];have:(LB6++(ac.map some++[x].map some++(_root_.Q.clr R L1++T.map some)))=(LB6++ac.map some)++⇑x::(_root_.Q.clr R L1++T.map some):=by simp
      rw[this];refine List.Perm.trans ?_ List.perm_middle.symm;rw[Xs]
     refine#[B6,LB6,ac++[x],mB6,w7.perm pm3,(mi.trans s7).perm (List.Perm.refl _) pm3,by simp,by simp,?_,λhq=>#[kZ (im hq).1 (kZ (rh hq) (sm6 hq).1),λb hb=>?_]]
     ·rwa [X7,show[x].map Sl.sd=[y]from by simp[Sl.sd,ex,ey]]
     ·rw[X7,kj]at hb;rcases aA hb with hb|hb
      ·exact(im hq).2 b hb
      ·have hb:b∈x.own:= ~~~hb
       exact J8 (kZ (im hq).1 (rh hq)) ((sm6 hq).2 b hb)
def _g6(N)(hi:QI X Z q tg it ao)
  (hg:∀cl C s0 H0 fp,QG (lcE X scope N cl C s0 H0 fp Z.EX) Z ((List.range R.length).map (k + ·)) tt tg) (ht:∀cl C s0 H0 fp,PTs (lcE X scope N cl C s0 H0 fp Z.EX) fc (tT Z q u)) (he:∀cl C s0 H0 fp,QE (lcE X scope N cl C s0 H0 fp Z.EX) Z q c fk)
  (gx:xW X Z.EX) (top:JZ X) (hR:R.Nodup) (hr:∀j∈R,j<X.N.length) (hc:X.calm=true<|>Ŕ) (hk:scope.kind=.function<|>Ŕ) (kr:Q9 X.N X.env.scope scope N k R=true<|>Ŕ) (hs:(∀x,foldedSetIterable ao X.env x=pure x)<|>Ŗ):
  QE X Z q (cLC o k R it tt u c) (.ListComp fk [#[tg,ao,fc,0]] scope pos):=λa8 s σ H Q I hw=>
 _d5 N k R (_fb hi) hg ht he gx top hc hk kr hs a8 s σ H Q I (_g5 I.len hR hr hw)
def _g7(N)(hi:QIS X Z q tg it ao)
  (hg:∀cl C s0 H0 fp,QG (lcE X scope N cl C s0 H0 fp Z.EX) Z ((List.range R.length).map (k + ·)) tt tg) (ht:∀cl C s0 H0 fp,PTs (lcE X scope N cl C s0 H0 fp Z.EX) fc (tT Z q u)) (he:∀cl C s0 H0 fp,QE (lcE X scope N cl C s0 H0 fp Z.EX) Z q c fk)
  (gx:xW X Z.EX) (top:JZ X) (hR:R.Nodup) (hr:∀j∈R,j<X.N.length) (hc:X.calm=true<|>Ŕ) (hk:scope.kind=.function<|>Ŕ) (kr:Q9 X.N X.env.scope scope N k R=true<|>Ŕ) (hs:(∀x,foldedSetIterable ao X.env x=pure x)<|>Ŗ):
  QE X Z q (cLC o k R it tt u c) (.ListComp fk [#[tg,ao,fc,0]] scope pos):=λa8 s σ H Q I hw=>
 _d5 N k R hi hg ht he gx top hc hk kr hs a8 s σ H Q I (_g5 I.len hR hr hw)
def _g8{EX wi g tte te i y py spos}(N)(k)(R)(hN:X.N.Nodup)(hy:X.N[i]?=⇑y)(hx:Loc X.env.scope y)(hi:PI X tg ao wi)
  (hg:∀cl C s0 H0 fp,PG (lcE X scope N cl C s0 H0 fp EX) tg g) (ht:∀cl C s0 H0 fp,PTs (lcE X scope N cl C s0 H0 fp EX) fc tte) (he:∀cl C s0 H0 fp,PE (lcE X scope N cl C s0 H0 fp EX) fk te) (gx:xW X EX) (top:JZ X)
  (um:swapsWith (.ListComp fk [#[tg,ao,fc,0]] scope pos) ⇑(.Name y py) spos.line X.env=pure true<|>Ŕ)
  (hc:X.calm=true<|>Ŕ) (hk:scope.kind=.function<|>Ŕ) (kr:Q9 X.N X.env.scope scope N k R=true<|>Ŕ) (hs:(∀x,foldedSetIterable ao X.env x=pure x)<|>Ŗ)
  (hf:X.fn y=true\/X.env.scope.names.lookup y=⇑.local<|>ś):
  PS X (.Assign [.Name y py] (.ListComp fk [#[tg,ao,fc,0]] scope pos) spos) (λD σ H=>tLC wi g tte te k R σ H λv H1=>D.nx (σ.set i ⇑v) H1):=by
 intro a8 s σ H D I h;have sc:=_cZ hk kr;obtain⟨cl,mj,f7,cb⟩:=_cY λy hy e=>I.ok.has y.1 (sc.caps y hy e)
 rw[exec_Assign_Name_used _ _ _ _ um];refine X0 (wpAny_standAt (X0 ?_));refine X0 (thn (wpAny_comprehension_free rfl hs mj sc.kind sc.names
  (thn (hi a8 s σ H _ I h) λv s1 h1=>thn h1 λitv s2 h2=>?_)) λ_ s' hq=>X6 (X6 hq))
 obtain⟨it,fp,tn,J,H2,e,I2,T,bo,f2,W,w0,fy⟩:=h2;subst e;refine _d4 hc top sc f7 cb (hg cl) (ht cl) (he cl) I2 T bo f2 w0 fy ?_ ?_
 rotate_left
 ·intro D' C s' cy σ' H' x T Cc fl hC t q;exact _d3 gx I2 f2 hC t q
 intro L C oC m ys H' s' I' eC nC fC q;refine wpAny_assign_Name (_as I' hN hy hx (v:=.ref L) rfl (λlc I''=>?_) hf);have pC:=I''.pin _ (_ab _ (_ab _ (aB rfl)));refine#[m,nC.at' λo e=>?_,λh' sb=>#[_,_,I''.unpinned.turned (t':=lc.toks) (λb o hb e=>(sb.2 b hb).trans e) fC.1 fC.2.1 fC.2.2.2.1 fC.2.2.2.2.1 fC.2.2.2.2.2,q]]
 grind
def _g9{i y py spos}(N)(hN:X.N.Nodup)(hy:X.N[i]?=⇑y)(hx:Loc X.env.scope y)(hi:QI X Z q tg it ao)
  (hg:∀cl C s0 H0 fp,QG (lcE X scope N cl C s0 H0 fp Z.EX) Z ((List.range R.length).map (k + ·)) tt tg) (ht:∀cl C s0 H0 fp,PTs (lcE X scope N cl C s0 H0 fp Z.EX) fc (tT Z q u)) (he:∀cl C s0 H0 fp,QE (lcE X scope N cl C s0 H0 fp Z.EX) Z q c fk)
  (gx:xW X Z.EX) (top:JZ X) (hR:R.Nodup) (hr:∀j∈R,j<X.N.length) (hp:i∉pn<|>ŕ)
  (um:swapsWith (.ListComp fk [#[tg,ao,fc,0]] scope pos) ⇑(.Name y py) spos.line X.env=pure true<|>Ŕ)
  (hc:X.calm=true<|>Ŕ) (hk:scope.kind=.function<|>Ŕ) (kr:Q9 X.N X.env.scope scope N k R=true<|>Ŕ) (hs:(∀x,foldedSetIterable ao X.env x=pure x)<|>Ŗ)
  (hf:X.fn y=true\/X.env.scope.names.lookup y=⇑.local<|>ś):
  QS X Z pn (jw i (cLC o k R it tt u c)) (.Assign [.Name y py] (.ListComp fk [#[tg,ao,fc,0]] scope pos) spos):=
 _e7 hp λa8 s σ H D I hw=>_g8 N k R hN hy hx (_fb hi) hg ht he gx top um hc hk kr hs hf a8 s σ H D I (_g5 I.len hR hr hw)
end
end
section
variable {X:Cx}{Z:Fx0}{K:Frag}{pn:List Nat}{q qa qb:Bool}{a b c:Ex}{u:Ts}{tg e ea eb:Expr}{σ:L2.St}{H:Hp}{L:Ls}{E:En}{pos p:Pos}{x:Str}{id T:String}{r:List V->Hp->VK->Prop}{f:Sd->Option Sd}{g:Sd->Sd->Option Sd}
def _ha:PTs X [] (tT Z q _root_.Q.tYes):=λa8 s σ H Q I ai=>ex8 ai λE L r m w hc xc k=>by
 cases _aa hc;exact _c6 a8 s σ H Q I (k _ _ rfl L H m w Step.refl λ_=>z8)
def _hb(h:QT X Z q u e):PTs X [e] (tT Z q u):=_c7 h
def _hc(hc:CallR X (.builtin id) r)(ad:Ad1 Z.K (λv H Q=>r [v] H Q) f)(ha:QV X Z q a ea)(hm:X.mg x=none)(hv:bootBuiltins x=⇑(.builtin id))(hg:Gl X x<|>Ŕ)(hn:x≠"__name__"<|>ŕ)(fu:Abd x<|>ŕ)
  (he:Abs ea [] X<|>Ŕ) (bu:Abb pos [] X<|>Ŕ):QE X Z q (cF1 f a) (.Call (.Name x p) [ea] [] pos):=
 kY (_bL hc hg hm hv (wj ha wY he) hn fu he bu) fun σ H Q h=>XZ ad h
def Q3(hc:CallR X (.type T) r)(ad:Ad1 Z.K (λv H Q=>r [v] H Q) f)(ha:QV X Z q a ea)(hm:X.mg x=none)(hv:bootBuiltins x=⇑(.type T))(hg:Gl X x<|>Ŕ)(hn:x≠"__name__"<|>ŕ)(fu:Abd x<|>ŕ)
  (he:Abs ea [] X<|>Ŕ) (bu:Abb pos [] X<|>Ŕ):QE X Z q (cF1 f a) (.Call (.Name x p) [ea] [] pos):=
 kY (_bM hc hg hm hv (wj ha wY he) hn fu he bu) fun σ H Q h=>XZ ad h
def _hd:Ad1 K (λv H Q=>_ds K [v] H Q) (pu1 kW):=by
 intro H x s Q ok hf k;unfold pu1 at hf;have fin:∀n,kW x.d=⇑(.int n)->Q (.int n) H:=λn e=>by
  rw[e]at hf;cases _aa hf;exact k _ H rfl rfl KK
 cases hx:x.d with
 |lst ds=>
  obtain⟨l,xs,bs,e,q,r,_⟩:=items ok (.inl hx);refine .inl #[l,xs,by rw[e],?_,by rw[<-r.len];exact fin ds.length (by rw[hx];rfl)];rcases q with⟨_,z⟩|⟨_,z⟩
  ·exact .inl (JK z)
  ·exact .inr z
 |tup ds=>
  obtain⟨l,xs,bs,e,q,r,_⟩:=items ok (.inr hx);refine .inl #[l,xs,by rw[e],?_,by rw[<-r.len];exact fin ds.length (by rw[hx];rfl)];rcases q with⟨_,z⟩|⟨_,z⟩
  ·exact .inl (JK z)
  ·exact .inr z
 |str z=>
  obtain⟨e,hz⟩:=zx ok hx;exact .inr (.inl #[z,by rw[e],hz,fin z.length (by rw[hx];rfl)])
 |_=>rw[hx]at hf;cases hf
def _he(K:Frag):List V->Hp->VK->Prop:=λxs H Q=>_dc K xs H Q\/(∃p ys U,xs=[.ref p,.ty U]/\SqT K H p ys/\U∈kinds.tail/\Q (.bl (_da "tuple" U)) H)\/∃p ys U,xs=[.ref p,.ty U]/\SqL K H p ys/\U∈kinds.tail/\Q (.bl (_da "list" U)) H
def _hf(hK:X.K=K<|>Ŕ):CallR X (.builtin "isinstance") (_he K):=by
 subst hK;intro a8 s σ H xs us Q I r h;rcases h with h|⟨p,ys,U,rfl,hq,hU,q⟩|⟨p,ys,U,rfl,hq,hU,q⟩
 ·exact _dd a8 s σ H xs us Q I r h
 ·obtain⟨u,w',rfl,r1,r2⟩:=_bu r;cases(show w'=Value.type U from r2);cases r1;obtain⟨ab,_,⟨o,h1,h2,_⟩,_⟩:=I.tuple hq;exact Ye PySem.W.kitx_tuple I.kIn #[o,h1,h2] (_db ⋯ hU) (nofun) λtk=>#[.bl _,H,I.tok _,rfl,q]
 ·obtain⟨u,w',rfl,r1,r2⟩:=_bu r;cases(show w'=Value.type U from r2);cases r1;obtain⟨ab,_,⟨o,n,h1,h2,_⟩,_⟩:=I.list hq;exact Ye PySem.W.kitx_list I.kIn #[o,h1,h2] (_db ⋯ hU) (nofun) λtk=>#[.bl _,H,I.tok _,rfl,q]
def _hg{U}(hU:U∈kinds.tail):Ad1 K (λv H Q=>_he K [v,.ty U] H Q) (pu1 (vx U)):=by
 intro H x s Q ok hf k;unfold pu1 vx at hf;have fin:∀T,kind x.d=T->(∀c f,x.d≠.obj c f)->Q (.bl (_da T U)) H:=λT e ho=>by
  cases hx:x.d with
  |obj c f=>exact absurd hx (ho c f)|dct kvs=>simp_all
  |_=>
   rw[hx]at hf;cases _aa hf;rw[<-e,hx];exact k _ H rfl rfl wJ
 cases hx:x.d with
 |non=>exact .inl #[x.v,"NoneType",U,rfl,by rw[_eJ ok hx];exact .non,⋯,hU,fin _ (by rw[hx];rfl) (by simp_all)]|bl k=>exact .inl #[x.v,"bool",U,rfl,by rw[Q0 ok hx];exact .bl _,⋯,hU,fin _ (by rw[hx];rfl) (hx▸nofun)]|int k=>exact .inl #[x.v,"int",U,rfl,by rw[qj ok hx];exact .int _,⋯,hU,fin _ (by rw[hx];rfl) (hx▸nofun)]|str k=>exact .inl #[x.v,"str",U,rfl,by rw[(zx ok hx).1];exact .str _,⋯,hU,fin _ (by rw[hx];rfl) (hx▸nofun)]
 |lst ds=>
  obtain⟨l,xs,bs,e,q,r,_⟩:=items ok (.inl hx);have f:=fin "list" (by rw[hx];rfl) (hx▸nofun);rcases q with⟨_,z⟩|⟨z,_⟩
  ·exact .inr (.inr #[l,xs,U,by rw[e],z.sq,hU,f])
  ·simp_all
 |tup ds=>
  obtain⟨l,xs,bs,e,q,r,_⟩:=items ok (.inr hx);have f:=fin "tuple" (by rw[hx];rfl) (hx▸nofun);rcases q with⟨z,_⟩|⟨_,z⟩
  ·simp_all
  ·exact .inr (.inl #[l,xs,U,by rw[e],z,hU,f])
 |dct kvs=>simp_all|obj c f=>simp_all
def Kw{U y p2}(ha:QV X Z q a ea)(hm:X.mg "isinstance"=none)(hmy:X.mg y=none)(hy:bootBuiltins y=⇑(.type U))(hK:X.K=Z.K)(hU:U∈kinds.tail<|>ŕ)(hg:Gl X "isinstance"<|>Ŕ)(hgy:Gl X y<|>Ŕ)(hny:y≠"__name__"<|>ŕ)(hdy:Abd y<|>ŕ)
  (he:starEach [ea,.Name y p2] X.env=(false,eval ea X.env)::starEach [.Name y p2] X.env<|>Ŕ) (he2:starEach [.Name y p2] X.env=(false,eval (.Name y p2) X.env)::starEach [] X.env<|>Ŕ) (bu:(backTo pos (starEach [.Name y p2] X.env)).any (·.1)=false<|>Ŕ):
  QE X Z q (cF1 (pu1 (vx U)) a) (.Call (.Name "isinstance" p) [ea,.Name y p2] [] pos):=
 kY (_bL (_hf hK) hg hm _dy (wj ha (wj (_aA (v:=.ty U) hgy hmy hy rfl hny hdy) wY he2) he) ⋯ ⋯ he bu) fun σ H Q h=>XZ (_hg hU) h
#where in
def _hh:Ad1 K (λv H Q=>_dL [v] H Q) (pu1 K9):=by
 intro H x s Q ok hf k;unfold pu1 K9 at hf;dsimp only at hf
 split at hf
 ·rename_i i e;cases _aa hf;exact .inl #[i,by rw[qj ok e],k _ H rfl rfl KK]
 ·rename_i i e;cases _aa hf;exact .inr (.inl #[i,by rw[Q0 ok e],k _ H rfl rfl KK])
 ·rename_i z e
  split at hf
  ·rename_i hz;cases ht:PySem.intText? z with
   |none=>grind
   |some n=>
    rw[ht]at hf;cases _aa hf;exact .inr (.inr #[z,n,by rw[(zx ok e).1],ht,hz,k _ H rfl rfl KK])
  ·grind
 ·grind
#where in
def _hi:Ad1 K (λv H Q=>_dI K [v] H Q) W9:=by
 intro H x s Q ok hf k;unfold W9 at hf;dsimp only at hf
 split at hf
 ·rename_i ds e
  split at hf
  ·rename_i hl;cases _aa hf;obtain⟨l,xs,bs,ev,q3,r3,h3⟩:=zW ok (.inl e) hl;have q3:LsR K H l xs:=by rcases q3 with⟨_,z⟩|⟨z,_⟩;exact z;rw[e]at z;cases z
   exact#[l,xs,by rw[ev],.inl (JK q3),λp hp=>k _ _ rfl rfl (KQ hp r3 h3)]
  ·cases hf
 ·rename_i ds e
  split at hf
  ·rename_i hl;cases _aa hf;obtain⟨l,xs,bs,ev,q3,r3,h3⟩:=zW ok (.inr e) hl;have q3:SqT K H l xs:=by rcases q3 with⟨z,_⟩|⟨_,z⟩;rw[e]at z;cases z;exact z
   exact#[l,xs,by rw[ev],.inr q3,λp hp=>k _ _ rfl rfl (KQ hp r3 h3)]
  ·cases hf
 ·cases hf
def _hj(K:Frag):List V->Hp->VK->Prop:=λxs H Q=>∃p ys,xs=[.ref p]/\((SqL K H p ys/\∀l,H l=none->Q (.ref l) (upd H l (.tup ys)))\/(SqT K H p ys/\Q (.ref p) H))
def _hk(hK:X.K=K):CallR X (.type "tuple") (_hj K):=by subst hK;exact _ch
#where in
def _hl:Ad1 K (λv H Q=>_hj K [v] H Q) z7:=by
 intro H x s Q ok hf k;unfold z7 at hf;dsimp only at hf
 split at hf
 ·rename_i ds e
  split at hf
  ·rename_i hl;cases _aa hf;obtain⟨l,xs,bs,ev,q3,r3,h3⟩:=zW ok (.inl e) hl;have q3:LsR K H l xs:=by rcases q3 with⟨_,z⟩|⟨z,_⟩;exact z;rw[e]at z;cases z
   exact#[l,xs,by rw[ev],.inl #[JK q3,λp hp=>k _ _ rfl rfl (_eW hp r3 h3)]]
  ·cases hf
 ·rename_i ds e
  split at hf
  ·rename_i hl;cases _aa hf;obtain⟨l,xs,bs,ev,q3,r3,h3⟩:=zW ok (.inr e) hl;have q3:SqT K H l xs:=by rcases q3 with⟨z,_⟩|⟨_,z⟩;rw[e]at z;cases z;exact z
   exact#[l,xs,by rw[ev],.inr #[q3,k #[.no,.tup ds,.ref l,bs] H rfl rfl #[z8,(#[l,xs,rfl,q3,r3]),λb hb=>(nomatch hb),Xp,λb hb=>h3 b hb]]]
  ·cases hf
 ·cases hf
def _hm{g}:∀{ds bs xs as},bls ds=⇑bs->RepA K H g ds xs as->xs=bs.map V.bl
 | [],bs,xs,as,h,r=>by
  cases _aa h;exact r.1
 | d::ds,bs,xs,as,h,r=>by
  cases d with
  | bl b=>
   unfold bls at h;cases hb:bls ds with
   |none=>grind
   |some bp=>
    rw[hb]at h;cases _aa h;obtain⟨x,rr,c1,c2,rfl,rfl,h1,h2⟩:=r;rw[h1.1,_hm hb h2];rfl
  |_=>unfold bls at h;cases h
#where in
def _hn:Ad1 K (λv H Q=>_dg K [v] H Q) (pu1 _eg):=by
 intro H x s Q ok hf k;unfold pu1 _eg at hf;dsimp only at hf
 split at hf
 ·rename_i ds e;cases hb:bls ds with
  |none=>simp_all
  |some bs=>
   rw[hb]at hf;cases _aa hf;obtain⟨l,xs,cs,ev,q3,r3,_⟩:=items ok (.inl e);have q3:LsR K H l xs:=by rcases q3 with⟨_,z⟩|⟨z,_⟩;exact z;rw[e]at z;cases z
   exact#[l,bs,by rw[ev],by rw[<-_hm hb r3];exact JK q3,k _ H rfl rfl wJ]
 ·cases hf
def _ho{g}:∀x y s,pu2 (c2 g) x y=⇑s->∃k,s.2=.bl k:=by
 intro x y s h;unfold pu2 c2 at h
 split at h
 ·grind
 ·grind
def _hp:∀x y s,pu2 fEq x y=⇑s->∃k,s.2=.bl k:=by
 intro x y s h;unfold pu2 fEq at h
 split at h
 ·grind
 ·grind
def _hq:∀x y s,pu2 fNe x y=⇑s->∃k,s.2=.bl k:=by
 intro x y s h;unfold pu2 fNe at h
 split at h
 ·grind
 ·grind
def _hr{x y d}(h:fIn x y=⇑d):∃k,d=.bl k:=by
 unfold fIn at h
 split at h
 ·split at h
  ·grind
  ·grind
 ·grind
 ·split at h
  ·grind
  ·grind
 ·grind
 ·grind
def _hs:∀x y s,pu2 J1 x y=⇑s->∃k,s.2=.bl k:=by
 intro x y s h;unfold pu2 J1 at h
 split at h
 ·grind
 ·cases hf:fIn x.2 y.2 with
  |none=>grind
  |some d=>
   rw[hf]at h;cases _aa h;exact _hr hf
def _ht:∀x y s,pu2 zZ x y=⇑s->∃k,s.2=.bl k:=by
 intro x y s h;unfold pu2 zZ VX at h
 split at h
 ·grind
 ·cases hf:fIn x.2 y.2 with
  |none=>rw[hf]at h;cases h
  |some d=>
   obtain⟨k,rfl⟩:=_hr hf;rw[hf]at h;cases _aa h;exact#[_,rfl]
def _hu:∀x y s,f2First fIsNon x y=⇑s->∃k,s.2=.bl k:=by
 intro x y s h;unfold f2First fIsNon at h
 split at h
 ·grind
 ·grind
def _hv:∀x y s,f2First fNotNon x y=⇑s->∃k,s.2=.bl k:=by
 intro x y s h;unfold f2First fNotNon at h
 split at h
 ·grind
 ·grind
def _hw:∀{xs us},xs.length=us.length->(∀(i:Nat) (x) (u),xs[i]?=⇑x->us[i]?=⇑u->RelV x u)->Vals xs us
 |[],[],_,_=>.nil|[],_::_,h,_=>by simp_all|x::xs,u::us,h,f=>.cons (f 0 x u (by simp) (by simp)) (_hw (~~~h) λi x u e1 e2=>f (i+1) x u (~~~e1) (~~~e2))
def _hx{p2 bn}(ha:QV X Z q a ea)(qi:X.mg "range"=none)(sf:Gl X "range")(ba:starEach [ea] X.env=(false,eval ea X.env)::starEach [] X.env)(bu:(backTo bn (starEach [] X.env)).any (·.1)=false):PE X (.Call (.Name "range" p2) [ea] [] bn) (fun σ H Q=>tV Z q a σ H λv H1=>∃j,v=.int j/\∀pp,H1 pp=none->Q (.ref pp) (upd H1 pp (.rng 0 j))):=by
 intro a8 s σ H Q I h;refine Call_ (Jj I sf qi boot_range (Y0 (thn (wj ha wY ba bn a8 s σ H (λvs H1=>∃j,vs=[.int j]/\∀pp,H1 pp=none->Q (.ref pp) (upd H1 pp (.rng 0 j))) I ?_) λus s1 #[vs,H1,I1,r1,j,e,q1]=>?_) ba bu))
 ·grind
 ·subst e;obtain⟨u,rfl,t,rfl⟩:=r1.one;refine call_range_1 #[.ref ↥s1,_,I1.laid (o:=.rng 0 j) (λb o e=>X3 _ e) (Xd _) #[_,_,_,X9 _ rfl],rfl,q1 _ I1.fresh]
def _hy{K H}(ns:List Nat):RepA K H true (ns.map λ(i:Nat)=>D.int (0+i)) (ns.map λ(i:Nat)=>V.int (0+i)) []:=by
 induction ns with
 |nil=>unfold RepA;exact#[rfl,rfl]
 |cons i ns ih=>
  exact#[_,_,[],[],rfl,rfl,vw,ih]
def _hz{n}{ac:Array Value}(hs:ac.size=n)(hg:∀(i:Nat) u,ac[i]?=⇑u->∃t,u=.int (0+i*1) t):Vals ((List.range n).map λ(i:Nat)=>V.int (0+i)) ac.toList:=_hw (by simp[hs]) λi x u ex eu=>by
 rw[Yp]at eu;obtain⟨t,rfl⟩:=hg i u eu;rw[Xh]at ex;obtain⟨m,hr,rfl⟩:=Option.map_eq_some_iff.mp ex;obtain⟨_,h2⟩:=aF hr;rw[List.getElem_range]at h2;subst h2;exact#[t,by rw[Int.mul_one]]
#where in
def _hA{p2 bn}(ha:QV X Z q a ea)(qi:X.mg "range"=none)(wc:X.mg "list"=none)(hc:X.calm=true<|>Ŕ)(sf:Gl X "range"<|>Ŕ)(ux:Gl X "list"<|>Ŕ)
  (ba:Abs ea [] X<|>Ŕ) (bu:Abb bn [] X<|>Ŕ)
  (jn:starEach [.Call (.Name "range" p2) [ea] [] bn] X.env=(false,eval (.Call (.Name "range" p2) [ea] [] bn) X.env)::starEach [] X.env<|>Ŕ) (mv:Abb pos [] X<|>Ŕ):
  QE X Z q (W5 a) (.Call (.Name "list" p) [.Call (.Name "range" p2) [ea] [] bn] [] pos):=by
 intro a8 s σ H Q I ⟨E,L,r,m,w,ia,xc,k⟩;refine Z3 (Jj I ux wc QK (Y0 (thn (wj (_hx ha qi sf ba bu) wY jn pos a8 s σ H (λvs H1=>∃pp j,vs=[.ref pp]/\H1 pp=⇑(.rng 0 j)/\zQ j=true/\j.toNat<=big/\∀l,H1 l=none->Q (.ref l) (upd H1 l (.lst ((List.range j.toNat).map λ(i:Nat)=>V.int (0+(i)))))) I ?_) λus s1 #[vs,H1,I1,r1,pp,j,e,hp,h62,qg,q1]=>?_) jn mv))
 ·refine qY m w (ia) xc λE1 s h1 x L1 H1 e1 e2 m1 w1 ok fr sr st sm=>?_
  cases hx:s.2 with
  | int j=>
   rw[hx]at h1;dsimp only at h1
   split at h1
   ·rename_i hj;cases _aa h1;refine#[j,qj ok (e2.trans hx),λpp hpp=>#[pp,j,rfl,vW,hj.1,hj.2,λl hl=>?_]];have s1:k9 H1 (upd H1 pp (.rng 0 j)):=wx hpp;have w2:World Z.K _ L1:=#[λx hx=>RepO.kp (w1.ok x hx) (Kp.of_same s1),w1.nd,w1.ds];have o:=KQ (K:=Z.K) (fr:=[]) hl (_hy (List.range j.toNat)) (λ_ z=>(nomatch z));obtain⟨w3,dl⟩:=Qx w2 (st.trans #[λb ob z _=>s1 b ob z,λb z=>.inl z,λb z=>.inl z]) o (λ_ z=>(nomatch z)) (λ_ z=>(nomatch z)) (λ_ z=>(nomatch z));refine k _ _ rfl #[.rt,.lst _,.ref l,[l]] L1 _ rfl rfl m1 (by simpa [k4]using w3) (by simpa [k4]using dl) λhq=>#[kZ (sm hq) (kZ s1 o.same),λb hb=>?_]
    have:b=l:=by simpa [Sl.own]using hb
    subst this;exact J8 (kZ (sm hq) s1) hl
   ·cases h1
  |_=>rw[hx]at h1;cases h1
 ·subst e;obtain⟨u,rfl,rx⟩:=r1.one;cases rx;obtain⟨t1,t2,t3,hg⟩:=(I1.hok pp _ hp);obtain⟨j1,j2⟩:=_gZ h62;have e2:Builtin.Range.rangeSize 0 j 1=((j.toNat:Nat):Int):=by rw[rangeSize_one];split<;>lia
  refine call_list_range (I1.ok.hd hc) (hg) (small_one ⋯ ⋯ j1 j2) e2 qg λh' tk f9 c' kp e4 fh=>?_
  obtain⟨hs,xo⟩:=fh;refine#[.ref ↥s1,_,I1.laid (o:=.lst _) (t':=tk) kp (Xd _) #[by rw[X4,Y7];exact qg,f9.toList,c',_hz hs xo,~~~e4],rfl,q1 _ I1.fresh]
end
end Q
namespace Q
open PySem
def _hB:Sm:=λ_=>none
def VY(n d:Nat):Option Int->Nat
 |none=>d|some v=>if v<0 then(v+(n:Int)).toNat else min v.toNat n
def KJ(xs:List D)(lo hi:Option Int):List D:=(xs.drop (VY xs.length 0 lo)).take (VY xs.length xs.length hi - VY xs.length 0 lo)
def fSl:Sd->Option Int->Option Int->Option Sd:=λx lo hi=>match x.2 with
 |.lst xs=>if qW x then ⇑(.rt,.lst (KJ xs lo hi))else none|.tup xs=>if qW x/\¬(VY xs.length 0 lo=0/\VY xs.length xs.length hi=xs.length)then ⇑(.no,.tup (KJ xs lo hi))else none|.str z=>if(Txt.slice z lo hi).length<=big then ⇑(.dp,.str (Txt.slice z lo hi))else none|_=>none
def Vk:Option Ex->Ev (Option Int)
 |none,E=>⇑(.ok E none)
 |some c,E=>bnd (c E) λE x=>match x.2 with
  |.int i=>⇑(.ok E ⇑i)|_=>none
def cSl(a:Ex)(lo hi:Option Ex):Ex:=λE=>bnd (a E) λE x=>bnd (Vk lo E) λE l=>bnd (Vk hi E) λE h=>val E (fSl x l h)
def z6:Nat->List D->List D
 |_,[]=>[]|k,d::ds=>.tup [.int k,d]::z6 (k+1) ds
def lstOf:D->Option (List D)
 |.lst xs=>⇑xs|_=>none
def _hC(c:Ex):Ev (List D):=λE=>bnd (c E) λE x=>val E ((lstOf x.2).map (z6 0))
def JQ:List D->Option (List Str)
 |[]=>⇑[]|.str z::ds=>(JQ ds).map (z :: ·)|_=>none
def Qq:List D->Option (List Int)
 |[]=>⇑[]|.int z::ds=>(Qq ds).map (z :: ·)|_=>none
def zX(a:Str):List Str->List Str
 |[]=>[a]|b::r=>if Spec.ltCps b.cps.toList a.cps.toList then b::zX a r else a::b::r
def x5:List Str->List Str
 |[]=>[]|a::r=>zX a (x5 r)
def _hD:D->D->Option D:=λxs x=>match xs with
 |.lst ys=>if x.flat 30&&D.flats 30 ys then(ys.findIdx? λz=>peq z x).map λ(j:Nat)=>D.int (j:Int)else none|.tup ys=>if x.flat 30&&D.flats 30 ys then(ys.findIdx? λz=>peq z x).map λ(j:Nat)=>D.int (j:Int)else none|_=>none
def isSq:D->Bool
 |.lst _=>true|.tup _=>true|_=>false
def K6(a b:Ex):Ex:=λE=>bnd (a E) λE x=>if isSq x.2 then bnd (b E) λE y=>val E (pu2 _hD x y)else none
def _hE(i:Nat)(c:Ex):Ex:=λE=>if Wv E[i]? then bnd (c E) λE x=>match E[i]?,x.2 with
 | some ⇑(o,.lst xs),.int k=>if o=.no then none else(match ixN xs.length k with
  |some j=>(match xs[j]? with
   |some d=>if d.pure&&zQ k then ⇑(.ok (E.set i ⇑(o,.lst (xs.eraseIdx j))) (.dp,d))else none
   |none=>none)
  |none=>none)
 |_,_=>none
 else none
def KY(f:Fn)(cs:List Ex):Ex:=λE=>bnd (vX cs E) λE xs=>match f (letAll xs)with
 |some (.ok _ y)=>if y.2.pure then ⇑(.ok E (.dp,y.2))else none|some (.exc _ c)=>⇑(.exc E c)|none=>none
def J3:Sd->Sd->Option Sd:=λx y=>match x.2,y.2 with
 |.tup a,.int k=>if -(2 ^ 63)<=k/\k<2 ^ 63/\a.length*k.toNat<=big/\qW x then ⇑(.no,.tup (List.replicate k.toNat a).flatten)else none|_,_=>YX x y
def Vj(f g:D->D->Option D)(a b c:Ex):Ex:=λE=>bnd (a E) λE x=>bnd (b E) λE y=>match f x.2 y.2 with
 |some (.bl true)=>bnd (c E) λE z=>val E ((g y.2 z.2).map λd=>(.dp,d))|some (.bl false)=>⇑(.ok E (.dp,.bl false))|_=>none
def _hF:D->Bool
 |.tup _=>true|_=>false
def qZ(x:D):Bool:=qK 6 x&&_hF x
def V5:D->D->Option D:=λx y=>match y with
 |.dct kvs=>if qZ x=true/\unm kvs=true then ⇑(.bl (decide (x∈kvs.map (·.1))))else none|_=>none
def V0:D->D->Option D:=λx y=>match y with
 |.dct kvs=>if qZ x=true/\unm kvs=true then ⇑(.bl (!decide (x∈kvs.map (·.1))))else none|_=>none
def _hG:Ex:=λE=>⇑(.ok E (.rt,.dct []))
def Qz(kvs:List (D×D))(k v:D):List (D×D):=if k∈kvs.map (·.1)then kvs.map λe=>if e.1=k then(k,v)else e else kvs++[(k,v)]
def _hH:Option (Option Sd)->Bool
 |some ⇑(.rt,.dct _)=>true|_=>false
def _hI : Sd -> D -> D -> Option D:= λs k v=>match s with
  |(.rt,.dct kvs)=>if qZ k = true /\ kvs.length<big /\ unm kvs = true then ⇑(.dct (Qz kvs k v))else none|_=>none
def _hJ:Nat->Ex->Ex->Sm:=WX _hH _hI
def _hK(kc vc:Ex):Ex:=λE=>bnd (kc E) λE k=>bnd (vc E) λE v=>if qZ k.2=true then ⇑(.ok E (.rt,.dct [(k.2,v.2)]))else none
def _hL : Sd -> D -> D -> Option D:= λs k v=>match s,k with
  |(o,.lst xs),.int j=>if o = .no then none else(ixN xs.length j).map λn=>.lst (xs.set n v)|_,_=>none
def Zx:Nat->Ex->Ex->Sm:=WX Wv _hL
def _hM(f:Int->Int->Int)(i:Nat)(c:Ex):Sm:=λE=>match E[i]? with
 |some ⇑(_,.int a)=>ofE (c E) λE x=>(match x.2 with
  |.int b=>⇑(.nx (E.set i ⇑(.dp,.int (f a b))))
  |_=>none)
 |_=>none
noncomputable def mkD:D×D:=(.str "",.non)
def wq(kv:List (Int×Int)):D:=.dct (mkD::kv.map λp=>(.int p.1,.int p.2))
def ZW : List (D × D) -> Option (List (Int × Int))
  |[]=>⇑[]|(.int k,.int v)::r=>(ZW r).map ((k,v):: ·)|_=>none
def J6:D->Option (List (Int×Int)):=λd=>match d with
 |.dct ((.str _,.non)::kvs)=>ZW kvs|_=>none
def jV(kv:List (Int×Int))(k:Int):Option Int:=(kv.find? λp=>decide (p.1=k)).map (·.2)
def qX(kv:List (Int×Int))(k v:Int):List (Int×Int):=if(kv.any λp=>decide (p.1=k))=true then kv.map (λp=>if p.1=k then(p.1,v)else p)else kv++[(k,v)]
def _hN:Ex:=λE=>⇑(.ok E (.rt,wq []))
def W7:D->D->Option D:=λx y=>match x,J6 y with
 |.int k,⇑kv=>⇑(.bl (jV kv k).isSome)|_,_=>none
def _hO:D->D->Option D:=λx y=>match x,J6 y with
 |.int k,⇑kv=>⇑(.bl (!(jV kv k).isSome))|_,_=>none
def _hP:D->D->Option D:=λy x=>match x,J6 y with
 |.int k,⇑kv=>(jV kv k).map .int|_,_=>none
def _hQ(a b:Ex):Ex:=λE=>bnd (a E) λE x=>bnd (b E) λE y=>val E ((_hP x.2 y.2).map λd=>(.dp,d))
def _hR:D->D->D->Option D:=λy x e=>match x,e,J6 y with
 |.int k,.int z,⇑kv=>⇑(.int ((jV kv k).getD z))|_,_,_=>none
def _hS(d:D):Bool:=(J6 d).isSome
def _hT(a b c:Ex):Ex:=λE=>bnd (a E) λE x=>if _hS x.2=true then bnd (b E) λE y=>bnd (c E) λE z=>val E ((_hR x.2 y.2 z.2).map λd=>(.dp,d))else none
def _hU : Sd -> D -> D -> Option D:= λs k v=>match s,k,v with
  |(.rt,d),.int a,.int b=>(J6 d).bind λkv=>if kv.length<big then ⇑(wq (qX kv a b))else none|_,_,_=>none
def _hV:Nat->Ex->Ex->Sm:=WX _hH _hU
def V4:List D->Option (List (Int×Int))
 |[]=>⇑[]|.tup [.int a,.int b]::r=>(V4 r).map ((a,b):: ·)|_=>none
def Zw:Sd->Option Sd:=λx=>match x.2 with
 |.lst ds=>(match V4 ds with
  |some ps=>if ps.length<big then ⇑(.rt,wq (ps.foldl (λkv p=>qX kv p.1 p.2) []))else none
  |none=>none)
 |_=>none
def _hW(z:Str):D->Option D:=λd=>match d with
 |.lst ds=>(match JQ ds with
  |some ys=>if(ys.map (·.length)).sum+ys.length*z.length<=100000 then ⇑(.str (Txt.join z ys))else none
  |none=>none)
 |_=>none
def _hX(z:Str)(c:Ex):Ex:=λE=>bnd (c E) λE x=>val E ((_hW z x.2).map λd=>(.dp,d))
def _hY:D->Option (List D)
 |.tup xs=>⇑xs|_=>none
def _hZ(c:Ex):Ev (List D):=λE=>bnd (c E) λE x=>val E ((_hY x.2).map (z6 0))
def itV(i:Nat):Ev (List D):=λE=>match E[i]? with
 |some ⇑(_,.lst ds)=>if D.pures ds=true then ⇑(.ok E ds)else none|_=>none
def _h0(x:Sd):Bool:=wQ x||(x.1 == .rt&&(match x.2 with
 |.lst ds=>D.pures ds
 |_=>false))
def D.at:List Nat->D->Option D
 |[],d=>⇑d
 |n::p,.tup ds=>match ds[n]? with
  |some d=>D.at p d|none=>none
 |n::p,.lst ds=>match ds[n]? with
  |some d=>D.at p d|none=>none
 |_::_,_=>none
def D.put(d':D):List Nat->D->D
 |[],_=>d'
 |n::p,.tup ds=>match ds[n]? with
  |some d=>.tup (ds.set n (D.put d' p d))|none=>.tup ds
 |n::p,.lst ds=>match ds[n]? with
  |some d=>.lst (ds.set n (D.put d' p d))|none=>.lst ds
 |_::_,d=>d
def _h1(c:Ex):Ex:=λE=>bnd (c E) λE x=>if _h0 x=true then ⇑(.ok E (.dp,x.2))else none
def xZ(kvs:List (D×D))(k:D):Option D:=(kvs.find? λp=>decide (p.1=k)).map (·.2)
end Q
namespace Q
open PySem PySem.Spec PyProof.Rows L2 L3
section
variable {X:Cx}{Z:Fx0}{K:Frag}{pn:List Nat}{q qa qb:Bool}{a b c:Ex}{u:Ts}{tg e ea eb:Expr}{st:Stmt}{σ:L2.St}{H:Hp}{L:Ls}{E:En}{pos p p2:Pos}{x:Str}
def _h2:QS X Z pn _hB st:=λa8 s σ H D I ai=>ex7 ai λE L r m w hc k=>by cases hc
def _h3(a):∀r,(zX a r).Perm (a::r)
 |[]=>List.Perm.refl _
 |b::r=>by
  unfold zX
  split
  ·exact((_h3 a r).cons b).trans (List.Perm.swap ..)
  ·simp_all
def _h4:∀r,(x5 r).Perm r
 |[]=>List.Perm.refl _|a::r=>(_h3 a _).trans ((_h4 r).cons a)
def leS(a b:Str):Prop:=Spec.ltCps b.cps.toList a.cps.toList=false
def leS_iff{a b}:leS a b↔a.cps.toList<=b.cps.toList:=by
 unfold leS;rw[ltCps_eq,decide_eq_false_iff_not,List.not_lt]
def _h5{a b c}(h:leS a b)(h':leS b c):leS a c:=leS_iff.mpr (List.le_trans (leS_iff.mp h) (leS_iff.mp h'))
def _h6{a b}(h:leS a b)(h':leS b a):a=b:=by
 have:=List.le_antisymm (leS_iff.mp h) (leS_iff.mp h');cases a
 simp_all
def _h7{a b}(h:¬leS a b):leS b a:=by
 rw[leS_iff]at h ⊢;exact List.le_of_lt (List.not_le.mp h)
def _h8:∀{a r},risingS a r=true->(a::r).Pairwise leS
 |a,[],_=>by simp
 |a,b::r,h=>by
  have h:(!_&&risingS b r)=true:=h;rw[Bool.and_eq_true,Bool.not_eq_true']at h;have ih:=_h8 h.2;refine List.pairwise_cons.mpr #[λc hc=>?_,ih];rcases aD hc with rfl|hc
  ·exact h.1
  ·exact _h5 h.1 ((List.pairwise_cons.mp ih).1 c hc)
def _h9{r}(h:sortedS r=true):r.Pairwise leS:=by
 cases r with|nil=>exact .nil|cons a r=>exact _h8 h
def _ia{a}:∀{r},r.Pairwise leS->(zX a r).Pairwise leS
 | [],_=>by simp[zX]
 | b::r,h=>by
  rw[List.pairwise_cons]at h;unfold zX
  by_cases hl:Spec.ltCps b.cps.toList a.cps.toList=true
  ·rw[Xb hl];refine List.pairwise_cons.mpr #[λc hc=>?_,_ia h.2];rcases aD ((_h3 a r).mem_iff.mp hc)with rfl|hc
   ·exact _h7 (by unfold leS;rw[hl];exact nofun)
   ·simp_all
  ·rw[Xj hl];have mz:leS a b:=Bool.eq_false_iff.mpr hl;refine List.pairwise_cons.mpr #[λc hc=>?_,List.pairwise_cons.mpr h];rcases aD hc with rfl|hc
   ·simp_all
   ·exact _h5 mz (h.1 c hc)
def _ib:∀{r},(x5 r).Pairwise leS
 |[]=>.nil|a::r=>_ia _ib
def _ic{r s}(p:s.Perm r)(h:sortedS s=true):s=x5 r:=
 List.Perm.eq_of_pairwise (λa b _ _ h1 h2=>_h6 h1 h2) (_h9 h) _ib (p.trans (_h4 r).symm)
def _id{ns}:∀{us},Vals (ns.map V.str) us->StrsAre us ns:=by
 induction ns with
 | nil=>intro us r;cases r;exact .nil
 | cons n ns ih=>
  intro us r;cases r with
  |cons r1 r2=>
   obtain⟨t,e⟩:=r1;subst e;exact .cons n t (ih r2)
def _ie{us ns}(h:StrsAre us ns):Vals (ns.map V.str) us:=by
 induction h with|nil=>exact .nil|cons y t _ ih=>exact .cons #[t,rfl] ih
def _if{us ns}(h:IntsAre us ns):Vals (ns.map V.int) us:=by
 induction h with|nil=>exact .nil|cons y t _ ih=>exact .cons #[t,rfl] ih
def _ig{g}:∀{ds bs xs as},JQ ds=⇑bs->RepA K H g ds xs as->xs=bs.map V.str/\∀z∈bs,z.length<=sizeLine
 | [],bs,xs,as,h,r=>by
  cases _aa h;unfold RepA at r
  simp_all
 | d::ds,bs,xs,as,h,r=>by
  cases d with
  | str b=>
   unfold JQ at h;cases hb:JQ ds with
   |none=>grind
   |some bp=>
    rw[hb]at h;cases _aa h;obtain⟨x,rr,c1,c2,rfl,rfl,h1,h2⟩:=r;unfold RepL at h1;obtain _:=_ig hb h2
    simp_all
  |_=>unfold JQ at h;cases h
def _ih{g}:∀{ds bs xs as},Qq ds=⇑bs->RepA K H g ds xs as->xs=bs.map V.int
 | [],bs,xs,as,h,r=>by
  cases _aa h;exact r.1
 | d::ds,bs,xs,as,h,r=>by
  cases d with
  | int b=>
   unfold Qq at h;cases hb:Qq ds with
   |none=>grind
   |some bp=>
    rw[hb]at h;cases _aa h;obtain⟨x,rr,c1,c2,rfl,rfl,h1,h2⟩:=r;rw[h1.1,_ih hb h2];rfl
  |_=>unfold Qq at h;cases h
def _ii{g}:∀{bs:List Str},(∀z∈bs,z.length<=sizeLine)->RepA K H g (bs.map D.str) (bs.map V.str) []
 |[],_=>#[rfl,rfl]
 |b::bs,h=>by
  exact#[_,_,[],[],rfl,rfl,ZK (h b X5),_ii λz hz=>h z (_ad _ hz)]
def _ij{g}:∀{bs:List Int},RepA K H g (bs.map D.int) (bs.map V.int) []
 |[]=>#[rfl,rfl]
 |b::bs=>by
  exact#[_,_,[],[],rfl,rfl,vw,_ij]
def tPo(Z:Fx0):Option Ex->TO
 |none=>qwx|some c=>wwn (tV Z true c)
def _ik:PO X none (tPo Z none):=_bT
def _il(h:QV X Z true c e):PO X ⇑e (tPo Z ⇑c):=_bU h
def _im{α co F}{r:Res α}{G}(m:Mt E σ L)(w:World Z.K H L)(h:bnd (Vk co E) F=⇑r)(xc:Xc Z σ H L r)
  (k:∀E1 l,F E1 l=⇑r->∀L1 H1,Mt E1 σ L1->World Z.K H1 L1->Step H L H1 L1->k9 H H1->G l H1):tPo Z co σ H G:=by
 cases co with
 | none=>exact k E none h L H m w Step.refl z8
 | some c=>
  have h:bnd (bnd (c E) λE x=>match x.2 with|.int i=>⇑_|_=>none) F=⇑r:=h;have h':bnd (c E) (λE x=>bnd (match x.2 with|.int i=>⇑(.ok E ⇑i)|_=>none) F)=⇑r:=by
   cases hc:c E with|none=>rw[hc]at h;exact h|some y=>rw[hc]at h;cases y<;>exact h
  show tV Z true c σ H λx H1=>∃i,x=.int i/\G ⇑i H1
  refine qY m w h' xc λE1 s h1 x L1 H1 e1 e2 m1 w1 ok fr sr st sm=>?_
  cases hs:s.2 with
  |int i=>
   rw[hs]at h1;exact#[i,qj ok (e2.trans hs),k E1 _ h1 L1 H1 m1 w1 st (sm rfl)]
  |_=>rw[hs]at h1;cases h1
def RepA.drop{K H g}:∀n {ds xs as},RepA K H g ds xs as->∃bs,RepA K H g (ds.drop n) (xs.drop n) bs/\∀b∈bs,b∈as
 |0,ds,xs,as,h=>#[as,h,λ_ h=>h]
 |n+1,[],xs,as,h=>by
  obtain⟨rfl,rfl⟩:=h;exact#[[],#[rfl,rfl],λ_ h=>h]
 |n+1,d::ds,xs,as,h=>by
  obtain⟨x,r,bs,cs,rfl,rfl,h1,h2⟩:=h;obtain⟨es,r2,hb⟩:=RepA.drop n h2;exact#[es,r2,λb h=>_ab _ (hb b h)]
def RepA.take{K H g}:∀n {ds xs as},RepA K H g ds xs as->∃bs,RepA K H g (ds.take n) (xs.take n) bs/\∀b∈bs,b∈as
 |0,ds,xs,as,h=>#[[],#[rfl,rfl],nofun]
 |n+1,[],xs,as,h=>by
  obtain⟨rfl,rfl⟩:=h;exact#[[],#[rfl,rfl],λ_ h=>h]
 |n+1,d::ds,xs,as,h=>by
  obtain⟨x,r,bs,cs,rfl,rfl,h1,h2⟩:=h;obtain⟨es,r2,hb⟩:=RepA.take n h2;exact#[bs++es,(#[x,r.take n,bs,es,rfl,rfl,h1,r2]),λb h=>(aA h).elim (λz=>_ac _ z) λz=>_ab _ (hb b z)]
def RepA.cut{K H g ds xs as}(h:RepA K H g ds xs as)(lo hi):∃bs,RepA K H g (KJ ds lo hi) (XQ xs lo hi) bs/\∀b∈bs,b∈as:=by
 unfold KJ XQ;rw[<-h.len];obtain⟨bs,r,hb⟩:=h.drop _;obtain⟨cs,r2,hc⟩:=r.take _;exact#[cs,r2,λb h=>hb b (hc b h)]
#where in
def _in{x:Sl}{s lo hi Q}(ok:x.ok K H)(hf:fSl (x.o,x.d) lo hi=⇑s)(k:∀z H',z.o=s.1->z.d=s.2->Out K H H' z x.frz->Q z.v H'):_dq K x.v lo hi H Q:=by
 unfold fSl at hf;cases hx:x.d with
 | lst ds=>
  rw[hx]at hf;dsimp only at hf
  split at hf
  ·rename_i hl;cases _aa hf;obtain⟨l,xs,bs,ev,q3,r3,h3⟩:=zW ok (.inl hx) (hx▸hl);have q3:LsR K H l xs:=by rcases q3 with⟨_,z⟩|⟨z,_⟩;exact z;rw[hx]at z;cases z
   obtain⟨cs,r4,h4⟩:=r3.cut lo hi;exact .inl #[l,xs,ev,JK q3,λp hp=>k _ _ rfl rfl (KQ hp r4 λb hb=>h3 b (h4 b hb))]
  ·cases hf
 | tup ds=>
  rw[hx]at hf;dsimp only at hf
  split at hf
  ·rename_i hl;cases _aa hf;obtain⟨l,xs,bs,ev,q3,r3,h3⟩:=zW ok (.inr hx) (hx▸hl.1);have q3:SqT K H l xs:=by rcases q3 with⟨z,_⟩|⟨_,z⟩;rw[hx]at z;cases z;exact z
   obtain⟨cs,r4,h4⟩:=r3.cut lo hi;refine .inr (.inl #[l,xs,ev,q3,?_,λp hp=>k _ _ rfl rfl (_eW hp r4 λb hb=>h3 b (h4 b hb))]);rw[<-r3.len];exact hl.2
  ·cases hf
 | str z=>
  rw[hx]at hf;dsimp only at hf
  split at hf
  ·rename_i hl;cases _aa hf;obtain⟨e,hz⟩:=zx ok hx;exact .inr (.inr #[z,e,hz,k _ H rfl rfl (_eM hl)])
  ·cases hf
 |_=>simp_all
def _io{lo hi elo ehi}(ha:QV X Z q a ea)(hl:PO X elo (tPo Z lo))(hh:PO X ehi (tPo Z hi))(hK:X.K=Z.K<|>Ŕ):QE X Z q (cSl a lo hi) (.Subscript ea (.Slice elo ehi none p2) pos):=
 kY (_bV (_dr Z.K hK) ha hl hh) fun σ H Q ai=>ex8 ai λE L r m w hc xc k=>by
  refine qY m w (hc) xc λE1 s h1 x L1 H1 e1 e2 m1 w1 ok fr sr st sm=>(_im m1 w1 h1 (xc.step st) λE2 l h2 L2 H2 m2 w2 bo dk=>(_im m2 w2 h2 (xc.step (st.trans bo)) λE3 u h3 L3 H3 m3 w3 dl pi=>?_))
  obtain⟨z,hz,rfl⟩:=x6 h3;have k1:=K3 ok fr bo dk;have k2:=K3 k1.1 k1.2 dl pi;refine _in k2.1 (by rw[e1,e2];exact hz) λy H' ho hd o=>?_
  obtain⟨w4,gz⟩:=Qx w3 ((st.trans bo).trans dl) o k2.2 (λb hb=>k2.1.some (Sl.frz_as hb)) (Vv sr λb hb=>Sl.frz_as hb);have lw:=λhq=>kZ (sm hq) (kZ dk pi)
  exact k _ _ rfl y L3 H' ho hd m3 w4 gz λhq=>#[kZ (lw hq) o.same,λb hb=>J8 (lw hq) (o.new b hb)]
def tAV(Z:Fx0)(cs:List Ex):TA:=fun σ H Q=>∃E L r,Mt E σ L/\World Z.K H L/\vX cs E=⇑r/\Xc Z σ H L r /\
 ∀E' ys,r=.ok E' ys->∀(xs:List Sl) L' H',xs.map Sl.sd=ys->Mt E' σ L'->World Z.K H' L'->(∀x∈xs,x.ok Z.K H')->Step H L H' L'->k9 H H'->Q (xs.map Sl.v) H'
def QAV(X:Cx)(Z:Fx0)(cs:List Ex)(es:List Expr):Prop:=PA X es (tAV Z cs)
def _ip:QAV X Z [] []:=_fV wY fun σ H Q ai=>ex8 ai λE L r m w hc xc k=>by
 cases _aa hc;exact k _ _ rfl [] L H rfl m w (nofun) Step.refl z8
def K0{cs es}(h:QV X Z true c e)(hs:QAV X Z cs es)(ba:Abs e es X<|>Ŕ):QAV X Z (c::cs) (e::es):=
 _fV (wj h hs ba) fun σ H Q ai=>ex8 ai λE L r m w hc xc k=>by
  refine qY m w (hc) xc λE1 s h1 x L1 H1 e1 e2 m1 w1 ok fr sr st sm=>?_
  rcases wv h1 with⟨E2,ys,h2,h3⟩|⟨E2,cc,h2,h3⟩
  ·cases _aa h3;refine#[E1,L1,_,m1,w1,h2,(λ_ _ z=>by cases z),λE' ys' z xs L2 H2 e3 m2 w2 gm bo dk=>?_];injection z with z1 z2;subst z1 z2;refine k _ _ rfl (x::xs) L2 H2 (by rw[List.map_cons,e3];simp[Sl.sd,e1,e2]) m2 w2 (λy hy=>?_) (st.trans bo) (kZ (sm rfl) dk);rcases aD hy with rfl|hy
   ·exact(K3 ok fr bo dk).1
   ·exact gm y hy
  ·exact#[E1,L1,_,m1,w1,h2,(xc.step st).map h3,λE' s' z=>by cases z]
#where in
def _iq{k n ps f cs es}(D:k7 X.prog X.w X.K X.mg X.base k x ps (spF Z.K Z.mg n f))(hr:Room k X.A)(g:xW X Z.EX)(ha:QAV X Z cs (e::es))(hn:cs.length=n<|>Ŕ)(hg:Gl X x<|>Ŕ)(fu:Abd x<|>ŕ)
  (he:Abs e es X<|>Ŕ) (bu:Abb pos es X<|>Ŕ):
  QE X Z true (KY f cs) (.Call (.Name x p) (e::es) [] pos):=kY (_d1 D hr g ha hg fu he bu) fun σ H Q ai=>ex8 ai λE L r m w hc xc kk=>by
 rcases wv hc with⟨E1,ys,h1,h2⟩|⟨E1,cc,h1,h2⟩
 rotate_left
 ·exact#[E,L,_,m,w,h1,xc.map h2,λE' s' z=>by cases z]
 refine#[E,L,_,m,w,h1,(λ_ _ z=>by cases z),λE' ys' z xs L1 H1 e1 m1 w1 ok1 st sm=>?_];injection z with z1 z2;subst z1 z2;rw [Xv];have ae:xs.length=n:=by rw[<-hn,<-_fW h1,<-e1,X4]
 cases hf:f _ with
 | none=>rw[hf]at h2;cases h2
 | some fr=>
  rw[hf]at h2;have ev:xs.map Sl.v=(xs.map Sl.let).map Sl.v:=by rw[Xi];rfl
  have wl:World Z.K H1 ((xs.map Sl.let).map some):=by
   refine#[λy hy=>?_,by rw[K4];exact Xp,λa ha=>by rw[K4]at ha;exact nomatch ha];obtain⟨y',hy',e⟩:=aE hy;cases e;obtain⟨t,ht,rfl⟩:=aE hy';exact JW (ok1 t ht)
  rw[ev];refine#[xs.map Sl.let,fr,rfl,by rw[X4];exact ae,wl,by rw[<-e1]at hf;rw[_gb];exact hf,λE' c ee C H' hm s'=>?_,λE' a ee y H' e2 e3 w' s'=>?_]
  ·subst ee;cases _aa h2;have ly:=λb ob hb=>s'.keep b ob hb λz=>by rw[K4]at z;exact nomatch z
   exact xc _ _ rfl C L1 H' hm m1 #[λy hy=>RepO.kp (w1.ok y hy) (Kp.of_same ly),w1.nd,w1.ds] (st.trans #[λb ob hb _=>ly b ob hb,λ_ h=>.inl h,λ_ h=>.inl h])
  ·subst ee;dsimp only at h2
   split at h2
   ·rename_i hp;cases _aa h2;have ly:=λb ob hb=>s'.keep b ob hb λz=>by rw[K4]at z;exact nomatch z
    have w2:World Z.K H' L1:=#[λy hy=>RepO.kp (w1.ok y hy) (Kp.of_same ly),w1.nd,w1.ds];obtain⟨z,rp⟩:=RepL.pu (g':=false) (RepO.wk (w'.ok y X5)) (e3▸hp);exact kk _ _ rfl #[.dp,y.d,y.v,[]] L1 H' rfl e3 m1 (w2.consPu rp rfl) (Jw (st.trans #[λb ob hb _=>ly b ob hb,λ_ h=>.inl h,λ_ h=>.inl h]) (nofun) rfl) λ_=>#[kZ sm ly,λ_ z=>(nomatch z)]
   ·cases h2
end
def _ir{prog w A E s t items x}{e:Value->Bool}{j}{Q}
  (ht:IsTup s.heap t items) (he:∀y∈items,SeqAt.EqAt A.in1 s y x (e y)) (hj) (h1:e items[j]=true) (h2:∀m (hm:m<items.size),m<j->e items[m]=false)
  (h:Q (.int j s.toks) {s with toks:=s.toks+1}):wpAny (model prog w) A (call (.builtin "tuple.index") [.ref t,x]) Q E s:=by
 refine Y3 PySem.F.slot_tuple_index ht.typeIs PySem.F.entry_tuple_index ?_ (PySem.F.args_tuple_index_2 _ _);show wpAny _ _ (Builtin.Tuple.tupleItemsOf _ >>= _) _ _ s;refine X0 (tupleItemsOf_ ht ?_);dsimp only;refine X0 (X6 (X0 (X6 ?_)));rw[Std.Legacy.Range.forIn_eq_forIn_range'];refine X0 (wpAny_forIn_list _ (λaa b s'=>b=_/\s'=s/\∃k,k<=j/\aa=List.range' k (items.size - k)) _ ?_ ?_ _ _ #[rfl,rfl,0,Y1 _,?_])
 ·rintro i aa b s' ⟨rfl,rfl,k,hk,hr⟩;obtain⟨n,hn⟩:∃n,items.size - k=n+1:=#[items.size - k - 1,⋯];rw[hn]at hr;injection hr with hi uc;subst hi;have hi:i<items.size:=⋯
  rw[show items[i]?=⇑items[i]from Z2 hi];refine X0 (he items[i] (Array.getElem_mem hi) _ _ _ _ ?_)
  by_cases n6:i=j
  ·subst n6;rw[h1];exact X0 (X0 (wpAny_mkInt (X6 (X6 (X6 #[_,rfl,h])))))
  ·rw[h2 i hi ⋯];refine X6 #[rfl,rfl,i+1,⋯,?_]
   grind
 ·rintro b s' ⟨rfl,rfl,k,hk,hr⟩
  grind
 ·simp
def _is{prog w A E s l items k t}{Q}
  (ht:IsTup s.heap l items) (h:Q .notImplemented s):wpAny (model prog w) A (call (.builtin "int.__rmul__") [.int k t,.ref l]) Q E s:=by
 refine Y3 PySem.F.slot_int_rmul (typeIs_int s k t) PySem.F.entry_int_rmul ?_ (PySem.F.args_int_rmul_2 _ _);obtain⟨o,e,c,n,hd⟩:=ht;show wpAny _ _ (asInt? _ >>= _) _ _ s;refine X0 (X0 (wpAny_load e ?_));rw[hd];exact X6 (X0 (Zl (X6 #[_,rfl,h])))
def mulT{prog w A E s l items k t}{Q}
  (ht:IsTup s.heap l items) (h1:-(2 ^ 63)<=k) (h2:k<2 ^ 63) (hz:items.size*k.toNat<=sizeLine)
  (uh:(items.isEmpty=true\/k=1)->Q (.ref l) s)
  (hsz:(List.foldl (λx1 x2=>x1++x2) (List.toArray []) (List.replicate k.toNat items)).size<=sizeLine)
  (eq:Q (.ref ↥s) {s with heap:=s.heap.push {cls:=.type "tuple",data:=.seq (List.foldl (λx1 x2=>x1++x2) (List.toArray []) (List.replicate k.toNat items))}})
  : wpAny (model prog w) A (call (.builtin "tuple.__mul__") [.ref l,.int k t]) Q E s:=by
 refine Y3 PySem.F.slot_tuple_mul ht.typeIs PySem.F.entry_tuple_mul ?_ (PySem.F.args_tuple_mul_2 _ _);show wpAny _ _ (if _=true then _ else _) _ _ s;rw[Xj ⋯];refine X0 (tupleItemsOf_ ht ?_)
 by_cases hs:(items.isEmpty||k==1)=true
 ·rw[Xb hs];refine X0 (X0 (wpAny_typeOf ht.typeIs (X6 (X0 (Zl (X6 #[_,rfl,uh ?_]))))))
  simpa using hs
 ·rw[Xj hs];have bh:items.isEmpty=false:=by
   grind
  have hm:((items.size:Int)*k)<=sizeLine\/k<=0:=by
   by_cases hk:k<=0
   ·exact .inr hk
   ·grind
  dsimp only
  by_cases hk:k<=0
  ·rw[Xb (by simp[hk])];have e:k.toNat=0:=⋯
   rw[e]at eq;exact X0 (Yc (X6 #[_,rfl,eq]) (Y1 _))
  ·rw[Xj (by simp[hk,bh])];have hm:=hm.resolve_right hk;have iu:(sizeLine:Int)=16777216:=⋯
   rw[Xj ⋯,Xj (by unfold Builtin.Tuple.tupleTooMany;lia)];exact X0 (Yc (X6 #[_,rfl,eq]) hsz)
section
variable {X:Cx}{Z:Fx0}{K:Frag}{pn:List Nat}{q qa qb:Bool}{a b c:Ex}{u:Ts}{tg e ea eb:Expr}{st:Stmt}{σ:L2.St}{H:Hp}{L:Ls}{E:En}{pos p p2:Pos}{x:Str}
def _it(K:Frag):R2:=λx y H Q=>∃l k xs,x=.ref l/\y=.int k/\SqT K H l xs/\-(2 ^ 63)<=k/\k<2 ^ 63/\xs.length*k.toNat<=sizeLine/\((xs=[]\/k=1)->Q (.ref l) H)/\∀p,H p=none->Q (.ref p) (upd H p (.tup (List.replicate k.toNat xs).flatten))
def op_repT:OpR X (binaryOp .Mult) (_it X.K):=by
 rintro a8 s σ H x y v u Q I rx ry ⟨l,k,xs,rfl,rfl,hq,h1,h2,hz,q1,q2⟩;cases rx;obtain⟨t,rfl⟩:=ry;obtain⟨ab,r,ht,hl⟩:=I.tuple hq;have ae:=r.length;have f0:List.foldl (λx1 x2=>x1++x2) (List.toArray []) (List.replicate k.toNat ab.toArray)=(List.replicate k.toNat ab).flatten.toArray:=by
  have:=_cl ab k.toNat [];exact this
 have hz2:(List.replicate k.toNat xs).flatten.length<=sizeLine:=by rw[_cr,Nat.mul_comm];exact hz
 refine wpAny_binaryOp_repeat_ref ⋯ ht.typeIs (λs'=>typeIs_int s' k t) rfl F.fills_int_mul F.slot_int_rmul (rfl) F.slot_int_index.lookup
  (_is ht #[rfl,ht.typeIs,mulT ht h1 h2 (by rw[X8,<-ae];exact hz) (λhs=>?_) ?_ ?_])
 ·refine#[.ref l,H,I,rfl,q1 ?_];rcases hs with hs|hs
  ·grind
  ·exact .inr hs
 ·rwa [f0,X8,<-(r.rep k.toNat).length]
 ·rw[f0];exact#[.ref _,_,I.laid (t':=s.toks) (o:=.tup _) (λb o e=>X3 _ e) (Xd _) #[hz2,_,r.rep k.toNat,IsTupD.new _ _],rfl,q2 _ (I.hok.fresh (Xd _))]
def _iu(K:Frag):R2:=λx y H Q=>_it K x y H Q\/_gf K x y H Q
def _iv(hK:X.K=K<|>Ŕ):OpR X (binaryOp .Mult) (_iu K):=by subst hK;exact op_repT.or _gg
#where in
def _iw:Ad2 K (_iu K) J3:=by
 intro H x y s Q ox oy hf k;cases hx:x.d with
 | tup ds=>
  cases hy:y.d with
  | int n=>
   unfold J3 at hf;rw [hx,hy]at hf;dsimp only at hf
   split at hf
   ·rename_i hc;cases _aa hf;obtain⟨l,xs,bs,e3,q3,r3,h3⟩:=zW ox (.inr hx) (hx▸hc.2.2.2);have q3:SqT K H l xs:=by rcases q3 with⟨z,_⟩|⟨_,z⟩;rw[hx]at z;cases z;exact z
    obtain⟨cs,r4,h4⟩:=r3.reps n.toNat;refine .inl #[l,n,xs,e3,qj oy hy,q3,hc.1,hc.2.1,by rw[<-r3.len];exact hc.2.2.1,λhs=>?_,λp hp=>?_]
    ·refine k #[.no,.tup _,.ref l,cs] H rfl rfl #[z8,(#[l,xs,rfl,q3,?_]),λb hb=>(nomatch hb),Xp,λb hb=>_ac _ (h3 b (h4 b hb))];have e:(List.replicate n.toNat xs).flatten=xs:=by
      rcases hs with hs|hs
      ·subst hs;simp
      ·subst hs;simp
     rw[e]at r4;exact r4
    ·exact k _ _ rfl rfl (_eW hp r4 λb hb=>_ac _ (h3 b (h4 b hb)))
   ·grind
  |_=>
   refine .inr (_gi H x y s Q ox oy ?_ k);rw[hx,hy]at hf;rw[hx];exact hf
 |_=>
  refine .inr (_gi H x y s Q ox oy ?_ k);unfold J3 at hf;rw[hx]at hf;rw[hx];exact hf
def _ix{h}:∀{ds us},CReps h ds us->us.map (dec h)=ds
 |[],_,r=>by rw[r];rfl
 |z::ds,_,r=>by
  obtain⟨u,rr,rfl,h1,h2⟩:=r;rw[List.map_cons,_gj h1,_ix h2]
def _iy(K:Frag)(C:Hp->List V->Prop):List V->Hp->VK->Prop:=λvs H Q=>∃v d ds as bs xs j,vs=[v]/\RepL K H true d v as/\C H xs/\RepA K H true ds xs bs/\d.flat 30=true/\D.flats 30 ds=true/\(ds.findIdx? λz=>peq z d)=⇑j/\Q (.int j) H
def _iz{o to t apos af}(hu:X.A.units+64<cLine)(ho:PE X o to)(ha:PA X [e] t)
  (df:attributeBase o "index" X.env (eval o X.env)=eval o X.env<|>Ŕ)
  (fw:autoParam (((backTo af (starEach [e] X.env)).all (λx=>!x.1)&&(backToKw af (keywordEach [] X.env)).all (λx=>x.1.isSome)
   && decide ([e].length+([]:List Keyword).length+(if([]:List Keyword).isEmpty then 0 else 1)<30))=true) Ŕ)
  (db:Abe apos af<|>Ŕ) (hs:Abs e [] X<|>Ŕ) (bm:Abb af [] X<|>Ŕ):
  PE X (.Call (.Attribute o "index" apos) [e] [] af) (fun σ H Q=>to σ H λx H1=>(∃p xs,x=.ref p/\LsR X.K H1 p xs/\t σ H1 λvs H2=>_iy X.K (λH xs=>LsR X.K H p xs) vs H2 Q)\/∃p xs,x=.ref p/\SqT X.K H1 p xs/\t σ H1 λvs H2=>_iy X.K (λH xs=>SqT X.K H p xs) vs H2 Q):=by
 intro a8 s σ H Q I h;refine wpAny_Call_method_late df fw db rfl (thn (ho a8 s σ H _ I h) λv s1 hz=>?_);obtain⟨x,H1,I1,r1,qq⟩:=hz;have eqs:∀{s2 H2 d v as w us ds},L2.Inv X a8 σ H2 s2->RepL X.K H2 true d v as->RelV v w->d.flat 30=true->D.flats 30 ds=true->CReps s2.heap ds us->∀y∈us.toArray,SeqAt.EqAt X.A.in1 s2 y w (peq (dec s2.heap y) d):=fun {s2 H2 d v as w us ds} I2 rd rw f1 f2 cr y hy=>by
  obtain⟨d',hd,c⟩:=_gl cr (~~~hy);rw[_gj c];exact Ww 30 (_gm f2 hd) c (QZ I2 rd f1 rw) ⋯
 have idx:∀{h ds us d j},CReps h ds us->(ds.findIdx? λz=>peq z d)=⇑j->∃hj,peq (dec h us.toArray[j]) d=true/\∀m hm,m<j->peq (dec h us.toArray[m]) d=false:=fun {h ds us d j} cr hf=>by
  have e:=_ix cr;subst e;rw[List.findIdx?_eq_some_iff_getElem]at hf;obtain⟨hj,h1,h2⟩:=hf;have hj':j<us.length:= ~~~hj
  refine#[~~~hj',~~~h1,λm hm hmj=>?_];have:=h2 m hmj
  simpa using this
 rcases qq with⟨pp,zs,rfl,ty,q1⟩|⟨pp,zs,rfl,ty,q1⟩
 ·cases r1;have hA:=ha af a8 s1 σ H1 _ I1 q1;rw[hs]at hA ⊢;obtain⟨z,ab,n,r,e0⟩:=ty.is I1;refine#["list","list.index",F.plainAttrs_list,F.slot_list_index,F.type_list_index,#[_,e0,rfl],λa e2=>?_,?_]
  ·cases e2;exact#[_,e0,rfl]
  refine Calls.callWith_builtin (by show(false||(backTo af _).any _)=false;rw[bm]<;>rfl) (Calls.evalArgs_plain (thn hA λus s2 #[vs,H2,I2,r2,d2]=>?_));obtain⟨v,d,ds,as,bs,xs,j,rfl,rd,hq,ra,f1,f2,hf,q2⟩:=d2;obtain⟨w,rfl,rw1⟩:=r2.one;obtain⟨z2,ic,n2,r3,e3⟩:=hq.is I2;have cr:=creps_of I2 ra f2 r3;obtain⟨hj,h1,h2⟩:=idx cr hf;have hsz:ic.toArray.size<=16777216:=by rw[X8,<-r3.length];exact z2
  exact call_meets F.slot_list_index #[_,e3,rfl] F.entry_list_index (F.args_list_index_2 _ _) (SeqAt.list_indexAt pp ic.toArray n2 none (List.toArray []) w (λy=>peq (dec s2.heap y) d) j hj ⋯ h1 h2) #[e3,eqs I2 rd rw1 f1 f2 cr,.int _,H2,I2.tok _,#[_,rfl],q2]
 ·cases r1;have hA:=ha af a8 s1 σ H1 _ I1 q1;rw[hs]at hA ⊢;obtain⟨ab,r,ht,hz⟩:=I1.tuple ty;refine#["tuple","tuple.index",F.plainAttrs_tuple,F.slot_tuple_index,F.type_tuple_index,ht.typeIs,λa e2=>?_,?_]
  ·cases e2;exact(I1.tupleD ty)
  refine Calls.callWith_builtin (by show(false||(backTo af (starEach [] X.env)).any (·.1))=false;rw[bm]<;>rfl) (Calls.evalArgs_plain (thn hA λus s2 #[vs,H2,I2,r2,d2]=>?_));obtain⟨v,d,ds,as,bs,xs,j,rfl,rd,hq,ra,f1,f2,hf,q2⟩:=d2;obtain⟨w,rfl,rw1⟩:=r2.one;obtain⟨ic,r3,ht2,hz2⟩:=I2.tuple hq;have cr:=creps_of I2 ra f2 r3;obtain⟨hj,h1,h2⟩:=idx cr hf;exact _ir (e:=λy=>peq (dec s2.heap y) d) ht2 (eqs I2 rd rw1 f1 f2 cr) hj h1 h2 #[.int _,H2,I2.tok _,#[_,rfl],q2]
#where in
def Zq{apos af}(hu:X.A.units+64<cLine)(ha:QV X Z q a ea)(hb:QV X Z true b eb)(hK:X.K=Z.K<|>Ŕ)
  (df:attributeBase ea "index" X.env (eval ea X.env)=eval ea X.env<|>Ŕ)
  (fw:autoParam (((backTo af (starEach [eb] X.env)).all (λx=>!x.1)&&(backToKw af (keywordEach [] X.env)).all (λx=>x.1.isSome)
   && decide ([eb].length+([]:List Keyword).length+(if([]:List Keyword).isEmpty then 0 else 1)<30))=true) Ŕ)
  (db:Abe apos af<|>Ŕ) (hs:Abs eb [] X<|>Ŕ) (bm:Abb af [] X<|>Ŕ):
  QE X Z q (K6 a b) (.Call (.Attribute ea "index" apos) [eb] [] af):=kY (_iz hu ha (wj hb wY hs) df fw db hs bm) fun σ H Q ai=>ex8 ai λE L r m w hc xc k=>by
 refine qY m w (hc) xc λE1 s h1 x L1 H1 e1 e2 m1 w1 ok fr sr st sm=>?_
 split at h1
 rotate_left
 ·grind
 rename_i hsq;rw [hK];have fin:∀{ds},(x.d=.lst ds\/x.d=.tup ds)->∀C,(∀H2,x.ok Z.K H2->∃xs bs,C H2 xs/\RepA Z.K H2 true ds xs bs)->tV Z true b σ H1 λv H2=>_iy Z.K C [v] H2 Q:=fun {ds} hx C hC=>by
  refine qY m1 w1 h1 (xc.step st) λE2 s2 h2 y L2 H2 e3 e4 m2 w2 gm ou pd bo dk=>?_
  obtain⟨z,hz,rfl⟩:=x6 h2;obtain⟨xs,bs,c1,c2⟩:=hC H2 (K3 ok fr bo (dk rfl)).1;have jc:∃j,y.d.flat 30=true/\D.flats 30 ds=true/\(ds.findIdx? λz=>peq z y.d)=⇑j/\z=(.dp,.int j):=by
   unfold pu2 _hD at hz;rw[<-e2,<-e4]at hz;have iz:(if y.d.flat 30&&D.flats 30 ds then(ds.findIdx? λz=>peq z y.d).map λ(j:Nat)=>D.int (j)else none).map (λd=>((Own.dp,d):Sd))=⇑z:=by
    rcases hx with hx|hx<;>(rw[hx]at hz;exact hz)
   split at iz
   ·rename_i hf;rw[Bool.and_eq_true]at hf;cases hj:ds.findIdx? λz=>peq z y.d with|none=>rw[hj]at iz;cases iz|some j=>rw[hj]at iz;exact#[j,hf.1,hf.2,rfl,(_aa iz).symm]
   ·cases iz
  obtain⟨j,f1,f2,f3,rfl⟩:=jc;exact#[y.v,y.d,ds,y.as,bs,xs,j,rfl,RepO.wk gm,c1,c2,f1,f2,f3,(k _ _ rfl _ L2 H2 rfl rfl m2 (w2.consPu (x:=#[.dp,.int j,.int j,[]]) (show RepL Z.K H2 false _ _ []from vw) rfl) (Jw (st.trans bo) (nofun) rfl) λhq=>#[(λhq=>kZ (sm hq) (dk rfl)) hq,λ_ z=>(nomatch z)])]
 have wkA:∀{ds xs bs H2},RepA Z.K H2 (x.o != .dp) ds xs bs->RepA Z.K H2 true ds xs bs:=fun {ds xs bs H2} r=>by
  cases ho:(x.o != .dp)with|true=>rw[ho]at r;exact r|false=>rw[ho]at r;exact r.wk
 cases hx:x.d with
 |lst ds=>
  obtain⟨l,xs,bs,ev,q3,r3,h3,_⟩:=items ok (.inl hx);have q3:LsR Z.K H1 l xs:=by rcases q3 with⟨_,z⟩|⟨z,_⟩;exact z;rw[hx]at z;cases z
  refine .inl #[l,xs,ev,q3,fin (.inl hx) _ λH2 gm=>?_];obtain⟨l2,ys,cs,ev2,q4,r4,_⟩:=items gm (.inl hx);have:l2=l:=by have:=ev2.symm.trans ev;exact V.ref.inj this
  subst this;rcases q4 with⟨_,z⟩|⟨z,_⟩
  ·exact#[ys,cs,z,wkA r4]
  ·grind
 |tup ds=>
  obtain⟨l,xs,bs,ev,q3,r3,h3,_⟩:=items ok (.inr hx);have q3:SqT Z.K H1 l xs:=by rcases q3 with⟨z,_⟩|⟨_,z⟩;rw[hx]at z;cases z;exact z
  refine .inr #[l,xs,ev,q3,fin (.inr hx) _ λH2 gm=>?_];obtain⟨l2,ys,cs,ev2,q4,r4,_⟩:=items gm (.inr hx);have:l2=l:=by have:=ev2.symm.trans ev;exact V.ref.inj this
  subst this;rcases q4 with⟨z,_⟩|⟨_,z⟩
  ·grind
  ·exact#[ys,cs,z,wkA r4]
 |_=>rw[<-e2,hx]at hsq;cases hsq
end
noncomputable def ItE(S:Hp->List V->Prop):It:=#[λi H=>∃xs x,S H xs/\xs[i]?=⇑x,
 λi H v H'=>∃T x,H T=none/\v=.ref T/\H'=upd H T (.tup [.int i,x])/\∀xs,S H xs->xs[i]?=⇑x,
 λi H=>∃xs,S H xs/\xs.length=i]
abbrev Ite(K:Frag)(l:Addr):It:=ItE (SqL K · l)
def _iA{P w K cw k1 pos}{e it l:Addr}{n:String}{S:Hp->List V->Prop}{IS:Heap->Array Value->Prop}(n1:e≠it)(n2:l≠e)
  (D:∀A:Around,A.handled=none->∀ab:Array Value,Draws P w A it [it,l] ab.size (λi v=>ab[i]?=⇑v) λi h=>(∃o,h.get? it=⇑o/\o.cls=.type n/\o.data=.fields %[.ref l,.int i 0|0])/\IS h ab)
  (G:∀(X:Cx) a8 (s:Shared) σ H,X.K=K->L2.Inv X a8 σ H s->∀xs,S H xs->(∃ab,Vals xs ab/\IS s.heap ab.toArray)/\∀zs,S H zs->zs=xs):
  Turn P w K (.Tuple cw k1 pos) (ItE S) [e,it] e (λi h=>(∃dw,IsEnum h e it i dw)/\∃o,h.get? it=⇑o/\o.cls=.type n/\o.data=.fields %[.ref l,.int i 0|0]) where
 mem:=by simp
 obj:=λi h st b hb=>by
  obtain⟨⟨dw,h1⟩,o4,e4,c4,d4⟩:=st;simp at hb;rcases hb with rfl|rfl
  ·exact#[_,h1,λv z=>by cases z]
  ·exact#[_,e4,λv z=>by rw[d4]at z;cases z]
 keep:=λi h h' st k=>by
  obtain⟨⟨dw,h1⟩,o4,e4,c4,d4⟩:=st;exact#[#[dw,k _ (by simp) _ h1],o4,k _ (by simp) _ e4,c4,d4]
 item:=by
  intro X hP hw hK hc i a8 s σ H E I hf st hg;subst hP hw;obtain⟨xs,x,q1,hx⟩:=hg;obtain⟨⟨iw,xr,p1⟩,inj⟩:=G X a8 s σ H hK I xs q1;obtain⟨u1,hu1,ru1⟩:=xr.get hx;obtain⟨⟨dw,t1⟩,t2⟩:=st;have hi:i<iw.toArray.size:=(aF hu1).1;refine wpAny_pyNext_enum_itemD (D X.A.in1 (by have:=I.ok.hd hc;simpa using this) iw.toArray) t1 #[t2,p1] hi n1 (by simp only[Yq,Y6,or_false,not_or];exact#[n1,n2.symm]) λu2 h1 tk hP2 g1 g2 gT gs gk=>?_
  have e2:u2=u1:=by
   have:iw[i]?=⇑u2:= ~~~hP2
   rw[hu1]at this;exact(_aa this).symm
  subst e2;refine#[_,rfl,wpAny_letOwnedTupleGo_enum (s:={s with heap:=h1,toks:=tk+1}) g1 λh2 f1 sb=>?_];have fT:=I.fpOk (Xd _) (I.hok.fresh (Xd _));have nT:∀b∈[e,it],b≠↥s:=λb hb ee=>by
   obtain⟨o,eo,_⟩:∃o,s.heap.get? b=⇑o/\True:=by
    simp at hb;obtain⟨o4,e4,_⟩:=t2;rcases hb with rfl|rfl
    ·exact#[_,t1,trivial]
    ·exact#[_,e4,trivial]
   exact absurd (Xf eo) (ee▸Ym _)
  have kk:∀b o,b∉[e,it]->s.heap.get? b=⇑o->h2.get? b=⇑o:=λb o hb ee=>by
   simp at hb;exact(sb.2 b hb.1).trans (gk b o hb.1 hb.2 ee)
  have I1:L2.Inv X a8 σ H {s with heap:=h2,toks:=tk+1}:=_dK [e,it] I kk hf;have I2:=_c5 (a:=↥s) (o:=.tup [.int i,x]) I1 fT.1 fT.2.1 fT.2.2.2.1 fT.2.2.2.2.1 fT.2.2.2.2.2
   (show ObjOk X.prog X.w _ h2 _ (.tup [.int i,x])from#[by show(2:Nat)<=sizeLine;decide,[.int i tk,u2],.cons #[_,rfl] (.cons ru1 .nil),#[_,(sb.2 _ λee=>nT e (by simp) ee.symm).trans gT,rfl,rfl,0,rfl]])
  obtain⟨o4,e4,c4,d4⟩:=g2.1;exact#[.ref ↥s,_,I2,rfl,#[_,x,fT.1,rfl,rfl,λzs hzs=>by rw[inj zs hzs];exact hx],#[#[u2,f1],o4,(sb.2 _ n1.symm).trans e4,c4,d4],λb hb=>by rw[qx (nT b hb)];exact(hf b hb).1]
 done:=by
  intro X hP hw hK hc i a8 s σ H E I hf st hg;subst hP hw;obtain⟨xs,q1,hx⟩:=hg;obtain⟨⟨iw,xr,p1⟩,_⟩:=G X a8 s σ H hK I xs q1;obtain⟨⟨dw,t1⟩,t2⟩:=st;have hsz:iw.toArray.size=i:=by rw[X8,<-xr.length];exact hx
  refine wpAny_pyNext_enum_endD (D X.A.in1 (by have:=I.ok.hd hc;simpa using this) iw.toArray) t1 (hsz▸#[t2,p1]) λh' kk=>#[rfl,_dK (t':=s.toks) [it] I (λb o hb ee=>kk b o (~~~hb) ee) λb hb=>hf b (by
   simp at hb ⊢;exact .inr hb)]
 self:=λ_ _ _ _ _ st h=>by obtain⟨⟨dw,h1⟩,_⟩:=st;exact wpAny_pyIter_enum h1 h
def _iB{P w K cw k1 pos e it l}(n1:e≠it)(n2:l≠e)(n3:l≠it):Turn P w K (.Tuple cw k1 pos) (Ite K l) [e,it] e (λi h=>(∃dw,IsEnum h e it i dw)/\h.IsListIter it l i):=
 _iA (K:=K) (IS:=λh ab=>h.IsList l ab) n1 n2 (λA hh ab=>Draws.list hh it l n3 ab) λX a8 s σ H hK I xs q=>by
  subst hK;obtain⟨ab,rv,p,_⟩:=I.list q;exact#[#[ab,rv,p.isList],λzs hz=>I.list_inj hz q]
abbrev xwn(K:Frag)(ta:TA):TI:=fun σ H R=>ta σ H λvs H1=>∃l,vs=[.ref l]/\(∃xs,SqL K H1 l xs/\(xs.length<=sizeLine->R (Ite K l) H1))
def _iC:bootBuiltins "enumerate"=⇑(.type "enumerate"):=boot_enumerate
section
variable {X:Cx}{Z:Fx0}{K:Frag}{pn:List Nat}{q qa qb:Bool}{a b c:Ex}{u:Ts}{tg e ea eb:Expr}{st:Stmt}{σ:L2.St}{H:Hp}{L:Ls}{E:En}{pos p p2 jf:Pos}{x:Str}{cw:List Expr}{k1:Nat}
def _iD K {ta:TA}(hg:Gl X "enumerate")(hm:X.mg "enumerate"=none)(ha:PA X [e] ta)(hK:X.K=K<|>Ŕ)
  (hs:starEach [e] X.env=[(false,eval e X.env)]<|>Ŕ):PI X (.Tuple cw k1 jf) (.Call (.Name "enumerate" p) [e] [] pos) (xwn K ta):=by
 subst hK;intro a8 s σ H R I h;refine Call_ (Jj I hg hm _iC (Y0 (thn (ha pos a8 s σ H _ I h) λus s1 hz=>?_) (by rw[hs];rfl) rfl));obtain⟨vs,H1,I1,r1,q1⟩:=hz;obtain⟨l,rfl,xs,q1,q⟩:=q1;obtain⟨u1,rfl,e1⟩:=xk r1;cases e1;obtain⟨iw,xr,p1,u3⟩:=I1.list q1;have lt:l<↥s1:=by obtain⟨_,ee,_⟩:=p1.isList;exact Xf ee
 refine call_enumerate_list p1.isList λh' g1 g2 gs gk=>?_
 refine wpAny_pyIter_enum g1 #[_,[_,↥s1],_,_,H1,rfl,I1.kept (t':=s1.toks) gk,
  _iB (Nat.succ_ne_self _) (Xk (Z6 lt)) (Xk lt),#[#[_,g1],g2],λb hb=>?_,q u3]
 have gl:↥s1<=b:=by
  simp at hb;rcases hb with rfl|rfl<;>lia
 exact I1.fpOk gl (I1.hok.fresh gl)
def _iE:∀(ds:List D) (k:Nat),(z6 k ds).length=ds.length
 |[],_=>rfl|d::ds,k=>by rw[z6,Xm,Xm,_iE ds]
def _iF:∀(ds:List D) (k i:Nat),(z6 k ds)[i]?=(ds[i]?).map λd=>.tup [.int ((k+i:Nat):Int),d]
 |[],_,_=>by simp[z6]|d::ds,k,0=>by simp[z6]
 |d::ds,k,i+1=>by
  rw[z6,List.getElem?_cons_succ,List.getElem?_cons_succ,_iF ds,show k+1+i=k+(i+1)from by lia]
def _iG{H2:Hp}{T:Addr}{d1 d2:D}{v1 v2:V}{b1 b2:List Addr}(hT:H2 T=none)(r1:RepL K H2 true d1 v1 b1)(r2:RepL K H2 true d2 v2 b2):RepL K (upd H2 T (.tup [v1,v2])) true (.tup [d1,d2]) (.ref T) (b1++b2):=by
 have sm:k9 H2 (upd H2 T (.tup [v1,v2])):=wx hT;refine#[T,[v1,v2],rfl,.inl (.inl vW),?_];refine#[v1,[v2],b1,b2,rfl,rfl,r1.kp (Kp.of_same sm),?_];refine#[v2,[],b2,[],rfl,by simp,r2.kp (Kp.of_same sm),?_];exact#[rfl,rfl]
def _iH{S:Hp->List V->Prop}{x:Sl}{es}(ag:∀H2,x.let.ok K H2->∃ys cs,S H2 ys/\RepA K H2 true es ys cs/\∀b∈cs,b∈x.as):Walks K (ItE S) [x.let] (z6 0 es):=by
 refine#[λt ht=>by rw[aC ht];rfl,λi H2 hok hi=>?_,λH2 hok=>?_,λi H2 v H3 d hok hy je=>?_]
 all_goals obtain⟨ys,cs,s1,s2,s3⟩:=ag H2 (hok _ (aB rfl))
 ·have hl:=s2.len;rw[_iE]at hi;exact#[ys,ys[i]'⋯,s1,X1 ⋯]
 ·exact#[ys,s1,by rw[_iE,s2.len]]
 ·obtain⟨T,x',hT,rfl,rfl,hy⟩:=hy;rw[_iF]at je;cases hes:es[i]? with
  |none=>rw[hes]at je;cases je
  |some d0=>
   rw[hes]at je;cases _aa je;obtain⟨v',bp,f1,f2,f3⟩:=s2.get hes;have:=hy ys s1;rw[f1]at this;cases _aa this;have rp:=_iG (v1:=.int ((0+i:Nat):Int)) hT vw f2;rw[show((0+i:Nat):Int)=i by lia]at rp ⊢;exact#[#[.no,_,.ref T,[]++bp],rfl,rfl,rfl,wx hT,rp,λb hb=>#[x.let,aB rfl,s3 b (f3 b (~~~hb))]]
def _iI(h:QE X Z q c e)(hg:Gl X "enumerate")(hm:X.mg "enumerate"=none)(hK:X.K=Z.K<|>Ŕ)(hs:starEach [e] X.env=[(false,eval e X.env)]<|>Ŕ):QI X Z q (.Tuple cw k1 jf) (_hC c) (.Call (.Name "enumerate" p) [e] [] pos):=λa8 s σ H R I ai=>ex8 ai λE L r m w hc xc k=>by
 refine(_iD Z.K hg hm (wj h wY hs) hK hs) a8 s σ H R I (W3 m w (show bnd (c E) _=⇑r from hc) xc λE1 s h1 x L1 H1 e1 e2 m1 w1 st sm=>?_);obtain⟨ds,hd,rfl⟩:=x6 h1;obtain⟨wT,sT⟩:=_gW w1 st;cases hx:x.d with
 |lst es=>
  rw[<-e2,hx]at hd;cases _aa hd;obtain⟨a,_,_,ev,_⟩:=items w1.head (.inl hx);have ag:=_gU (K:=Z.K) hx ev;obtain⟨xs,bs,q3,r3,_⟩:=ag H1 (JW w1.head);exact#[a,by rw[ev],xs,q3,λae=>k _ _ rfl (Ite Z.K a) [x.let] L1 H1 m1 wT sT (by rw[_iE,r3.len];exact ae) (λhq=>(sm hq).1) (_iH ag)]
 |_=>rw[<-e2,hx]at hd;cases hd
end
def RepA.erase{K H g}:∀{j ds xs as},RepA K H g ds xs as->∃bs,RepA K H g (ds.eraseIdx j) (xs.eraseIdx j) bs/\bs.Sublist as
 |j,[],xs,as,h=>by
  obtain⟨rfl,rfl⟩:=h;exact#[[],#[rfl,rfl],List.Sublist.refl _]
 |0,d::ds,xs,as,h=>by
  obtain⟨x,r,bs,cs,rfl,rfl,h1,h2⟩:=h;exact#[cs,h2,List.sublist_append_right _ _]
 |j+1,d::ds,xs,as,h=>by
  obtain⟨x,r,bs,cs,rfl,rfl,h1,h2⟩:=h;obtain⟨es,r2,hs⟩:=RepA.erase h2;refine#[bs++es,?_,List.Sublist.append (List.Sublist.refl _) hs];unfold RepA;exact#[x,r.eraseIdx j,bs,es,rfl,rfl,h1,r2]
def _iJ{n i j}(h:_root_.Q.ixN n i=⇑j):seqIndex? i n=⇑j/\j<n/\-n<=i/\i<n:=by
 have e:L2.ixN n i=⇑j:=by
  unfold _root_.Q.ixN at h;unfold L2.ixN
  by_cases h0:0<=i
  ·exact h
  ·rw[Xj h0]at h ⊢;exact h
 exact _b0 e
section
variable {X:Cx}{Z:Fx0}{K:Frag}{pn:List Nat}{q qa qb:Bool}{a b c:Ex}{u:Ts}{tg e ea eb:Expr}{st:Stmt}{σ:L2.St}{H:Hp}{L:Ls}{E:En}{pos p p2 jf:Pos}{x:Str}{cw:List Expr}{k1:Nat}
#where in
def _iK {i o apos af} (hb:PE X (.Call (.Attribute o "pop" apos) [e] [] af) (tBM Z.K "list" _cp (wV i) (qv6 (tV Z q c) xqh))):QE X Z false (_hE i c) (.Call (.Attribute o "pop" apos) [e] [] af):=kY hb fun σ H Q ai=>ex8 ai λE L r m w hc xc k=>by
 unfold _hE at hc;cases h0:E[i]? with
 | none=>rw [h0]at hc;cases hc
 | some s0 =>
  cases s0 with
  | none=>rw [h0]at hc;cases hc
  | some s0 =>
   obtain ⟨o0,d0⟩:=s0;cases d0 with
   | lst ds0 =>
    rw [h0,Xb (show Wv ⇑(⇑(o0,D.lst ds0))=true from rfl)]at hc;obtain ⟨x0,a1,a2,a3,a4⟩:=m.get h0;refine #[x0.v,a4,_gL (w.ok x0 (vz a1)) a3,(qY m w hc xc λE1 s h1 x L1 H1 e1 e2 m1 w1 nq fr sr st sm=>?_)];cases hE:E1[i]? with
    | none=>rw[hE]at h1;cases h1
    | some s1=>
     cases s1 with
     | none=>rw[hE]at h1;cases h1
     | some s1=>
      obtain ⟨oo,dd⟩:=s1;rw [hE]at h1;cases dd with
      | lst ds=>
       cases hs:s.2 with
       | int kk=>
        rw [hs]at h1;dsimp only at h1
        by_cases kf:oo=.no
        ·rw [Xb kf]at h1;cases h1
        ·rw [Xj kf]at h1;cases hj:_root_.Q.ixN ds.length kk with
         | none=>rw[hj]at h1;cases h1
         | some j=>
          rw [hj]at h1;dsimp only at h1;cases hd:ds[j]? with
          | none=>rw[hd]at h1;cases h1
          | some d=>
           rw[hd]at h1;dsimp only at h1
           split at h1
           rotate_left
           ·cases h1
           rename_i hp;rw[Bool.and_eq_true]at hp;obtain⟨hp,hsm⟩:=hp;obtain⟨ly,dk⟩:=_gZ hsm;cases _aa h1;obtain⟨y,b1,b2,b3,b4⟩:=m1.get hE;have hv:y.v=x0.v:=by rw[a4]at b4;exact(_aa (_aa b4)).symm
           obtain⟨l,xs,bs,c1,c2,c3,c4,c5⟩:=_gJ (w1.ok y (vz b1)) b3 (b2▸kf);have ex0:x0.v=.ref l:=hv▸c1;rw[ex0];obtain⟨vv,bp,f1,f2,f3⟩:=c5.get hd;obtain⟨g1,g2,g3,g4⟩:=_iJ hj;have qg:(2:Int) ^ 63=9223372036854775808:=⋯
           obtain⟨_,rp⟩:=RepL.pu (g':=false) f2 hp;obtain⟨cs,r6,eh⟩:=c5.erase (j:=j);refine#[l,xs,kk,j,vv,rfl,by rw[qj nq (e2.trans hs)],c2,?_,?_,by rw[<-c5.len];exact g1,f1,?_]
           ·have:(2:Int) ^ 62=4611686018427387904:=⋯
            omega
           ·have:(2:Int) ^ 62=4611686018427387904:=⋯
            omega
           have yn:y.own.Nodup:=by
            obtain⟨A,B,e,_⟩:=_gI b1;have:=w1.nd;rw[e,kj,k3,Xa]at this;exact(List.nodup_append.mp this.2.1).1
           have hoo:y.o=.rt\/y.o=.dp:=by
            rw[b2];cases oo with|no=>exact absurd rfl kf|rt=>exact .inl rfl|dp=>exact .inr rfl
           obtain⟨w3,s3⟩:=_gK (T:=[]) (o':=y.o) (ds':=ds.eraseIdx j) (xs':=xs.eraseIdx j) (~~~w1) b1 c2 c3 c4 c1 r6 (by
            rcases hoo with hoo|hoo
            ·exact .inl #[hoo,λa ha=>.inl (eh.subset ha)]
            ·refine .inr #[hoo,hoo,?_,λa ha=>.inl (eh.subset ha)];unfold Sl.own at yn;rw[hoo,c3]at yn;exact eh.nodup (List.nodup_cons.mp yn).2)
           have ke:∀a o,H1 a=⇑o->a≠l->upd H1 l (.lst (xs.eraseIdx j)) a=⇑o:=λa o e ne=>by rw[qx ne];exact e
           have rp2:RepL Z.K (upd H1 l (.lst (xs.eraseIdx j))) false d vv []:=by
            refine rp.kp #[λa zs e=>ke a _ e λz=>?_,λa o u e=>ke a _ e λz=>?_,nofun]
            ·subst z;rw[c2]at e;cases e
            ·subst z;rw[c2]at e;cases e
           have mm:=m1.set (x:=#[y.o,.lst (ds.eraseIdx j),y.v,l::cs]) i;rw[W4 b4]at mm;refine k _ _ rfl #[.dp,d,vv,[]] _ _ rfl rfl (b2▸mm) (w3.consPu rp2 rfl) (Jw (x:=#[.dp,d,vv,[]]) (st.trans (~~~s3)) (nofun) rfl) nofun
       |_=>rw[hs]at h1;cases h1
      |_=>cases h1
   |_=>rw[h0]at hc;cases hc
def _iL{y:Sl}{ds:List D}(ok:y.ok K H)(hd:y.d=.lst ds)(ho:y.o=.dp):∃l xs bs,y.v=.ref l/\H l=⇑(.lst xs)/\y.as=l::bs/\y.own=l::bs/\RepA K H false ds xs bs:=by
 obtain⟨l,xs,bs,c1,c2,c3,c4,c5⟩:=_gJ ok hd (by rw[ho];exact nofun);rw[ho]at c5;exact#[l,xs,bs,c1,c2,c3,by unfold Sl.own;rw[ho,c3],c5]
end
section
variable {X:Cx}{Z:Fx0}{q:Bool}{a b c:Ex}{ea eb ec:Expr}{σ:L2.St}{H:Hp}{pos:Pos}
def _iM{r r' f g}(ad:Ad2 Z.K r (pu2 f))(ad':Ad2 Z.K r' (pu2 g)){Q}(h:tQ Z q (Vj f g a b c) σ H Q):vz1 r r' (tV Z q a) (tV Z true b) (tV Z true c) σ H Q:=by
 obtain⟨E,L,R,m,w,hc,xc,k⟩:=h;refine qY m w hc xc λE1 s h1 x L1 H1 e1 e2 m1 w1 ok fr sr st sm=>(qY m1 w1 h1 (xc.step st) λE2 s2 h2 y L2 H2 e3 e4 m2 w2 gm ou pd bo dk=>?_)
 cases hf:f s.2 s2.2 with
 | none=>rw[hf]at h2;cases h2
 | some d=>
  rw [hf]at h2;cases d with
  | bl kb=>
   refine ad H2 x y _ _ (K3 ok fr bo (dk rfl)).1 gm (by show(f x.d y.d).map _=_;rw[e2,e4,hf];rfl) λz H' zo zd o=>(#[kb,Q0 o.ok zd,?_])
   have w3:World Z.K H' L2:=#[λt ht=>RepO.kp (w2.ok t ht) (Kp.of_same o.same),w2.nd,w2.ds];have dl:=(st.trans bo).trans #[λb ob h _=>o.same b ob h,λ_ h=>.inl h,λ_ h=>.inl h];have pi:=λhq=>kZ (sm hq) (kZ (dk rfl) o.same)
   cases kb with
   | false=>
    cases _aa h2;exact k _ _ rfl _ L2 H' rfl rfl m2 (w3.consPu (x:=#[.dp,.bl false,.bl false,[]]) (show RepL Z.K H' false _ _ []from _eK) rfl) (Jw dl (nofun) rfl) λhq=>#[pi hq,λ_ z=>(nomatch z)]
   | true=>
    rw[Xb rfl];refine qY m2 w3 h2 (xc.step dl) λE3 s3 h3 v L3 H3 e5 e6 m3 w4 ok3 ow sr3 gz rh=>?_
    obtain⟨zz,hz,rfl⟩:=x6 h3;have ky:=K3 (RepO.kp gm (Kp.of_same o.same)) ou gz (rh rfl);refine ad' H3 y v zz Q ky.1 ok3 (by show(g y.d v.d).map _=_;rw[e4,e6];exact hz) λt H5 to td ot=>?_
    obtain⟨w5,nz⟩:=Qx w4 (dl.trans gz) ot (λb hb=>(aA hb).elim (ky.2 b) (ow b)) (λb hb=>(aA hb).elim (λz=>ky.1.some (Sl.frz_as z)) λz=>ok3.some (Sl.frz_as z))
     (_eH (Vv (pd.back st) λb hb=>Sl.frz_as hb) (Vv (sr3.back dl) λb hb=>Sl.frz_as hb))
    exact k _ _ rfl t L3 H5 to td m3 w5 nz λhq=>#[kZ (pi hq) (kZ (rh rfl) ot.same),λb hb=>J8 (kZ (pi hq) (rh rfl)) (ot.new b hb)]
  |_=>cases h2
def _iN {op op' r r' f g} (ho:OpR X (compareOp op) r) (ad:Ad2 Z.K r (pu2 f)) (lh:OpR X (compareOp op') r') (ad':Ad2 Z.K r' (pu2 g)) (ha:QV X Z q a ea) (hb:QV X Z true b eb) (hc:QV X Z true c ec) (hg:∀x y s,pu2 g x y=⇑s->∃k,s.2=.bl k)
  (hm:lastMarks [op,op'] [eb,ec]=false:=by ac_rfl):QT X Z q (_root_.Q.tE (Vj f g a b c)) (.Compare ea [op,op'] [eb,ec] pos):=
 _ey (_bo ho lh ha hb hc hm) fun σ H Q ai=>ex8 ai λE L r m w ia xc k=>by
  refine _iM ad ad' ?_;rcases wv ia with⟨E1,s,h1,h2⟩|⟨E1,cx,h1,h2⟩
  ·refine#[E,L,_,m,w,h1,(λ_ _ z=>by cases z),λE' s' z x L' H' e1 e2 m' w' st sm=>?_];injection z with z1 z2;subst z1 z2;obtain⟨kk,hk⟩:∃k,s.2=.bl k:=by
    rcases wv h1 with⟨E2,s2,h3,h4⟩|⟨_,_,_,z⟩
    ·rcases wv h4 with⟨E3,s3,h5,h6⟩|⟨_,_,_,z⟩
     ·split at h6
      ·rcases wv h6 with⟨E4,s4,h7,h8⟩|⟨_,_,_,z⟩
       ·obtain⟨y,hy,z⟩:=x6 h8;cases z;exact hg s3 s4 _ hy
       ·cases z
      ·grind
      ·grind
     ·cases z
    ·cases z
   rw[hk]at h2;cases _aa h2;exact#[kk,Q0 w'.head (e2.trans hk),k _ _ rfl L' H' m' w'.tail (st.trans Step.drop) λhq=>(sm hq).1]
  ·exact#[E,L,_,m,w,h1,xc.map h2,λE' s' z=>by cases z]
end
section
variable {X:Cx}{a8:LA9}{σ:L2.St}{H:Hp}{s:Shared}{a b:Addr}{es:List Ent}{A:Around}{E:VP9}{k:Kd}
mutual
theorem XJ(I:Inv X a8 σ H s):∀{d v u},PuR X.K H d v->RelV v u->qJ s.heap d u
 |.non,_,_,h,r=>by rw[h]at r;exact r|.int _,_,_,h,r=>by rw[h]at r;exact r
 |.tup ds,_,_,h,r=>by
  obtain⟨a,xs,rfl,q,ra⟩:=h;cases r;obtain⟨ab,rv,p,_⟩:=I.tuple q;exact#[a,ab,rfl,p,_Pc I ra rv]
 |.bl _,_,_,h,_=>h.elim|.str _,_,_,h,r=>by unfold PuR at h;rw[h.1]at r;exact r|.lst _,_,_,h,_=>h.elim|.dct _,_,_,h,_=>by unfold PuR at h;exact h.elim|.obj _ _,_,_,h,_=>h.elim
theorem _Pc(I:Inv X a8 σ H s):∀{ds xs us},PuRs X.K H ds xs->Vals xs us->CReps s.heap ds us
 | [],_,_,h,r=>by unfold PuRs at h;rw[h]at r;cases r;rfl
 | d::ds,_,_,h,r=>by
  obtain⟨x,rr,rfl,h1,h2⟩:=h;cases r with
  |cons r1 r2=>
   exact#[_,_,rfl,XJ I h1 r1,_Pc I h2 r2]
end
mutual
theorem _iO{K g}:∀{n d v as},qK n d=true->RepL K H g d v as->PuR K H d v
 |_,.non,_,_,_,h=>h.1|_,.int _,_,_,_,h=>by unfold RepL at h;exact h.1|0,.tup _,_,_,hk,_=>by cases hk
 |n+1,.tup ds,_,_,hk,h=>by
  unfold RepL at h;obtain⟨a,xs,e,q,ra⟩:=h;exact#[a,xs,e,q,purs_of hk ra]
 |n,.bl _,_,_,hk,_=>by cases n<;>(unfold qK at hk;cases hk)|_,.str _,_,_,_,h=>by unfold RepL at h;exact#[h.1,h.2.2]|n,.lst _,_,_,hk,_=>by cases n<;>(unfold qK at hk;cases hk)|n,.dct _,_,_,hk,_=>by cases n<;>(unfold qK at hk;cases hk)|n,.obj _ _,_,_,hk,_=>by cases n<;>(unfold qK at hk;cases hk)
theorem purs_of{K g}:∀{n ds xs as},keyDs n ds=true->RepA K H g ds xs as->PuRs K H ds xs
 |_,[],_,_,_,h=>h.1
 |n,d::ds,_,_,hk,h=>by
  unfold keyDs at hk;rw[Bool.and_eq_true]at hk;obtain⟨x,r,bs,cs,rfl,rfl,h1,h2⟩:=h;exact#[x,r,rfl,_iO hk.1 h1,purs_of hk.2 h2]
end
def _iP{ep:Nat}(I:Inv X a8 σ H s)(h:H a=⇑(qV a es ep))(hn:(es.map (·.1)).Nodup)(hk:∀x∈es,PuR X.K H x.1.1 (.ref x.2.1)):s.heap.DictOfH (_fU X.prog X.w) a es:=by
 obtain⟨⟨o,ds,h1,h2,h3,h4⟩,_⟩:=(show ObjOk X.prog X.w H s.heap a (qV a es ep)from I.hok a _ h);exact#[o,ds,ep,h1,h2,h3,h4,λx hx=>XJ I (hk x hx) rfl,hn]
def _iQ:∀(es:List Ent) (k:Kd),(atKey es k).isSome=decide (k.1∈es.map (·.1.1))
 | [],k=>by simp[atKey]
 | x::es,k=>by
  have ih:=_iQ es k
  by_cases h:x.1=k
  ·have:k.1∈(x::es).map (·.1.1):=by rw[<-h];simp
   rw[Xg this];simp[atKey,List.find?_cons,h]
  ·have e1:atKey (x::es) k=atKey es k:=by simp[atKey,List.find?_cons,h]
   have e2:(k.1∈(x::es).map (·.1.1))↔k.1∈es.map (·.1.1):=by
    rw[List.map_cons,Yq];exact#[λz=>z.elim (λq=>absurd (Subtype.ext q.symm) h) id,.inr]
   rw[e1,ih];exact decide_eq_decide.mpr e2.symm
def _iR(hu:A.units+64<cLine):(_fU X.prog X.w).room A.in1:=by show A.units+1+40<cLine;lia
def _iS{ks:List D}{vs:List V}{Q:VP9}(hu:A.units+64<cLine)(I:Inv X a8 σ H s)(d:DcN X.K H a ks vs)(hk:PuR X.K H k.1 (.ref b))(h:∀s',Inv X a8 σ H s'->Q (.bool (decide (k.1∈ks))) s'):wpAny (model X.prog X.w) A (compareOp .In (.ref b) (.ref a)) Q E s:=by
 obtain⟨es,ep,e,h1,h2,h3,rfl,h5,h6⟩:=d;refine wpAny_in_heap (knd:=_fU X.prog X.w) (_iR hu) (XJ I hk rfl) h1 (_iP I e h3 h5) ?_;rw[_iQ];exact h _ (I.tok _)
def _iT{ks:List D}{vs:List V}{Q:VP9}(hu:A.units+64<cLine)(I:Inv X a8 σ H s)(d:DcN X.K H a ks vs)(hk:PuR X.K H k.1 (.ref b))(h:∀s',Inv X a8 σ H s'->Q (.bool (!decide (k.1∈ks))) s'):wpAny (model X.prog X.w) A (compareOp .NotIn (.ref b) (.ref a)) Q E s:=by
 obtain⟨es,ep,e,h1,h2,h3,rfl,h5,h6⟩:=d;refine wpAny_notIn_heap (knd:=_fU X.prog X.w) (_iR hu) (XJ I hk rfl) h1 (_iP I e h3 h5) ?_;rw[_iQ];exact h _ (I.tok _)
end
def _iU(K:Frag)(ll:Bool):R2:=λx y H Q=>∃(k:Kd) (b a:Addr) (ks:List D) (vs:List V),x=.ref b/\y=.ref a/\PuR K H k.1 (.ref b)/\DcN K H a ks vs/\Q (.bl (if ll then !decide (k.1∈ks)else decide (k.1∈ks))) H
def _iV{X:Cx}{K:Frag}(hu:X.A.units+64<cLine)(hK:X.K=K<|>Ŕ):OpR X (compareOp .In) (_iU K false):=by
 subst hK;intro a8 s σ H x y u v Q I rx ry ⟨k,b,a,ks,vs,e1,e2,hk,hd,q⟩;subst e1 e2;cases rx;cases ry;exact _iS hu I hd hk λs' I'=>#[.bl _,H,I',rfl,q]
def _iW{X:Cx}{K:Frag}(hu:X.A.units+64<cLine)(hK:X.K=K<|>Ŕ):OpR X (compareOp .NotIn) (_iU K true):=by
 subst hK;intro a8 s σ H x y u v Q I rx ry ⟨k,b,a,ks,vs,e1,e2,hk,hd,q⟩;subst e1 e2;cases rx;cases ry;exact _iT hu I hd hk λs' I'=>#[.bl _,H,I',rfl,q]
def _iX{K:Frag}{H:Hp}{y:Sl}{kvs:List (D×D)}(ok:y.ok K H)(hd:y.d=.dct kvs)(hu:unm kvs=true):∃a xs,y.v=.ref a/\DcN K H a (kvs.map (·.1)) xs:=by
 have h:=RepO.wk ok;rw[hd]at h;unfold RepL at h;obtain⟨a,xs,bs,e,_,q,_⟩:=h;exact#[a,xs,e,DcA.un q hu]
def _iY{K:Frag}{H:Hp}{x:Sl}(ok:x.ok K H)(hk:qZ x.d=true):∃b,x.v=.ref b/\PuR K H x.d (.ref b):=by
 unfold qZ at hk;rw[Bool.and_eq_true]at hk;have h:=_iO hk.1 (RepO.wk ok);cases hd:x.d with
 |tup ds=>
  rw[hd]at h;have h':=h;unfold PuR at h;obtain⟨a,xs,e,_⟩:=h;exact#[a,e,e▸h']
 |_=>rw[hd]at hk;cases hk.2
def _iZ{K:Frag}:Ad2 K (_iU K false) (pu2 V5):=by
 intro H x y s Q ox oy hf k;unfold pu2 V5 at hf;dsimp only at hf;cases hy:y.d with
 | dct kvs=>
  rw[hy]at hf;dsimp only at hf
  by_cases hk:qZ x.d=true/\unm kvs=true
  ·rw[Xb hk]at hf;cases _aa hf;obtain⟨a,xs,e,q⟩:=_iX oy hy hk.2;obtain⟨b,eb,pb⟩:=_iY ox hk.1;have ji:qK 6 x.d=true:=by have hk:=hk.1;unfold qZ at hk;rw[Bool.and_eq_true]at hk;exact hk.1
   exact#[#[x.d,ji],b,a,_,xs,eb,e,pb,q,k #[.dp,.bl _,.bl _,[]] H rfl rfl wJ]
  ·rw[Xj hk]at hf;cases hf
 |_=>rw[hy]at hf;cases hf
def _i0{K:Frag}:Ad2 K (_iU K true) (pu2 V0):=by
 intro H x y s Q ox oy hf k;unfold pu2 V0 at hf;dsimp only at hf;cases hy:y.d with
 | dct kvs=>
  rw[hy]at hf;dsimp only at hf
  by_cases hk:qZ x.d=true/\unm kvs=true
  ·rw[Xb hk]at hf;cases _aa hf;obtain⟨a,xs,e,q⟩:=_iX oy hy hk.2;obtain⟨b,eb,pb⟩:=_iY ox hk.1;have ji:qK 6 x.d=true:=by have hk:=hk.1;unfold qZ at hk;rw[Bool.and_eq_true]at hk;exact hk.1
   exact#[#[x.d,ji],b,a,_,xs,eb,e,pb,q,k #[.dp,.bl _,.bl _,[]] H rfl rfl wJ]
  ·rw[Xj hk]at hf;cases hf
 |_=>rw[hy]at hf;cases hf
def _i1(x y s:Sd)(h:pu2 V5 x y=⇑s):∃k,s.2=.bl k:=by
 unfold pu2 V5 at h;cases hy:y.2 with
 |dct kvs=>
  rw[hy]at h;dsimp only at h
  by_cases hk:qZ x.2=true/\unm kvs=true
  ·rw[Xb hk]at h;cases _aa h;exact#[_,rfl]
  ·rw[Xj hk]at h;cases h
 |_=>rw[hy]at h;cases h
def _i2(x y s:Sd)(h:pu2 V0 x y=⇑s):∃k,s.2=.bl k:=by
 unfold pu2 V0 at h;cases hy:y.2 with
 |dct kvs=>
  rw[hy]at h;dsimp only at h
  by_cases hk:qZ x.2=true/\unm kvs=true
  ·rw[Xb hk]at h;cases _aa h;exact#[_,rfl]
  ·rw[Xj hk]at h;cases h
 |_=>rw[hy]at h;cases h
def _i3{P:Program}{w:PySem.World}{H:Hp}(h:Heap):ObjOk P w H (h.push {cls:=.type "dict",data:=.dict (List.toArray [])}) h.objs.size (qV h.objs.size [] 0):=
 #[#[_,(List.toArray []),X9 _ rfl,#[rfl,rfl,rfl],rfl,rfl],#[_,X9 _ rfl],λh1 h2 hz k=>by obtain⟨o,ds,a1,a2⟩:=hz;exact#[o,ds,k o a1,a2]]
abbrev xv8:TE:=λ_ H Q=>∀p,H p=none->(p==sysModules)=false->Q (.ref p) (upd H p (qV p [] 0))
def _i4{X:Cx}{pos:Pos}:PE X (.Dict [] [] pos) xv8:=λa8 s σ H Q I h=>
 wpAny_Dict_empty #[.ref ↥s,_,I.laid (a:=↥s) (o:=qV ↥s [] 0) (t':=s.toks) (λ_ _ q=>X3 _ q) (Xd _) (_i3 s.heap),rfl,h _ (I.hok.fresh (Xd _)) (by
  have:=I.big;exact Y2 (Zk this))]
def _i5{K H p}(hs:(p==sysModules)=false){g}:RepL K (upd H p (qV p [] 0)) g (.dct []) (.ref p) [p]:=
 #[p,[],[],rfl,by unfold RepP;exact#[rfl,rfl],.inl #[[],0,vW,hs,Y1 _,Xp,rfl,λ_ z=>absurd z Y6,Paired.nil],rfl]
def _i6{X:Cx}{Z:Fx0}{pos:Pos}:QE X Z true _hG (.Dict [] [] pos):=_gO (C:=λp=>(p==sysModules)=false) _i4 ⋯ λ_ _ hs=>_i5 hs
section
variable {K:Frag}{H:Hp}{g:Bool}{k:Kd}{b:Addr}{d:D}{x:V}{r:Value}{cs:List Addr}
def _i7 (hx : RepL K H g d x cs) (hr : RelV x r): ∀{kvs xs bs} {es : List Ent},RepP K H g kvs xs bs -> kvs.map (·.1) = es.map (·.1.1) -> Vals xs (es.map (·.2.2)) ->
    ∃ xs' bp,RepP K H g (kvs.map λe=>if e.1 = k.1 then(k.1,d)else e) xs' bp /\ Vals xs' ((es.map (putAt k r)).map (·.2.2)) /\ ∀a ∈ bp,a ∈ bs \/ a ∈ cs
  | [],_,_,[],h,_,_=>#[[],[],#[rfl,rfl],Paired.nil,nofun]| [],_,_,_::_,_,h,_=>by simp at h| _ :: _,_,_,[],_,h,_=>by simp at h
  | (q,e)::kvs,_,_,n::es,h,hk,hv=>by
    obtain⟨y,rr,b1,b2,rfl,rfl,h1,h2⟩:= h;injection hk with k1 k2;cases hv with
    | cons v1 v2=>
      obtain⟨xs',bp,i1,i2,i3⟩:= _i7 hx hr h2 k2 v2
      by_cases hq : q = k.1
      · have hn : n.1 = k:= Subtype.ext (hq▸k1.symm)
        refine#[x::xs',cs ++ bp,?_,?_,λa ha=> ?_]
        · rw[List.map_cons,Xb hq]
          exact#[x,xs',cs,bp,rfl,rfl,hx,i1]
        · refine .cons ?_ i2
          unfold putAt
          rwa [Xb hn]
        · rcases aA ha with z|z
          · exact .inr z
          · exact(i3 a z).imp (_ab _) id
      · have hn : ¬n.1 = k:= λz=>hq (z▸k1)
        refine#[y::xs',b1 ++ bp,?_,?_,λa ha=> ?_]
        · rw[List.map_cons,Xj hq]
          exact#[y,xs',b1,bp,rfl,rfl,h1,i1]
        · refine .cons ?_ i2
          unfold putAt
          rwa [Xj hn]
        · rcases aA ha with z|z
          · exact .inl (_ac _ z)
          · exact(i3 a z).imp (_ab _) id
def _i8{q}(hx : RepL K H g d x cs): ∀{kvs xs bs},RepP K H g kvs xs bs -> RepP K H g (kvs ++ [(q,d)]) (xs ++ [x]) (bs ++ cs)
  | [],_,_,h=>by
    obtain⟨rfl,rfl⟩:= h;unfold RepP;exact#[x,[],cs,[],rfl,by simp,hx,by unfold RepP; exact#[rfl,rfl]]
  | (p,e)::kvs,_,_,h=>by
    obtain⟨y,rr,b1,b2,rfl,rfl,h1,h2⟩:= h;unfold RepP;exact#[y,rr ++ [x],b1,b2 ++ cs,rfl,by rw[Xs],h1,_i8 hx h2]
def _i9:∀{xs us},Vals xs us->RelV x r->Vals (xs++[x]) (us++[r])
 |_,_,.nil,h=>.cons h .nil|_,_,.cons a t,h=>.cons a (_i9 t h)
def _ja{kvs xs bs}{es:List Ent}(hx:RepL K H g d x cs)(hr:RelV x r)(h:RepP K H g kvs xs bs)(hk:kvs.map (·.1)=es.map (·.1.1))(hv:Vals xs (es.map (·.2.2)))(hn:(es.map (·.1)).Nodup)(hp:∀n∈es,PuR K H n.1.1 (.ref n.2.1))(hb:PuR K H k.1 (.ref b)):
  ∃ xs' bp,RepP K H g (Qz kvs k.1 d) xs' bp/\(Qz kvs k.1 d).map (·.1)=(storedH es k b r).map (·.1.1)/\Vals xs' ((storedH es k b r).map (·.2.2))/\((storedH es k b r).map (·.1)).Nodup/\(∀n∈storedH es k b r,PuR K H n.1.1 (.ref n.2.1))/\(storedH es k b r).length<=es.length+1/\∀a∈bp,a∈bs\/a∈cs:=by
 have hm:=_iQ es k;rw [<-hk]at hm;cases ha:atKey es k with
 | some p=>
  rw[ha]at hm;have ff:=Yo hm.symm;rw[storedH_old ha];unfold Qz;rw[Xb ff];obtain⟨xs',bp,i1,i2,i3⟩:=_i7 hx hr h hk hv;refine#[xs',bp,i1,?_,i2,by rw[keys_map_putAt];exact hn,λn xi=>?_,by rw[X4];omega,i3]
  ·have e1:(es.map (putAt k r)).map (·.1.1)=es.map (·.1.1):=by
    rw[Xi];refine Y5 λn _=>?_
    show(putAt k r n).1.1=n.1.1;unfold putAt
    by_cases z:n.1=k
    ·rw[Xb z]
    ·rw[Xj z]
   rw[e1,<-hk,Xi];refine Y5 λe _=>?_
   show(if e.1=k.1 then _ else e).1=e.1
   by_cases z:e.1=k.1
   ·rw[Xb z];exact z.symm
   ·rw[Xj z]
  ·obtain⟨m,t8,rfl⟩:=aE xi;have:=hp m t8;unfold putAt
   by_cases z:m.1=k
   ·rw[Xb z];exact this
   ·rw[Xj z];exact this
 | none=>
  rw[ha]at hm;have ff:=of_decide_eq_false hm.symm;rw[storedH_new ha];unfold Qz;rw[Xj ff];refine#[xs++[x],bs++cs,_i8 hx h,by rw[X7,X7,hk];rfl,by rw[X7];exact _i9 hv hr,?_,λn xi=>?_,by simp,λa z=>aA z]
  ·rw[X7,Xa];refine#[hn,by simp,λp lx q hq e=>?_]
   grind
  ·rcases aA xi with z|z
   ·exact hp n z
   ·rw[aC z];exact hb
end
section
variable {X:Cx}{a8:LA9}{σ:L2.St}{H:Hp}{s:Shared}{a b:Addr}{es:List Ent}{A:Around}{E:VP9}{k:Kd}{r:Value}
def _jb{ep Q}(hu:A.units+64<cLine)(I:Inv X a8 σ H s)(e:H a=⇑(qV a es ep))(h2:es.length<=sizeLine)(h3:(es.map (·.1)).Nodup)(h5:∀x∈es,PuR X.K H x.1.1 (.ref x.2.1))(hk:PuR X.K H k.1 (.ref b))
  (h:∀ep' s',Inv X a8 σ (upd H a (qV a (storedH es k b r) ep')) s'->Q () s'):wpAny (model X.prog X.w) A (setItem (.ref a) (.ref b) r) Q E s:=by
 refine wpAny_setItem_heap (hsz:=h2) (_iR hu) (XJ I hk rfl) (_iP I e h3 h5) λh' dd hs=>?_
 obtain⟨q,ds,ep',hq,g2,g3,g4,_,_⟩:=dd;exact h ep' _ (_cF I (e▸Zi) hs #[q,hq] #[#[q,ds,hq,g2,g3,g4],#[q,hq],λh1 h2 #[o,ds,a1,a2] k=>#[o,ds,k o a1,a2]])
end
def _jc{K H T L i y l es es' ep ep' xs' bs cs kvs'}(w:World K H (T++L))(hy:L[i]?=some ⇑y)(hH:H l=⇑(qV l es ep))(ho:y.o=.rt)(ha:y.as=l::bs)(hv:y.v=.ref l)
  (r:RepP K H true kvs' xs' cs) (hc:∀a∈cs,a∈bs\/a∈jv T\/a∈jZ T) (hs:(l==sysModules)=false) (h2:es'.length<=sizeLine) (h3:(es'.map (·.1)).Nodup) (h4:kvs'.map (·.1)=es'.map (·.1.1)) (h5:∀n∈es',PuR K H n.1.1 (.ref n.2.1)) (h6:Vals xs' (es'.map (·.2.2))):
  World K (upd H l (qV l es' ep')) (L.set i ⇑#[.rt,.dct kvs',y.v,l::cs])/\Step H (T++L) (upd H l (qV l es' ep')) (L.set i ⇑#[.rt,.dct kvs',y.v,l::cs]):=by
 have hl:l∈y.own:=by unfold Sl.own;rw[ho,ha];simp
 have oL:=mem_owned.mpr #[y,vz hy,hl];have oy:l∈jv (T++L):=by rw[kj];exact _ab _ oL
 have nd:=w.nd;rw[kj,Xa]at nd;have nb:l∉bs:=λz=>by
  have:l∈y.frz:=by unfold Sl.frz;rw[ho,ha];exact z
  exact w.ds l oy (by rw[v5];exact _ab _ (mem_frozen.mpr #[y,vz hy,this]))
 have nc:l∉cs:=λz=>by
  rcases hc l z with q|q|q
  ·exact nb q
  ·exact(λz=>nd.2.2 l z l oL rfl) q
  ·exact(λz=>w.ds l oy (by rw[v5];exact _ac _ z)) q
 have kp:Kp H (upd H l (qV l es' ep')) cs:=by
  have k2:∀a o,H a=⇑o->a≠l->upd H l (qV l es' ep') a=⇑o:=λa o e ne=>by rw[qx ne];exact e
  refine#[λa zs e=>k2 a _ e λz=>?_,λa o u e=>k2 a _ e λz=>?_,λa ha o e=>k2 a o e λz=>nc (z▸ha)]
  ·subst z;rw[hH]at e;cases e
  ·subst z;rw[hH]at e;cases e
 refine World.writeAt w hy hl (y':=_) #[l,xs',cs,hv,r.kp kp,.inl #[es',ep',vW,hs,h2,h3,h4,λn hn=>PuR.kp kp (h5 n hn),h6],rfl] (by simp[Sl.own]) (λa h=>?_) (λa h=>?_) (λa h z=>?_)
 ·have:a=l:=by simpa [Sl.own]using h
  grind
 ·rcases hc a (by simpa [Sl.frz]using h)with q|q
  ·exact .inl (ha▸_ad _ q)
  ·exact .inr q
 ·have:a=l:=by simpa [Sl.own]using h
  subst this;exact nc (by simpa [Sl.frz]using z)
abbrev xx9(K:Frag):V->V->V->Hp->(Hp->Prop)->Prop:=λx y v H C=>∃a b k es ep,x=.ref a/\y=.ref b/\H a=⇑(qV a es ep)/\es.length<=sizeLine/\(es.map (·.1)).Nodup/\(∀n∈es,PuR K H n.1.1 (.ref n.2.1))/\PuR K H k.1 (.ref b)/\∀r ep',RelV v r->C (upd H a (qV a (storedH es k b r) ep'))
abbrev wjz(K:Frag)(td ty tv:TE):TS:=λD σ H=>tv σ H λv H1=>td σ H1 λx H2=>ty σ H2 λy H3=>xx9 K x y v H3 λH4=>D.nx σ H4
def _jd{X o i bd td ty tv pos ay}(hu:X.A.units+64<cLine)(ho:PE X o td)(hi:PE X i ty)(hv:PE X bd tv)(hs:swapsWith bd ⇑(.Subscript o i ay) pos.line X.env=pure false):
  PS X (.Assign [.Subscript o i ay] bd pos) (wjz X.K td ty tv):=by
 intro a8 s σ H D I h;refine wpAny_Assign_Subscript (thn (hv a8 s σ H _ I h) λr s1 ni=>?_) hs;obtain⟨v,H1,I1,rv,q1⟩:=ni;refine thn (ho a8 s1 σ H1 _ I1 q1) λu s2 oz=>?_
 obtain⟨x,H2,I2,rx,q2⟩:=oz;refine thn (hi a8 s2 σ H2 _ I2 q2) λiv s3 hq3=>?_
 obtain⟨y,H3,I3,ry,a,b,k,es,ep,ex,ey,e,h2,h3,h5,hk,q3⟩:=hq3;subst ex ey;obtain rfl:u=Value.ref a:=rx;obtain rfl:iv=Value.ref b:=ry;exact _jb hu I3 e h2 h3 h5 hk λep' s4 I4=>#[σ,_,I4,q3 r ep' rv]
section
variable {X:Cx}{Z:Fx0}{pn:List Nat}{q:Bool}{kc vc:Ex}{o ke ve:Expr}{pos ay:Pos}
#where in
def _je{i}(hu:X.A.units+64<cLine)(hK:X.K=Z.K)(ho:PE X o (wV i))(hk:QV X Z true kc ke)(hv:QE X Z q vc ve)(hs:swapsWith ve ⇑(.Subscript o ke ay) pos.line X.env=pure false<|>Ŕ):
  QS X Z pn (_hJ i kc vc) (.Assign [.Subscript o ke ay] ve pos):=_gP (W:=xx9 X.K) (_jd hu ho hk hv hs) #[rfl,rfl] fun {H L y x z d} {C} hy w m8 dm k=>by
 obtain⟨yo,yd,yv,yas⟩:=y;unfold _hI at dm
 split at dm
 ·rename_i kvs oq;injection oq with h1 h2;subst h1 h2
  split at dm
  ·rename_i hc;cases _aa dm;obtain⟨a,xs,bs,e4,rp,q4,e5⟩:=w.tail.ok _ (vz hy);obtain⟨es,ep,g1,g2,g3,g4,g5,g6,g7⟩:=DcA.un q4 hc.2.2;obtain⟨b,eb,pb⟩:=_iY m8 hc.1;have ji:qK 6 z.d=true:=by have:=hc.1;unfold qZ at this;rw[Bool.and_eq_true]at this;exact this.1
   have ae:es.length<sizeLine:=by
    have:=congrArg List.length g5;rw[X4,X4]at this;rw[<-this];exact hc.2.1
   refine#[a,b,#[z.d,ji],es,ep,e4,eb,g1,g3,g4,by rw[hK];exact g6,by rw[hK];exact pb,λrr ep' hrr=>?_];obtain⟨xs',bp,p1,p2,p3,p4,p5,p6,p7⟩:=_ja (k:=#[z.d,ji]) (RepO.wk (w.ok x X5)) hrr rp g5 g7 g4 g6 pb;obtain⟨w4,gz⟩:=_jc (T:=[⇑x]) (ep':=ep') w hy g1 rfl e5 e4 p1 (λc jl=>(p7 c jl).imp id λz=>by
    rcases Sl.as_of z with z|z
    ·exact .inl (~~~z)
    ·exact .inr (~~~z)) g2 (by omega) p4 p2 p5 p3
   exact k _ _ w4 gz
  ·cases dm
 ·cases dm
end
def _jf(K:Frag)(p:Addr)(Q:VK)(ps:List (V×V))(H2:Hp):Prop:=∃x y,ps=[(x,y)]/\H2 p=⇑(qV p [] 0)/\∃(b:Addr) (kd:Kd),x=.ref b/\PuR K H2 kd.1 (.ref b)/\∀r ep',RelV y r->Q (.ref p) (upd H2 p (qV p [(kd,b,r)] ep'))
abbrev xv7(K:Frag)(tk tv:TE):TE:=fun σ H Q=>∀p,H p=none->(p==sysModules)=false->tk σ (upd H p (qV p [] 0)) λx H1=>tv σ H1 λy H2=>_jf K p Q [(x,y)] H2
def _jg{X:Cx}{K:Frag}{pos:Pos}{k v:Expr}{tk tv:TE}(hu:X.A.units+64<cLine)(hk:PE X k tk)(hv:PE X v tv)(hK:X.K=K<|>Ŕ):PE X (.Dict [⇑k] [v] pos) (xv7 K tk tv):=by
 subst hK;intro a8 s σ H Q I h;have hn:=I.hok.fresh (Xd ↥s);have I1:=I.laid (a:=↥s) (o:=qV ↥s [] 0) (h':=s.heap.push {cls:=.type "dict",data:=.dict (List.toArray [])}) (t':=s.toks) (λ_ _ q=>X3 _ q) (Xd _) (_i3 s.heap);refine wpAny_Dict_any rfl rfl (by simp) (by simp) (thn (_cS hk hv _cR a8 _ σ _ (_jf X.K ↥s Q) I1 (h _ hn (Y2 (Zk I.big)))) λvs s2 hz=>?_);obtain⟨ps,H2,I2,dj,x,y,ep,e,b,kd,ex,pk,q⟩:=hz;subst ep ex;cases dj with
 |@cons p1 p2 t1 t2 h1 h2=>
  cases h2;obtain⟨u,r⟩:=p2;obtain rfl:u=Value.ref b:=h1.1;have h1:RelV y r:=h1.2;unfold storeAll;rw[List.forIn_cons];refine X0 (X0 (wpAny_dictSet_heap (knd:=_fU X.prog X.w) (xs:=[]) (k:=kd) (by show X.A.units+40<cLine;lia) (XJ I2 pk rfl) (_iP I2 e Xp (λ_ z=>absurd z Y6)) (λh' dd hs=>X6 ?_) (Y1 _)));show ∅ (forIn [] PUnit.unit _) _ _ _;rw[List.forIn_nil];refine X6 ?_;obtain⟨o,ds,ep',hq,g2,g3,g4,_,_⟩:=dd;exact#[.ref ↥s,_,_cF (ob:=qV ↥s [(kd,b,r)] ep') I2 (by rw[e];exact Zi) hs #[o,hq] #[#[o,ds,hq,g2,g3,g4],#[o,hq],λh1 h2 hz k=>by obtain⟨o,ds,a1,a2⟩:=hz;exact#[o,ds,k o a1,a2]],rfl,q r ep' h1]
section
variable {X:Cx}{Z:Fx0}{q:Bool}{kc vc:Ex}{ke ve:Expr}{pos:Pos}
def _jh(hu:X.A.units+64<cLine)(hk:QE X Z q kc ke)(hv:QE X Z q vc ve)(hK:X.K=Z.K<|>Ŕ):QE X Z q (_hK kc vc) (.Dict [⇑ke] [ve] pos):=kY (_jg hu hk hv hK) fun σ H Q ai=>ex8 ai λE L r m w hc xc k=>by
 intro p hp hs;have t5:k9 H (upd H p (qV p [] 0)):=wx hp;have nr:Step H L (upd H p (qV p [] 0)) L:=#[λb ob h _=>t5 b ob h,λ_ h=>.inl h,λ_ h=>.inl h];have nL:p∉jv L:=λz=>w.own_some z hp
 have nF:p∉jZ L:=λz=>w.frz_some z hp
 have w0:World Z.K (upd H p (qV p [] 0)) L:=#[λt ht=>RepO.kp (w.ok t ht) (Kp.of_same t5),w.nd,w.ds];have wd:World Z.K (upd H p (qV p [] 0)) ([⇑#[.rt,.dct [],.ref p,[p]]]++L):=by
  refine World.cons w0 #[p,[],[],rfl,by unfold RepP;exact#[rfl,rfl],.inl #[[],0,vW,hs,Y1 _,Xp,rfl,λ_ z=>absurd z Y6,Paired.nil],rfl] (by simp[Sl.own]) (λb hb ho=>?_) (λb hb ho=>?_) (λb hb=>by simp[Sl.frz]at hb) (λb _ hb=>by simp[Sl.frz]at hb)
  ·have:b=p:=by simpa [Sl.own]using hb
   exact nL (this▸ho)
  ·have:b=p:=by simpa [Sl.own]using hb
   exact nF (this▸ho)
 refine W3 m w0 (show bnd (kc E) _=⇑r from hc) (xc.step nr) λE1 s1 h1 x L1 H1 e1 e2 m1 w1 i8 ly=>?_
 obtain⟨wd1,sd1⟩:=_ex wd i8 w1;have s1':Step H L H1 L1:=(nr.trans i8).trans Step.drop;refine W3 m1 w1.tail (show bnd (vc E1) _=⇑r from h1) (xc.step s1') λE2 s2 h2 y L2 H2 e3 e4 m2 w2 bo dk=>?_
 have pm:(([⇑#[.rt,.dct [],.ref p,[p]]]:Ls)++(⇑x::L1)).Perm (([⇑x,⇑#[.rt,.dct [],.ref p,[p]]]:Ls)++L1):=List.Perm.swap _ _ _;obtain⟨wd2,sd2⟩:=_ex (wd1.perm pm) bo w2;have wo:(([⇑x,⇑#[.rt,.dct [],.ref p,[p]]]:Ls)++(⇑y::L2)).Perm (([⇑x,⇑y]:Ls)++(⇑#[.rt,.dct [],.ref p,[p]]::L2)):=List.Perm.cons _ (List.Perm.swap _ _ _);have w3:=wd2.perm wo;have dl:Step (upd H p (qV p [] 0)) ([⇑#[.rt,.dct [],.ref p,[p]]]++L) H2 ([⇑x,⇑y]++(⇑#[.rt,.dct [],.ref p,[p]]::L2)):=(sd1.perm (List.Perm.refl _) pm).trans (sd2.perm (List.Perm.refl _) wo)
 by_cases hkt:qZ s1.2=true
 ·rw [Xb hkt]at h2;cases _aa h2;have nq:x.ok Z.K H2:=w3.ok x (by simp);have hkz:qZ x.d=true:=by rw[e2];exact hkt
  obtain⟨b,eb,pb⟩:=_iY nq hkz;have ji:qK 6 x.d=true:=by unfold qZ at hkz;rw[Bool.and_eq_true]at hkz;exact hkz.1
  obtain⟨a,xs0,bs0,ea,_,q4,_⟩:=(show RepR Z.K H2 (.dct []) (.ref p) [p]from w3.ok #[.rt,.dct [],.ref p,[p]] (by simp));obtain⟨es,ep,g1,_⟩:=DcA.un (kvs:=[]) q4 rfl;have hH2:H2 p=⇑(qV p [] 0):=by
   have n1:p∉jv (⇑x::L1):=λz=>by
    rcases i8.own p z with z|z
    ·exact nL z
    ·rw[vW]at z;cases z
   have hH1:H1 p=⇑(qV p [] 0):=i8.keep p _ vW nL;exact bo.keep p _ hH1 λz=>n1 (by rw[k3];exact _ab _ z)
  have rv:RepL Z.K H2 true s2.2 y.v y.as:=by rw[<-e4];exact RepO.wk (w3.ok y (by simp))
  refine#[x.v,y.v,rfl,hH2,b,#[x.d,ji],eb,pb,λrr ep' hrr=>?_];obtain⟨w4,gz⟩:=_jc (ep':=ep') (es':=[(#[x.d,ji],b,rr)]) (xs':=[y.v]) (cs:=y.as) (kvs':=[(x.d,s2.2)]) (bs:=[]) (i:=0) (y:=#[.rt,.dct [],.ref p,[p]]) w3 rfl hH2 rfl rfl rfl
   (by unfold RepP;exact#[y.v,[],y.as,[],rfl,by simp,rv,by unfold RepP;exact#[rfl,rfl]])
   (λc jl=>.inr (by
    rcases Sl.as_of jl with z|z
    ·exact .inl (~~~(.inr z))
    ·exact .inr (~~~(.inr z)))) hs (by show(1:Nat)<=sizeLine;decide) (List.nodup_cons.mpr #[Y6,Xp]) rfl (λn hn=>by rw[aC hn];exact pb) (.cons hrr .nil)
  have stA:Step (upd H p (qV p [] 0)) ([⇑#[.rt,.dct [],.ref p,[p]]]++L) _ _:=dl.trans gz;refine k _ _ rfl #[.rt,.dct [(x.d,s2.2)],.ref p,p::y.as] L2 _ rfl (congrArg (λd=>D.dct [(d,s2.2)]) e2) m2 w4 ?_ λhq=>?_
  ·refine#[λc ob h hn=>stA.keep c ob (t5 c ob h) λz=>?_,λc jl=>?_,λc jl=>?_]
   ·rw[List.singleton_append,k3]at z;rcases aA z with z|z
    ·have:c=p:=by simpa [Sl.own]using z
     rw[this,hp]at h;cases h
    ·exact hn z
   ·rcases stA.own c jl with z|z
    ·rw[List.singleton_append,k3]at z;rcases aA z with z|z
     ·have:c=p:=by simpa [Sl.own]using z
      exact .inr (this▸hp)
     ·exact .inl z
    ·exact .inr (by
      cases hc0:H c with
      |none=>rfl
      |some ob=>rw[t5 c ob hc0]at z;cases z)
   ·have hcp:c=p->H c=none:=λz=>z▸hp
    rcases stA.frz c jl with z|z|z
    ·rw[List.singleton_append,vY]at z;rcases aA z with z|z
     ·simp[Sl.frz]at z
     ·exact .inl z
    ·rw[List.singleton_append,k3]at z;rcases aA z with z|z
     ·have:c=p:=by simpa [Sl.own]using z
      exact .inr (.inr (this▸hp))
     ·exact .inr (.inl z)
    ·exact .inr (.inr (by
      cases hc0:H c with
      |none=>rfl
      |some ob=>rw[t5 c ob hc0]at z;cases z))
  ·refine#[λc ob h=>?_,λc jl=>?_]
   ·have bh:c≠p:=λz=>by rw[z,hp]at h;cases h
    rw[qx bh];exact(dk hq).1 c ob ((ly hq).1 c ob (t5 c ob h))
   ·have:c=p:=by simpa [Sl.own]using jl
    exact this▸hp
 ·rw[Xj hkt]at h2;cases h2
end
def RepA.put{K H g d x cs}(hx:RepL K H g d x cs):∀{ds xs bs} (n),RepA K H g ds xs bs->∃es,RepA K H g (ds.set n d) (xs.set n x) es/\∀a∈es,a∈bs\/a∈cs
 | [],_,bs,n,h=>by
  have h0:=h;obtain⟨rfl,rfl⟩:=h0;exact#[[],~~~h,nofun]
 | e::ds,_,_,n,h=>by
  obtain⟨y,r,b1,b2,rfl,rfl,h1,h2⟩:=h;cases n with
  | zero=>
   refine#[cs++b2,?_,λa ha=>?_]
   ·unfold RepA;exact#[x,r,cs,b2,rfl,rfl,hx,h2]
   ·rcases aA ha with z|z
    ·exact .inr z
    ·exact .inl (_ab _ z)
  | succ n=>
   obtain⟨es,i1,i2⟩:=RepA.put hx n h2;refine#[b1++es,?_,λa ha=>?_]
   ·unfold RepA;exact#[y,r.set n x,b1,es,rfl,rfl,h1,i1]
   ·rcases aA ha with z|z
    ·exact .inl (_ac _ z)
    ·exact(i2 a z).imp (_ab _) id
section
variable {X:Cx}{Z:Fx0}{pn:List Nat}{q:Bool}{kc vc:Ex}{o ke ve:Expr}{pos ay:Pos}
#where in
def _ji{i}(ho:PE X o (wV i))(hk:QV X Z true kc ke)(hv:QE X Z q vc ve)(hs:swapsWithSole [.Subscript o ke ay] ve pos.line X.env=pure false<|>Ŕ)(hw:swappedStores [.Subscript o ke ay] ve X.env=pure none<|>Ŕ)
  (h1:(assignEach [.Subscript o ke ay] X.env).map (·.2)=[assign (.Subscript o ke ay) X.env]<|>Ŕ)
  (ha:autoParam (∀v,assign (.Subscript o ke ay) X.env v=(do
   let ov <-holding [v] (eval o X.env)
   let iv <-holding [v,ov] (eval ke X.env)
   standAt ay
   holding [v,ov,iv] (setItem ov iv v)
   release [v,ov,iv] [])) Ŗ):
  QS X Z pn (Zx i kc vc) (.Assign [.Subscript o ke ay] ve pos):=_gP (W:=_ca) (_aU hv (_aT ho hk _cb ha) hs hw h1) #[rfl,rfl] fun {H L y x z d} {C} hy w m8 dm k=>by
 unfold _hL at dm
 split at dm
 ·rename_i o xs j oq hz;injection oq with h2 h3
  split at dm
  ·cases dm
  ·rename_i kf;obtain⟨n,hj,rfl⟩:=Option.map_eq_some_iff.mp dm;obtain⟨l,vs,bs,c1,c2,c3,c4,c5⟩:=_gJ (w.tail.ok y (vz hy)) h3 (h2▸kf);have c6:RepA Z.K H true xs vs bs:=by
    cases hb:(y.o != .dp)with|true=>rw[hb]at c5;exact c5|false=>rw[hb]at c5;exact c5.wk
   obtain⟨es,g1,g2⟩:=RepA.put (RepO.wk (w.ok x X5)) n c6;obtain⟨w4,gz⟩:=_gK (T:=[⇑x]) (o':=.rt) (ds':=xs.set n x.d) (xs':=vs.set n x.v) w hy c2 c3 c4 c1 g1 (.inl #[rfl,λa ha=>(g2 a ha).imp id λz=>by
    rcases Sl.as_of z with z|z
    ·exact .inl (~~~z)
    ·exact .inr (~~~z)])
   exact#[l,vs,j,n,c1,qj m8 hz,c2,by rw[<-c6.len,<-_gB];exact hj,k _ _ w4 gz]
 ·cases dm
def _jj{i:Nat}{y:Str}{op:Operator}{f:Int->Int->Int}(hN:X.N.Nodup)(hi:X.N[i]?=⇑y)(hx:Loc X.env.scope y)(ho:PIp X op (ipI f))(h:QE X Z q vc ve)(hp:i∉pn<|>ŕ)(hf:X.fn y=true\/X.env.scope.names.lookup y=⇑.local<|>Ř):
  QS X Z pn (_hM f i vc) (.AugAssign (.Name y ay) op ve pos):=K7 (_aW hN hi hx h ho hf) λD σ H ai=>ex7 ai λE L r m w hr k=>by
 unfold _hM at hr;cases hE:E[i]? with
 | none=>rw[hE]at hr;cases hr
 | some s0=>
  cases s0 with
  | none=>rw[hE]at hr;cases hr
  | some s0=>
   obtain⟨oo,dd⟩:=s0;rw [hE]at hr;cases dd with
   | int a=>
    dsimp only at hr;obtain⟨x0,a1,a2,a3,a4⟩:=m.get hE;have ha:x0.v=.int a:=qj (w.ok x0 (vz a1)) a3;refine#[x0.v,a4,?_];refine Wq m w hr k λE1 s h1 x L1 H1 e1 e2 m1 w1 st _=>?_
    cases hs:s.2 with
    | int b=>
     rw[hs]at h1;cases _aa h1;refine#[a,b,ha,qj w1.head (by rw[e2];exact hs),?_];have w2:World Z.K H1 (⇑#[.dp,.int (f a b),.int (f a b),[]]::L1):=w1.tail.cons (show RepL Z.K H1 false (.int (f a b)) (.int (f a b)) []from vw) Xp (nofun) (nofun) (nofun) (nofun);have s2:Step H L H1 (⇑#[.dp,.int (f a b),.int (f a b),[]]::L1):=by
      refine#[st.keep,λb hb=>st.own b ?_,λb hb=>st.frz b ?_]
      ·rw[k3]at hb ⊢;rcases aA hb with z|z
       ·exact nomatch z
       ·exact _ab _ z
      ·rw[vY]at hb ⊢;rcases aA hb with z|z
       ·exact nomatch z
       ·exact _ab _ z
     exact k (σ.set i ⇑(.int (f a b))) (L1.set i ⇑#[.dp,.int (f a b),.int (f a b),[]]) H1 (Pn.refl.set hp) (QY (x:=#[.dp,.int (f a b),.int (f a b),[]]) m1 rfl rfl) w2.set (s2.trans Step.set)
    |_=>rw[hs]at h1;cases h1
   |_=>cases hr
end
abbrev dkI(kv:List (Int×Int)):List (Key×V):=kv.map λp=>(Sum.inl p.1,V.int p.2)
def _jk kv k:J5 (dkI kv) (Sum.inl k)=(jV kv k).map V.int:=by
 induction kv with
 | nil=>rfl
 | cons p r ih=>
  unfold J5 jV at ih ⊢;rw[show dkI _=_::dkI r from rfl,List.find?_cons,List.find?_cons]
  by_cases h:p.1=k
  ·have h1:decide ((Sum.inl p.1:Key)=Sum.inl k)=true:=Xg (by rw[h]);have h2:=Xg h;simp only[h1,h2];rfl
  ·have h1:decide ((Sum.inl p.1:Key)=Sum.inl k)=false:=Xl λz=>h (Sum.inl.inj z)
   have h2:=Xl h;simp only[h1,h2];exact ih
def _jl kv (k v):x9 (dkI kv) (Sum.inl k) (V.int v)=dkI (qX kv k v):=by
 have ha:((dkI kv).any λp=>decide (p.1=(Sum.inl k:Key)))=kv.any λp=>decide (p.1=k):=by
  rw[List.any_map]
  congr 1
  funext p;show decide ((Sum.inl p.1:Key)=Sum.inl k)=decide _;exact decide_eq_decide.mpr #[λz=>Sum.inl.inj z,λz=>by rw[z]]
 unfold x9 qX;rw[ha]
 by_cases h:(kv.any λp=>decide (p.1=k))=true
 ·rw[Xb h,Xb h];unfold dkI;rw[Xi,Xi];refine Y5 λp _=>?_
  by_cases z:p.1=k
  ·grind
  ·grind
 ·rw[Xj h,Xj h];unfold dkI;rw[X7];rfl
def _jm:∀{kvs kv},ZW kvs=⇑kv->kvs=kv.map λp=>(D.int p.1,D.int p.2):=by
 intro kvs
 induction kvs with
 |nil=>intro kv h;cases _aa h;rfl
 |cons e r ih=>
  intro kv h;obtain⟨a,b⟩:=e;cases a<;>first|(cases h;done)|(cases b<;>first|(cases h;done)|skip)
  obtain⟨q,hq,rfl⟩:=Option.map_eq_some_iff.mp (show(ZW r).map _=⇑kv from h);rw[List.map_cons,<-ih hq]
def _jn:∀kv,ZW (kv.map λp=>(D.int p.1,D.int p.2))=⇑kv
 |[]=>rfl
 |_::r=>by
  show(ZW _).map _=_;rw[_jn r];rfl
def _jo kv:J6 (wq kv)=⇑kv:=_jn kv
def _jp{K H g}:∀{kv:List (Int×Int)} {xs bs},RepP K H g (kv.map λp=>(D.int p.1,D.int p.2)) xs bs->xs=kv.map λp=>V.int p.2
 |[],_,_,h=>by
  exact h.1
 |p::r,_,_,h=>by
  obtain⟨y,rr,b1,b2,rfl,_,h1,h2⟩:=h;rw[h1.1,_jp h2,List.map_cons]
def _jq{K H g}:∀(kv:List (Int×Int)),RepP K H g (kv.map λp=>(D.int p.1,D.int p.2)) (kv.map λp=>V.int p.2) []
 |[]=>#[rfl,rfl]
 |p::r=>by
  exact#[_,_,[],[],rfl,rfl,vw,_jq r]
def _jr{K H g}(kv:List (Int×Int)):RepP K H g (mkD::kv.map λp=>(D.int p.1,D.int p.2)) (V.non::kv.map λp=>V.int p.2) []:=by
 exact#[_,_,[],[],rfl,rfl,#[rfl,rfl],_jq kv]
def _js{K H}{p} kv:RepR K (upd H p (.dK (dkI kv))) (wq kv) (.ref p) [p]:=
 #[p,_,[],rfl,_jr _,.inr #[kv.map λp=>(p.1,V.int p.2),"",by rw[vW,Xi];rfl,by rw[List.map_cons,Xi,Xi];rfl,by rw[Xi];rfl],rfl]
abbrev wDK:V->V->V->Hp->(Hp->Prop)->Prop:=λx y v H C=>∃a H4,x=.ref a/\DPut H a y v H4/\C H4
def _jt{K H L}{i:Nat}{y x:Sl}{zv kvs kvs' d}{j:Int}{v}{C:Hp->Prop}(hy:L[i]?=some ⇑y)(w:World K H (⇑x::L))(ho:y.o=.rt)(h:∃a,y.v=.ref a/\H a=⇑(.dK kvs)/\∃bs,y.as=a::bs)(hz:zv=.int j)(hx:x.v=v)(hp:x9 kvs (.inl j) v=kvs')(hl:kvs.length<sizeLine)
  (rep:∀{H p},RepR K (upd H p (.dK kvs')) d (.ref p) [p]) (k:∀H' as,World K H' (L.set i ⇑#[.rt,d,y.v,as])->Step H (⇑x::L) H' (L.set i ⇑#[.rt,d,y.v,as])->C H'):wDK y.v zv x.v H C:=by
 obtain⟨l,c1,c2,bs,c3⟩:=h;subst hz hx hp;have hlo:l∈y.own:=by unfold Sl.own;rw[ho,c3];simp
 obtain⟨w4,gz⟩:=World.writeAt (T:=[⇑x]) (ob:=.dK (x9 kvs (.inl j) x.v)) (y':=#[.rt,d,y.v,[l]]) w hy hlo (by rw[c1];exact rep) (by simp[Sl.own]) (λa h=>by simp_all [Sl.own]) (λa h=>by simp[Sl.frz]at h) (λa h z=>by simp[Sl.frz]at z);exact#[l,_,c1,DPut.k (k:=Sum.inl j) c2 hl,k _ _ w4 gz]
def _ju:∀{a:List (Int×V)} {kv},(kv.map λp=>D.int p.1)=a.map (λp=>D.int p.1)->(kv.map λp=>V.int p.2)=a.map (·.2)->(a.map λp=>((Sum.inl p.1:Key),p.2))=dkI kv
 |[],[],_,_=>rfl|[],_::_,h,_=>by simp at h
 |p::a,q::kv,h,h'=>by
  rw[List.map_cons,List.map_cons]at h h';injection h with h1 h2;injection h' with h3 h4;injection h1 with h1;unfold dkI;rw[List.map_cons,List.map_cons,_ju h2 h4,<-h1,<-h3]
def _jv{K H}{y:Sl}{kv}(ok:y.ok K H)(hd:J6 y.d=⇑kv):∃a,y.v=.ref a/\H a=⇑(.dK (dkI kv))/\∃bs,y.as=a::bs:=by
 have h:=RepO.wk ok;cases hy:y.d with
 | dct kvs=>
  rw [hy]at hd h;cases kvs with
  | nil=>cases hd
  | cons e kvs=>
   obtain⟨a,b⟩:=e;cases a with
   | str m=>
    cases b with
    | non=>
     have e:=_jm hd;subst e;obtain⟨a,xs,bs,ev,rp,qa,eas⟩:=h;rcases qa with⟨es,ep,_,_,_,_,g5,g6,_⟩|⟨kvn,mm,g1,g2,g3⟩
     ·exfalso;rw[List.map_cons]at g5;cases es with
      |nil=>cases g5
      |cons n es=>
       rw[List.map_cons]at g5;injection g5 with g5 _;have:=g6 n X5;rw[<-g5]at this;unfold PuR at this
       grind
     ·refine#[a,ev,?_,bs,eas];rw[g1]
      congr 2
      obtain⟨y1,rr,_,_,rfl,_,_,r2⟩:=rp;rw[List.map_cons,Xi]at g2;injection g2 with _ g2;injection g3 with _ g3;refine _ju g2 ?_
      rwa [<-(_jp r2)]
    |_=>cases hd
   |_=>cases b<;>cases hd
 |_=>rw[hy]at hd;cases hd
section
def _jw(ll:Bool):R2:=λx y H Q=>∃(k:Int) (a:Addr) (kv:List (Int×Int)),x=.int k/\y=.ref a/\H a=⇑(.dK (dkI kv))/\Q (.bl (if ll then !(jV kv k).isSome else(jV kv k).isSome)) H
def _jx{H a}{kv} k (e:H a=⇑(.dK (dkI kv))):DGet H a (.int k) ((jV kv k).map V.int):=by
 rw[<-_jk];exact DGet.k (k:=Sum.inl k) e
def _jy{X}(hu:X.A.units+64<cLine):OpR X (compareOp .In) (_jw false):=by
 intro a8 s σ H x y u v Q I rx ry ⟨k,a,kv,e1,e2,hd,q⟩;subst e1 e2;cases ry;refine d_in ⋯ I (_jx k hd) rx λs' I'=>#[.bl _,H,I',rfl,?_]
 rwa [Yv]
def _jz{X}(hu:X.A.units+64<cLine):OpR X (compareOp .NotIn) (_jw true):=by
 intro a8 s σ H x y u v Q I rx ry ⟨k,a,kv,e1,e2,hd,q⟩;subst e1 e2;cases ry;refine _cE ⋯ I (_jx k hd) rx λs' I'=>#[.bl _,H,I',rfl,?_]
 rwa [Yv]
def _jA{K}:Ad2 K (_jw false) (pu2 W7):=by
 intro H x y s Q ox oy hf k;unfold pu2 W7 at hf;dsimp only at hf;cases hx:x.d with
 | int j=>
  rw[hx]at hf;cases hi:J6 y.d with
  |none=>rw[hi]at hf;cases hf
  |some kv=>
   rw[hi]at hf;cases _aa hf;obtain⟨a,e,q,_⟩:=_jv oy hi;exact#[j,a,kv,qj ox hx,e,q,k _ H rfl rfl wJ]
 |_=>rw[hx]at hf;cases hf
def _jB{K}:Ad2 K (_jw true) (pu2 _hO):=by
 intro H x y s Q ox oy hf k;unfold pu2 _hO at hf;dsimp only at hf;cases hx:x.d with
 | int j=>
  rw[hx]at hf;cases hi:J6 y.d with
  |none=>rw[hi]at hf;cases hf
  |some kv=>
   rw[hi]at hf;cases _aa hf;obtain⟨a,e,q,_⟩:=_jv oy hi;exact#[j,a,kv,qj ox hx,e,q,k _ H rfl rfl wJ]
 |_=>rw[hx]at hf;cases hf
def _jC(x y s)(h:pu2 W7 x y=⇑s):∃k,s.2=.bl k:=by
 unfold pu2 W7 at h;cases hx:x.2 with
 |int j=>
  rw[hx]at h;cases hi:J6 y.2 with|none=>rw[hi]at h;cases h|some kv=>rw[hi]at h;cases _aa h;exact#[_,rfl]
 |_=>rw[hx]at h;cases h
end
section
variable {X:Cx}{Z:Fx0}{pn:List Nat}{q qa:Bool}{a b c kc vc:Ex}{o ea eb ec ke ve:Expr}{pos ay af:Pos}
def _jD(hu:X.A.units+64<cLine)(ha:QV X Z qa a ea)(hb:QV X Z true b eb)(hs:_cJ eb):QV X Z qa (_hQ a b) (.Subscript ea eb pos):=
 kY (_cM ⋯ ha hb hs) fun σ H Q ai=>ex8 ai λE L r m w hc xc k=>by
  refine qY m w (hc) xc λE1 s h1 x L1 H1 e1 e2 m1 w1 ok fr sr st sm=>(qY m1 w1 h1 (xc.step st) λE2 s2 h2 y L2 H2 e3 e4 m2 w2 gm ou pd bo dk=>?_)
  obtain⟨z,hz,rfl⟩:=x6 h2;unfold _hP at hz;cases hy:s2.2 with
  | int j=>
   rw [hy]at hz;cases hi:J6 s.2 with
   | none=>rw[hi]at hz;cases hz
   | some kv=>
    rw[hi]at hz;dsimp only at hz;cases hv:jV kv j with
    | none=>rw[hv]at hz;cases hz
    | some v=>
     rw[hv]at hz;cases _aa hz;obtain⟨l,e,q,_⟩:=_jv (K3 ok fr bo (dk rfl)).1 (e2▸hi);refine#[l,.int v,e,?_,?_]
     ·rw[qj gm (e4▸hy)];have:=_jx j q;rw[hv]at this;exact this
     ·exact k _ _ rfl #[.dp,.int v,.int v,[]] L2 H2 rfl rfl m2 w2 (show RepL Z.K H2 false _ _ []from vw) (nofun) (nofun) (st.trans bo) λhq=>kZ (sm hq) (dk rfl)
  |_=>rw[hy]at hz;cases hz
def _jE:QE X Z true _hN (.Dict [] [] pos):=_gO (C:=λ_=>True) (ob:=λ_=>.dK []) (kY _cP λ_ _ _ h p hp=>h p hp trivial) ⋯ λ_ p _=>_js (p:=p) []
def _jF kv (k v):(qX kv k v).length<=kv.length+1:=by
 unfold qX
 split
 ·rw[X4];lia
 ·rw[Xe];simp
#where in
def _jG{i}(hu:X.A.units+64<cLine)(ho:PE X o (wV i))(hk:QV X Z true kc ke)(hv:QE X Z q vc ve)(hs:swapsWith ve ⇑(.Subscript o ke ay) pos.line X.env=pure false<|>Ŕ):
  QS X Z pn (_hV i kc vc) (.Assign [.Subscript o ke ay] ve pos):=_gP (W:=wDK) (_cN ⋯ ho hk hv hs) #[rfl,rfl] fun {H L y x z d} {C} hy w m8 dm k=>by
 unfold _hU at dm
 split at dm
 ·rename_i oq hz hx;injection oq with h2 h3;obtain⟨kv,hi,dm⟩:=Option.bind_eq_some_iff.mp dm
  split at dm
  ·rename_i hl;cases _aa dm;refine _jt hy w h2 (_jv (w.tail.ok y (vz hy)) (h3▸hi)) (qj m8 hz) (qj (w.ok x X5) hx) (_jl _ _ _) (by show(kv.map _).length<sizeLine;rw[X4];exact hl) (_js _) k
  ·cases dm
 ·cases dm
def _jH{apos}(hu:X.A.units+64<cLine)(ha:QV X Z qa a ea)(hb:QV X Z true b eb)(hc:QV X Z true c ec)(hm:M2 X ea "get" apos eb ec af:=by exact#[rfl,rfl,rfl,rfl]):QV X Z qa (_hT a b c) (.Call (.Attribute ea "get" apos) [eb,ec] [] af):=
 kY (_cV ⋯ ha hb hc hm) fun σ H Q ai=>ex8 ai λE L r m w hc xc k=>by
  refine qY m w (hc) xc λE1 s h1 x L1 H1 e1 e2 m1 w1 ok fr sr st sm=>?_
  by_cases hI:_hS s.2=true
  ·rw [Xb hI]at h1;obtain⟨kv,hi⟩:=Option.isSome_iff_exists.mp hI;obtain⟨l,el,ql,_⟩:=_jv ok (e2▸hi);refine#[l,el,.inl #[_,.inl ql],(qY m1 w1 h1 (xc.step st) λE2 s2 h2 y L2 H2 e3 e4 m2 w2 gm ou pd bo dk=>(qY m2 w2 h2 (xc.step (st.trans bo)) λE3 s3 h3 t L3 H3 e5 e6 m3 w3 ok3 ow sr3 dl pi=>?_))];obtain⟨z,hz,rfl⟩:=x6 h3;have s13:=kZ (dk rfl) (pi rfl);unfold _hR at hz;cases hy:s2.2 with
   | int j=>
    cases ht:s3.2 with
    | int d=>
     rw[hy,ht,hi]at hz;cases _aa hz;refine#[_,by rw[(qj gm (e4▸hy))];exact _jx j (s13 _ _ ql),?_];have e7:((jV kv j).map V.int).getD t.v=.int ((jV kv j).getD d):=by
      rw[(qj ok3 (e6▸ht))];cases jV kv j<;>rfl
     rw[e7];exact k _ _ rfl #[.dp,.int _,.int _,[]] L3 H3 rfl rfl m3 w3 (show RepL Z.K H3 false _ _ []from vw) (nofun) (nofun) ((st.trans bo).trans dl) λhq=>kZ (sm hq) s13
    |_=>rw[hy,ht]at hz;cases hz
   |_=>rw[hy]at hz;cases hz
  ·grind
end
end Q
namespace PySem
def _jI:typeLookup (.type "list") "keys"=pure none:=am_miss_of_fast (by decide +kernel)
def _jJ{prog w A E s a o xs k}{Q:Option Value->Shared->Prop}
  (hx:s.heap.get? a=⇑o) (hc:o.cls=.type "list") (ie:o.data=.seq xs k) (hd:o.dict=none) (hA:A.handled=none)
  (h:∀h' tk,(∀b ob,s.heap.get? b=⇑ob->h'.get? b=⇑ob)->Q none {s with heap:=h',toks:=tk}):
  wpAny (model prog w) A (getAttr? (.ref a) "keys") Q E s:=by
 obtain⟨c,dct,dat,sl⟩:=o;simp only at hc ie hd;subst hc ie hd;obtain⟨hp,g,d,tk,os⟩:=s;have hT:∀pj,(#[hp,g,d,pj,os]:Shared).TypeIs (.ref a) "list":=λ_=>#[_,hx,rfl]
 have f1:=sub_AttributeError;have f3:=F.slot_list_getattribute.lookup;have f4:=F.slot_list_getattribute.bind (.ref a);have f5:=am_list_getattr_none;unfold getAttr? getAttrBy? getAttrBy
 repeat (any_goals (first|assumption|exact hT _|((with_reducible show wpAny _ _ (call (Value.builtin "list.__getattribute__") _ _) _ _ _);refine call_meets F.slot_list_getattribute (hT _) am_entry_list_getattribute (F.args_list_getattribute_2 _ _) (meets_getattribute_miss_list a xs k sl "keys" _ _jI ⋯ ⋯) #[hx,hA,λh' pj e hx'=>?_])|wp_step))
 obtain⟨t',u',he⟩:=hx'.there;show wpAny _ _ (getattributeRaised _ _ _ _ _ _ _) _ _ _;unfold getattributeRaised
 repeat (any_goals (first|assumption|wp_step))
 exact h _ _ hx'.keeps
namespace F
def _Ed:entryFor table "dict.update.loop"=⇑Builtin.«dict.update.loop»:=entryFor_of_tree (by kernel_rfl)
def _Pd:plainId "dict.update.loop"=true:=by decide +kernel
end F
section
variable {prog:Program}{w:World}{A:Around}{R:Result->Shared->Prop}{I:Addr}{fp wr:List Addr}{G:Array GenState->Array GenState->Prop}{n:Nat}{P:Nat->Value->Prop}{St:Nat->Shared->Prop}{K:Type}[DecidableEq K]{knd:KeyKind prog w K}
def _jK{s T u v E Q}(h:s.heap.IsTuple T %[u,v|0])(hq:Q [u,v] s):wpAny (model prog w) A (Builtin.Dict.pairItems (.ref T)) Q E s:=by
 obtain⟨o,ho,hc,m,hd⟩:=h;obtain⟨cls,dct,dat,sl⟩:=o;subst hc hd
 repeat (any_goals (first|assumption|wp_step))
def _jL(W:WalksS prog w A.in1 I fp wr G n P St)(S)(p9:S∉fp){h₀:Heap}{more}(hn:more.length=n)(hz:n<=sizeLine)
  (i6:∀i v,P i v->∃T u x k,v=.ref T/\T∉S::wr/\h₀.IsTuple T %[u,x|0]/\more[i]?=⇑(k,x)/\knd.is k u=true):
  ∀k i (c) (s),n - i=k->i<=n->St i s->(∀b o,b∉S::wr->h₀.get? b=⇑o->s.heap.get? b=⇑o) ->
   s.heap.DictOf knd S (merged [] (more.take i)) ->
   (∀s',Moved (S::wr) G s s'->s'.heap.DictOf knd S (merged [] more)->R (.ok (.ret .none)) s') ->
   codeAny (model prog w) A (.builtin "dict.update.loop" #[[.ref S,.ref I,.int i c,.none],[]]) R s:=by
 have u6:=λh=>p9 (W.sub _ h)
 have eh:∀b∈wr,b∈S::wr:=λb hb=>_ad _ hb
 intro k
 induction k with
 | zero=>
  intro i c s hk hi ba hh hS hR;have ff:i=n:=⋯
  subst ff;refine Z7 F._Ed (X0 (W.done s _ _ ba λs' hm=>(X0 (X6 (X6 (hR s' (hm.mono eh) ?_))))));rw[<-hn,List.take_length]at hS;obtain⟨o,es,ep,ho,aa⟩:=hS;exact#[o,es,ep,hm.heap S _ u6 ho,aa]
 | succ k ih=>
  intro i c s hk hi ba hh hS hR;have cj:i<n:=⋯
  refine Z7 F._Ed (X0 (W.item i s _ _ cj ba λv s' hP pz hm=>?_));obtain⟨T,u,x,kk,rfl,hTn,hT,hmo,ko⟩:=i6 i v hP;have lp:s'.heap.DictOf knd S (merged [] (more.take i)):=by
   obtain⟨o,es,ep,ho,aa⟩:=hS;exact#[o,es,ep,hm.heap S _ u6 ho,aa]
  have ub:s'.heap.IsTuple T %[u,x|0]:=by
   obtain⟨o,ho,aa⟩:=hT;exact#[o,hm.heap T o (λz=>hTn (_ad _ z)) (hh T o hTn ho),aa]
  have gl:(merged [] (more.take i)).length<=sizeLine:=by
   have e1:=merged_length_le ([]:List _) (more.take i);have e2:(more.take i).length<=more.length:=by rw[Z4];lia
   have e3:([]:List (K×Value)).length=0:=rfl;lia
  refine X0 (Ya (X0 (wpAny_tryCatch (_jK ub (Ya (wpAny_dictSet_pairs ko lp λh' hd' lu=>(X6 #[plainId_quiet F._Pd _,(ih (i+1) 0 _ ⋯ cj (W.frame _ s' _ _ pz (Nat.le_succ _) λb hb o e=>?_) (λb o hb e=>?_) (by rw[merged_take_succ [] more i _ hmo];exact hd') λlc qt so=>?_)])))))))
  ·rw[lu.2 b (λh:b=S=>p9 (h▸hb))];exact e
  ·have hbS:b≠S:=λz=>hb (z▸X5)
   rw[lu.2 b hbS];exact hm.heap b o (λz=>hb (_ad _ z)) (hh b o hb e)
  ·refine hR lc (Moved.trans W.gtrans ((hm.mono eh).then_heap (Nat.le_succ _) λb o hb e=>?_) qt) so;rw[lu.2 b (λh:b=S=>hb (h▸X5))];exact e
def _jM{E s l items more o m}{Q}
  (hh:A.handled=none) (ho:s.heap.get? l=⇑o) (hc:o.cls=.type "list") (ie:o.data=.seq items m) (hd:o.dict=none) (hn:more.length=items.size) (hz:items.size<=sizeLine)
  (i6:∀(i:Nat) (v),items[i]?=⇑v->∃T u x k,v=.ref T/\s.heap.IsTuple T %[u,x|0]/\more[i]?=⇑(k,x)/\knd.is k u=true)
  (h:∀h' (tk),h'.DictOf knd ↥s (merged [] more)->(∀b o,b<↥s->s.heap.get? b=⇑o->h'.get? b=⇑o)->Q (.ref ↥s) {s with heap:=h',toks:=tk}):
  wpAny (model prog w) A (call (.type "dict") [.ref l]) Q E s:=by
 refine callType_codes (Q₁:=λobj s₁=>obj=Value.ref ↥s/\s₁={s with heap:=s.heap.push {cls:=Value.type "dict",data:=Data.dict (List.toArray [])}}) F.kt_called_dict (F.kt_typeCall_dict_1 _) F.entry_dict_init (kt_code_dict_new _ #[rfl,rfl]) ?_;rintro obj s₁ ⟨rfl,rfl⟩;have eq:(s.heap.push {cls:=.type "dict",data:=.dict (List.toArray [])}).DictOf knd ↥s []:=Heap.DictOf.new s.heap;have lh:(s.heap.push {cls:=.type "dict",data:=.dict (List.toArray [])}).get? l=⇑o:=X3 _ ho;have hT:Shared.TypeIs {s with heap:=s.heap.push {cls:=.type "dict",data:=.dict (List.toArray [])}} (.ref l) "list":=#[_,lh,hc];have wu:=Xf ho;refine#[eq.typeIs,F.args_dict_init_2 _ _,(X0 (X0 (wpAny_notOrdered_dict eq.typeIs (X6 (X0 (wpAny_typeOf hT (X0 (_jJ lh hc ie hd (by simp[hh]) λh' tk hk=>?_))))))))];have hkS:=λb q e=>hk b q (X3 _ e)
 have iy:h'.IsList l items:=#[o,hkS _ _ ho,hc,m,ie];have hS1:h'.DictOf knd ↥s []:=by
  obtain⟨q,es,ep,hq,aa⟩:=eq;exact#[q,es,ep,hk _ _ hq,aa]
 have nu:↥s<h'.objs.size:=by
  obtain⟨q,es,ep,hq,aa⟩:=hS1;exact Xf hq
 refine X0 (Zl (X0 (Zg iy (X6 #[plainId_quiet F._Pd _,?_]))));refine _jL (h₀:=s.heap) ((Walks.list (by simp[hh]) h'.objs.size l (Xk (Nat.lt_trans wu nu)) items).toS) ↥s ?_ hn hz (λi v hv=>?_) (items.size - 0) 0 0 _ ⋯ (Y1 _)
  #[#[_,X9 _ rfl,rfl,rfl],iy.push _] (λb q hb e=>X3 _ (hkS b q e)) (hS1.push _) λs' hm lp=>?_
 ·simp only[Yq,Y6,or_false,not_or];exact#[Xk nu,Zk wu]
 ·obtain⟨T,u,x,k,e1,e2,e3,e4⟩:=i6 i v hv;refine#[T,u,x,k,e1,?_,e2,e3,e4];obtain⟨q,hq,_⟩:=e2;have:=Xf hq;simp;exact#[Xk this,Xk (Nat.lt_trans this nu)]
 ·obtain⟨h2,g',d',pj,qf⟩:=s';have eg:g'=s.gens:=hm.gens;have ed:d'=s.drawn:=hm.drawn;have eo:qf=s.os:=hm.os;subst eg;subst ed;subst eo;refine#[rfl,h h2 pj lp λb q hb e=>(hm.heap b q ?_ (X3 _ (hkS b q e)))];simp;exact#[Xk hb,Xk (Nat.lt_trans hb nu)]
end
end PySem
namespace Q
open PySem PySem.Spec PyProof.Rows L2 L3
def _jN(K:Frag):List V->Hp->VK->Prop:=λxs H Q=>∃(a:Addr) (ts:List V) (ps:List (Int×Int)),xs=[.ref a]/\SqL K H a ts/\ts.length=ps.length /\
 (∀i (h:i<ps.length),∃T,ts[i]?=⇑(.ref T)/\SqT K H T [.int ps[i].1,.int ps[i].2])/\ps.length<big/\∀l,H l=none->Q (.ref l) (upd H l (.dK (dkI (ps.foldl (λkv p=>qX kv p.1 p.2) []))))
def _jO:∀(ps kv:List (Int×Int)),(ps.foldl (λkv p=>qX kv p.1 p.2) kv).length<=kv.length+ps.length
 |[],kv=>by simp
 |p::ps,kv=>by
  rw[Yz,Xm];have:=_jO ps (qX kv p.1 p.2);have:=_jF kv p.1 p.2;lia
#where in
def _jP:∀ps (more) (kv) (vs),KV (dkI ps) more->KV (dkI kv) vs->KV (dkI (ps.foldl (λkv p=>qX kv p.1 p.2) kv)) (more.foldl (λac kv=>stored ac kv.1 kv.2) vs)
 | [],_,kv,vs,h,h'=>by cases h;exact h'
 | p::ps,_,kv,vs,h,h'=>by
  cases h with
  |cons h1 h2=>
   rename_i m more;obtain⟨k,x⟩:=m;obtain⟨e,rx⟩:=h1;subst e;refine _jP ps more _ _ h2 ?_;rw[<-_jl];exact KV.put h' _ rx
#where in
def _jQ{X a8}{σ:L2.St}{H s}(I:Inv X a8 σ H s):∀ps (ts) (ab),ts.length=ps.length ->
  (∀ i (h:i<ps.length),∃T,ts[i]?=⇑(.ref T)/\SqT X.K H T [.int ps[i].1,.int ps[i].2])->Vals ts ab ->
  ∃ more,more.length=ab.length/\KV (dkI ps) more/\∀(i:Nat) (v),ab[i]?=⇑v->∃T u x k,v=.ref T/\s.heap.IsTuple T %[u,x|0]/\more[i]?=⇑(k,x)/\(xj X.prog X.w).is k u=true
 | [],ts,ab,hl,_,hv=>by
  cases ts with| nil=>cases hv;exact#[[],rfl,.nil,λi v h=>by simp at h]| cons=>cases hl
 | p :: ps,t::ts,_,hl,hp,hv=>by
  cases hv with
  | cons h1 h2=>
   rename_i u us;obtain⟨T,e1,e2⟩:=hp 0 (by simp);have e1:t=.ref T:= ~~~e1
   subst e1;cases h1;obtain⟨ii,rv,tp,_⟩:=I.tuple e2;obtain⟨u1,u2,rfl,r1,r2⟩:∃u1 u2,ii=[u1,u2]/\RelV (.int p.1) u1/\RelV (.int p.2) u2:=by
    cases rv with
    |cons a b=>
     cases b with|cons c d=>cases d;exact#[_,_,rfl,a,c]
   obtain⟨more,m1,m2,m3⟩:=_jQ I ps ts us (~~~hl) (λi h=>by
    obtain⟨T,a,b⟩:=hp (i+1) (~~~h);exact#[T,~~~a,~~~b]) h2
   refine#[(Sum.inl p.1,u2)::more,by rw[Xm,Xm,m1],.cons #[rfl,r2] m2,λi v h=>?_];cases i with
   |zero=>
    have h:Value.ref T=v:= ~~~h
    subst h;exact#[T,u1,u2,Sum.inl p.1,rfl,tp,rfl,VW r1]
   |succ i=>exact m3 i v (~~~h)
def _jR{X}(hc:X.calm=true<|>Ŕ):CallR X (.type "dict") (_jN X.K):=by
 rintro a8 s σ H xs us Q I r ⟨a,ts,ps,rfl,hq,hl,hp,hb,q⟩;obtain⟨u,rfl,rx⟩:=xk r;cases rx;obtain⟨ab,rv,⟨o,n,ho,f7,hd,ie⟩,hz⟩:=I.list hq;obtain⟨more,m1,m2,m3⟩:=_jQ I ps ts ab hl hp rv;refine _jM (I.ok.hd hc) ho f7 ie hd (by rw[m1];simp) (by rw[X8,<-rv.length];exact hz) (λi v hv=>m3 i v (~~~hv)) λh' tk dd kp=>(#[.ref ↥s,_,I.laid (t':=tk) (λb ob e=>kp b ob (Xf e) e) (Xd _) (_cG ?_ (Y2 (Zk I.big)) (_jP ps more [] [] m2 .nil) dd),rfl,q _ (I.hok.fresh (Xd _))])
 rw[X4];have:=_jO ps []
 grind
def _jS:∀{ds ps},V4 ds=⇑ps->ds=ps.map λp=>D.tup [.int p.1,.int p.2]
 | [],ps,h=>by cases _aa h;rfl
 | .tup [.int a,.int b]::r,ps,h=>by
  have h:(V4 r).map _=⇑ps:=h;cases hr:V4 r with
  |none=>grind
  |some q=>
   rw[hr]at h;cases _aa h;rw[List.map_cons,<-_jS hr]
def _jT:∀ps,V4 (ps.map λp=>D.tup [.int p.1,.int p.2])=⇑ps
 |[]=>rfl
 |_::r=>by
  show(V4 _).map _=_;rw[_jT r];rfl
def _jU{K}:Ad1 K (λv H Q=>_jN K [v] H Q) Zw:=by
 intro H x s Q ok hf k;unfold Zw at hf;cases hx:x.d with
 | lst ds=>
  rw [show(x.o,x.d).2=D.lst ds from hx]at hf;dsimp only at hf;cases hp:V4 ds with
  | none=>rw[hp]at hf;cases hf
  | some ps=>
   rw[hp]at hf;dsimp only at hf
   by_cases hl:ps.length<big
   ·rw[Xb hl]at hf;cases _aa hf;have e:=_jS hp;subst e;obtain⟨a,xs,bs,ev,q1,ra⟩:=items ok (.inl hx);have hq:SqL K H a xs:=by
     rcases q1 with⟨_,z⟩|⟨z,_⟩
     ·exact z.sq
     ·grind
    refine#[a,xs,ps,by rw[ev],hq,by rw[<-ra.1.len,X4],λi hi=>?_,hl,λl qc=>k #[.rt,wq _,.ref l,[l]] _ rfl rfl #[wx qc,#[l,_,[],rfl,_jr _,.inr #[(ps.foldl (λkv p=>qX kv p.1 p.2) []).map λp=>(p.1,V.int p.2),"",by rw[vW,Xi];rfl,by rw[List.map_cons,Xi,Xi];rfl,by rw[Xi];rfl],rfl],λb hb=>?_,by simp[Sl.own],λb hb=>?_]]
    ·obtain⟨v,cs,g1,g2,_⟩:=RepA.get ra.1 (by rw[Xh,X1 hi];rfl);obtain⟨T,ys,e1,e2,e3⟩:=g2;refine#[T,by rw[g1,e1],?_];obtain⟨y1,r1,_,_,rfl,_,f1,f2⟩:=e3;obtain⟨y2,r2,_,_,rfl,_,f3,f4⟩:=f2;obtain⟨rfl,_⟩:=f4;rw[f1.1,f3.1]at e2;exact e2
    ·have:b=l:=by simpa [Sl.own]using hb
     exact this▸qc
    ·simp[Sl.frz]at hb
   ·rw[Xj hl]at hf;cases hf
 |_=>rw[show(x.o,x.d).2=_ from hx]at hf;cases hf
def _jV{X} K (hK:X.K=K<|>Ŕ)(hc:X.calm=true<|>Ŕ):CallR X (.type "dict") (_jN K):=by subst hK;exact _jR hc
def _jW{X Z q}:QA X Z q [] []:=_fV wY fun σ H Q ai=>ex8 ai λE L r m w hc xc k=>by
 cases _aa hc;exact k _ _ rfl [] L H rfl m w Step.refl λ_=>#[λ_ _ z=>z,λ_ z=>(nomatch z)]
def _jX{X Z q c o e z apos af}(ho:PE X o (tC (.str z)))(hc:QV X Z q c e)(hK:X.K=Z.K<|>Ŕ)
  (df:attributeBase o "join" X.env (eval o X.env)=eval o X.env<|>Ŕ)
  (fw:autoParam (((backTo af (starEach [e] X.env)).all (λx=>!x.1)&&(backToKw af (keywordEach [] X.env)).all (λx=>x.1.isSome)
   && decide ([e].length+([]:List Keyword).length+(if([]:List Keyword).isEmpty then 0 else 1)<30))=true) Ŕ)
  (db:Abe apos af<|>Ŕ) (hs:Abs e [] X<|>Ŕ) (bm:Abb af [] X<|>Ŕ):
  QE X Z q (_hX z c) (.Call (.Attribute o "join" apos) [e] [] af):=
 kY (_cj PySem.F.plainAttrs_str PySem.F.slot_str_join PySem.F.type_str_join _dp ho (wj hc wY hs) df fw db hs bm) fun σ H Q ai=>ex8 ai λE L r m w ia xc k=>by
  refine#[?_,?_]
  ·rfl
  ·refine qY m w (ia) xc λE1 s h1 x L1 H1 e1 e2 m1 w1 ok fr sr st sm=>?_
   obtain⟨y,hz,rfl⟩:=x6 h1;unfold _hW at hz;cases hx:s.2 with
   | lst ds=>
    rw [hx]at hz;dsimp only at hz;cases hp:JQ ds with
    | none=>rw[hp]at hz;cases hz
    | some ys=>
     rw[hp]at hz;dsimp only at hz
     by_cases hl:(ys.map (·.length)).sum+ys.length*z.length<=100000
     ·rw[Xb hl]at hz;cases _aa hz;obtain⟨a,xs,bs,ev,q1,ra⟩:=items ok (.inl (e2▸hx));have hq:SqL Z.K H1 a xs:=by
       rcases q1 with⟨_,t⟩|⟨t,_⟩
       ·exact t.sq
       ·grind
      have ex:=(_ig hp ra.1).1;subst ex;have ae:(Txt.join z ys).length<=sizeLine:=joinOk_length (joinOk_of ⋯);exact#[z,a,ys,rfl,by rw[ev],by rw[hK];exact hq,⋯,(k _ _ rfl _ L1 H1 rfl rfl m1 (w1.consPu (x:=#[.dp,.str _,.str _,[]]) (show RepL Z.K H1 false _ _ []from ZK ae) rfl) (Jw st (nofun) rfl) λhq=>#[sm hq,λ_ t=>(nomatch t)])]
     ·rw[Xj hl]at hz;cases hz
   |_=>rw[hx]at hz;cases hz
end Q
namespace PySem
section
variable {prog:Program}{w:World}{A:Around}{E:VP9}{s:Shared}
def _jY(hh:A.handled=none)(it t)(bh:t≠it)(items):Draws prog w A it [it,t] items.size (λi v=>items[i]?=⇑v) (λi h=>h.IsTupleIter it t i/\h.IsTuple t items) where
 live:=λ_ _ st=>let ⟨o,ho,_⟩:=st.1;#[o,ho]
 frame:=λ_ _ _ st hk=>by
  obtain⟨⟨o,ho,r⟩,o2,ju,r2⟩:=st;exact#[#[o,hk it (by simp) o ho,r],o2,hk t (by simp) o2 ju,r2]
 item:=λi s Q E hi st hQ=>by
  obtain⟨fh,ht⟩:=st;obtain⟨o,ho,hc,hd⟩:=id fh;obtain⟨o2,ju,ph,n2,kg⟩:=id ht;have hx:items[i]?=⇑items[i]:=by simp[hi]
  refine X0 (Yf (name:=Str.ofString "__next__") fh.typeIs F.slot_tuple_iterator_next (Y3 F.slot_tuple_iterator_next fh.typeIs F.entry_tuple_iterator_next ?_ (F.args_tuple_iterator_next_1 _)));show wpAny _ _ (field (.ref it) 0 >>= _) _ _ s;refine X0 (Yy ho hd (x:=.ref t) rfl (X0 (Yy ho hd (x:=.int i 0) rfl (X0 (wpAny_seqItems ju kg ?_)))));simp only[Xu,hx];refine X0 (Yr ho hd (by simp) (X6 #[items[i],rfl,X6 (hQ _ _ s.toks hx #[#[_,Xy _ ho (Ze (Zc hd _)),(Obj.cls_mapFields ..).trans hc,by rw[Zc hd];simp[rawInt]],o2,(Z9 _ _ (Ne.symm bh)).trans ju,ph,n2,kg] (Yb ..))]))
 done:=λs Q E st hE=>by
  obtain⟨fh,ht⟩:=st;obtain⟨o,ho,hc,hd⟩:=id fh;obtain⟨o2,ju,ph,n2,kg⟩:=id ht;have hx:items[items.size]?=none:=by simp
  refine X0 (Yf (name:=Str.ofString "__next__") fh.typeIs F.slot_tuple_iterator_next (Y3 F.slot_tuple_iterator_next fh.typeIs F.entry_tuple_iterator_next ?_ (F.args_tuple_iterator_next_1 _)));show wpAny _ _ (field (.ref it) 0 >>= _) _ _ s;refine X0 (Yy ho hd (x:=.ref t) rfl ?_);rw[Xj (show ¬((Value.ref t==Value.none)=true)from Bool.false_ne_true)];show wpAny _ _ (field (.ref it) 1 >>= _) _ _ s;refine X0 (Yy ho hd (x:=.int items.size 0) rfl ?_);show wpAny _ _ (seqItems? (.ref t) >>= _) _ _ s;refine X0 (wpAny_seqItems ju kg ?_);simp only[Xu,hx];refine X0 (Zl (X0 (Yr ho hd (by simp) ?_)));show wpAny _ _ (newExc (.type "StopIteration") [] >>= _) _ _ _;refine X0 ?_;simp only[newExc,newTuple];refine X0 (Yc (X0 (m:=firstArgMember _ _) (wpAny_of_eq (a:=Value.none) (by first|rfl|(simp only[firstArgMember];rfl)) (Yc ?_ (by size_fits)))) (by size_fits));simp only[raiseNew];refine X0 (wpAny_handled ?_)
  first|rw[show A.in1.handled=none from hh]|rw[hh]
  exact X0 (X6 (wpAny_throw (hE _ _ (((Yb ..).extBut.push _).push _) #[_,X9 _ rfl,rfl])))
#where in
def _jZ(t)(items)(n:Nat)(dct:Option Addr)(sl:Array (Option Value)):
  Meets (Builtin.«enumerate.__new__» #[[.type "enumerate",.ref t],[]]) (λ_ R s=>s.heap.get? t=some {cls:=.type "tuple",dict:=dct,data:=.seq items n,slots:=sl} /\
   R (.ok (.ret (.ref (s.heap.push {cls:=.type "tuple_iterator",data:=.fields %[.ref t,.int 0 0|0]}).objs.size)))
    {s with heap:=(s.heap.push {cls:=.type "tuple_iterator",data:=.fields %[.ref t,.int 0 0|0]}).push {cls:=.type "enumerate",data:=.fields %[.none,.bool false,.ref ↥s,rawInt 0,.none,.none|0]}}):=
 .of_wp λprog w A R s h=>by
  obtain⟨hp,g,d,tk,os⟩:=s;obtain⟨hl,h⟩:=h;have eh:=sub_enumerate;have hL:Heap.IsTuple (Shared.heap #[hp,g,d,tk,os]) t items:=#[_,hl,rfl,n,rfl]
  wp_walk using AutoSeq1.wpAny_loadPart' hl
  refine wpAny_stack_any λst=>X6 ?_
  split
  ·rename_i c _ _ _ _ _;cases(c==Value.type "enumerate") <;>
   ·wp_walk using AutoSeq1.wpAny_loadPart' hl,wpAny_pyIter_tuple hL
    exact#[_,rfl,h]
  ·wp_walk using AutoSeq1.wpAny_loadPart' hl,wpAny_pyIter_tuple hL
   exact#[_,rfl,h]
def _j0{t items Q}(hL:s.heap.IsTuple t items)
  (h:∀h',IsEnum h' (↥s+1) ↥s 0 .none->h'.IsTupleIter ↥s t 0->h'.objs.size=↥s+2 ->
   (∀b o,s.heap.get? b=⇑o->h'.get? b=⇑o)->Q (.ref (↥s+1)) {s with heap:=h' }):
  wpAny (model prog w) A (call (.type "enumerate") [.ref t]) Q E s:=by
 obtain⟨⟨c,dct,dt,sl⟩,hl,hc,n,hd⟩:=hL;subst hc hd;refine callType_new F.called_enumerate ⋯ (F.typeCall_enumerate_1 _) (F.newCall_enumerate_1 _) (λobj=>F.args_object_init_2 obj _) F.entry_enumerate_new (_jZ t items n dct sl) #[hl,?_];have hz:(s.heap.push {cls:=.type "tuple_iterator",data:=.fields %[.ref t,.int 0 0|0]}).objs.size=↥s+1:=Zb ..;rw[hz];have he:IsEnum ((s.heap.push {cls:=.type "tuple_iterator",data:=.fields %[.ref t,.int 0 0|0]}).push {cls:=.type "enumerate",data:=.fields %[.none,.bool false,.ref ↥s,rawInt 0,.none,.none|0]}) (↥s+1) ↥s 0 .none:=by
  have:=X9 (s.heap.push {cls:=.type "tuple_iterator",data:=.fields %[.ref t,.int 0 0|0]}) (o:={cls:=.type "enumerate",data:=.fields %[.none,.bool false,.ref ↥s,rawInt 0,.none,.none|0]}) rfl;rw[hz]at this;exact this
 exact#[#[_,he,rfl],h _ he #[_,X3 _ (X9 _ rfl),rfl,rfl] (by rw[Zb,hz]) λb o x=>X3 _ (X3 _ x)]
end
end PySem
namespace Q
open PySem PySem.Spec PyProof.Rows L2 L3
abbrev ItT(K:Frag)(l:Addr):It:=ItE (SqT K · l)
def _j1{P w K cw k1 pos e it l}(n1:e≠it)(n2:l≠e)(n3:l≠it):Turn P w K (.Tuple cw k1 pos) (ItT K l) [e,it] e (λi h=>(∃dw,IsEnum h e it i dw)/\h.IsTupleIter it l i):=
 _iA (K:=K) (IS:=λh ab=>h.IsTuple l ab) n1 n2 (λA hh ab=>_jY hh it l n3 ab) λX a8 s σ H hK I xs q=>by
  subst hK;obtain⟨ab,rv,p,_⟩:=I.tuple q;exact#[#[ab,rv,p],λzs hz=>I.tuple_inj hz q]
abbrev iEnT(K:Frag)(ta:TA):TI:=fun σ H R=>ta σ H λvs H1=>∃l,vs=[.ref l]/\(∃xs,SqT K H1 l xs/\(xs.length<=sizeLine->R (ItT K l) H1))
section
variable {X:Cx}{Z:Fx0}{K:Frag}{pn:List Nat}{q:Bool}{c:Ex}{e:Expr}{σ:L2.St}{H:Hp}{L:Ls}{E:En}{pos p jf:Pos}{cw:List Expr}{k1:Nat}
def _j2 K {ta}(hg:Gl X "enumerate")(hm:X.mg "enumerate"=none)(ha:PA X [e] ta)(hK:X.K=K<|>Ŕ)
  (hs:starEach [e] X.env=[(false,eval e X.env)]<|>Ŕ):PI X (.Tuple cw k1 jf) (.Call (.Name "enumerate" p) [e] [] pos) (iEnT K ta):=by
 subst hK;intro a8 s σ H R I h;refine Call_ (Jj I hg hm _iC (Y0 (thn (ha pos a8 s σ H _ I h) λus s1 hz=>?_) (by rw[hs];rfl) rfl));obtain⟨vs,H1,I1,r1,q1⟩:=hz;obtain⟨l,rfl,xs,q1,q⟩:=q1;obtain⟨u1,rfl,e1⟩:=xk r1;cases e1;obtain⟨iw,xr,p1,u3⟩:=I1.tuple q1;have lt:l<↥s1:=by obtain⟨_,ee,_⟩:=p1;exact Xf ee
 refine _j0 p1 λh' g1 g2 gs gk=>?_
 refine wpAny_pyIter_enum g1 #[_,[_,↥s1],_,_,H1,rfl,I1.kept (t':=s1.toks) gk,
  _j1 (Nat.succ_ne_self _) (Xk (Z6 lt)) (Xk lt),#[#[_,g1],g2],λb hb=>?_,q u3]
 have gl:↥s1<=b:=by
  simp at hb;rcases hb with rfl|rfl<;>lia
 exact I1.fpOk gl (I1.hok.fresh gl)
def _j3(h:QE X Z q c e)(hg:Gl X "enumerate")(hm:X.mg "enumerate"=none)(hK:X.K=Z.K<|>Ŕ)(hs:starEach [e] X.env=[(false,eval e X.env)]<|>Ŕ):QI X Z q (.Tuple cw k1 jf) (_hZ c) (.Call (.Name "enumerate" p) [e] [] pos):=λa8 s σ H R I ai=>ex8 ai λE L r m w hc xc k=>by
 refine(_j2 Z.K hg hm (wj h wY hs) hK hs) a8 s σ H R I (W3 m w (show bnd (c E) _=⇑r from hc) xc λE1 s h1 x L1 H1 e1 e2 m1 w1 st sm=>?_);obtain⟨ds,hd,rfl⟩:=x6 h1;obtain⟨wT,sT⟩:=_gW w1 st;cases hx:x.d with
 |tup es=>
  rw[<-e2,hx]at hd;cases _aa hd;obtain⟨a,_,_,ev,_⟩:=items w1.head (.inr hx);have ag:=_gV (K:=Z.K) hx ev;obtain⟨xs,bs,q3,r3,_⟩:=ag H1 (JW w1.head);exact#[a,by rw[ev],xs,q3,λae=>k _ _ rfl (ItT Z.K a) [x.let] L1 H1 m1 wT sT (by rw[_iE,r3.len];exact ae) (λhq=>(sm hq).1) (_iH ag)]
 |_=>rw[<-e2,hx]at hd;cases hd
end
def _j4:∀{ds} {i:Nat} {d},D.pures ds=true->ds[i]?=⇑d->d.pure=true
 |[],_,_,_,h=>by simp at h
 |a::ds,0,d,h,e=>by
  have e:a=d:= ~~~e
  subst e;unfold D.pures at h;rw[Bool.and_eq_true]at h;exact h.1
 |a::ds,i+1,d,h,e=>by
  unfold D.pures at h;rw[Bool.and_eq_true]at h;exact _j4 h.2 (~~~e)
def _j5{X Z tg e i}(h:PE X e (wV i))(hK:X.K=Z.K<|>Ŕ):QIS X Z true tg (itV i) e:=λa8 s σ H R I ai=>ex8 ai λE L r m w hc xc k=>by
 refine(hK▸_gT h) a8 s σ H R I ?_;unfold itV at hc;cases hE:E[i]? with
 | none=>rw[hE]at hc;cases hc
 | some s0=>
  cases s0 with
  | none=>rw[hE]at hc;cases hc
  | some s0=>
   obtain⟨oo,dd⟩:=s0;rw [hE]at hc;cases dd with
   | lst ds=>
    dsimp only at hc
    by_cases hp:D.pures ds=true
    ·rw[Xb hp]at hc;cases _aa hc;obtain⟨x,a1,a2,a3,a4⟩:=m.get hE;have nq:=w.ok x (vz a1);obtain⟨a,xs,bs,ev,q3,r3,h3,_⟩:=items nq (.inl a3);have q3:LsR Z.K H a xs:=by rcases q3 with⟨_,z⟩|⟨z,_⟩;exact z;rw[a3]at z;cases z
     have again:∀H2,k9 H H2->∃g ys cs,SqL Z.K H2 a ys/\RepA Z.K H2 g ds ys cs:=λH2 hs=>by
      obtain⟨a',ys,cs,wt,q4,r4,h4,_⟩:=items (RepO.kp nq (Kp.of_same hs):x.ok Z.K H2) (.inl a3);have:a'=a:=by have:=wt.symm.trans ev;exact V.ref.inj this
      subst this;rcases q4 with⟨_,z⟩|⟨z,_⟩
      ·exact#[_,ys,cs,z.sq,r4]
      ·grind
     refine#[x.v,a4,.inl #[a,xs,ev,q3.sq,λae=>k _ _ rfl _ [] L H m (by rw[List.map_nil,Xv];exact w) (by rw[List.map_nil,Xv];exact Step.refl) (r3.len▸ae) (λ_=>z8) #[λt ht=>(nomatch ht),λj H2 _ hs hj=>?_,λH2 _ hs=>?_,λj H2 v H3 d _ hs hy je=>?_]]]
     ·obtain⟨g,ys,cs,s1,s2⟩:=again H2 (hs rfl);have hl:=s2.len;exact#[ys,ys[j]'_,s1,X1 ⋯]
     ·obtain⟨g,ys,cs,s1,s2⟩:=again H2 (hs rfl);exact#[ys,s1,by rw[s2.len];exact Xd _]
     ·obtain⟨g,ys,cs,s1,s2⟩:=again H2 (hs rfl);obtain⟨e3,hy⟩:=hy;subst e3;obtain⟨v',bp,f1,f2,f3⟩:=s2.get je;have:v'=v:=by have:=hy ys s1;rw[f1]at this;exact _aa this
      subst this;exact#[#[.no,d,v',[]],rfl,rfl,rfl,z8,(RepL.pu (g':=true) f2 (_j4 hp je)).2,λb hb=>(nomatch hb)]
    ·rw[Xj hp]at hc;cases hc
   |_=>cases hc
def _j6{K H}{x:Sl}(ok:x.ok K H)(ht:_h0 x.sd=true)(nd:x.own.Nodup):∃cs,RepL K H false x.d x.v cs/\(∀a∈cs,a∈x.own)/\cs.Nodup:=by
 obtain⟨o,d,v,as⟩:=x;unfold _h0 at ht;rw [Bool.or_eq_true]at ht;rcases ht with ht|ht
 ·unfold wQ at ht;rw[Bool.or_eq_true]at ht;rcases ht with ht|ht
  ·have ho:o=.dp:=by
    cases o with|dp=>rfl|no=>cases ht|rt=>cases ht
   subst ho;exact#[as,ok,λa h=>h,nd]
  ·obtain⟨_,r⟩:=RepL.pu (g':=false) (RepO.wk ok) ht;exact#[[],r,λ_ h=>(nomatch h),Xp]
 ·rw[Bool.and_eq_true]at ht;have ho:o=.rt:=by
   have ht:(o==Own.rt)=true:=ht.1;cases o with|rt=>rfl|no=>cases ht|dp=>cases ht
  subst ho;cases d with
  | lst ds=>
   obtain⟨a,xs,bs,e,r,h,e2⟩:=(show RepR K H (.lst ds) v as from ok);obtain⟨_,r2⟩:=RepA.pu (g':=false) r ht.2;refine#[[a],?_,λb hb=>?_,by simp]
   ·exact#[a,xs,[],e,r2,.inl #[h,rfl]]
   ·rw[aC hb,e2];exact X5
  |_=>simp_all
def PV(K:Frag)(H:Hp):List Nat->D->V->V->Prop
 |[],_,v,u=>u=v|n::p,.tup ds,v,u=>∃a xs x d,v=.ref a/\SqT K H a xs/\xs[n]?=⇑x/\(ds[n]?=⇑d/\xs.length=ds.length)/\PV K H p d x u|n::p,.lst ds,v,u=>∃a xs x d,v=.ref a/\H a=⇑(.lst xs)/\xs[n]?=⇑x/\(ds[n]?=⇑d/\xs.length=ds.length)/\PV K H p d x u|_::_,_,_,_=>False
section
variable {K:Frag}{H:Hp}
def PV.snoc:∀{p:List Nat} {n:Nat} {d:D} {v u:V},PV K H (p++[n]) d v u->∃d' w,PV K H p d v w/\PV K H [n] d' w u:=by
 intro p
 induction p with
 | nil=>exact fun {n d v u} h=>#[d,v,rfl,h]
 | cons m p ih=>
  intro n d v u h;cases d<;>first|exact False.elim h|skip
  all_goals
   obtain⟨a,xs,x,d,e,q,ex,ed,h⟩:=h;obtain⟨d',w,h1,h2⟩:=ih h;exact#[d',w,#[a,xs,x,d,e,q,ex,ed,h1],h2]
def PV.one{n:Nat}{d:D}{v u:V}(h:PV K H [n] d v u):∃a xs,v=.ref a/\(H a=⇑(.lst xs)\/SqT K H a xs)/\xs[n]?=⇑u:=by
 cases d with
 |tup ds=>
  obtain⟨a,xs,x,d,e,q,ex,ed,h⟩:=h;have h:u=x:=h;subst h;exact#[a,xs,e,.inr q,ex]
 |lst ds=>
  obtain⟨a,xs,x,d,e,q,ex,ed,h⟩:=h;have h:u=x:=h;subst h;exact#[a,xs,e,.inl q,ex]
 |_=>exact h.elim
structure Kx (H H':Hp)(as bs:List Addr):Prop where
 tup:∀a xs,H a=⇑(.tup xs)->H' a=⇑(.tup xs)
 frz:∀a o u,H a=⇑(.frz o u)->H' a=⇑(.frz o u)
 out:∀b∈as,b∉bs->∀ob,H b=⇑ob->H' b=⇑ob
def Kx.kp{H':Hp}{as bs cs:List Addr}(k:Kx H H' as bs)(h:∀b∈cs,b∈as/\b∉bs):Kp H H' cs:=#[k.tup,k.frz,λa ha=>k.out a (h a ha).1 (h a ha).2]
def RepA.hole:∀{n:Nat} {ds:List D} {xs:List V} {as:List Addr} {dn:D},RepA K H false ds xs as->as.Nodup->ds[n]?=⇑dn->∃x bs,xs[n]?=⇑x/\RepL K H false dn x bs/\bs.Nodup/\(∀b∈bs,b∈as) /\
  ∀ (H':Hp) (xh:D) (bp:List Addr),Kx H H' as bs->RepL K H' false xh x bp->bp.Nodup->(∀b∈as,b∉bs->b∉bp)->∃fg,RepA K H' false (ds.set n xh) xs fg/\fg.Nodup/\∀b∈fg,(b∈as/\b∉bs)\/b∈bp:=by
 intro n ds
 induction ds generalizing n with
 | nil=>intro xs as dn _ _ e;simp at e
 | cons d ds ih=>
  intro xs as dn h nd e;cases n with
  | zero=>
   have e:d=dn:= ~~~e
   subst e;unfold RepA at h;obtain⟨x,r,bs,es,rfl,rfl,h1,h2⟩:=h;rw[Xa]at nd;refine#[x,bs,rfl,h1,nd.1,λb hb=>_ac _ hb,λH' xh bp kx r' oe hd=>?_];have he:∀b∈es,b∈bs++es/\b∉bs:=λb hb=>#[_ab _ hb,λz=>nd.2.2 b z b hb rfl]
   refine#[bp++es,?_,?_,λb hb=>?_]
   ·rw[List.set_cons_zero];unfold RepA;exact#[x,r,bp,es,rfl,rfl,r',h2.kp (kx.kp he)]
   ·rw[Xa];refine#[oe,nd.2.1,λa ha b hb mz=>?_];subst mz;exact hd a (he a hb).1 (he a hb).2 ha
   ·rcases aA hb with z|z
    ·exact .inr z
    ·exact .inl (he b z)
  | succ n=>
   unfold RepA at h;obtain⟨x,r,bs,es,rfl,rfl,h1,h2⟩:=h;rw[Xa]at nd;obtain⟨y,fs,q1,q2,q3,q4,q5⟩:=ih (n:=n) h2 nd.2.1 (~~~e);have hb:∀b∈bs,b∈bs++es/\b∉fs:=λb hb=>#[_ac _ hb,λz=>nd.2.2 b hb b (q4 b z) rfl]
   refine#[y,fs,~~~q1,q2,q3,λb hb=>_ab _ (q4 b hb),λH' xh bp kx r' oe hd=>?_];obtain⟨fg,a1,a2,a3⟩:=q5 H' xh bp #[kx.tup,kx.frz,λb hb=>kx.out b (_ab _ hb)] r' oe (λb hb=>hd b (_ab _ hb));refine#[bs++fg,?_,?_,λb hb2=>?_]
   ·rw[List.set_cons_succ];unfold RepA;exact#[x,r,bs,fg,rfl,rfl,h1.kp (kx.kp hb),a1]
   ·rw[Xa];refine#[nd.1,a2,λa ha b hb2 mz=>?_];subst mz;rcases a3 a hb2 with z|z
    ·exact nd.2.2 a ha a z.1 rfl
    ·exact hd a (hb a ha).1 (hb a ha).2 z
   ·rcases aA hb2 with z|z
    ·exact .inl (hb b z)
    ·exact(a3 b z).imp (λz=>#[_ab _ z.1,z.2]) id
#where in
def RepL.hole:∀{p:List Nat} {d d1:D} {v:V} {as:List Addr},RepL K H false d v as->as.Nodup->D.at p d=⇑d1->∃v1 ik,PV K H p d v v1/\RepL K H false d1 v1 ik/\ik.Nodup/\(∀b∈ik,b∈as) /\
  ∀ (H':Hp) (d':D) (bp:List Addr),Kx H H' as ik->RepL K H' false d' v1 bp->bp.Nodup->(∀b∈as,b∉ik->b∉bp)->∃fg,RepL K H' false (D.put d' p d) v fg/\fg.Nodup/\∀b∈fg,(b∈as/\b∉ik)\/b∈bp:=by
 intro p
 induction p with
 | nil=>
  intro d d1 v as h nd e;cases _aa (show ⇑d=⇑d1 from e);exact#[v,as,rfl,h,nd,λ_ h=>h,λH' d' bp kx r' oe hd=>#[bp,r',oe,λb hb=>.inr hb]]
 | cons n p ih=>
  intro d d1 v as h nd e;cases d<;>first|(cases e;done)|skip
  ·rename_i ds;unfold D.at at e;cases hn:ds[n]? with
   | none=>rw[hn]at e;cases e
   | some dn=>
    rw[hn]at e;unfold RepL at h;obtain⟨a,xs,e1,sq,ra⟩:=h;obtain⟨x,bs,q1,q2,q3,q4,q5⟩:=RepA.hole ra nd hn;obtain⟨v1,ik,p1,p2,p3,p4,p5⟩:=ih q2 q3 e;refine#[v1,ik,#[a,xs,x,dn,e1,sq,q1,#[hn,ra.len.symm],p1],p2,p3,λb hb=>q4 b (p4 b hb),λH' d' bp kx r' oe hd=>?_];obtain⟨cs,c1,c2,c3⟩:=p5 H' d' bp #[kx.tup,kx.frz,λb hb=>kx.out b (q4 b hb)] r' oe (λb hb=>hd b (q4 b hb));obtain⟨fg,a1,a2,a3⟩:=q5 H' _ cs #[kx.tup,kx.frz,λb hb hn=>kx.out b hb λz=>hn (p4 b z)] c1 c2 (λb hb hn z=>by
     rcases c3 b z with z|z
     ·exact hn z.1
     ·exact hd b hb (λz=>hn (p4 b z)) z)
    refine#[fg,?_,a2,λb hb=>?_]
    ·unfold D.put;rw[hn];dsimp only;unfold RepL;exact#[a,xs,e1,Kp.tupT (as:=[]) #[kx.tup,kx.frz,nofun] sq,a1]
    ·rcases a3 b hb with z|z
     ·exact .inl #[z.1,λy=>z.2 (p4 b y)]
     ·exact(c3 b z).imp (λz=>#[q4 b z.1,z.2]) id
  ·rename_i ds;unfold D.at at e;cases hn:ds[n]? with
   | none=>rw[hn]at e;cases e
   | some dn=>
    rw[hn]at e;unfold RepL at h;obtain⟨a,xs,fs,e1,ra,sq⟩:=h;rcases sq with⟨sq,rfl⟩|⟨z,_⟩
    rotate_left
    ·cases z
    rw[Yn]at nd;obtain⟨x,bs,q1,q2,q3,q4,q5⟩:=RepA.hole ra nd.2 hn;obtain⟨v1,ik,p1,p2,p3,p4,p5⟩:=ih q2 q3 e;have ha1:a∉ik:=λz=>nd.1 (q4 a (p4 a z))
    refine#[v1,ik,#[a,xs,x,dn,e1,sq,q1,#[hn,ra.len.symm],p1],p2,p3,λb hb=>_ad _ (q4 b (p4 b hb)),λH' d' bp kx r' oe hd=>?_];obtain⟨cs,c1,c2,c3⟩:=p5 H' d' bp #[kx.tup,kx.frz,λb hb=>kx.out b (_ad _ (q4 b hb))] r' oe (λb hb=>hd b (_ad _ (q4 b hb)));obtain⟨fg,a1,a2,a3⟩:=q5 H' _ cs #[kx.tup,kx.frz,λb hb hn=>kx.out b (_ad _ hb) λz=>hn (p4 b z)] c1 c2 (λb hb hn z=>by
     rcases c3 b z with z|z
     ·exact hn z.1
     ·exact hd b (_ad _ hb) (λz=>hn (p4 b z)) z)
    have h3:∀b∈fg,(b∈fs/\b∉ik)\/b∈bp:=λb hb=>by
     rcases a3 b hb with z|z
     ·exact .inl #[z.1,λy=>z.2 (p4 b y)]
     ·exact(c3 b z).imp (λz=>#[q4 b z.1,z.2]) id
    refine#[a::fg,?_,List.nodup_cons.mpr #[λz=>?_,a2],λb hb=>?_]
    ·unfold D.put;rw[hn];dsimp only;unfold RepL;exact#[a,xs,fg,e1,a1,.inl #[kx.out a X5 ha1 _ sq,rfl]]
    ·rcases h3 a z with z|z
     ·exact nd.1 z.1
     ·exact hd a X5 ha1 z
    ·rcases aD hb with rfl|hb
     ·exact .inl #[X5,ha1]
     ·exact(h3 b hb).imp (λz=>#[_ad _ z.1,z.2]) id
def zV{y:Sl}(h:y.o=.dp):y.own=y.as:=by unfold Sl.own;rw[h]
def World.hole{L:Ls}{y:Sl}{p:List Nat}{d1:D}(w:World K H (⇑y::L))(ho:y.o=.dp)(h:D.at p y.d=⇑d1):∃y1:Sl,y1.o=.dp/\y1.d=d1/\PV K H p y.d y.v y1.v/\World K H (⇑y1::L) /\
  ∀ (He:Hp) (Le:Ls) (z:Sl),World K He (⇑z::Le)->Step H (⇑y1::L) He (⇑z::Le)->z.o=.dp->z.v=y1.v->∃y':Sl,y'.o=.dp/\y'.d=D.put z.d p y.d/\y'.v=y.v/\World K He (⇑y'::Le)/\Step H (⇑y::L) He (⇑y'::Le):=by
 have ok:RepL K H false y.d y.v y.as:=by
  have:=w.ok y X5;unfold Sl.ok at this;rw[ho]at this;exact this
 have nd:=w.nd;rw [k3,zV ho,Xa]at nd;have ds:=w.ds;obtain⟨v1,ik,p1,p2,p3,p4,p5⟩:=RepL.hole ok nd.1 h;have al:∀b∈y.as,H b≠none:=λb hb z=>by
  rcases w.own_al (a:=b) (by rw[k3,zV ho];exact _ac _ hb)with⟨_,q⟩|⟨_,q⟩|⟨_,q⟩<;>· rw[z]at q;cases q
 refine#[#[.dp,d1,v1,ik],rfl,rfl,p1,#[λx hx=>?_,?_,λa ha=>?_],λHe Le z wz st zo zv=>?_]
 ·rcases aD hx with e|hx
  ·cases e;exact p2
  ·exact w.ok x (_ad _ hx)
 ·rw[k3,Xa];exact#[p3,nd.2.1,λa ha b hb=>nd.2.2 a (p4 a ha) b hb]
 ·have ha2:a∈jv (⇑y::L):=by
   rw[k3]at ha ⊢;rcases aA ha with ha|ha
   ·exact _ac _ (by rw[zV ho];exact p4 a ha)
   ·exact _ab _ ha
  have:=ds a ha2;rw[vY]at this ⊢;intro q;rcases aA q with q|q
  ·cases q
  ·exact this (_ab _ q)
 ·have m8:RepL K He false z.d v1 z.as:=by
   have:=wz.ok z X5;unfold Sl.ok at this;rw[zo,zv]at this;exact this
  have ndz:=wz.nd;rw[k3,zV zo,Xa]at ndz;have no1:∀b∈y.as,b∉ik->b∉jv (⇑(#[.dp,d1,v1,ik]:Sl)::L):=λb hb hn q=>by
   rw[k3]at q;rcases aA q with q|q
   ·exact hn q
   ·exact nd.2.2 b hb b q rfl
  have noz:∀b∈y.as,b∉ik->b∉jv (⇑z::Le):=λb hb hn q=>by
   rcases st.own b q with q|q
   ·exact no1 b hb hn q
   ·exact al b hb q
  have nof:∀b∈y.as,b∉ik->b∉jZ Le:=λb hb hn q=>by
   rcases st.frz b (by rw[vY];exact _ab _ q)with q|q|q
   ·rw[vY]at q;rcases aA q with q|q
    ·cases q
    ·exact ds b (by rw[k3,zV ho];exact _ac _ hb) (by rw[vY];exact _ab _ q)
   ·exact no1 b hb hn q
   ·exact al b hb q
  have tupk:∀a xs,H a=⇑(.tup xs)->He a=⇑(.tup xs):=λa xs e=>st.keep a _ e λq=>by
   have q2:a∈jv (⇑y::L):=by
    rw[k3]at q ⊢;exact List.mem_append.mpr ((aA q).imp (λq=>by rw[zV ho];exact p4 a q) id)
   rcases w.own_al q2 with⟨_,q⟩|⟨_,q⟩|⟨_,q⟩<;>· rw[e]at q;cases q
  have frzk:∀a o u,H a=⇑(.frz o u)->He a=⇑(.frz o u):=λa o u e=>st.keep a _ e λq=>by
   have q2:a∈jv (⇑y::L):=by
    rw[k3]at q ⊢;exact List.mem_append.mpr ((aA q).imp (λq=>by rw[zV ho];exact p4 a q) id)
   rcases w.own_al q2 with⟨_,q⟩|⟨_,q⟩|⟨_,q⟩<;>· rw[e]at q;cases q
  obtain⟨fg,a1,a2,a3⟩:=p5 He z.d z.as #[tupk,frzk,λb hb hn ob e=>st.keep b ob e (no1 b hb hn)] m8 ndz.1 (λb hb hn q=>noz b hb hn (by rw[k3,zV zo];exact _ac _ q));have sub:∀b∈jv (⇑z::Le),b∈jv (⇑y::L)\/H b=none:=λb hb=>(st.own b hb).imp (λq=>by
   rw[k3]at q ⊢;exact List.mem_append.mpr ((aA q).imp (λq=>by rw[zV ho];exact p4 b q) id)) id
  refine#[#[.dp,D.put z.d p y.d,y.v,fg],rfl,rfl,rfl,#[λx hx=>?_,?_,λa ha q=>?_],#[λa ob e hn=>st.keep a ob e λq=>hn ?_,λa ha=>?_,λa ha=>?_]]
  ·rcases aD hx with e|hx
   ·cases e;exact a1
   ·exact wz.ok x (_ad _ hx)
  ·rw[k3,Xa];refine#[a2,ndz.2.1,λa ha b hb mz=>?_];subst mz;rcases a3 a ha with q|q
   ·exact noz a q.1 q.2 (by rw[k3];exact _ab _ hb)
   ·exact ndz.2.2 a q a hb rfl
  ·have q:a∈jZ Le:=by
    rw[vY]at q;rcases aA q with q|q
    ·cases q
    ·exact q
   rw[k3]at ha;have fz:a∈jZ (⇑z::Le):=by rw[vY];exact _ab _ q
   rcases aA ha with ha|ha
   ·rcases a3 a ha with r|r
    ·exact nof a r.1 r.2 q
    ·exact wz.ds a (by rw[k3,zV zo];exact _ac _ r) fz
   ·exact wz.ds a (by rw[k3];exact _ab _ ha) fz
  ·rw[k3]at q ⊢;exact List.mem_append.mpr ((aA q).imp (λq=>by rw[zV ho];exact p4 a q) id)
  ·rw[k3]at ha;rcases aA ha with ha|ha
   ·rcases a3 a ha with q|q
    ·exact .inl (by rw[k3,zV ho];exact _ac _ q.1)
    ·exact sub a (by rw[k3,zV zo];exact _ac _ q)
   ·exact sub a (by rw[k3];exact _ab _ ha)
  ·have q:a∈jZ Le:=by
    rw[vY]at ha;rcases aA ha with q|q
    ·cases q
    ·exact q
   rcases st.frz a (by rw[vY];exact _ab _ q)with r|r|r
   ·refine .inl ?_;rw[vY]at r ⊢;rcases aA r with r|r
    ·cases r
    ·exact _ab _ r
   ·refine .inr (.inl ?_);rw[k3]at r ⊢;exact List.mem_append.mpr ((aA r).imp (λq=>by rw[zV ho];exact p4 a q) id)
   ·exact .inr (.inr r)
end
abbrev tP(K:Frag)(i:Nat)(p:List Nat):TE:=fun σ H Q=>∃d v u,σ[i]?=some ⇑v/\PV K H p d v u/\Q u H
def _j7{xs}{n:Nat}{x:V}(h:xs[n]?=⇑x):atI xs n=⇑x:=by
 have e:L2.ixN xs.length n=⇑n:=by
  unfold L2.ixN;simp[((aF h).1)]
 unfold atI
 rwa [e]
section
variable {X:Cx}{Z:Fx0}{pn:List Nat}{q:Bool}{c:Ex}{e ep:Expr}{i:Nat}{p:List Nat}{pos:Pos}
def _j8 K (h:PE X e (wV i)):PE X e (tP K i []):=kY h fun σ H Q hz=>by
 obtain⟨d,v,u,hv,hu,q⟩:=hz;subst hu;exact#[u,hv,q]
def _j9{K z j ay}(n:Nat)(h:PE X e (tP K i p))(bu:_b2 (.Constant (.int z) j ay))(hK:X.K=K<|>Ŕ)(hz:z=n<|>Ŕ):PE X (.Subscript e (.Constant (.int z) j ay) pos) (tP K i (p++[n])):=
 kY (_b3 (hK▸_b8) h _au bu) fun σ H Q hz=>by
  obtain⟨d,v,u,hv,hu,q⟩:=hz;subst hz;obtain⟨d',w,h1,h2⟩:=hu.snoc;obtain⟨a,xs,e1,sq,ex⟩:=h2.one;refine#[d,v,w,hv,h1,?_];rcases sq with sq|sq
  ·exact .inl #[a,xs,n,u,e1,rfl,.inl (.inl sq),_j7 ex,q]
  ·exact .inr (.inl #[a,xs,n,u,e1,rfl,sq,_j7 ex,q])
def _ka{K H L y}(w:World K H L)(h:L[i]?=some ⇑y):World K H (⇑y::L.set i none)/\Step H L H (⇑y::L.set i none):=by
 have wn:World K H (none::L):=#[λy hy=>w.ok y (~~~hy),~~~w.nd,~~~w.ds];have sn:Step H L H (none::L):=#[λ_ _ z _=>z,λa z=>.inl (~~~z),λa z=>.inl (~~~z)];exact#[wn.perm (_eF h),sn.trans (Step.refl.perm (List.Perm.refl _) (_eF h))]
def _kb{H l xs ob}(h:H l=⇑(.lst xs)){as}(hn:l∉as):Kp H (upd H l ob) as:=by
 have ke:∀a o,H a=⇑o->a≠l->upd H l ob a=⇑o:=λa o e ne=>by rw[qx ne];exact e
 refine#[λa xs e=>ke a _ e λz=>?_,λa o u e=>ke a _ e λz=>?_,λa ha o e=>ke a o e λz=>hn (z▸ha)]
 ·grind
 ·grind
#where in
def _kc(hc:QE X Z q c e):QE X Z q (_h1 c) e:=kY hc fun σ H Q ai=>ex8 ai λE L r m w hr xc k=>by
 rcases wv hr with⟨E1,s,h1,h2⟩|⟨E1,cc,h1,h2⟩
 ·refine#[E,L,_,m,w,h1,(λ_ _ z=>by cases z),λE' s' z x L' H' e1 e2 m' w' st sm=>?_];injection z with z1 z2;subst z1 z2
  split at h2
  rotate_left
  ·grind
  rename_i mq;cases _aa h2;have xn:x.own.Nodup:=by
   have:=w'.nd;exact(List.nodup_append.mp this).1
  obtain⟨cs,rx,li,hcn⟩:=_j6 w'.head (by unfold Sl.sd;rw[e1,e2];exact mq) xn;have nd:=w'.nd;rw[k3,Xa]at nd;refine k _ _ rfl #[.dp,x.d,x.v,cs] L' H' rfl e2 m' #[λy hy=>?_,?_,λa ha=>?_] #[st.keep,λa ha=>?_,λa ha=>?_] λhq=>#[(sm hq).1,λb hb=>(sm hq).2 b (li b hb)]
  ·rcases aD hy with z|z
   ·cases z;exact rx
   ·exact w'.ok y (_ad _ z)
  ·rw[k3,Xa];exact#[hcn,nd.2.1,λa ha b hb=>nd.2.2 a (li a ha) b hb]
  ·have ha2:a∈jv (⇑x::L'):=by
    rw[k3]at ha ⊢;exact List.mem_append.mpr ((aA ha).imp (li a) id)
   intro q2;rw[vY]at q2;exact w'.ds a ha2 (_ab _ ((aA q2).elim (nofun) id))
  ·refine st.own a ?_;rw[k3]at ha ⊢;exact List.mem_append.mpr ((aA ha).imp (li a) id)
  ·refine st.frz a ?_;rw[vY]at ha ⊢;exact _ab _ ((aA ha).elim (nofun) id)
 ·exact#[E,L,_,m,w,h1,xc.map h2,λE' s' z=>by cases z]
end
end Q
namespace PySem
section
variable {prog:Program}{w:World}{A:Around}{E:VP9}{s:Shared}
def _kd(h:Heap)(d:Addr)(n:Nat):Prop:=∃o es ep,h.get? d=⇑o/\o.cls=.type "dict"/\o.data=.dict es ep/\es.size=n
def _ke(d)(hd:(d==sysModules)=false):
  MeetsIn prog w (Builtin.«dict.__len__» #[[.ref d],[]]) (λ_ R s=>∃n,_kd s.heap d n/\R (.ok (.ret (.int n s.toks))) {s with toks:=s.toks+1}):=
 .of_wp λA R s hz=>by
  obtain⟨n,⟨o,es,ep,ho,hc,ie,hz⟩,h⟩:=hz;show wpAny _ _ (dictSize d >>= _) _ _ s;refine X0 (X0 (wpAny_dictEntries ho ie (X6 (X0 (wpAny_pendingCount_other hd (wpAny_ret_mkInt ?_))))));rw[hz];exact h
def _kf{d n}{Q:VP9}(hd:(d==sysModules)=false)(hm:_kd s.heap d n)(og:(n:Int)<2 ^ 63)
  (h:Q (.int n (s.toks+1)) {s with toks:=s.toks+1+1}):wpAny (model prog w) A (Builtin.«len» #[[.ref d],[]]) (λfin s'=>∃r,fin=.done (.ret r)/\Q r s') E s:=by
 have ht:s.TypeIs (.ref d) "dict":=by obtain⟨o,es,ep,ho,hc,_⟩:=hm;exact#[o,ho,hc]
 refine X0 (m:=callSpecial? _ _) (Yf ht F.slot_dict_len
  (call_meetsIn F.slot_dict_len ht F.entry_dict_len (F.args_dict_len_1 _) (_ke d hd) #[n,hm,?_]))
 show wpAny _ _ (if _>=2 ^ 63 then _ else _) _ _ _;rw[Xj ⋯];exact X0 (wpAny_mkInt (X6 #[_,rfl,h]))
def _kg{d n Q}(hd:(d==sysModules)=false)(hm:_kd s.heap d n)(og:(n:Int)<2 ^ 63)
  (h:Q (.int n (s.toks+1)) {s with toks:=s.toks+1+1}):wpAny (model prog w) A (call (.builtin "len") [.ref d]) Q E s:=
 Calls.call_function_entry kind_len plain_len entry_len (args_len1 _) (_kf hd hm og h)
end
end PySem
namespace Q
open PySem PySem.Spec PyProof.Rows L2 L3
def _kh {K H k}: ∀{kvs xs bs} {es : List Ent},RepP K H true kvs xs bs -> kvs.map (·.1) = es.map (·.1.1) -> Vals xs (es.map (·.2.2)) -> D.pures (kvs.map (·.2)) = true ->
    (∀ p,atKey es k = ⇑p -> ∃d v,xZ kvs k.1 = ⇑d /\ RelV v p.2 /\ RepL K H false d v [] /\ d.pure = true) /\ (atKey es k = none -> xZ kvs k.1 = none)
  | [],_,_,[],_,_,_,_=>#[λp h=>(by cases h),λ_=>rfl]| [],_,_,_::_,_,h,_,_=>by cases h| _ :: _,_,_,[],_,h,_,_=>by cases h
  | (q,d)::kvs,xs,bs,e::es,hr,hk,hv,hp=>by
    obtain⟨x,r,b1,c1,rfl,_,h1,h2⟩:= hr;injection hk with k1 k2;rw [List.map_cons]at hv hp;cases hv with
    | cons v1 v2=>
      unfold D.pures at hp;rw [Bool.and_eq_true]at hp;have k1 : q = e.1.1:= k1
      by_cases he : e.1 = k
      · have hq : q = k.1:= by rw[k1,he]
        have hg : xZ ((q,d)::kvs) k.1 = ⇑d:= by unfold xZ; rw[List.find?_cons_of_pos (by simp[hq])]; rfl
        have ha : atKey (e::es) k = ⇑e.2:= by
          obtain⟨ek,ev⟩:= e;have he : ek = k:= he;simp[atKey,he]
        refine#[λp lx=> ?_,λhn=> ?_]
        · rw[ha]at lx
          cases _aa lx;exact#[d,x,hg,v1,(RepL.pu (g':= false) h1 hp.1).2,hp.1]
        · grind
      · have hq : q≠k.1:= λz=>he (Subtype.ext (k1▸z))
        have hg : xZ ((q,d)::kvs) k.1 = xZ kvs k.1:= by unfold xZ; rw[List.find?_cons_of_neg (by simp[hq])]
        have ha : atKey (e::es) k = atKey es k:= by
          simp[atKey,he]
        rw[hg,ha];exact(_kh h2 k2 v2 hp.2)
#where in
def _ki{P w K mg mb CX k fa a fd x sp s₁ vs}{ns}
  (KX:K.In s₁.heap) (hns:s₁.heap.Ns mainGlobals mg) (hb:s₁.heap.Ns builtinsNs mb) (hbb:∀x:Str,x≠"__name__"->mb x=bootBuiltins x) (hlim:s₁.heap.NoLimit) (hg:s₁.gens=(List.toArray []))
  (ha:s₁.heap.get? a=some {cls:=.type "list",data:=.seq vs.toArray}) (hi:IntsAre vs ns) (hl:ns.length<=sizeLine) (hr:Room k callerA)
  (F:∀base,K.In base->base.Ns mainGlobals mg->FnOk P w K mg base CX k fa fd [x] sp) (uj:∀s u,BindsTo s fd #[[u],[]] [(x,u)])
  (ng:∀H,_ct H->LsR K H a (ns.map V.int)->sp [.ref a] H (λv _=>v=.bl true) λ_ _ _=>False)
  (hCX:∀H e s',CX [] H s₁ (λ_ _ _=>False) e s'->False):
  codeAny (model P w) callerA (.call (.ref fa) #[[.ref a],[]]) (λr s'=>r=.ok (.ret (.bool true))/\OldK s₁.heap s'.heap/\s'.os=s₁.os/\AllBare s'.gens) s₁:=by
 have rv:=_if hi;have vh:∀H,_ct H->LsR K H a (ns.map V.int)->HOk P w H s₁.heap->(∀b,H b≠none->b=a)->(H a≠none->K.lookup a=none) ->
   codeAny (model P w) callerA (.call (.ref fa) #[[.ref a],[]]) (λr s'=>r=.ok (.ret (.bool true))/\OldK s₁.heap s'.heap/\s'.os=s₁.os/\AllBare s'.gens) s₁:=by
  intro H hO hS hok hA hK;have jy:∀{b o},s₁.heap.get? b=⇑o->H b=none->(Wx s₁.heap H).get? b=⇑o:=λe n=>_ao e n
  have wg:∀{b o es ep},s₁.heap.get? b=⇑o->o.data=.dict es ep->H b=none:=fun {b o es ep} e d=>by
   cases q:H b with| none=>rfl| some u=>grind
  have nsK:∀{b m},s₁.heap.Ns b m->(Wx s₁.heap H).Ns b m:=fun {b m} ⟨o,es,ep,e,d,r⟩=>#[o,es,ep,jy e (wg e d),d,r]
  have hKb:=λb o e=>jy (KX b o e) (by
   cases q:H b with
   | none=>rfl
   | some u=>
    have e':=hA b (by rw[q];simp);subst e';rw[hK ⋯]at e;cases e)
  have hM:Mod K mg (Wx s₁.heap H):=#[hKb,nsK hns,#[mb,nsK hb,hbb],let ⟨mc,h1,h2⟩:=hlim;#[mc,nsK h1,h2]];have e0:Env0 P w K mg _ callerA [] s₁ H:=#[rfl,hM,λb o e=>_ap e,Nat.le_of_eq (_an _ _),trivial,λb hb=>absurd (show b∈([]:List Addr)from hb) (by simp),hok,.of_eq hg];refine codeAny_mono ((F _ hKb (nsK hns)).run callerA [] s₁ H _ [.ref a] [.ref a] _ _ hr e0 (uj s₁ _) (.cons rfl .nil) (ng H hO hS)) λr s' h=>?_
  cases r with
  | error e=>exact(hCX H e s' h).elim
  | ok fl=>
   cases fl with
   | next=>exact False.elim h| brk=>exact False.elim h| cont=>exact False.elim h
   | ret u=>
    obtain⟨v,H',os,bare,un,hok',r',q⟩:=h;subst q;obtain rfl:u=Value.bool true:=r';refine#[rfl,OldK.of_keep λb o e=>?_,os,bare];cases q:H b with
    | none=>exact un.keep b o e q (by intro z;exact absurd (show b∈([]:List Addr)from z) (by simp)) (by simp)
    | some u=>
     rcases hO b with z|⟨ob,xs,z⟩
     ·grind
     ·have z2:=un.frzs b ob _ z;obtain⟨e1,_⟩:=hok b _ z;obtain⟨e2,_⟩:=hok' b _ z2
      grind
 cases hk:K.lookup a with
 | some o=>
  have e:=KX a o hk;rw[ha]at e;cases e;refine vh (λ_=>none) (λ_=>.inl rfl) (.inr #[vs.toArray,_,hk,by rw[X8,hi.length];exact hl,~~~rv]) (λb u z=>by have z':(none)=⇑u:=z;cases z') (λb z=>absurd rfl z) λz=>absurd rfl z
 | none=>
  refine vh (λb=>if b=a then ⇑(.frz {cls:=.type "list",data:=.seq vs.toArray} (.lst (ns.map V.int)))else none) (λb=>?_) (.inl (.inr #[{cls:=.type "list",data:=.seq vs.toArray},Xb rfl])) (λb u z=>?_) (λb z=>?_) λ_=>hk
  ·by_cases hb:b=a
   ·exact .inr #[_,_,Xb hb]
   ·exact .inl (Xj hb)
  ·by_cases hb:b=a
   ·have z':=(Xb hb).symm.trans z;cases z';subst hb;exact#[ha,by rw[X4];exact hl,vs,_,rv,ha]
   ·have z':=(Xj hb).symm.trans z;cases z'
  ·by_cases hb:b=a
   ·exact hb
   ·exact absurd (Xj hb) z
@[elab_as_elim] theorem len1 {P:List Value->Prop} us (e:us.length=1)(h:∀a,P [a]):P us:=by
 cases us with|nil=>cases e|cons a us=>cases List.eq_nil_of_length_eq_zero (Nat.succ.inj e);exact h a
@[elab_as_elim] theorem len2 {P:List Value->Prop} us (e:us.length=2)(h:∀a b,P [a,b]):P us:=by
 cases us with|nil=>cases e|cons a us=>exact len1 us (Nat.succ.inj e) λb=>h a b
@[elab_as_elim] theorem len3 {P:List Value->Prop} us (e:us.length=3)(h:∀a b c,P [a,b,c]):P us:=by
 cases us with|nil=>cases e|cons a us=>exact len2 us (Nat.succ.inj e) λb c=>h a b c
@[elab_as_elim] theorem len4 {P:List Value->Prop} us (e:us.length=4)(h:∀a b c d,P [a,b,c,d]):P us:=by
 cases us with|nil=>cases e|cons a us=>exact len3 us (Nat.succ.inj e) λb c d=>h a b c d
@[elab_as_elim] theorem len5 {P:List Value->Prop} us (e:us.length=5)(h:∀a b c d f,P [a,b,c,d,f]):P us:=by
 cases us with|nil=>cases e|cons a us=>exact len4 us (Nat.succ.inj e) λb c d f=>h a b c d f
@[elab_as_elim] theorem len6 {P:List Value->Prop}(us:List Value)(e:us.length=6)(h:∀a b c d f g,P [a,b,c,d,f,g]):P us:=by
 cases us with|nil=>cases e|cons a us=>exact len5 (P:=λl=>P (a::l)) us (Nat.succ.inj e) λb c d f g=>h a b c d f g
def _kj{K H g}:∀(ns:List Int),RepA K H g (ns.map D.int) (ns.map V.int) []
 |[]=>#[rfl,rfl]
 |n::ns=>by
  unfold RepA;exact#[_,_,[],[],rfl,rfl,vw,_kj ns]
def _kk{K mg f H a}{ns:List Int}(h:∃E o,f [(.no,.lst (ns.map D.int))]=⇑(.ok E (o,.bl true)))(hs:LsR K H a (ns.map V.int))(hO:_ct H):
  spF K mg 1 f [.ref a] H (λv _=>v=.bl true) λ_ _ _=>False:=by
 obtain⟨E,o,h⟩:=h;have jc:∃as,RepL K H true (.lst (ns.map D.int)) (.ref a) as/\(∀b∈as,False):=by
  rcases hs with(hs|⟨ob,hs⟩)|hs
  ·rcases hO a with z|⟨_,_,z⟩<;>(rw[hs]at z;cases z)
  ·exact#[[],(#[a,ns.map V.int,[],rfl,_kj ns,.inr #[rfl,.inl #[ob,hs],rfl]]),nofun]
  ·exact#[[],(#[a,ns.map V.int,[],rfl,_kj ns,.inr #[rfl,.inr hs,rfl]]),nofun]
 obtain⟨as,r,hn⟩:=jc;refine#[[#[.no,.lst _,.ref a,as]],_,rfl,rfl,?_,h,(λE' c z=>by cases z),λE' s z x H' e1 e2 w' st=>?_]
 ·exact#[λx hx=>by rw[_aa (aC hx)];exact r,by simp[Sl.own],λb hb=>by simp[Sl.own]at hb]
 ·injection z with z1 z2;subst z2;exact Q0 w'.head e2
section
open PySem.W PySem.Calls
def walkQ{l:OpenLaw}{n k q qW XP YP d}{K:Params->Frag}{f}{x}
  (hn:l.most=⇑n) (nj:n<=sizeLine) (hdf:d.params.defaults=[]) (hr:Room k callerA)
  (hY:∀w (h),YP w h->(K w.params).In h)
  (F:∀w (mg) (fa) (h),(K w.params).In h->h.Ns mainGlobals mg->mg d.name=⇑(.ref fa) ->
   ∃fd,(∀s (u),BindsTo s fd #[[u],[]] [(x,u)])/\∀base,(K w.params).In base->base.Ns mainGlobals mg->FnOk l.prog w (K w.params) mg base (CXE l.prog w) k fa fd [x] (spF (K w.params) mg 1 f))
  (ng:∀(ns:List Int),ns.length<=n->(∀i∈ns,Builtin.Int.intBits i<=1048576)->∃E o,f [(.no,.lst (ns.map D.int))]=⇑(.ok E (o,.bl true))):
  WalkO q qW XP YP l.row.toRowW d [] (λf vs=>PySem.call f vs):=by
 intro w s0 s1 mg mb G Y fa o pm cd gq dV kV ho hd iq hD hmg hg args cz as nt hlay hrd sy hlo;obtain⟨a,vs,ns,rfl,rfl,hobj,xa,ae⟩:=Att.script_of hn nt sy;have KX:=hY w _ Y;obtain⟨fd,hb,hF⟩:=F w mg fa _ KX G.T.g hmg;refine enter_call (codeAny_mono (_ki KX G.T.g G.T.b G.T.builtins G.T.nolimit hg hobj xa (Yd ae nj) hr hF hb (λH hO hS=>_kk (ng ns ae (_dH hlay)) hS hO) (λ_ _ _ h=>by obtain⟨_,_,_,_,_,_,_,_,_,_,_,_,_,_,_,z⟩:=h;exact z)) λr s' hq=>?_);obtain⟨rfl,h2,h3,h4⟩:=hq;exact#[.inl #[.bool true,.bool true,[],rfl,λ_=>rfl,.bool true,Att.post_true l _,λ_=>#[List.Pairwise.nil,λ_ hm=>(nomatch hm)]],h2,h3,h4]
end
def _kl:Nat->(List Value->Prop)->Prop
 |0,p=>p []|n+1,p=>∀a,_kl n λus=>p (a::us)
@[elab_as_elim] theorem allN {p:List Value->Prop} us {n}(e:us.length=n)(h:_kl n p):p us:=by
 induction us generalizing n p with|nil=>subst e;exact h|cons a us ih=>subst e;exact ih (p:=λus=>p (a::us)) rfl (h a)
section
variable {P:Program}{w:PySem.World}{K:Frag}{mg:Str->Option Value}{base h:Heap}{x:Str}{st:Stmt}{ps:List Str}{k:Nat}{sp:Sp}
def Gf(K:Frag)(x:Str)(st:Stmt):Prop:=∃(f:Addr) (oc:Value) (od:Option Addr) (kV dc pm:Value) (an:Option Addr) (cd ct:Value) (sl:Array (Option Value)),nsIn K mainGlobals x=some ⇑(.ref f)/\K.lookup f=⇑#[oc,od,.func (PySem.W.fnOf x x (xx st) (zK st) (jW st) .none kV dc pm an cd ct),sl]/\PySem.W.codeIn K cd x=true/\PySem.W.keepIn K (.ref f)=true
def Gf.mk{f oc od kV dc pm an cd ct sl}(a:nsIn K mainGlobals x=some ⇑(.ref f))(l:K.lookup f=⇑#[oc,od,.func (PySem.W.fnOf x x (xx st) (zK st) (jW st) .none kV dc pm an cd ct),sl])(c:PySem.W.codeIn K cd x=true)(k:PySem.W.keepIn K (.ref f)=true):Gf K x st:=#[f,oc,od,kV,dc,pm,an,cd,ct,sl,a,l,c,k]
def Gf.d(g:Gf K x st)(X:K.In h)(G:h.Ns mainGlobals mg)(ok:∀{f fd},Fun K x x st f fd->FnOk P w K mg base (CXE P w) k f fd ps sp)
  (hb:∀kV gq pm an (ce ct) us,us.length=ps.length->bindArgs (PySem.W.fnOf x x (xx st) (zK st) (jW st) .none kV gq pm an ce ct) #[us,[]]=pure (ps.zip us):=by
   intro _ _ _ _ _ _ us hl;refine allN us hl ?_
   repeat intro _
   exact rfl):k7 P w K mg base k x ps sp:=by
 obtain⟨f,oc,od,kV,dc,pm,an,cd,ct,sl,a,l,c,kp⟩:=g;exact#[f,_,ok (_cu l c kp),(_cu l c kp).binds hb,kp,PySem.W.mg_of X G a]
def Gf.law{fa y}(g:Gf K "law" st)(X:K.In h)(G:h.Ns mainGlobals mg)(hfa:mg "law"=⇑(.ref fa))(ok:∀{base f fd},Fun K "law" "law" st f fd->FnOk P w K mg base (CXE P w) k f fd [y] sp)
  (hb:∀kV gq pm an (ce ct) s v,BindsTo s (PySem.W.fnOf "law" "law" (xx st) (zK st) (jW st) .none kV gq pm an ce ct) #[[v],[]] [(y,v)]:=by
   intros
   exact .of_eq rfl):
  ∃fd,(∀s v,BindsTo s fd #[[v],[]] [(y,v)])/\∀base,K.In base->base.Ns mainGlobals mg->FnOk P w K mg base (CXE P w) k fa fd [y] sp:=by
 obtain⟨f,oc,od,kV,dc,pm,an,cd,ct,sl,a,l,c,kp⟩:=g;have e:=hfa.symm.trans (PySem.W.mg_of X G a);cases e;exact#[_,hb kV dc pm an cd ct,λbase _ _=>ok (_cu l c kp)]
end
end Q
namespace Q
open PySem L2
def mkS{N P sc}(h1:sc.kind=.function<|>Ŕ)(h2:sc.isCoroutine=false<|>Ŕ)(h3:sc.isGenerator=false<|>Ŕ)(h4:N.Nodup<|>ŗ)(h5:N.take P.length=P<|>Ŕ)(h6:(∀x∈P,sc.names.lookup x=⇑.local\/sc.names.lookup x=⇑.cell)<|>ŗ)(h7:(∀y∈sc.names,y.2≠.free)<|>ŗ):FnScope N P sc:=#[h1,h2,h3,h4,h5,h6,h7]
end Q
namespace Q
open PySem PySem.Spec PyProof.Rows L2 L3
section
variable {X:Cx}{Z:Fx0}{pn:List Nat}{q qa:Bool}{a b c:Ex}{e ea eb:Expr}{pos p:Pos}
def kI{z j}:QE X Z true (cC (.int z)) (.Constant (.int z) j p):=q_C _au λ_=>vw
def ki{z j}:QV X Z true (vE (cC (.int z))) (.Constant (.int z) j p):=j7 kI
def kN{j}:QE X Z true (cC .non) (.Constant .none j p):=q_C _aw λ_=>_eL
def kn{j}:QV X Z true (vE (cC .non)) (.Constant .none j p):=j7 kN
def kS{z j}(h:(z.length<=sizeLine)<|>ŕ):QE X Z true (cC (.str z)) (.Constant (.str z) j p):=q_C _ax λ_=>ZK h
def ks{z j}(h:(z.length<=sizeLine)<|>ŕ):QV X Z true (vE (cC (.str z))) (.Constant (.str z) j p):=j7 (kS h)
def vv i {x}(hN:X.N[i]?=⇑x<|>Ŕ)(hv:Vis X.env.scope x<|>ř)(hd:Abd x<|>ŕ)
  (iq:(x==("__classdict__":Str))=false<|>ŕ):QV X Z true (vV i) (.Name x pos):=q_vV (pv i hN hv hd iq)
def cv i {x}(hN:X.N[i]?=⇑x<|>Ŕ)(hv:Vis X.env.scope x<|>ř)(hd:Abd x<|>ŕ)
  (iq:(x==("__classdict__":Str))=false<|>ŕ):QE X Z true (cV i) (.Name x pos):=q_V (pv i hN hv hd iq)
def kx(ha:QV X Z qa a ea)(hb:QV X Z true b eb)(hs:_b2 eb:=by exact λ_ _=>rfl)(hK:X.K=Z.K<|>Ŕ):QV X Z qa (j9 a b) (.Subscript ea eb pos):=q_ix ha hb hs hK
def qA{i y ay}(hN:X.N.Nodup)(h:QE X Z q a ea)(hi:X.N[i]?=⇑y<|>Ŕ)(hx:Loc X.env.scope y<|>Ś)(hp:i∉pn<|>ŕ)(hs:swapsWith ea ⇑(.Name y ay) pos.line X.env=pure false<|>Ŕ)(hf:X.fn y=true\/X.env.scope.names.lookup y=⇑.local<|>Ř):
  QS X Z pn (jw i a) (.Assign [.Name y ay] ea pos):=_e6 hN hi hx h hp hs hf
def gn{i x}(hN:X.N.Nodup)(hi:X.N[i]?=⇑x<|>Ŕ)(hx:Loc X.env.scope x<|>Ś)(hf:X.fn x=true\/X.env.scope.names.lookup x=⇑.local<|>Ř):PG X (.Name x pos) (V3 i):=_aR hN hi hx hf
def gN{i x}(hN:X.N.Nodup)(hi:X.N[i]?=⇑x<|>Ŕ)(hx:Loc X.env.scope x<|>Ś)(hf:X.fn x=true\/X.env.scope.names.lookup x=⇑.local<|>Ř)(hp:i∉pn<|>ŕ):QG X Z pn (.n i) (.Name x pos):=_fd (_aR hN hi hx hf) hp
def qC{k m n x ps f cs es}(D:k7 X.prog X.w X.K X.mg X.base k x ps (spF Z.K Z.mg n f))(hr:Room m X.A)(ha:QA X Z q cs (e::es))(g:xW X Z.EX:=by exact J4)(gl:(k<=m)<|>ŕ)(hn:cs.length=n<|>Ŕ)(hg:Gl X x<|>Ŕ)(fu:Abd x<|>ŕ)
  (he:Abs e es X<|>Ŕ) (bu:Abb pos es X<|>Ŕ):
  QE X Z q (jx f cs) (.Call (.Name x p) (e::es) [] pos):=_gd D (hr.mono gl) g ha hn hg fu he bu
def qF{tg ao ss it t B}(hi:QI X Z q tg it ao)(hg:QG X Z pn t tg)(hb:QSs X Z pn B ss)(hp:PassesOwn (model X.prog X.w) X.A X.env X.xe:=by exact _dW #[_,_,rfl,rfl])(hc:X.calm=true<|>Ŕ)(hs:(∀x,foldedSetIterable ao X.env x=pure x)<|>Ŗ):QS X Z pn (kQ it t B) (.For tg ao ss [] pos):=_fn hp hc hi hg hb hs
def oA(ha:QV X Z qa a ea)(hb:QV X Z true b eb)(hK:X.K=Z.K<|>Ŕ):QE X Z qa (cF2 kq a b) (.BinOp ea .Add eb pos):=Vq (_eV hK) _eX ha hb
def oX(ha:QV X Z qa a ea)(hb:QV X Z true b eb)(hK:X.K=Z.K<|>Ŕ):QE X Z qa (cF2 J3 a b) (.BinOp ea .Mult eb pos):=Vq (_iv hK) _iw ha hb
def oM(ha:QV X Z qa a ea)(hb:QV X Z true b eb):QE X Z qa (cF2 (pu2 v7) a b) (.BinOp ea .Mod eb pos):=Vq _be _eR ha hb
def qP{i x apos af xp}(h:QE X Z q c e)(hN:X.N[i]?=⇑x<|>Ŕ)(hv:Vis X.env.scope x<|>ř)(hd:Abd x<|>ŕ)
  (iq:(x==("__classdict__":Str))=false<|>ŕ) (df:attributeBase (.Name x xp) "append" X.env (eval (.Name x xp) X.env)=eval (.Name x xp) X.env<|>Ŕ)
  (fw:autoParam (((backTo af (starEach [e] X.env)).all (λx=>!x.1)&&(backToKw af (keywordEach [] X.env)).all (λx=>x.1.isSome)
   && decide ([e].length+([]:List Keyword).length+(if([]:List Keyword).isEmpty then 0 else 1)<30))=true) Ŕ)
  (db:Abe apos af<|>Ŕ) (hs:Abs e [] X<|>Ŕ) (bm:Abb af [] X<|>Ŕ) (hK:X.K=Z.K<|>Ŕ)
  (um:swapsWith (.Call (.Attribute (.Name x xp) "append" apos) [e] [] af) none pos.line X.env=pure false<|>Ŕ):
  QS X Z pn (v4 v3 i c) (.Expr (.Call (.Attribute (.Name x xp) "append" apos) [e] [] af) pos):=_gN (_dw Z.K PySem.F.plainAttrs_list PySem.F.slot_list_append PySem.F.type_list_append _co (pv i hN hv hd iq) (wj h wY hs) df fw db hs bm hK) um
def qL(ha:QV X Z q a ea)(hm:X.mg "len"=none)(hK:X.K=Z.K<|>Ŕ)(hg:Gl X "len"<|>Ŕ)(he:Abs ea [] X<|>Ŕ)(bu:Abb pos [] X<|>Ŕ):QE X Z q (cF1 (pu1 kW) a) (.Call (.Name "len" p) [ea] [] pos):=_hc (hK▸_dt X.K) _hd ha hm _dx hg ⋯ ⋯ he bu
def qT(ha:QV X Z q a ea)(hm:X.mg "tuple"=none)(hK:X.K=Z.K<|>Ŕ)(hg:Gl X "tuple"<|>Ŕ)(he:Abs ea [] X<|>Ŕ)(bu:Abb pos [] X<|>Ŕ):QE X Z q (cF1 z7 a) (.Call (.Name "tuple" p) [ea] [] pos):=Q3 (_hk hK) _hl ha hm _dE hg ⋯ ⋯ he bu
variable {ao fk tg:Expr}{fc:List Expr}{scope:Scope}{it:Ev (List D)}{tt:Tg}{u:Ts}
def qm(o)(k)(R)(m)(N)(hi:QI X Z q tg it ao)
  (hg:N.Nodup->∀cl C s0 H0 fp,QG (lcE X scope N cl C s0 H0 fp Z.EX) Z ((List.range R.length).map (k + ·)) tt tg) (ht:∀cl C s0 H0 fp,PTs (lcE X scope N cl C s0 H0 fp Z.EX) fc (tT Z q u)) (he:∀cl C s0 H0 fp,QE (lcE X scope N cl C s0 H0 fp Z.EX) Z q c fk)
  (hN:N.Nodup<|>ŗ) (gx:xW X Z.EX:=by exact J4) (top:JZ X:=by exact#[_,_,rfl,rfl]) (hR:R.Nodup<|>ŕ) (hm:X.N.length=m<|>Ŕ) (hr:(∀j∈R,j<m)<|>ŕ) (hc:X.calm=true<|>Ŕ) (hk:scope.kind=.function<|>Ŕ) (kr:Q9 X.N X.env.scope scope N k R=true<|>Ŕ) (hs:(∀x,foldedSetIterable ao X.env x=pure x)<|>Ŗ):
  QE X Z q (cLC o k R it tt u c) (.ListComp fk [#[tg,ao,fc,0]] scope pos):=_g6 N hi (hg hN) ht he gx top hR (hm▸hr) hc hk kr hs
def qM{x p'}(o)(k)(R)(m)(N)(hi:QI X Z q (.Name x p') it ao)(he:∀cl C s0 H0 fp,QE (lcE X scope N cl C s0 H0 fp Z.EX) Z q c fk)
  (hN:N.Nodup<|>ŗ) (gx:xW X Z.EX:=by exact J4) (top:JZ X:=by exact#[_,_,rfl,rfl]) (hR:R.Nodup<|>ŕ) (hm:X.N.length=m<|>Ŕ) (hr:(∀j∈R,j<m)<|>ŕ) (hc:X.calm=true<|>Ŕ) (hk:scope.kind=.function<|>Ŕ) (kr:Q9 X.N X.env.scope scope N k R=true<|>Ŕ) (hs:(∀x,foldedSetIterable ao X.env x=pure x)<|>Ŗ)
  (h1:N[0]?=⇑x<|>Ŕ) (h2:scope.names.lookup x=⇑.local<|>Ŕ) (h3:0∉(List.range R.length).map (k + ·)<|>ŕ):
  QE X Z q (cLC o k R it (.n 0) tYes c) (.ListComp fk [#[.Name x p',ao,[],0]] scope pos):=_g6 N hi (λ_ _ _ _ _=>_fd (_aR (i:=0) hN h1 (.inl (lookup_relabel_local h2)) (.inr (lookup_relabel_local h2))) h3) (λ_ _ _ _ _=>_ha) he gx top hR (hm▸hr) hc hk kr hs
end
end Q
namespace Q
def ddS(ss:List PySem.Str):List PySem.Str:=ss.foldl (λl k=>if l.any (· == k)then l else l++[k]) []
def ZJ:Sd->Option Sd:=λx=>match x.2 with
 |.lst ds=>(match JQ ds with
  |some ss=>if ss.length<64 then ⇑(.rt,.lst ((x5 (ddS ss)).map .str))else none
  |none=>none)
 |_=>none
end Q
namespace Sw
open PySem PyProof.Rows
section
variable {prog:Program}{w:World}{A:Around}{E:VP9}{s:Shared}
def tx(w:World):Bool:=w.params.followText "set-order"
structure Ok (prog:Program)(w:World)(o:Obj)(es:Array (Int×Value))(ep:Nat)(t:SetTable):Prop where
 ex:o.ExactSet
 d:o.data=.set es ep t
 el:ElemsOf (PySem.strKind prog w) es.toList
 b:es.size<scanBound
 f:t.fits es.size=true
 led:t.led=!tx w
 pl:t.plain=false\/es.size=0
def _km(es:List (Int×Value)):List Str:=es.map λe=>strOf e.2
def Has(prog:Program)(w:World)(h:Heap)(a:Addr)(ls:List Str):Prop:=∃o es ep t,h.get? a=⇑o/\Ok prog w o es ep t/\(_km es.toList).Perm ls
def _kn{l}(h:ElemsOf (PySem.strKind prog w) l){e}(he:e∈l):∃k t,e.2=.str k t:=by
 obtain⟨⟨k,hk,_⟩,_⟩:=h e he;obtain⟨t,ht⟩:=Value.isStrOf_shape hk;exact#[k,t,ht]
def _ko{l}(h:ElemsOf (PySem.strKind prog w) l) k:(∃e∈l,(PySem.strKind prog w).is k e.2=true)↔k∈_km l:=by
 unfold _km;rw[List.mem_map];constructor
 ·rintro ⟨e,he,hk⟩;obtain⟨t,ht⟩:=Value.isStrOf_shape hk;exact#[e,he,by rw[ht];rfl]
 ·rintro ⟨e,he,hk⟩;obtain⟨k',t,ht⟩:=_kn h he;rw[ht]at hk;cases(hk);exact#[e,he,by rw[ht];exact strKind_is _ _ _ _]
#where in
def _kp t es h x:(layNew t es h x).2.1.led=t.led/\((layNew t es h x).2.1.plain=true->t.plain=true):=by
 unfold layNew
 split
 ·rename_i slot wd _;show((t.put slot).1.orStandIn _).led=_/\(((t.put slot).1.orStandIn _).plain=true->_);unfold SetTable.orStandIn
  split
  ·exact#[rfl,λh=>h]
  ·exact#[rfl,nofun]
 ·exact#[rfl,nofun]
#where in
def _kq t es n:(relayAll t es n).2.1.led=t.led/\((relayAll t es n).2.1.plain=true->t.plain=true):=by
 unfold relayAll
 split
 ·rename_i t' order hr;dsimp only
  split
  ·unfold SetTable.relaid SetTable.laid at hr;rw[Option.bind_eq_bind,Option.bind_eq_some_iff]at hr
   grind
  ·exact#[rfl,nofun]
 ·exact#[rfl,nofun]
def _kr{h:Heap}{a o es es' ep t t'}(ho:h.get? a=⇑o)(hd:o.data=.set es ep t):(h.update a (Obj.putSet es' t')).get? a=some {o with data:=.set es' (ep+1) t' }:=by
 have:=Xy (Obj.putSet es' t') ho (by rw[putSet_of es' t' hd];rfl)
 rwa [putSet_of es' t' hd]at this
def tail{g:Bool->Sem Unit}(hg:∀b (s₁) (Q'),Q' () s₁->wpAny (model prog w) A (g b) Q' E s₁)
  {a o es fm ep t t2 ls wasDummy R} (ho:s.heap.get? a=⇑o) (hd:o.data=.set es ep t) (hex:o.ExactSet)
  (hel:ElemsOf (PySem.strKind prog w) fm.toList) (hb:fm.size<scanBound) (hf:t2.fits fm.size=true) (va:t2.led=!tx w) (bu:t2.plain=false) (hp:(_km fm.toList).Perm ls)
  (h:∀h',Heap.SameBut a s.heap h'->Has prog w h' a ls->R ⇑true {s with heap:=h' }):
  wpAny (model prog w) A (do
    storeSet a fm t2
    if(!wasDummy&&t2.tooFull)=true then do
      g (relayAll t2 fm (SetTable.grown fm.size)).2.2
      storeSet a (relayAll t2 fm (SetTable.grown fm.size)).1 (relayAll t2 fm (SetTable.grown fm.size)).2.1
      pure ⇑true
     else pure ⇑true) R E s:=by
 refine X0 (wpAny_storeSet_of ho hd ?_ (fits_of_scanBound hb));have lr:=_kr (es':=fm) (t':=t2) ho hd;have mr:=Yb s.heap a (Obj.putSet fm t2)
 split
 ·have r1:=relayAll_perm t2 fm (SetTable.grown fm.size);have r2:=relayAll_fits t2 fm (SetTable.grown fm.size);obtain⟨r3,r4⟩:=_kq t2 fm _;generalize relayAll t2 fm _=V at r1 r2 r3 r4 ⊢;obtain⟨es2,t3,gv⟩:=V;have hz:es2.size=fm.size:=by rw[<-Y4,r1.length_eq,Y4]
  refine X0 (hg _ _ _ (X0 (wpAny_storeSet_of lr rfl (X6 (h _ (mr.trans (Yb _ a _)) #[_,es2,_,t3,_kr lr rfl,#[hex,rfl,hel.perm r1,by rw[hz];exact hb,r2,r3.trans va,.inl ?_],(r1.map _).trans hp])) (fits_of_scanBound (hz▸hb)))));cases hq:t3.plain with|false=>rfl|true=>grind
 ·exact X6 (h _ mr #[_,fm,_,t2,lr,#[hex,rfl,hel,hb,hf,va,.inl bu],hp])
#where in
def add{a k tk ls Q}(hS:Has prog w s.heap a ls)(hl:ls.length+1<scanBound)
  (h:∀b h',Heap.SameBut a s.heap h'->Has prog w h' a (step_dedup ls k)->Q b {s with heap:=h' }):wpAny (model prog w) A (setAddHashed a (.str k tk) ((PySem.strKind prog w).hash k)) Q E s:=by
 obtain⟨o,es,ep,t,ho,hk,hp⟩:=hS;have hsz:es.size=ls.length:=by rw[<-hp.length_eq];unfold _km;rw[X4,Y4]
 have ko:(PySem.strKind prog w).is k (.str k tk)=true:=strKind_is _ _ _ _;have hmk:=(_ko hk.el k).trans hp.mem_iff;refine Ya (X0 (Zh ho hk.d hk.f ?_));dsimp only;rw[byScan_of rfl hk.b hk.el];refine X0 (X0 (Zl (X0 (wpAny_setScan_of ko ho hk.d hk.f hk.el ?_))));cases hr:List.findIdx? _ es.toList with
 | some j=>
  dsimp only;obtain⟨hj,hpj,_⟩:=List.findIdx?_eq_some_iff_getElem.mp hr;have ff:=hmk.mp #[_,Xn hj,hpj];have ba:step_dedup ls k=ls:=by unfold step_dedup;rw[Xb (List.any_eq_true.mpr #[k,ff,by simp])]
  refine X6 (X6 ?_);have:=h false s.heap (Heap.SameBut.refl a s.heap) (by rw[ba];exact#[o,es,ep,t,ho,hk,hp])
  simp_all
 | none=>
  have sk:k∉ls:=λff=>by
   obtain⟨e,he,hq⟩:=hmk.mpr ff
   grind
  have ba:step_dedup ls k=ls++[k]:=by
   unfold step_dedup
   simp_all
  rw[ba]at h;have hgw:∀b {s₁ Q'},Q' () s₁->wpAny (model prog w) A (match b with|true=>PySem.rule "set.scan.the-table-gave-way" | false=>pure ()) Q' E s₁:=
   λb s₁ Q' hq=>by cases b<;>first|exact X6 hq|exact Zl hq
  have l1:=layNew_perm t es ((PySem.strKind prog w).hash k) (.str k tk);have l2:=layNew_fits t es ((PySem.strKind prog w).hash k) (.str k tk);obtain⟨l3,l4⟩:=_kp t es _ _;generalize layNew t es _ _=V at l1 l2 l3 l4 ⊢;obtain⟨fm,t1,wd,gv⟩:=V;rw[Array.toList_push]at l1;have uy:=(hk.el.push ko rfl).perm l1;have u3:fm.size=ls.length+1:=by rw[<-Y4,l1.length_eq,Xe,Y4,hsz];rfl
  have hp1:(_km fm.toList).Perm (ls++[k]):=by
   refine(l1.map λe=>strOf e.2).trans ?_;rw[X7];exact hp.append (List.Perm.refl _)
  refine X0 (hgw _ ?_)
  split
  ·refine X0 (X6 (tail ?_ ho hk.d hk.ex uy (u3▸hl) (SetTable.fits_plain_off l2) (l3.trans hk.led) rfl hp1 λh' a1 a2=>?_))
   ·intro b s₁ Q' hq;cases b<;>first|exact X6 hq|exact Zl hq
   ·exact X6 (h true h' a1 a2)
  ·rename_i bu;refine X0 (X6 (tail ?_ ho hk.d hk.ex uy (u3▸hl) l2 (l3.trans hk.led) (Bool.eq_false_iff.mpr bu) hp1 λh' a1 a2=>?_))
   ·intro b s₁ Q' hq;cases b<;>first|exact X6 hq|exact Zl hq
   ·exact X6 (h true h' a1 a2)
def dd(ss:List Str):List Str:=ss.foldl step_dedup []
def _ks{ss:List Str}{i x}(h:ss[i]?=⇑x):dd (ss.take (i+1))=step_dedup (dd (ss.take i)) x:=by
 unfold dd;rw[List.take_succ,h,List.foldl_append];rfl
def _kt ss:(dd ss).length<=ss.length:=foldl_step_dedup_nil_length_le ss
def _ku:∀{vs ss},StrsAre vs ss->∀(i:Nat) (v),vs[i]?=⇑v->∃x t,v=.str x t/\ss[i]?=⇑x
 |_,_,.nil,i,v,h=>by cases i<;>cases h|_,_,.cons x t r,0,v,h=>by cases _aa h;exact#[x,t,rfl,rfl]|_,_,.cons x t r,i+1,v,h=>_ku r i v h
def _kv:∀{vs ss},StrsAre vs ss->vs.length=ss.length
 |_,_,.nil=>rfl|_,_,.cons x t r=>congrArg _ (_kv r)
def Has.same{h h' a ls}(x:Has prog w h a ls)(e:∀o,h.get? a=⇑o->h'.get? a=⇑o):Has prog w h' a ls:=by
 obtain⟨o,es,ep,t,ho,r⟩:=x;exact#[o,es,ep,t,e _ ho,r]
def loop{R I fp wr G n P St}(W:WalksS prog w A.in1 I fp wr G n P St)(S)(p9:S∉fp)
  {ss} (hn:ss.length=n) (i6:∀i v,P i v->∃x t,v=.str x t/\ss[i]?=⇑x) (hb:n+1<scanBound):∀k i (s),n - i=k->i<=n->St i s->Has prog w s.heap S (dd (ss.take i)) ->
   (∀s',Moved (S::wr) G s s'->Has prog w s'.heap S (dd ss)->R (.ok (.ret .none)) s')->codeAny (model prog w) A (.builtin "set.update.loop" #[[.ref S,.ref I],[]]) R s:=by
 have u6:=λh=>p9 (W.sub _ h)
 have eh:∀b∈wr,b∈S::wr:=λb hb=>_ad _ hb
 intro k
 induction k with
 | zero=>
  intro i s hk hi ba hS hR;cases(show i=n by lia);refine Z7 F.entry_set_update_loop (X0 (W.done s _ _ ba λs' hm=>(X6 (hR s' (hm.mono eh) ?_))));rw[<-hn,List.take_length]at hS;exact hS.same λo e=>hm.heap S _ u6 e
 | succ k ih=>
  intro i s hk hi ba hS hR;refine Z7 F.entry_set_update_loop (X0 (W.item i s _ _ ⋯ ba λv s' hP pz hm=>?_));obtain⟨x,t,rfl,hx⟩:=i6 i v hP;refine X0 (Ya (Ya (X0 ((PySem.strKind prog w).pyHash (strKind_is _ _ _ _) ?_))));have gl:(dd (ss.take i)).length+1<scanBound:=by have:=_kt (ss.take i);rw[Z4]at this;lia
  refine add (hS.same λo e=>hm.heap S _ u6 e) gl λb h' a1 a2=>?_
  rw[<-_ks hx]at a2;refine X6 #[plainId_quiet F.plain_set_update_loop _,ih _ _ ⋯ ⋯ (W.frame _ s' _ _ pz (Nat.le_succ _) λb hb o e=>?_) a2 λlc qt so=>?_]
  ·rw[a1.2 b (λh:b=S=>p9 (h▸hb))];exact e
  ·refine hR lc (Moved.trans W.gtrans ((hm.mono eh).then_heap (Nat.le_succ _) λb o hb e=>?_) qt) so;rw[a1.2 b (λh:b=S=>hb (h▸X5))];exact e
def fresh(w:World):Obj:={cls:=.type "set",dict:=none,data:=.set (List.toArray []) 0 (.fresh 0 0 (!tx w))}
def _kw{h a}(e:h.get? a=⇑(fresh w)):Has prog w h a []:=
 #[_,(List.toArray []),0,.fresh 0 0 _,e,#[#[rfl,rfl,rfl],rfl,(nofun),⋯,by rfl,rfl,.inr rfl],.refl _]
def made(a){Q₁}(h:Q₁ (.ref ↥s) {s with heap:=s.heap.push (fresh w)}):
  codeAny (model prog w) A (.call (.builtin "set.__new__") #[[.type "set",a],[]]) (wants Q₁ E) s:=by
 refine codeAny_of_tree (X0 (wpAny_of_eq (F.newCall_set_1 a) (X6 #[plainId_quiet F.plain_set_new _,Z7 F.entry_set_new ?_])));unfold Builtin.«set.__new__» Builtin.Frozenset.newClass;have eh:=sub_set_self
 wp_walk
 exact wpAny_askSetting (X6 (X0 (wpAny_alloc (X6 (X6 h)))))
set_option maxHeartbeats 8000000 in
def _kx{l items ss Q}(hh:A.handled=none)(hl:s.heap.IsList l items)(hi:StrsAre items.toList ss)(hb:items.size+1<scanBound)
  (h:∀h' (tk:Nat),Has prog w h' ↥s (dd ss)->(∀b o,b<↥s->s.heap.get? b=⇑o->h'.get? b=⇑o)->Q (.ref ↥s) {s with heap:=h',toks:=tk}):
  wpAny (model prog w) A (call (.type "set") [.ref l]) Q E s:=by
 obtain⟨c,tl,hmro⟩:=F.called_set.mro;have hmade:=F.called_set.made;have eh:=F.called_set.sub;refine wpAny_call (codeAny_of_tree ?_);show wpAny _ _ (callAny (.type "set") _) _ _ _;refine X6 #[Code.quiet_builtin _ (by decide +kernel),Z7 F.entry_type_call ?_];rw [Around.under_plain (weight_type_call_type "set" [.ref l] []) rfl];have h1:=F.called_set.notType;have h2:=F.called_set.canCreate;have hct:=F.typeCall_set_1 (.ref l)
 repeat (any_goals (first|assumption|wp_step))
 refine codeAny_mono (made (.ref l) (E:=E) (Q₁:=λobj s₁=>obj=.ref ↥s/\s₁={s with heap:=s.heap.push (fresh w)}) #[rfl,rfl]) λr s₁ hr=>?_
 cases r with
 | error e=>exact hr
 | ok fl=>
 cases fl with
 | ret obj=>
  obtain⟨rfl,rfl⟩:=hr;have hS:(s.heap.push (fresh w)).get? ↥s=⇑(fresh w):=X9 _ rfl;have hT:Shared.TypeIs {s with heap:=s.heap.push (fresh w)} (.ref ↥s) "set":=#[_,hS,rfl];have ue:=F.called_set.init.lookup;have hbi:=F.called_set.init.bind (.ref ↥s)
  repeat (any_goals (first|assumption|wp_step))
  refine codeAny_mono (codeAny_call_builtin (R:=wants (λr s₂=>r=.none/\∃h' tk,s₂={s with heap:=h',toks:=tk}/\Has prog w h' ↥s (dd ss) /\
    (∀b o,b<↥s->s.heap.get? b=⇑o->h'.get? b=⇑o)) E) F.called_set.init.plain F.entry_set_init (check_set_init_1 hT ?_)) λr₂ s₂ hr₂=>?_
  ·obtain⟨ol,hol,f7,nl,hdl⟩:=hl;obtain⟨ocls,vy,odata,sj⟩:=ol;simp only at f7 hdl;subst f7;subst hdl;have hol':(s.heap.push (fresh w)).get? l=some {cls:=.type "list",dict:=vy,data:=.seq items nl,slots:=sj}:=X3 _ hol;have hsls:=F.sub_list_set;have hslf:=F.sub_list_frozenset;have bh:(Value.type "list" == Value.type "dict")=false:=⋯
   have iy:(s.heap.push (fresh w)).IsList l items:=#[_,hol',rfl,nl,rfl];have wu:l<↥s:=Xf hol;have tu:({cls:=.type "set",dict:=none,data:=.set (List.toArray []) 0 (.fresh 0 0 (!tx w))}:Obj)=fresh w:=rfl;unfold Builtin.«set.__init__» noKeywords Builtin.Frozenset.updateFrom;generalize hPI:pyIter=PI
   wp_walk
   subst hPI;refine Zg iy ?_;refine X0 (wpAny_runValue ?_);have hh3:A.in1.in1.in1.handled=none:=by simp[hh]
   have hsz:(s.heap.push (fresh w)).objs.size=↥s+1:=Zb ..;refine loop ((Walks.list hh3 _ l (by rw[hsz];exact Xk (Z6 wu)) items).toS) ↥s (by rw[hsz];simp only[Yq,Y6,or_false,not_or];exact#[Xk (Nat.lt_succ_self _),Zk wu]) (ss:=ss) ?_ (λi v hv=>_ku hi i v (by rw[Yp];exact hv)) hb (items.size - 0) 0 _ ⋯ (Y1 _)
    #[#[_,X9 _ rfl,rfl,rfl],iy.push _] ?_ ?_
   ·rw[<-_kv hi,Y4]
   ·exact _kw (X3 _ hS)
   ·intro s' hm lp;obtain⟨h',g',d',pj,qf⟩:=s';have eg:g'=s.gens:=hm.gens;have ed:d'=s.drawn:=hm.drawn;have eo:qf=s.os:=hm.os;subst eg;subst ed;subst eo;show wpAny _ _ _ _ _ _;refine X6 ?_;show wpAny _ _ (ret Value.none) _ _ _;refine X6 #[rfl,h',pj,rfl,lp,λb o hb e=>?_];exact hm.heap b o (by simp only[Yq,Y6,or_false,not_or];rw[hsz];exact#[Xk hb,Xk (Z6 hb)]) (X3 _ (X3 _ e))
  ·cases r₂ with
   | error e=>exact hr₂
   | ok fl₂=>
    cases fl₂ with
    |ret r=>
     obtain⟨rfl,h',tk,rfl,lp,ak⟩:=hr₂
     repeat (any_goals (first|assumption|wp_step))
     exact h _ _ lp ak
    |_=>exact hr₂.elim
 |_=>exact hr.elim
end
def slot_next:Slot "set_iterator" "__next__" "set_iterator.__next__" :=
 .of (owner:="set_iterator") (n:="__next__") (by kernel_rfl) (by decide +kernel) (by decide +kernel) (by decide +kernel)
  (by first|exact .inl (by decide +kernel)|exact .inr (by decide +kernel)) (by kernel_rfl)
def _ky:Slot "set_iterator" "__iter__" "set_iterator.__iter__" :=
 .of (owner:="set_iterator") (n:="__iter__") (by kernel_rfl) (by decide +kernel) (by decide +kernel) (by decide +kernel)
  (by first|exact .inl (by decide +kernel)|exact .inr (by decide +kernel)) (by kernel_rfl)
def _kz:entryFor table "set_iterator.__next__"=⇑Builtin.«set_iterator.__next__»:=entryFor_of_tree (by kernel_rfl)
def _kA:entryFor table "set_iterator.__iter__"=⇑Builtin.«dict_keyiterator.__iter__»:=entryFor_alias (id':="dict_keyiterator.__iter__") (by kernel_rfl) rfl (by decide +kernel) (by kernel_rfl)
def _kB:entryFor table "set.__iter__"=⇑Builtin.«frozenset.__iter__»:=entryFor_alias (id':="frozenset.__iter__") (by kernel_rfl) rfl (by decide +kernel) (by kernel_rfl)
def _kC(a):argsOk "set_iterator.__next__" #[[a],[]]:=by kernel_rfl
def _kD(a):argsOk "set_iterator.__iter__" #[[a],[]]:=by kernel_rfl
def _kE(a):argsOk "set.__iter__" #[[a],[]]:=by kernel_rfl
section
variable {prog:Program}{w:World}{A:Around}{E:VP9}{s:Shared}
def _kF{src n Q}(hn:n≠0)(h:∀i d,i<n->Q i {s with drawn:=d}):wpAny (model prog w) A (choose src n) Q E s:=
 λ_ _ _=>#[hn,h _ _ (Nat.mod_lt _ (Nat.pos_of_ne_zero hn))]
def YY{α:Type}:∀{l:List α} {i} (h),(l[i]::l.eraseIdx i).Perm l
 |a::l,0,h=>List.Perm.refl _
 |a::l,i+1,h=>by
  exact(List.Perm.swap a _ _).trans ((YY (Nat.lt_of_succ_lt_succ h)).cons a)
def drawn{α}:∀n xs s {Q:List α->Shared->Prop},xs.length=n->(∀ys d,ys.Perm xs->Q ys {s with drawn:=d})->wpAny (model prog w) A (drawOrder n xs) Q E s
 | 0,xs,s,Q,hl,h=>by
  cases xs with|nil=>exact X6 (h [] s.drawn (.refl _))|cons=>cases hl
 | n+1,xs,s,Q,hl,h=>by
  cases xs with
  |nil=>cases hl
  |cons x xs=>
   unfold drawOrder;refine X0 (_kF (by simp) λi d hi=>?_);rw[X1 hi];exact X0 (drawn n _ _ (by rw[List.length_eraseIdx,Xb hi];exact Nat.succ.inj hl) λys d' hp=>(X6 (h _ d' ((hp.cons _).trans (YY hi)))))
def _kG{α}(f):∀n k (l) (out:Array α),l.length=n->(pickOrder.go f n k l out).toList.Perm (out.toList++l)
 |0,k,l,out,hl=>by
  cases l with|nil=>unfold pickOrder.go;simp|cons=>cases hl
 |n+1,k,l,out,hl=>by
  have hi:f k % l.length<l.length:=Nat.mod_lt _ ⋯;unfold pickOrder.go;rw[X1 hi];refine(_kG f n _ _ _ (by rw[List.length_eraseIdx,Xb hi];lia)).trans ?_;rw[Array.toList_push,Xs];exact(List.Perm.refl _).append (YY hi)
def _kH{α} f (xs:Array α):(pickOrder f xs).toList.Perm xs.toList:=by
 exact _kG f _ 0 _ (List.toArray []) (by simp)
end
section
variable {prog:Program}{w:World}{A:Around}{E:VP9}{s:Shared}
def It(h:Heap)(I a:Addr)(f:Value)(i n ep:Nat):Prop:=∃o,h.get? I=⇑o/\o.cls=.type "set_iterator"/\o.data=.fields %[f,.int i 0,.ref a,.int n 0,.int ep 0|0]
def It.at'{h h':Heap}{I a:Addr}{f:Value}{i n ep:Nat}(x:It h I a f i n ep)(e:∀o,h.get? I=⇑o->h'.get? I=⇑o):It h' I a f i n ep:=by
 obtain⟨o,ho,r⟩:=x;exact#[o,e _ ho,r]
def Stn(h:Heap)(a:Addr)(n ep:Nat):Prop:=∃o es t,h.get? a=⇑o/\o.data=.set es ep t/\t.fits es.size=true/\es.size=n
def _kI{I a:Addr}{f:Value}{i n ep:Nat}{Q:VP9}(fh:It s.heap I a f i n ep)(h:Q (.ref I) s):wpAny (model prog w) A (pyIter (.ref I)) Q E s:=by
 obtain⟨o,ho,hc,hd⟩:=fh;have hT:s.TypeIs (.ref I) "set_iterator":=#[o,ho,hc];refine wpAny_pyIter_slot hT _ky (Y3 _ky hT _kA ?_ (_kD _));exact X6 #[_,rfl,"set_iterator",_,hT,slot_next.lookup,h]
def _kJ{I a:Addr}{sl nx i n ep:Nat}{v:Value}{Q:Option Value->Shared->Prop}(fh:It s.heap I a (.int sl 0) i n ep)(hs:Stn s.heap a n ep)
  (hN:∀(A':Around) (E':VP9) (R:Option (Value×Nat)->Shared->Prop),R ⇑(v,nx) s->wpAny (model prog w) A' (setNext a sl i ep) R E' s)
  (hQ:∀h',It h' I a (.int nx 0) (i+1) n ep->Heap.SameBut I s.heap h'->Q ⇑v {s with heap:=h' }):wpAny (model prog w) A (pyNext (.ref I)) Q E s:=by
 obtain⟨o,ho,hc,hd⟩:=fh;obtain⟨os,es,t,km,be,hf,hn⟩:=hs;have hT:s.TypeIs (.ref I) "set_iterator":=#[o,ho,hc];refine X0 (wpAny_attempt (Yf hT slot_next (Y3 slot_next hT _kz ?_ (_kC _))));show wpAny _ _ (fieldsOf _ >>= _) _ _ s;refine X0 (wpAny_fieldsOf ho hd ?_);refine X0 (wpAny_setEntries_of km be hf ?_);rw[Xj (by rw[hn];simp)];show wpAny _ _ _ _ _ s;refine X0 (hN _ _ _ ?_);refine X0 (Yr ho hd (by simp) ?_);have u4:=Zc hd (·.setIfInBounds 0 (rawInt nx));have lr:=Xy _ ho (Ze u4);refine X0 (Yr lr u4 (by simp) (X6 #[v,rfl,X6 (hQ _ ?_ ((Yb ..).trans (Yb ..)))]));have kg:=Zc u4 (·.setIfInBounds 1 (rawInt (i+1)));refine#[_,Xy _ lr (Ze kg),(Obj.cls_mapFields ..).trans ((Obj.cls_mapFields ..).trans hc),?_];rw[kg];simp[rawInt]
def _kK{I a T:Addr}{i n ep:Nat}{v:Value}{pl:List Nat}{p:Nat}{Q:Option Value->Shared->Prop}(fh:It s.heap I a (.ref T) i n ep)(hs:Stn s.heap a n ep)(ub:∃o k,s.heap.get? T=⇑o/\o.data=.seq (pl.map λ(j:Nat)=>rawInt j).toArray k)
  (hp:pl[i]?=⇑p)
  (hN:∀(A':Around) (E':VP9) (R:VP9),R v s->wpAny (model prog w) A' (setNextDrawn a p ep) R E' s)
  (hQ:∀h',It h' I a (.ref T) (i+1) n ep->Heap.SameBut I s.heap h'->Q ⇑v {s with heap:=h' }):wpAny (model prog w) A (pyNext (.ref I)) Q E s:=by
 obtain⟨o,ho,hc,hd⟩:=fh;obtain⟨os,es,t,km,be,hf,hn⟩:=hs;obtain⟨oT,kT,hoT,tf⟩:=ub;have hT:s.TypeIs (.ref I) "set_iterator":=#[o,ho,hc];refine X0 (wpAny_attempt (Yf hT slot_next (Y3 slot_next hT _kz ?_ (_kC _))));show wpAny _ _ (fieldsOf _ >>= _) _ _ s;refine X0 (wpAny_fieldsOf ho hd ?_);refine X0 (wpAny_setEntries_of km be hf ?_);rw[Xj (by rw[hn];simp)];refine X0 (wpAny_seqItems hoT tf ?_);have hg:(pl.map λ(j:Nat)=>rawInt j).toArray[((i:Int)).toNat]?=⇑(.int p 0):=by
  rw[Xu,List.getElem?_toArray,Xh,hp];rfl
 dsimp only;rw[hg];show wpAny _ _ _ _ _ s;refine X0 (hN _ _ _ ?_);have kg:=Zc hd (·.setIfInBounds 1 (rawInt (i+1)));refine X0 (Yr ho hd (by simp) (X6 #[v,rfl,X6 (hQ _ ?_ (Yb ..))]));refine#[_,Xy _ ho (Ze kg),(Obj.cls_mapFields ..).trans hc,?_];rw[kg];simp[rawInt]
def _kL{I a:Addr}{sl i n ep:Nat}{Q:Option Value->Shared->Prop}(hh:A.handled=none)(fh:It s.heap I a (.int sl 0) i n ep)(hs:Stn s.heap a n ep)
  (hN:∀(A':Around) (E':VP9) (R:Option (Value×Nat)->Shared->Prop),R none s->wpAny (model prog w) A' (setNext a sl i ep) R E' s)
  (hQ:∀h',Heap.ExtBut I s.heap h'->Q none {s with heap:=h' }):wpAny (model prog w) A (pyNext (.ref I)) Q E s:=by
 obtain⟨o,ho,hc,hd⟩:=fh;obtain⟨os,es,t,km,be,hf,hn⟩:=hs;have hT:s.TypeIs (.ref I) "set_iterator":=#[o,ho,hc];refine X0 (wpAny_attempt (Yf (name:=Str.ofString "__next__") hT slot_next (Y3 slot_next hT _kz ?_ (_kC _))));show wpAny _ _ (fieldsOf (.ref I) >>= _) _ _ s;refine X0 (wpAny_fieldsOf ho hd ?_);refine X0 (wpAny_setEntries_of km be hf ?_);rw[Xj (by rw[hn];simp)];show wpAny _ _ (setNext a ((sl:Int)).toNat ((i:Int)).toNat ((ep:Int)).toNat >>= _) _ _ s;refine X0 (hN _ _ _ ?_);refine X0 (Yr ho hd (by simp) ?_);refine X0 ?_;refine X0 (m:=firstArgMember _ _) (wpAny_of_eq (a:=Value.none) (by first|rfl|(simp only[firstArgMember])) ?_);refine Yc ?_ (by size_fits);refine X0 (wpAny_handled ?_);rw[show A.in1.handled=none from hh];refine X0 (X6 (wpAny_throw ?_));refine X0 (wpAny_isInstance (T:="StopIteration") (b:=true) #[_,X9 _ rfl,rfl] isSubtype_stop ?_);exact X6 (hQ _ (((Yb ..).extBut.push _).push _))
def _kM{I a T:Addr}{i n ep:Nat}{pl:List Nat}{Q:Option Value->Shared->Prop}(hh:A.handled=none)(fh:It s.heap I a (.ref T) i n ep)(hs:Stn s.heap a n ep)(ub:∃o k,s.heap.get? T=⇑o/\o.data=.seq (pl.map λ(j:Nat)=>rawInt j).toArray k)
  (hp:pl[i]?=none) (hQ:∀h',Heap.ExtBut I s.heap h'->Q none {s with heap:=h' }):wpAny (model prog w) A (pyNext (.ref I)) Q E s:=by
 obtain⟨o,ho,hc,hd⟩:=fh;obtain⟨os,es,t,km,be,hf,hn⟩:=hs;obtain⟨oT,kT,hoT,tf⟩:=ub;have hT:s.TypeIs (.ref I) "set_iterator":=#[o,ho,hc];refine X0 (wpAny_attempt (Yf (name:=Str.ofString "__next__") hT slot_next (Y3 slot_next hT _kz ?_ (_kC _))));show wpAny _ _ (fieldsOf (.ref I) >>= _) _ _ s;refine X0 (wpAny_fieldsOf ho hd ?_);refine X0 (wpAny_setEntries_of km be hf ?_);rw[Xj (by rw[hn];simp)];refine X0 (wpAny_seqItems hoT tf ?_);have hg:(pl.map λ(j:Nat)=>rawInt j).toArray[((i:Int)).toNat]?=none:=by
  rw[Xu,List.getElem?_toArray,Xh,hp];rfl
 dsimp only;rw[hg];have u4:=Zc hd (·.setIfInBounds 0 (rawInt 0));have lr:=Xy (Obj.mapFields (·.setIfInBounds 0 (rawInt 0))) ho (Ze u4);refine X0 (Yr ho hd (by simp) ?_);refine X0 (Yr lr u4 (by simp) ?_);refine X0 ?_;simp;refine X0 (m:=firstArgMember _ _) (wpAny_of_eq (a:=Value.none) (by first|rfl|(simp only[firstArgMember];rfl)) ?_);refine Yc ?_ (by size_fits);refine X0 (wpAny_handled ?_);rw[show A.in1.handled=none from hh];refine X0 (X6 (wpAny_throw ?_));refine X0 (wpAny_isInstance (T:="StopIteration") (b:=true) #[_,X9 _ rfl,rfl] isSubtype_stop ?_);exact X6 (hQ _ ((((Yb ..).trans (Yb ..)).extBut.push _).push _))
end
section
variable {prog:Program}{w:World}{A:Around}{E:VP9}{s:Shared}
def _kN(hh:A.handled=none)(I a)(bh:a≠I){o es ep t}(hd:o.data=.set es ep t)(hf:t.fits es.size=true){cz:List Value}(hl:cz.length=es.size)(sl:Nat->Nat)
  (hN:∀i (s) (A') (E') (R),s.heap.get? a=⇑o->i<=es.size->R (cz[i]?.map λv=>(v,sl (i+1))) s->wpAny (model prog w) A' (setNext a (sl i) i ep) R E' s):
  Walks prog w A I [I,a] [I] es.size (λi v=>cz[i]?=⇑v) (λi h=>It h I a (.int (sl i) 0) i es.size ep/\h.get? a=⇑o) where
 sub:=λb hb=>by simp at hb;simp[hb]
 frame:=λ_ _ _ st hk=>#[st.1.at' λo e=>hk I (by simp) o e,hk a (by simp) _ st.2]
 item:=λi s Q E hi st hQ=>by
  have hv:cz[i]?=⇑(cz[i]'⋯):=X1 _;exact _kJ st.1 #[o,es,t,st.2,hd,hf,rfl] (λA' E' R hR=>hN i s A' E' R st.2 (Nat.le_of_lt hi) (hv▸hR)) λh' qd lu=>(hQ _ h' s.toks hv #[qd,(lu.extBut a o bh st.2)] λb o hb e=>lu.extBut b o (λh=>hb (by simp[h])) e)
 done:=λs Q E st hQ=>by
  refine _kL hh st.1 #[o,es,t,st.2,hd,hf,rfl] (λA' E' R hR=>hN es.size s A' E' R st.2 (Xd _) (by rw[Xz ⋯];exact hR)) λh' he=>?_
  exact hQ h' s.toks λb o hb e=>he b o (λh=>hb (by simp[h])) e
 self:=λ_ _ _ _ st hQ=>_kI st.1 hQ
def _kO(hh:A.handled=none)(I a T)(bh:a≠I)(hneT:T≠I){o oT es ep k t}(hd:o.data=.set es ep t)(hf:t.fits es.size=true){pl:List Nat}(hp:pl.Perm (List.range es.size))(tf:oT.data=.seq (pl.map λ(j:Nat)=>rawInt j).toArray k):
  Walks prog w A I [I,a,T] [I] es.size (λi v=>(pl.map λj=>(es.getD j (0,.none)).2)[i]?=⇑v) (λi h=>It h I a (.ref T) i es.size ep/\h.get? a=⇑o/\h.get? T=⇑oT) where
 sub:=λb hb=>by simp at hb;simp[hb]
 frame:=λ_ _ _ st hk=>#[st.1.at' λo e=>hk I (by simp) o e,hk a (by simp) _ st.2.1,hk T (by simp) _ st.2.2]
 item:=λi s Q E hi st hQ=>by
  have ae:pl.length=es.size:=by rw[hp.length_eq,Y7]
  have hv:pl[i]?=⇑(pl[i]'⋯):=X1 _;have cj:pl[i]'⋯<es.size:=List.mem_range.mp (hp.mem_iff.mp (Xn _));refine _kK (v:=(es.getD (pl[i]'⋯) (0,.none)).2) st.1 #[o,es,t,st.2.1,hd,hf,rfl] #[oT,k,st.2.2,tf] hv (λA' E' R hR=>?_) λh' qd lu=>?_
  ·refine X0 (Zh st.2.1 hd hf ?_);dsimp only;rw[Xj (by simp),Z2 cj];refine X6 ?_;rw[Array.getD_eq_getD_getElem?,Z2 cj]at hR;exact hR
  ·exact hQ _ h' s.toks (by rw[Xh,hv];rfl) #[qd,(lu.extBut a o bh st.2.1),(lu.extBut T oT hneT st.2.2)] λb o hb e=>lu.extBut b o (λh=>hb (by simp[h])) e
 done:=λs Q E st hQ=>by
  have ae:pl.length=es.size:=by rw[hp.length_eq,Y7]
  refine _kM hh st.1 #[o,es,t,st.2.1,hd,hf,rfl] #[oT,k,st.2.2,tf] (Xz ⋯) λh' he=>?_
  exact hQ h' s.toks λb o hb e=>he b o (λh=>hb (by simp[h])) e
 self:=λ_ _ _ _ st hQ=>_kI st.1 hQ
def _kP(su:tx w=true){a o es ep t}(hd:o.data=.set es ep t)(hf:t.fits es.size=true):
  ∀i s (A') (E') R,s.heap.get? a=⇑o->i<=es.size->R (((pickOrder (w.params.setOrder a ep) es).toList.map (·.2))[i]?.map λv=>(v,0)) s->wpAny (model prog w) A' (setNext a 0 i ep) R E' s:=by
 intro i s A' E' R ho hi hR;refine X0 (Zh ho hd hf ?_);show wpAny _ _ (if tx w=true then _ else _) _ _ _;rw[Xb su,Xj (by simp)];refine X0 (X0 (Zh ho hd hf ?_));show wpAny _ _ (if tx w=true then _ else _) _ _ _;rw[Xb su];refine X0 (wpAny_askSetting (X6 (X6 ?_)));rw[Xh,Yp,Option.map_map]at hR;exact hR
end
section
variable {prog:Program}{w:World}{A:Around}{E:VP9}{s:Shared}
def _kQ{t:SetTable}{n}(h:t.fits n=true):t.place.size=n:=by
 simp only[SetTable.fits,Bool.and_eq_true,beq_iff_eq]at h;exact h.1
def sl1(t:SetTable)(i:Nat):Nat:=if i=0 then 0 else t.place.getD 0 0+1
def _kR(su:tx w=false){a o es ep t}(hk:Ok prog w o es ep t)(h1:es.size<=1):
  ∀ i s (A') (E') R,s.heap.get? a=⇑o->i<=es.size->R ((es.toList.map (·.2))[i]?.map λv=>(v,sl1 t (i+1))) s->wpAny (model prog w) A' (setNext a (sl1 t i) i ep) R E' s:=by
 intro i s A' E' R ho hi hR;have hsz:=_kQ hk.f;refine X0 (Zh ho hk.d hk.f ?_);show wpAny _ _ (if tx w=true then _ else _) _ _ _;rw [Xj ⋯];show wpAny _ _ (if(!t.plain&&decide _)=true then _ else _) _ _ _;rw [Xj ⋯];show wpAny _ _ ((if _=true then _ else pure ()) >>= _) _ _ _;rw [Xj (by rw[hk.led,su];simp)];refine X6 ?_;obtain⟨es⟩:=es;obtain⟨mask,⟨pl⟩,du,fi,le,mo,pln⟩:=t;cases es with
 | nil=>
  cases pl with
  | nil=>
   exact hR
  | cons=>cases hsz
 | cons e es=>
  cases es with
  | cons=>exact absurd h1 (by simp)
  | nil=>
   cases pl with
   | nil=>cases hsz
   | cons p pl=>
    cases pl with
    | cons=>cases hsz
    | nil=>
     have hb1:SetTable.below %[p|0] (p+1)=1:=by
      show SetTable.below.go %[p|0] _ 1 0 1=1;unfold SetTable.below.go;rw[Xb (by simp),Xb (by simp)];rfl
     rcases(show i=0\/i=1 by have:i<=1:=hi;lia)with rfl|rfl
     ·exact hR
     ·show R (match (%[e|0]:Array _)[SetTable.below %[p|0] (p+1)]?,_[SetTable.below %[p|0] _]? with|some (_,x),⇑j=>⇑(x,j+1)|_,_=>none) s
      rwa [hb1]
def _kS{es:Array (Int×Value)}{pl:List Nat}(hp:pl.Perm (List.range es.size)):(pl.map λj=>(es.getD j (0,.none)).2).Perm (es.toList.map (·.2)):=by
 refine(hp.map _).trans (.of_eq ?_);apply List.ext_getElem
 ·simp
 ·intro i h1 h2;simp at h1;simp[h1]
end
section
variable {prog:Program}{w:World}{A:Around}{E:VP9}{s:Shared}
def _kT{a o es ep t}(ho:s.heap.get? a=⇑o)(hk:Ok prog w o es ep t){Q}(h:Q (!tx w&&(!t.plain&&decide (es.size>1))) s):wpAny (model prog w) A (setDrawn a) Q E s:=by
 exact X0 (Zh ho hk.d hk.f (X0 (X0 (wpAny_askSetting (X6 (X6 h))))))
def _kU{a o es ep t Q}(ho:s.heap.get? a=⇑o)(hk:Ok prog w o es ep t)
  (h:∀h' (d) (I:Addr) (fp) (cz:List Value) (St),(∀b o,s.heap.get? b=⇑o->h'.get? b=⇑o)->↥s<=I->(∀b∈fp,b=a\/↥s<=b) ->
   (∀A',A'.handled=none->Walks prog w A' I fp [I] es.size (λi v=>cz[i]?=⇑v) St)->St 0 h'->cz.Perm (es.toList.map (·.2))->Q (.ref I) {s with heap:=h',drawn:=d}):wpAny (model prog w) A (pyIter (.ref a)) Q E s:=by
 have hT:s.TypeIs (.ref a) "set":=#[o,ho,hk.ex.1];have jb:=Xf ho;refine wpAny_pyIter_slot hT F.slot_set_iter (Y3 F.slot_set_iter hT _kB ?_ (_kE _));unfold Builtin.«frozenset.__iter__» Builtin.Frozenset.slot0 slotArgs;simp only[List.isEmpty_nil,Bool.not_true,Bool.false_eq_true,↓reduceIte,bind_assoc,List.length_nil,bne_self_eq_false];refine X0 (X6 (X0 (X6 (X0 (X0 (wpAny_setEntries_of ho hk.d hk.f (X6 (X0 (_kT ho hk ?_)))))))))
 by_cases hdr:(!tx w&&(!t.plain&&decide (es.size>1)))=true
 ·rw[Xb hdr];refine X0 (drawn es.size _ s (by simp) λpl d hp=>(X0 (wpAny_newTuple (X0 (wpAny_setEpoch_of (X3 _ ho) hk.d hk.f ?_)) (hsz:=by rw[X4,hp.length_eq,Y7];exact fits_of_scanBound hk.b))));refine X0 (Yc (X6 #[_,rfl,"set_iterator",_,#[_,X9 _ rfl,rfl],slot_next.lookup,?_]));have hsz:(s.heap.push (seqObj "tuple" (pl.map λ(i:Nat)=>rawInt i).toArray 0)).objs.size=↥s+1:=Zb ..;refine h _ d _ [_,a,↥s] (pl.map λj=>(es.getD j (0,.none)).2) _ (λb o e=>X3 _ (X3 _ e)) (hsz▸Nat.le_succ _) (λb hb=>?_)
   (λA' hh=>_kO hh _ a ↥s (by rw[hsz];exact Xk (Z6 jb)) (by rw[hsz];exact Xk (Nat.lt_succ_self _)) (o:=o) (oT:=seqObj "tuple" (pl.map λ(i:Nat)=>rawInt i).toArray 0) hk.d hk.f hp rfl)
   #[#[_,X9 _ rfl,rfl,rfl],X3 _ (X3 _ ho),X3 _ (X9 _ rfl)] (_kS hp)
  rcases aD hb with rfl|hb
  ·exact .inr (hsz▸Nat.le_succ _)
  rcases aD hb with rfl|hb
  ·exact .inl rfl
  ·rw[aC hb];exact .inr (Xd _)
 ·rw[Xj hdr];refine X0 (X6 (X0 (wpAny_setEpoch_of ho hk.d hk.f (X0 (Yc (X6 #[_,rfl,"set_iterator",_,#[_,X9 _ rfl,rfl],slot_next.lookup,?_]))))));have hfp:∀b∈[↥s,a],b=a\/↥s<=b:=λb hb=>by
   rcases aD hb with rfl|hb
   ·exact .inr (Xd _)
   ·exact .inl (aC hb)
  cases su:tx w with
  | true=>
   refine h _ s.drawn _ [_,a] ((pickOrder (w.params.setOrder a ep) es).toList.map (·.2)) _ (λb o e=>X3 _ e) (Xd _) hfp
    (λA' hh=>_kN hh _ a (Xk jb) (o:=o) hk.d hk.f (by rw[X4,(_kH _ es).length_eq,Y4]) (λ_=>0) (_kP su hk.d hk.f))
    #[#[_,X9 _ rfl,rfl,rfl],X3 _ ho] ((_kH _ es).map _)
  | false=>
   have h1:es.size<=1:=by
    rcases hk.pl with hp|hp
    ·grind
    ·lia
   refine h _ s.drawn _ [_,a] (es.toList.map (·.2)) _ (λb o e=>X3 _ e) (Xd _) hfp
    (λA' hh=>_kN hh _ a (Xk jb) (o:=o) hk.d hk.f (by simp) (sl1 t) (_kR su hk h1))
    #[#[_,X9 _ rfl,rfl,rfl],X3 _ ho] (.refl _)
def _kV{a Q}(hT:s.TypeIs (.ref a) "set")(h:Q false s):wpAny (model prog w) A (Builtin.List.listLengthHint (.ref a)) Q E s:=by
 refine X0 (Z0 hT F.slot_set_len.lookup ?_);generalize px:_=id0
 wp_delta
 subst px;refine X0 (wpAny_isInstance hT sub_set_self ?_);refine wpAny_ite_split (λmz=>absurd mz ⋯) (λ_=>?_);refine X0 (wpAny_typeOf hT ?_);exact X6 h
def _kW:∀{vs},(∀v∈vs,∃x t,v=Value.str x t)->StrsAre vs (vs.map strOf)
 |[],_=>.nil
 |v::vs,h=>by
  obtain⟨x,t,rfl⟩:=h v X5;exact .cons x t (_kW λv hv=>h v (_ad _ hv))
def _kX{a ls Q}(hh:A.handled=none)(hS:Has prog w s.heap a ls)
  (h:∀h' (d) (tk) (vs) (ss),(∀b o,s.heap.get? b=⇑o->h'.get? b=⇑o)->↥s<h'.objs.size->StrsAre vs ss->ss.Perm ls->Q vs {s with heap:=h',drawn:=d,toks:=tk}):
  wpAny (model prog w) A (collect (.ref a)) Q E s:=by
 obtain⟨o,es,ep,t,ho,hk,hp⟩:=hS;have jb:a<↥s:=Xf ho;unfold collect;refine X0 (wpAny_runValue (Z7 F.entry_proto_collect ?_));rw[Around.under_plainId F.plain_proto_collect _];show wpAny _ A.in1 (newList [] >>= λl=>again (.builtin "list.__iadd__" #[[l,.ref a],[]])) _ _ s;refine X0 (Yc (X6 #[plainId_quiet F.plain_list_iadd _,Z7 F.entry_list_iadd ?_]));rw[Around.under_plainId F.plain_list_iadd _];have lr:(s.heap.push {cls:=.type "list",data:=.seq ([]:List Value).toArray}).get? a=⇑o:=X3 _ ho;have hT1:Shared.TypeIs {s with heap:=s.heap.push {cls:=.type "list",data:=.seq ([]:List Value).toArray}} (.ref a) "set":=#[o,lr,hk.ex.1];show wpAny _ A.in1 (Builtin.List.listExtendWith (.ref ↥s) (.ref a) (.ref ↥s)) _ _ _;unfold Builtin.List.listExtendWith;refine X0 (wpAny_typeOf hT1 ?_);have h1:Builtin.List.listSameRef (.ref ↥s) (.ref a)=false:=by simp[Builtin.List.listSameRef];exact Zk jb
 have h2:(Value.type "set" == Value.type "list")=false:=⋯
 have h3:(Value.type "set" == Value.type "tuple")=false:=⋯
 simp only[h1,h2,h3,Bool.or_false,Bool.false_eq_true,if_false];refine X0 (_kU lr hk λh' d I fp cz St dw hI hfp W nr hv=>(X0 (Ya (_kV #[o,dw _ _ lr,hk.ex.1] ?_))));show wpAny _ A.in1 (PySem.rule "list.extend.makes-room" >>= λ_=>Builtin.List.listTouch (.ref ↥s) >>= λ_=>
  again (.builtin "list.extend.loop" #[[.ref ↥s,.ref I,.ref ↥s],[]])) _ _ _
 refine X0 (Zl ?_);have hsz:(s.heap.push {cls:=.type "list",data:=.seq ([]:List Value).toArray}).objs.size=↥s+1:=Zb ..;have hI':↥s+1<=I:=by rw[<-hsz];exact hI
 have p9:↥s∉fp:=λhm=>by
  rcases hfp _ hm with e|e
  ·exact absurd e (Zk jb)
  ·grind
 have hS₁:h'.get? ↥s=some {cls:=.type "list",data:=.seq ([]:List Value).toArray}:=dw _ _ (X9 _ rfl);refine X0 ?_;show wpAny _ A.in1 (updateSeq ↥s (·.push .none) >>= λ_=>updateSeq ↥s (·.pop)) _ _ _;refine X0 (wpAny_updateSeq hS₁ rfl ?_);have hS₂:=Xy (Obj.mapSeq (·.push Value.none)) hS₁ rfl;refine wpAny_updateSeq hS₂ rfl ?_;have oth:∀b o,b≠↥s->h'.get? b=⇑o->((h'.update ↥s (Obj.mapSeq (·.push Value.none))).update ↥s (Obj.mapSeq (·.pop))).get? b=⇑o:=
  λb o hb e=>(Z9 _ _ (Ne.symm hb)).trans ((Z9 _ _ (Ne.symm hb)).trans e)
 have WW:=W A.in1 hh;have ae:cz.length=es.size:=by rw[hv.length_eq,X4,Y4]
 refine X6 #[plainId_quiet F.plain_extend_loop _,codeAny_extend_loopS WW.toS (fits_of_scanBound hk.b) _ p9 _ es.size 0 _ _ _ rfl (Y1 _) (WW.frame 0 h' _ nr λb hb o e=>oth b o (λe'=>p9 (e'▸hb)) e) (Xy (Obj.mapSeq (·.pop)) hS₂ rfl) (ItemsOf.nil _) λs' f9 c' hm lp au=>?_];show wpAny _ A (load ↥s >>= _) _ _ s';refine X0 (wpAny_load lp ?_);have hac:f9.toList=cz:=by
  apply List.ext_getElem?;intro j
  by_cases hj:j<es.size
  ·have hj1:j<f9.size:=by rw[au.1];exact hj
   rw[Yp,Z2 hj1];exact(au.2 j _ (Z2 hj1)).symm
  ·rw[Xz (by rw[Y4,au.1];lia),Xz ⋯]
 refine X6 ?_;rw[hac,Moved.eq_with hm];refine h _ d _ cz (cz.map strOf) (λb o e=>?_) (Xf lp) ?_ ?_
 ·have hb:b<↥s:=Xf e;have hbS:b≠↥s:=Xk hb;refine hm.heap b o (λhmem=>?_) (oth b o hbS (dw b o (X3 _ e)));rcases aD hmem with e'|hmem
  ·exact hbS e'
  ·rw[aC hmem]at hb;exact absurd hb (Nat.not_lt.mpr (Nat.le_of_succ_le hI'))
 ·exact _kW λv hvm=>by
   obtain⟨e,he,rfl⟩:=aE (hv.mem_iff.mp hvm);exact _kn hk.el he
 ·refine((hv.map strOf).trans (.of_eq ?_)).trans hp;rw[Xi];rfl
end
section
variable {prog:Program}{w:World}{A:Around}{E:VP9}{s:Shared}
def _kY{a ls Q}(hh:A.handled=none)(hS:Has prog w s.heap a ls)(h64:ls.length<64)
  (h:∀h' d (tk l e) out ss,(∀b o,s.heap.get? b=⇑o->h'.get? b=⇑o)->↥s<=l->h'.get? l=⇑(seqObj "list" out e)->StrsAre out.toList ss->ss.Perm ls->sortedS ss=true->Q (.ref l) {s with heap:=h',drawn:=d,toks:=tk}):
  wpAny (model prog w) A (call (.builtin "sorted") [.ref a]) Q E s:=by
 refine Calls.call_function_entry kind_sorted plain_sorted entry_sorted (args_sorted1 _) ?_;refine X0 (X6 ?_);refine X0 (_kX (~~~hh) hS λh' d tk vs ss dw hsz hv hp=>?_);have h64':vs.length<64:=by rw[_kv hv,hp.length_eq];exact h64
 refine X0 (wpAny_newList ?_ (hsz:=by rw[sizeLine_eq];lia));have u7:(h'.push _).get? h'.objs.size=⇑(seqObj "list" vs.toArray 0):=X9 _ rfl;refine X0 (Ya (Y3 slot_list_sort #[_,u7,rfl] entry_list_sort (list_sort_treeK strKind_oneLt u7 hv.keysOf (λv₁ v₂ aa e=>keyKind_strs (by rw[<-e];exact hv)) h64' λdv a1 a2=>#[_,rfl,?_]) (args_list_sort _)));obtain⟨ss',h1,h2,h3⟩:=sorted_out_str hv a1 a2;obtain⟨e,he⟩:=sortedHeap_at u7;refine X6 #[_,rfl,h _ d tk _ e _ ss' (λb o q=>?_) (Nat.le_of_lt hsz) he h1 (h2.trans hp) h3];have hb:=Xf (dw b o q);rw[sortedHeap_old (Xk hb) (by rw[size_push'];exact Z6 hb)];exact X3 _ (dw b o q)
end
end Sw
namespace Q
open PySem PySem.Spec PyProof.Rows L2 L3 Sw
section
variable {X:Cx}{Z:Fx0}{K:Frag}{q:Bool}{a:Ex}{e ea:Expr}{σ:L2.St}{H:Hp}{pos p p2 bn:Pos}{x y:Str}{a8:LA9}{s:Shared}
def Inv.dr{d}(I:L2.Inv X a8 σ H s):L2.Inv X a8 σ H {s with drawn:=d}:=#[I.ok,I.os,I.bare,I.base,I.loc,I.cell,I.free,I.freeC,I.pin,I.hok,I.len]
def _kZ(X:Cx)(f:Value)(r:List Str->Hp->VK->Prop):Prop:=
 ∀(a8:LA9) (s:Shared) (σ:L2.St) (H:Hp) (b:Addr) (ls:List Str) (Q:VK),L2.Inv X a8 σ H s->Has X.prog X.w s.heap b ls->r ls H Q->∅ (call f [.ref b]) (EP X a8 σ Q) X.xe s
def _k0(K:Frag)(r:List Str->Hp->VK->Prop):List V->Hp->VK->Prop:=λxs H Q=>∃p ss,xs=[.ref p]/\SqL K H p (ss.map V.str)/\ss.length<4000/\r (dd ss) H Q
def _k1{id r t}(hc:X.calm=true)(hf:_kZ X (.builtin id) r)(hg:Gl X x)(hm:X.mg x=none)(hv:bootBuiltins x=⇑(.builtin id))(xo:Gl X "set")(ur:X.mg "set"=none)(hv2:bootBuiltins "set"=⇑(.type "set"))
  (ha:PE X e t) (hn:x≠"__name__"<|>ŕ) (fu:Abd x<|>ŕ) (nj:("set":Str)≠"__name__"<|>ŕ) (hdb2:(("set":Str)==("__debug__":Str))=false<|>ŕ)
  (he:Abs e [] X<|>Ŕ):
  PE X (.Call (.Name x p) [.Call (.Name "set" p2) [e] [] bn] [] pos) (fun σ H Q=>t σ H λv H1=>_k0 X.K r [v] H1 Q):=by
 intro a8 s σ H Q I h;refine Z3 (Jj I hg hm hv (PyProof.Rows.callWith_builtin1 ?_ rfl rfl) hn fu);show wpAny _ _ (spliced (_::[])) _ _ s;refine Calls.spliced_cons (Z3 (Jj I xo ur hv2 (Y0 (thn (wj ha wY he bn a8 s σ H (λvs H1=>_k0 X.K r vs H1 Q) I ?_) λus s1 #[vs,H1,I1,r1,q1]=>?_) he rfl) nj hdb2))
 ·exact h
 obtain⟨b,ss,rfl,hq,hl,q⟩:=q1;obtain⟨u,rfl,rx⟩:=xk r1;cases rx;obtain⟨ab,r',pl,hz⟩:=I1.list hq;have ae:=r'.length;rw[X4]at ae hz;refine _kx (I1.ok.hd hc) pl.isList (~~~(_id r')) (by simp;unfold scanBound;lia) λh' tk hS dw=>?_
 have I2:L2.Inv X a8 σ H1 {s1 with heap:=h',toks:=tk}:=I1.kept λb u q=>dw b u (Xf q) q
 exact Calls.spliced_nil (hf a8 _ σ H1 _ _ Q I2 hS q)
def _k2(hc:X.calm=true):_kZ X (.builtin "sorted") (λls H Q=>ls.length<64/\∀l,H l=none->Q (.ref l) (upd H l (.lst ((x5 ls).map V.str)))):=by
 intro a8 s σ H b ls Q I hS h;refine _kY (I.ok.hd hc) hS h.1 λh' d tk l e out ss dw hl hg h1 h2 h3=>?_
 have e1:=_ic h2 h3;subst e1;have hz:(x5 ls).length<=sizeLine:=by rw[(_h4 ls).length_eq,sizeLine_eq];lia
 refine#[.ref l,_,Inv.dr (I.laid (t':=tk) dw hl ?_),rfl,h.2 l (I.hok.fresh hl)];exact#[by rw[X4];exact hz,out.toList,e,_ie h1,~~~hg]
end
section
variable {X:Cx}{Z:Fx0}{K:Frag}{q:Bool}{a:Ex}{e ea:Expr}{σ:L2.St}{H:Hp}{pos p p2 bn:Pos}{x y:Str}{a8:LA9}{s:Shared}
def _k3{ss z}(h:z∈ddS ss):z∈ss:=by
 have:∀(l ac:List Str),z∈l.foldl (λl k=>if l.any (· == k)then l else l++[k]) ac->z∈ac\/z∈l:=by
  intro l
  induction l with
  | nil=>intro ac h;exact .inl h
  | cons k l ih=>
   intro ac h;rcases ih _ h with h|h
   ·dsimp only at h
    split at h
    ·exact .inl h
    ·rcases aA h with h|h
     ·exact .inl h
     ·exact .inr (aC h▸X5)
   ·exact .inr (_ad _ h)
 rcases this ss [] h with h|h
 ·grind
 ·exact h
def rSS(K:Frag):List V->Hp->VK->Prop:=_k0 K λls H Q=>ls.length<64/\∀l,H l=none->Q (.ref l) (upd H l (.lst ((x5 ls).map V.str)))
#where in
def _k4:Ad1 K (λv H Q=>rSS K [v] H Q) ZJ:=by
 intro H x s Q ok hf k;unfold ZJ at hf;dsimp only at hf;cases hx:x.d with
 | lst ds=>
  rw[hx]at hf;dsimp only at hf;obtain⟨l,xs,bs,ev,q3,r3,_⟩:=items ok (.inl hx);have q3:LsR K H l xs:=by rcases q3 with⟨_,z⟩|⟨z,_⟩;exact z;rw[hx]at z;cases z
  cases hs:JQ ds with
  | some ss=>
   rw[hs]at hf;dsimp only at hf
   split at hf
   ·rename_i hl;cases _aa hf;obtain⟨e1,e2⟩:=_ig hs r3;subst e1;exact#[l,ss,by rw[ev],JK q3,⋯,Nat.lt_of_le_of_lt (_kt ss) hl,λp hp=>(k _ _ rfl rfl (KQ hp (_ii λz hz=>e2 z (_k3 ((_h4 _).mem_iff.mp hz))) nofun))]
   ·cases hf
  |none=>rw[hs]at hf;cases hf
 |_=>rw[hx]at hf;cases hf
def _k5(hK:X.K=Z.K)(hc:X.calm=true)(ha:QV X Z q a ea)(hm:X.mg "sorted"=none)(ur:X.mg "set"=none)(hg:Gl X "sorted"<|>Ŕ)(xo:Gl X "set"<|>Ŕ)(he:Abs ea [] X<|>Ŕ):
  QE X Z q (cF1 ZJ a) (.Call (.Name "sorted" p) [.Call (.Name "set" p2) [ea] [] bn] [] pos):=
 kY (_k1 hc (_k2 hc) hg hm rfl xo ur rfl ha (he:=he)) fun σ H Q h=>by
  have:=XZ _k4 h
  rwa [hK]
end
end Q
namespace Q
open PySem PySem.Spec PyProof.Rows L2 L3
section
variable {X:Cx}{Z:Fx0}{K:Frag}{H:Hp}{q g:Bool}{a:Ex}{e:Expr}{p2 pos:Pos}{x:Str}{d:D}{ds:List D}{v:V}{vs:List V}
def _k6(o:Obj)(xs:List V):Prop:=o.cls=.type "tuple"/\o.dict=none/\∃ab n,o.data=.seq ab n/\ab.size<=sizeLine/\Vals xs ab.toList
def _k7{b:Addr}{o:Obj}(h:K.lookup b=⇑o)(m:_k6 o vs):SqT K H b vs:=by
 obtain⟨m1,m2,ab,n,m3,m4,m5⟩:=m;exact .inr #[o,ab,n,h,m1,m2,m3,m4,m5]
def _k8:RepA K H g [] [] []:=by unfold RepA;exact#[rfl,rfl]
def _k9(h:RepL K H g d v [])(r:RepA K H g ds vs []):RepA K H g (d::ds) (v::vs) []:=by
 unfold RepA;exact#[v,vs,[],[],rfl,rfl,h,r]
def _la{b:Addr}(h:SqT K H b vs)(r:RepA K H g ds vs []):RepL K H g (.tup ds) (.ref b) []:=by
 unfold RepL;exact#[b,vs,rfl,h,r]
def _lb(K:Frag)(mg:Str->Option Value)(x:Str)(d:D):Prop:=∃v,Cst mg x v/\∀H,RepL K H false d v []
def q_CD(c:_lb Z.K X.mg x d)(hg:Gl X x<|>Ŕ)(hd:Abd x<|>ŕ):QE X Z true (cC d) (.Name x pos):=by
 obtain⟨v,c,r⟩:=c;exact q_C (WZ c hg hd) r
end
end Q
namespace Q
open PySem
def Zz:Sd->Option Sd:=λx=>match x.2 with
 |.lst xs=>if qW x then ⇑(.rt,.lst xs.reverse)else none|_=>none
def _lc:D->D->Option D:=λy x=>match y with
 |.dct kvs=>if qZ x=true/\unm kvs=true/\D.pures (kvs.map (·.2))=true then xZ kvs x else none|_=>none
def _ld(a b:Ex):Ex:=λE=>bnd (a E) λE x=>bnd (b E) λE y=>val E ((_lc x.2 y.2).map λd=>(.dp,d))
end Q
namespace PySem
section
variable {prog:Program}{w:World}{A:Around}{E:VP9}{s:Shared}
def _le:typeLookup (.type "list_reverseiterator") "__len__"=pure none:=am_miss_of_fast (by decide +kernel)
def _lf:typeLookup (.type "list_reverseiterator") "__length_hint__"=pure (⇑(.builtin "list_reverseiterator.__length_hint__")):=by
 rw[typeLookup_type,builtinLookup_eq_fast];have h:fastLookup "list_reverseiterator" "__length_hint__"=⇑(⇑(.builtin "list_reverseiterator.__length_hint__")):=by kernel_rfl
 simp only[h]
def QJ{α:Type}{c:Prop}[Decidable c]{M:Model}{t e:Sem α}{Q:α->Shared->Prop}(h:¬c)(k:wpAny M A e Q E s):wpAny M A (if c then t else e) Q E s:=by rw[Xj h];exact k
def _lg{α:Type}{c:Prop}[Decidable c]{M:Model}{t e:Sem α}{Q:α->Shared->Prop}(h:c)(k:wpAny M A t Q E s):wpAny M A (if c then t else e) Q E s:=by rw[Xb h];exact k
def _lh{r l:Addr}{i:Int}{Q:Bool->Shared->Prop}(hr:s.heap.IsRevIter r l i)(h:Q false s):wpAny (model prog w) A (Builtin.List.listLengthHint (.ref r)) Q E s:=by
 have hT:=hr.typeIs;unfold Builtin.List.listLengthHint;refine X0 (Z0 hT _le ?_);dsimp only;refine QJ ⋯ (QJ ⋯ (X0 (Z0 hT _lf ?_)));have sp:splitId "list_reverseiterator.__length_hint__"=⇑("list_reverseiterator","__length_hint__"):=by decide +kernel
 dsimp only;simp only[sp];refine X0 (wpAny_isInstance (b:=true) hT (by first|exact F.sub_lri_self|exact isSubtype_self _|rfl) ?_);exact QJ ⋯ (_lg (by decide +kernel) (QJ ⋯ (X6 h)))
def _li{Q:VP9}{I l:Addr}{items:Array Value}(hh:A.handled=none)(hI:s.heap.IsRevIter I l (items.size - 1))(hl:s.heap.IsList l items)(bh:l≠I)(hz:items.size<=sizeLine)
  (h:∀(h':Heap) (tk:Nat) (ac:Array Value) (c:Nat),(∀b o,b≠I->s.heap.get? b=⇑o->h'.get? b=⇑o)->h'.get? ↥s=some {cls:=.type "list",data:=.seq ac c}->ItemsOf (λi v=>items[items.size - 1 - i]?=⇑v) ac items.size->Q (.ref ↥s) {s with heap:=h',toks:=tk}):
  wpAny (model prog w) A (call (.type "list") [.ref I]) Q E s:=by
 refine callType_codes (Q₁:=λobj s₁=>obj=Value.ref ↥s/\s₁={s with heap:=s.heap.push {cls:=Value.type "list",data:=Data.seq (List.toArray [])}}) F.called_list (F.typeCall_list_1 _) F.entry_list_init (code_list_new _ #[rfl,rfl]) ?_;rintro obj s₁ ⟨rfl,rfl⟩;have eq:(s.heap.push {cls:=Value.type "list",data:=Data.seq (List.toArray [])}).get? ↥s=some {cls:=Value.type "list",data:=Data.seq (List.toArray [])}:=X9 _ rfl;have hT:Shared.TypeIs {s with heap:=s.heap.push {cls:=Value.type "list",data:=Data.seq (List.toArray [])}} (.ref ↥s) "list":=#[_,eq,rfl];have hI':(s.heap.push {cls:=Value.type "list",data:=Data.seq (List.toArray [])}).IsRevIter I l (items.size - 1):=hI.at λo e=>X3 _ e
 refine#[hT,F.args_list_init_2 _ _,?_];have hm:∃n,Obj.mapSeq (λ_=>(List.toArray [])) ({cls:=Value.type "list",data:=Data.seq (List.toArray [])}:Obj)={cls:=Value.type "list",data:=Data.seq (List.toArray []) n}:=#[_,by unfold Obj.mapSeq;rfl];obtain⟨n0,hm⟩:=hm;have rj:↥s≠I:=λe=>by
  obtain⟨o,ho,_⟩:=hI;exact absurd (Xf ho) (by rw[e];exact Ym _)
 have wb:↥s≠l:=λe=>by
  obtain⟨o,ho,_⟩:=hl;exact absurd (Xf ho) (by rw[e];exact Ym _)
 unfold Builtin.«list.__init__»;refine QJ (nofun) (QJ (λz=>absurd z (by simp)) (X0 (PyProof.Rows.listItems_at eq rfl (X0 (PyProof.Rows.listUpdate_at eq rfl ?_)))));have sb:=Yb (s.heap.push {cls:=Value.type "list",data:=Data.seq (List.toArray [])}) ↥s (Obj.mapSeq (λ_=>(List.toArray [])));have hS:=Xy (Obj.mapSeq (λ_=>((List.toArray []):Array Value))) eq rfl;rw[hm]at hS;generalize (s.heap.push {cls:=Value.type "list",data:=Data.seq (List.toArray [])}).update ↥s (Obj.mapSeq (λ_=>(List.toArray [])))=h1 at sb hS;have hI1:h1.IsRevIter I l (items.size - 1):=hI'.at λo e=>sb.extBut I o (Ne.symm rj) e
 have iy:h1.IsList l items:=by
  obtain⟨o,ho,r⟩:=hl;exact#[o,sb.extBut l o (Ne.symm wb) (X3 _ ho),r]
 refine X0 (wpAny_letGo ?_);show wpAny _ _ (Builtin.List.listExtendWith (.ref ↥s) (.ref I) .none) _ _ _;unfold Builtin.List.listExtendWith;have hT1:Shared.TypeIs {s with heap:=h1} (.ref I) "list_reverseiterator":=hI1.typeIs;refine X0 (wpAny_typeOf hT1 (QJ ?_ ?_))
 ·have e1:Builtin.List.listSameRef (.ref ↥s) (.ref I)=false:=by
   show(↥s==I)=false;exact Y2 rj
  rw[e1];decide
 refine X0 (wpAny_pyIter_revIter hI1 (X0 (Ya (_lh hI1 ?_))));refine QJ ⋯ ?_;have W:=(Walks.listRev (prog:=prog) (w:=w) (A:=A.in1.in1) (by simp[hh]) I l bh items).toS;refine X6 #[plainId_quiet (by decide +kernel) _,?_];refine codeAny_extend_loopS (A:=A.in1) W hz ↥s ?_ .none (items.size - 0) 0 _ (List.toArray []) n0 rfl (Y1 _) #[Y1 _,~~~hI1,iy] hS #[rfl,λj v e=>by simp at e] λs' f9 c' t8 lp au=>?_
 ·simp only[Yq,Y6,or_false,not_or];exact#[rj,wb]
 ·obtain⟨h2,g',d',pj,qf⟩:=s';have eg:g'=s.gens:=t8.gens;have ed:d'=s.drawn:=t8.drawn;have eo:qf=s.os:=t8.os;subst eg;subst ed;subst eo;refine#[rfl,h h2 pj f9 c' (λb o hb e=>?_) lp au];have cj:=Xf e;refine t8.heap b o ?_ (sb.extBut b o (Xk cj) (X3 _ e));simp only[Yq,Y6,or_false,not_or];exact#[Xk cj,hb]
end
end PySem
namespace Q
open PySem PySem.Spec PyProof.Rows L2 L3
section
variable {X:Cx}{Z:Fx0}{pn:List Nat}{q:Bool}{a b:Ex}{e ea:Expr}{p pos:Pos}
def _lj{ta:TE}{p2 bn:Pos}(ha:PE X ea ta)(qi:X.mg "reversed"=none)(wc:X.mg "list"=none)(hc:X.calm=true<|>Ŕ)(sf:Gl X "reversed"<|>Ŕ)(ux:Gl X "list"<|>Ŕ)
  (ba:Abs ea [] X<|>Ŕ) (bu:Abb bn [] X<|>Ŕ)
  (jn:starEach [.Call (.Name "reversed" p2) [ea] [] bn] X.env=(false,eval (.Call (.Name "reversed" p2) [ea] [] bn) X.env)::starEach [] X.env<|>Ŕ) (mv:Abb pos [] X<|>Ŕ):
  PE X (.Call (.Name "list" p) [.Call (.Name "reversed" p2) [ea] [] bn] [] pos) (fun σ H Q=>ta σ H λv H1=>∃l ys,[v]=[.ref l]/\SqL X.K H1 l ys/\∀pp,H1 pp=none->Q (.ref pp) (upd H1 pp (.lst ys.reverse))):=by
 intro a8 s σ H Q I h;refine Z3 (Jj I ux wc QK ?_);refine Y0 ?_ jn mv;rw[jn];show wpAny _ _ (spliced ((false,eval (.Call (.Name "reversed" p2) [ea] [] bn) X.env)::backTo pos (starEach [] X.env))) _ _ s;refine Calls.spliced_cons (thn (Q:=λu s2=>∃(H1:Hp) (I0 l:Addr) (ys:List V) (ab:List Value),u=.ref I0/\L2.Inv X a8 σ H1 s2/\wW X a8 H1 I0/\s2.heap.IsRevIter I0 l (ab.toArray.size - 1)/\s2.heap.IsList l ab.toArray/\l≠I0/\Vals ys ab/\ys.length<=sizeLine/\∀pp,H1 pp=none->Q (.ref pp) (upd H1 pp (.lst ys.reverse))) ?_ λu s2 hu=>?_)
 ·refine Call_ (Jj I sf qi boot_reversed (Y0 (thn (wj ha wY ba bn a8 s σ H (λvs H1=>∃l ys,vs=[.ref l]/\SqL X.K H1 l ys/\∀pp,H1 pp=none->Q (.ref pp) (upd H1 pp (.lst ys.reverse))) I ?_) λus s1 #[vs,H1,I1,r1,l,ys,e,hq,q1]=>?_) ba bu))
  ·exact h
  ·subst e;obtain⟨u,rfl,rx⟩:=xk r1;cases rx;obtain⟨ab,r',pl,hz⟩:=I1.list hq;refine call_reversed_list pl.isList #[H1,↥s1,l,ys,ab,rfl,I1.kept (t':=s1.toks) (λb o e=>X3 _ e),I1.fpOk (Xd _) (I1.hok.fresh (Xd _)),#[_,X9 _ rfl,rfl,rfl],pl.isList.push _,?_,r',hz,q1];obtain⟨o,ho,_⟩:=pl.isList;exact Xk (Xf ho)
 ·obtain⟨H1,I0,l,ys,ab,rfl,I2,f0,hri,hls,bh,hv,hz,hq⟩:=hu;refine thn (Calls.spliced_nil (Q:=λus s3=>us=[]/\s3=s2) #[rfl,rfl]) ?_;rintro us s3 ⟨rfl,rfl⟩;refine _li (I.ok.hd hc) hri hls bh (by rw[X8,<-hv.length];exact hz) λh' tk ac c kp e fh=>?_
  have fT:wW X a8 H1 ↥s3:=I2.fpOk (Xd _) (I2.hok.fresh (Xd _));have I3:L2.Inv X a8 σ H1 {s3 with heap:=h',toks:=tk}:=_dK [I0] I2 (λb o hb ee=>kp b o (λz=>hb (by rw[z];exact X5)) ee) (λb hb=>by rw[aC hb];exact f0);have hva:Vals ys.reverse ac.toList:=by
   obtain⟨hs,hg⟩:=fh;have hs:ac.size=ab.length:= ~~~hs
   rw[X8]at hg;have hl:=hv.length;refine _hw (by simp[hs,hl]) λi x u ex eu=>?_
   rw[Yp]at eu;have hi:i<ab.length:=by rw[<-hs];exact(Array.getElem?_eq_some_iff.mp eu).1
   have h2:=hg i u eu;rw[List.getElem?_reverse ⋯]at ex;obtain⟨u',hu',ru'⟩:=hv.get ex;rw[List.getElem?_toArray,show ab.length - 1 - i=ys.length - 1 - i by lia,hu']at h2;cases _aa h2;exact ru'
  have I4:=_c5 (a:=↥s3) (o:=.lst ys.reverse) I3 fT.1 fT.2.1 fT.2.2.2.1 fT.2.2.2.2.1 fT.2.2.2.2.2 (show ObjOk X.prog X.w _ h' _ (.lst ys.reverse)from#[by rw[List.length_reverse];exact hz,ac.toList,c,hva,~~~e]);exact#[.ref ↥s3,_,I4,rfl,hq _ fT.1]
def _lk{g:Bool}{K:Frag}{H:Hp}:∀{ds:List D} {xs:List V} {as:List Addr},RepA K H g ds xs as->∃fg,RepA K H g ds.reverse xs.reverse fg/\∀b∈fg,b∈as
 |[],xs,as,h=>by
  unfold RepA at h;obtain⟨rfl,rfl⟩:=h;exact#[[],by unfold RepA;exact#[rfl,rfl],λ_ z=>z]
 |d::ds,xs,as,h=>by
  unfold RepA at h;obtain⟨x,r,bs,cs,rfl,rfl,h1,h2⟩:=h;obtain⟨fg,i1,i2⟩:=_lk h2;refine#[fg++bs,by rw[List.reverse_cons,List.reverse_cons];exact RepA.snoc h1 i1,λb hb=>?_];rcases aA hb with z|z
  ·exact _ab _ (i2 b z)
  ·exact _ac _ z
def _ll(K:Frag):V->Hp->VK->Prop:=λv H Q=>∃l ys,[v]=[V.ref l]/\SqL K H l ys/\∀pp,H pp=none->Q (.ref pp) (upd H pp (.lst ys.reverse))
#where in
def _lm{K:Frag}:Ad1 K (_ll K) Zz:=by
 intro H x s Q ok hf k;unfold Zz at hf;dsimp only at hf
 split at hf
 ·rename_i ds e
  split at hf
  ·rename_i hl;cases _aa hf;obtain⟨l,xs,bs,ev,q3,r3,h3⟩:=zW ok (.inl e) hl;have q3:LsR K H l xs:=by rcases q3 with⟨_,z⟩|⟨z,_⟩;exact z;rw[e]at z;cases z
   obtain⟨fg,i1,i2⟩:=_lk r3;exact#[l,xs,by rw[ev],JK q3,λp hp=>k #[.rt,.lst ds.reverse,.ref p,p::fg] _ rfl rfl (KQ hp i1 λb hb=>h3 b (i2 b hb))]
  ·cases hf
 ·cases hf
def _ln{p2 bn:Pos}(ha:QV X Z q a ea)(qi:X.mg "reversed"=none)(wc:X.mg "list"=none)(hK:X.K=Z.K<|>Ŕ)(hc:X.calm=true<|>Ŕ)(sf:Gl X "reversed"<|>Ŕ)(ux:Gl X "list"<|>Ŕ)
  (ba:Abs ea [] X<|>Ŕ) (bu:Abb bn [] X<|>Ŕ)
  (jn:starEach [.Call (.Name "reversed" p2) [ea] [] bn] X.env=(false,eval (.Call (.Name "reversed" p2) [ea] [] bn) X.env)::starEach [] X.env<|>Ŕ) (mv:Abb pos [] X<|>Ŕ):
  QE X Z q (cF1 Zz a) (.Call (.Name "list" p) [.Call (.Name "reversed" p2) [ea] [] bn] [] pos):=
 kY (_lj ha qi wc hc sf ux ba bu jn mv) fun σ H Q h=>XZ (r:=_ll X.K) (hK▸_lm) h
end
section
variable {P:Program}{w:PySem.World}{K:Frag}{mg:Str->Option Value}{base h:Heap}{x:Str}{st:Stmt}{ps:List Str}{k:Nat}{sp:Sp}
def _lo(K:Frag)(x qual:Str)(st:Stmt)(f:Addr)(fd:FuncData):Prop:=∃(oc:Value) (od:Option Addr) (dV kV gq pm:Value) (an:Option Addr) (ce ct:Value) (mf:Array (Option Value)),
  fd=PySem.W.fnOf x qual (xx st) (zK st) (jW st) dV kV gq pm an ce ct/\K.lookup f=⇑#[oc,od,.func fd,mf]/\PySem.W.codeIn K ce qual=true
def _lp{qual f fd N}(F:_lo K x qual st f fd)(S:FnScope N ps (jW st))(len:∀vs H Q E,sp vs H Q E->vs.length=ps.length)
  (ir:∀ce (A) (outer) (s) (H) (vs) (Q) (E),Room k (A.deeper (envOfC qual (jW st) ↥s f ce))->sp vs H Q E ->
   ∃t,PSs (Cx.ex' (Jk (CXE P w) P w K mg base N qual (jW st) f ce A outer s H E) E) (zK st) t/\t {nx:=λ_ H'=>Q .non H',rt:=Q} (L2.start N vs) H):FnOk P w K mg base (CXE P w) (k+1) f fd ps sp:=by
 obtain⟨oc,od,dV,kV,gq,pm,an,ce,ct,mf,rfl,lk,iq⟩:=F;refine _bK lk iq S len λA outer s H vs Q E hr ng=>?_
 obtain⟨t,h,q⟩:=ir ce A outer s H vs Q E hr ng;exact#[t,λa8 s' σ H' D I hw=>wpAny_mono (h a8 s' σ H' D (I.wish _) hw) (λf lc z=>z.unwish) λe lc z=>_dZ z,q]
def GfD(K:Frag)(x:Str)(st:Stmt):Prop:=∃(f dt:Addr) (oc:Value) (od:Option Addr) (kV dc pm:Value) (an:Option Addr) (cd ct:Value) (sl:Array (Option Value)) (ot:Obj) (n:Nat),nsIn K mainGlobals x=some ⇑(.ref f)/\K.lookup f=⇑#[oc,od,.func (PySem.W.fnOf x x (xx st) (zK st) (jW st) (.ref dt) kV dc pm an cd ct),sl]/\PySem.W.codeIn K cd x=true/\PySem.W.keepIn K (.ref f)=true/\K.lookup dt=⇑ot/\ot.data=.seq %[.none|0] n
def GfD.mk{f dt oc od kV dc pm an cd ct sl ot n}(a:nsIn K mainGlobals x=some ⇑(.ref f))(l:K.lookup f=⇑#[oc,od,.func (PySem.W.fnOf x x (xx st) (zK st) (jW st) (.ref dt) kV dc pm an cd ct),sl])(c:PySem.W.codeIn K cd x=true)(k:PySem.W.keepIn K (.ref f)=true)(e1:K.lookup dt=⇑ot)(e2:ot.data=.seq %[.none|0] n):GfD K x st:=#[f,dt,oc,od,kV,dc,pm,an,cd,ct,sl,ot,n,a,l,c,k,e1,e2]
end
def _lq{fd dt ot n}(hd:fd.defaults=.ref dt)(h1:fd.params.posonlyargs=[])(h2:fd.params.args.map (·.arg)=(["one","other","pair"]:List Str))(h3:fd.params.vararg=none)(h4:fd.params.kwonlyargs=[])(h5:fd.params.kwarg=none)
  {s} (hs:s.heap.get? dt=⇑ot) (ht:ot.data=.seq %[.none|0] n) (a b):BindsTo s fd #[[a,b],[]] [("one",a),("other",b),("pair",.none)]:=by
 intro M A E Q q;unfold bindArgs;simp only[h1,h2,h3,h4,h5,hd];exact X0 (X6 (X0 (wpAny_seqItems hs ht (wpAny_of_eq (by rfl) q))))
section
variable {P:Program}{w:PySem.World}{K:Frag}{mg:Str->Option Value}{base h:Heap}{x:Str}{st:Stmt}{k:Nat}{sp:Sp}
def _lr{p:List Value->Prop}:∀us,us.length=2->(∀a b,p [a,b])->p us
 |[_,_],_,h=>h _ _
end
abbrev wwq(K:Frag)(td ty:TE):TE:=fun σ H Q=>td σ H λx H1=>ty σ H1 λy H2=>∃(a b:Addr) (k:Kd) (es:List Ent) (ep:Nat) (v:V) (p:Addr×Value),x=.ref a/\y=.ref b/\H2 a=⇑(qV a es ep)/\(es.map (·.1)).Nodup/\(∀x∈es,PuR K H2 x.1.1 (.ref x.2.1))/\PuR K H2 k.1 (.ref b)/\atKey es k=⇑p/\RelV v p.2/\Q v H2
section
variable {X:Cx}{Z:Fx0}{q qa:Bool}{a b:Ex}{td ty:TE}{o i ea eb:Expr}{pos:Pos}
def _ls(hu:X.A.units+64<cLine)(ho:PE X o td)(hi:PE X i ty)(hs:_cJ i):PE X (.Subscript o i pos) (wwq X.K td ty):=by
 intro a8 s σ H Q I h;refine _cK PySem.F.slot_dict_getitem.lookup hs (thn (ho a8 s σ H _ I h) λu s1 hz=>?_);obtain⟨x,H1,I1,rx,q1⟩:=hz;refine thn (hi a8 s1 σ H1 _ I1 q1) λiv s2 hz=>?_
 obtain⟨y,H2,I2,ry,a,b,k,es,ep,v,p,ex,ey,d,hn,hks,hk,hp,rv,q2⟩:=hz;subst ex ey;obtain rfl:u=Value.ref a:=rx;obtain rfl:iv=Value.ref b:=ry;have dd:=_iP I2 d hn hks;exact#[dd.typeIs,wpAny_getItem_heap (_iR hu) (XJ I2 hk rfl) dd hp #[v,H2,I2.tok _,rv,q2]]
def _lt(hu:X.A.units+64<cLine)(ha:QV X Z qa a ea)(hb:QV X Z true b eb)(hs:_cJ eb)(hK:X.K=Z.K<|>Ŕ):QV X Z qa (_ld a b) (.Subscript ea eb pos):=
 kY (hK▸_ls hu ha hb hs) fun σ H Q ai=>ex8 ai λE L r m w hc xc k=>by
  refine qY m w (hc) xc λE1 s h1 x L1 H1 e1 e2 m1 w1 ok fr sr st sm=>(qY m1 w1 h1 (xc.step st) λE2 s2 h2 y L2 H2 e3 e4 m2 w2 gm ou pd bo dk=>?_)
  obtain⟨z,hz0,rfl⟩:=x6 h2;obtain⟨d,hz,rfl⟩:=Option.map_eq_some_iff.mp hz0;unfold _lc at hz;cases hy:s.2 with
  | dct kvs=>
   rw[hy]at hz;dsimp only at hz
   by_cases hc:qZ s2.2=true/\unm kvs=true/\D.pures (kvs.map (·.2))=true
   ·rw[Xb hc]at hz;obtain⟨b,eb,pb⟩:=_iY gm (e4▸hc.1);have ji:qK 6 y.d=true:=by
     have:qZ y.d=true:=by rw[e4];exact hc.1
     unfold qZ at this;rw[Bool.and_eq_true]at this;exact this.1
    have h:=RepO.wk (K3 ok fr bo (dk rfl)).1;rw[e2,hy]at h;obtain⟨l,xs,bs,e,rp,dc,_⟩:=h;obtain⟨es,ep,d1,d2,d3,d4,d5,d6,d7⟩:=DcA.un dc hc.2.1;obtain⟨g1,g2⟩:=_kh (k:=#[y.d,ji]) rp d5 d7 hc.2.2;have hyk:(#[y.d,ji]:Kd).1=s2.2:=e4;cases jd:atKey es #[y.d,ji]with
    |none=>grind
    |some p=>
     obtain⟨d',v',q1,q2,q3,q4⟩:=g1 p jd;rw[hyk,hz]at q1;cases _aa q1;exact#[l,b,_,es,ep,v',p,e,eb,d1,d4,d6,pb,jd,q2,k _ _ rfl #[.dp,d,v',[]] L2 H2 rfl rfl m2 w2 q3 (nofun) (nofun) (st.trans bo) λhq=>kZ (sm hq) (dk rfl)]
   ·rw[Xj hc]at hz;cases hz
  |_=>rw[hy]at hz;cases hz
end
end Q
namespace Q
open PySem
def _lu(f:Fn)(cs:List Ex):Ex:=λE=>bnd (vX cs E) λE xs=>match f (letAll (xs++[(.no,.non)]))with
 |some (.ok _ y)=>⇑(.ok E y)|some (.exc _ c)=>⇑(.exc E c)|none=>none
end Q
namespace Q
open PySem PySem.Spec PyProof.Rows L2 L3
def _lv(P:Program)(w:PySem.World)(K:Frag)(mg:Str->Option Value)(base:Heap)(k:Nat)(x:Str)(ps:List Str)(sp:Sp):Prop:=
 ∃(f:Addr) (fd:FuncData),FnOk P w K mg base (CXE P w) k f fd ps sp/\Binds K fd ps [.none]/\PySem.W.keepIn K (.ref f)=true/\mg x=⇑(.ref f)
def GfD.n{P w K mg base h x st k sp}(g:GfD K x st)(X:K.In h)(G:h.Ns mainGlobals mg)(ok:∀{f fd},_lo K x x st f fd->FnOk P w K mg base (CXE P w) k f fd ["one","other","pair"] sp)
  (h1:(xx st).posonlyargs=[]<|>Ŕ) (h2:(xx st).args.map (·.arg)=(["one","other","pair"]:List Str)<|>Ŕ) (h3:(xx st).vararg=none<|>Ŕ) (h4:(xx st).kwonlyargs=[]<|>Ŕ) (h5:(xx st).kwarg=none<|>Ŕ):_lv P w K mg base k x ["one","other","pair"] sp:=by
 obtain⟨f,dt,oc,od,kV,dc,pm,an,cd,ct,sl,ot,n,a,l,c,kp,e1,e2⟩:=g;refine#[f,_,ok #[oc,od,.ref dt,kV,dc,pm,an,cd,ct,sl,rfl,l,c],λs us kin hl=>?_,kp,PySem.W.mg_of X G a];have hl:us.length=2:=by rw[Xe]at hl;exact Nat.add_right_cancel hl
 obtain⟨u1,u2,rfl⟩:∃a b,us=[a,b]:=_lr (p:=λus=>∃a b,us=[a,b]) us hl λa b=>#[a,b,rfl]
 exact _lq rfl h1 h2 h3 h4 h5 (kin dt _ e1) e2 u1 u2
def _lw{X x p pos e es t ps sp k E}(D:_lv X.prog X.w X.K X.mg X.base k x ps sp)(hr:Room k X.A)(g:xW X E)(ha:PA X (e::es) t)(hg:Gl X x<|>Ŕ)(fu:Abd x<|>ŕ)
  (he:Abs e es X<|>Ŕ) (bu:Abb pos es X<|>Ŕ):
  PE X (.Call (.Name x p) (e::es) [] pos) (wjr sp [.non] E t):=by
 obtain⟨f,fd,F,b,kp,m⟩:=D;exact _bD F hr hg m kp b (.cons rfl .nil) (_dX g) ha fu he bu
section
variable {X:Cx}{Z:Fx0}{q:Bool}{e:Expr}{es:List Expr}{p pos:Pos}
def _lx{k n x ps f cs}(D:_lv X.prog X.w X.K X.mg X.base k x ps (spF Z.K Z.mg n f))(hr:Room k X.A)(g:xW X Z.EX)(ha:QA X Z q cs (e::es))(hn:cs.length+1=n<|>Ŕ)(hg:Gl X x<|>Ŕ)(fu:Abd x<|>ŕ)
  (he:Abs e es X<|>Ŕ) (bu:Abb pos es X<|>Ŕ):
  QE X Z false (_lu f cs) (.Call (.Name x p) (e::es) [] pos):=kY (_lw D hr g ha hg fu he bu) fun σ H Q ai=>ex8 ai λE L r m w hc xc kk=>
 _fX m w (hc) xc λE1 ys h1 hl xs L1 H1 e1 m1 w1 st sm=>by
  have ae:xs.length+1=n:=by rw[<-hn,<-hl,<-e1,X4]
  cases hf:f _ with
  | none=>rw[hf]at h1;cases h1
  | some fr=>
   rw[hf]at h1;obtain⟨wl,sl⟩:=_gc w1
   let nn:Sl:=#[.no,.non,.non,[]]
   have ev:xs.map Sl.v++[.non]=(xs.map Sl.let++[nn]).map Sl.v:=by rw[X7,Xi];rfl
   have rn:RepL Z.K H1 true _root_.Q.D.non V.non []:=#[rfl,rfl];have wn:World Z.K H1 ((xs.map Sl.let++[nn]).map some):=by
    rw[X7];exact World.comm (wl.left.consPu rn rfl)
   have pm:(⇑nn::((xs.map Sl.let).map some++L1)).Perm ((xs.map Sl.let++[nn]).map some++L1):=by
    rw[X7,Xs];exact List.perm_middle.symm
   have stn:Step H1 ((xs.map Sl.let).map some++L1) H1 (⇑nn::((xs.map Sl.let).map some++L1)):=#[λ_ _ z _=>z,λa z=>.inl (by simpa [Sl.own,nn]using z),λa z=>.inl (by simpa [Sl.frz,nn]using z)];have wn2:=World.perm (wl.consPu (x:=nn) rn rfl) pm;have om:=sl.trans (stn.trans (Step.refl.perm (List.Perm.refl _) pm));rw[ev];refine#[xs.map Sl.let++[nn],fr,rfl,by rw[Xe,X4];exact ae,wn,?_,λE' c ee C H' hm s'=>?_,λE' a ee y H' e2 e3 w' s'=>?_]
   ·rw[<-e1]at hf;rw[<-hf,X7];unfold letAll;rw[X7,Xi,Xi];rfl
   ·subst ee;cases _aa h1;obtain⟨w2,s2⟩:=stay wn2 s' #[λ_ z=>(nomatch z),Xp,λ_ z=>(nomatch z)];exact xc _ _ rfl C L1 H' hm m1 w2 ((st.trans om).trans s2)
   ·subst ee;cases _aa h1;obtain⟨w2,s2⟩:=stay wn2 s' w';exact kk _ _ rfl y L1 H' e2 e3 m1 w2 ((st.trans om).trans s2) nofun
end
@[irreducible] noncomputable def ShE (X:Cx) (Z:Fx0) (q:Bool) (c:Ex) (e:Expr):Prop:=QE X Z q c e
@[irreducible] noncomputable def ShA (X:Cx) (Z:Fx0) (q:Bool) (cs:List Ex) (es:List Expr):Prop:=QA X Z q cs es
@[irreducible] noncomputable def ShS (X:Cx) (Z:Fx0) (pn:List Nat) (c:Sm) (st:Stmt):Prop:=QS X Z pn c st
@[irreducible] noncomputable def ShB (X:Cx) (Z:Fx0) (pn:List Nat) (c:Sm) (ss:List Stmt):Prop:=QSs X Z pn c ss
end Q
namespace Q
open PySem
noncomputable def mkB:D×D:=(.str "b",.non)
def xY(ks:List Int):D:=.dct (mkB::ks.map λk=>(.int k,.bl true))
def _ly : List (D × D) -> Option (List Int)
  |[]=>⇑[]|(.int k,.bl true)::r=>(_ly r).map (k :: ·)|_=>none
def idB:D->Option (List Int):=λd=>match d with
 |.dct ((.str _,.non)::kvs)=>_ly kvs|_=>none
def Jq(ks:List Int)(k:Int):List Int:=if k∈ks then ks else ks++[k]
def _lz:Ex:=λE=>⇑(.ok E (.rt,xY []))
def _lA : Sd -> D -> D -> Option D:= λs k v=>match s,k,v with
  |(.rt,d),.int a,.bl true=>(idB d).bind λkv=>if kv.length<big then ⇑(xY (Jq kv a))else none|_,_,_=>none
def _lB:Nat->Ex->Ex->Sm:=WX _hH _lA
def _lC:Sd->Option Sd:=λx=>match idB x.2 with
 |some kv=>⇑(.rt,.lst (kv.map D.int))|none=>none
def XX:D->Option D:=λx=>match idB x with
 |some kv=>⇑(.int kv.length)|none=>none
end Q
namespace Q
open PySem PySem.Spec PyProof.Rows L2 L3
def _lD:∀{vs us},vs.length=us.length->(∀(i:Nat) v u,vs[i]?=⇑v->us[i]?=⇑u->RelV v u)->Vals vs us
 |[],[],_,_=>.nil|v::vs,u::us,hl,h=>.cons (h 0 v u rfl rfl) (_lD (~~~hl) λi v u e1 e2=>h (i+1) v u (~~~e1) (~~~e2))|[],_::_,h,_=>by cases h
abbrev dkB(ks:List Int):List (Key×V):=ks.map λk=>(Sum.inl k,V.bl true)
def _lE ks k:x9 (dkB ks) (Sum.inl k) (V.bl true)=dkB (Jq ks k):=by
 unfold x9 Jq
 by_cases h:k∈ks
 ·simp_all
 ·simp_all
#where in
def _lF:∀{kvs kv},_ly kvs=⇑kv->kvs=kv.map λp=>(D.int p,D.bl true):=by
 intro kvs
 induction kvs with
 |nil=>intro kv h;cases _aa h;rfl
 |cons e r ih=>
  intro kv h;obtain⟨a,b⟩:=e;cases a<;>first|(cases h;done)|(cases b<;>first|(cases h;done)|skip)
  rename_i z;cases z
  ·cases h
  obtain⟨q,hq,rfl⟩:=Option.map_eq_some_iff.mp (show(_ly r).map _=⇑kv from h);rw[List.map_cons,<-ih hq]
def _lG:∀kv,_ly (kv.map λp=>(D.int p,D.bl true))=⇑kv
 |[]=>rfl
 |k::r=>by
  show(_ly _).map _=_;rw[_lG r];rfl
def _lH kv:idB (xY kv)=⇑kv:=_lG kv
def _lI{K H g}:RepL K H g (.bl true) (.bl true) []:=#[rfl,rfl]
def _lJ{K H g}:∀{kv:List Int} {xs bs},RepP K H g (kv.map λp=>(D.int p,D.bl true)) xs bs->xs=kv.map λ_=>V.bl true
 |[],xs,bs,h=>by
  exact h.1
 |p::r,xs,bs,h=>by
  obtain⟨y,rr,b1,b2,rfl,_,h1,h2⟩:=h;rw[h1.1,_lJ h2,List.map_cons]
def _lK{K H g}:∀(kv:List Int),RepP K H g (kv.map λp=>(D.int p,D.bl true)) (kv.map λ_=>V.bl true) []
 |[]=>#[rfl,rfl]
 |p::r=>by
  exact#[_,_,[],[],rfl,rfl,_lI,_lK r]
def _lL{K H g}(kv:List Int):RepP K H g (mkB::kv.map λp=>(D.int p,D.bl true)) (V.non::kv.map λ_=>V.bl true) []:=by
 exact#[_,_,[],[],rfl,rfl,#[rfl,rfl],_lK kv]
def _lM{K H}{p} kv:RepR K (upd H p (.dK (dkB kv))) (xY kv) (.ref p) [p]:=
 #[p,_,[],rfl,_lL _,.inr #[kv.map λp=>(p,V.bl true),"b",by rw[vW,Xi];rfl,by rw[List.map_cons,Xi,Xi];rfl,by rw[Xi];rfl],rfl]
def _lN:∀{a:List (Int×V)} {kv},(kv.map λp=>D.int p)=a.map (λp=>D.int p.1)->(kv.map λ_=>V.bl true)=a.map (·.2)->(a.map λp=>((Sum.inl p.1:Key),p.2))=dkB kv
 |[],[],_,_=>rfl|[],_::_,h,_=>by simp_all
 |p::a,q::kv,h,h'=>by
  rw[List.map_cons,List.map_cons]at h h';injection h with h1 h2;injection h' with h3 h4;injection h1 with h1;unfold dkB;rw[List.map_cons,List.map_cons,_lN h2 h4,<-h1,<-h3]
def _lO{K H}{y:Sl}{kv}(ok:y.ok K H)(hd:idB y.d=⇑kv):∃a,y.v=.ref a/\H a=⇑(.dK (dkB kv))/\∃bs,y.as=a::bs:=by
 have h:=RepO.wk ok;cases hy:y.d with
 | dct kvs=>
  rw [hy]at hd h;cases kvs with
  | nil=>cases hd
  | cons e kvs=>
   obtain⟨a,b⟩:=e;cases a with
   | str m=>
    cases b with
    | non=>
     have e:=_lF hd;subst e;obtain⟨a,xs,bs,ev,rp,qa,eas⟩:=h;rcases qa with⟨es,ep,_,_,_,_,g5,g6,_⟩|⟨kvn,mm,g1,g2,g3⟩
     ·exfalso;rw[List.map_cons]at g5;cases es with
      |nil=>cases g5
      |cons n es=>
       rw[List.map_cons]at g5;injection g5 with g5 _;have:=g6 n X5;rw[<-g5]at this;unfold PuR at this
       grind
     ·refine#[a,ev,?_,bs,eas];rw[g1]
      congr 2
      obtain⟨y1,rr,_,_,rfl,_,_,r2⟩:=rp;have e1:=_lJ r2;rw[List.map_cons,Xi]at g2;injection g2 with _ g2;refine _lN g2 ?_
      simp_all
    |_=>cases hd
   |_=>cases b<;>cases hd
 |_=>rw[hy]at hd;cases hd
section
variable {X:Cx}{Z:Fx0}{pn:List Nat}{q qa:Bool}{a b c kc vc:Ex}{o ea eb ec ke ve:Expr}{pos ay af:Pos}
def _lP:QE X Z true _lz (.Dict [] [] pos):=_gO (C:=λ_=>True) (ob:=λ_=>.dK []) (kY _cP λ_ _ _ h p hp=>h p hp trivial) ⋯ λ_ p _=>_lM (p:=p) []
#where in
def _lQ{i}(hu:X.A.units+64<cLine)(ho:PE X o (wV i))(hk:QV X Z true kc ke)(hv:QE X Z q vc ve)(hs:swapsWith ve ⇑(.Subscript o ke ay) pos.line X.env=pure false<|>Ŕ):
  QS X Z pn (_lB i kc vc) (.Assign [.Subscript o ke ay] ve pos):=_gP (W:=wDK) (_cN ⋯ ho hk hv hs) #[rfl,rfl] fun {H L y x z d} {C} hy w m8 dm k=>by
 unfold _lA at dm
 split at dm
 ·rename_i oq hz hx;injection oq with h2 h3;obtain⟨kv,hi,dm⟩:=Option.bind_eq_some_iff.mp dm
  split at dm
  ·rename_i hl;cases _aa dm;refine _jt hy w h2 (_lO (w.tail.ok y (vz hy)) (h3▸hi)) (qj m8 hz) (Q0 (w.ok x X5) hx) (_lE _ _) (by show(kv.map _).length<sizeLine;rw[X4];exact hl) (_lM _) k
  ·cases dm
 ·cases dm
end
def _lR{ks}:∀{vs},KV (dkB ks) vs->vs.length=ks.length/\∀(i:Nat) k x,vs[i]?=⇑(k,x)->∃p,ks[i]?=⇑p/\k=Sum.inl p:=by
 induction ks with
 | nil=>intro vs h;cases h;exact#[rfl,λi k x h=>by simp at h]
 | cons p r ih=>
  intro vs h;cases h with
  |cons h1 h2=>
   obtain⟨g1,g2⟩:=ih h2;refine#[by simp[g1],λi k x e=>?_];cases i with|zero=>simp_all|succ i=>exact g2 i k x (~~~e)
def _lS(K:Frag):List V->Hp->VK->Prop:=λxs H Q=>∃(a:Addr) (kv:List Int),xs=[.ref a]/\H a=⇑(.dK (dkB kv))/\∀l,H l=none->Q (.ref l) (upd H l (.lst (kv.map λp=>V.int p)))
def _lT{X} K (hc:X.calm=true<|>Ŕ):CallR X (.type "list") (_lS K):=by
 rintro a8 s σ H xs us Q I r ⟨a,kv,rfl,hH,q⟩;obtain⟨u,rfl,rx⟩:=xk r;cases rx;obtain⟨hz,lo,vs,dj,dd⟩:=_cB I.hok hH;obtain⟨ep,jd⟩:=dd.dictAt;obtain⟨v1,v2⟩:=_lR dj;have hl:vs.length<=sizeLine:=by
  simp_all
 refine PySem.W.kdl_call (PySem.W.kdl_dict lo) (I.ok.hd hc) jd hl λh' tk ac c kp e au=>(#[.ref ↥s,_,I.laid kp (Xd _) (show ObjOk X.prog X.w _ h' _ (.lst _)from#[by rw[X4,<-v1];exact hl,ac.toList,c,_lD ?_ λi v u e1 e2=>?_,~~~e]),rfl,q _ (I.hok.fresh (Xd _))])
 ·have e3:ac.toList.length=vs.length:=Array.length_toList.trans au.1
  simp_all
 ·obtain⟨k,x,g1,g2⟩:=au.2 i u (~~~e2);obtain⟨p,g3,rfl⟩:=v2 i k x g1;rw[Xh,g3]at e1;cases _aa e1;exact Value.isInt_shape g2
def _lU{K}:Ad1 K (λv H Q=>_lS K [v] H Q) _lC:=by
 intro H x s Q ok hf k;unfold _lC at hf;cases hx:idB x.d with
 |none=>simp_all
 |some kv=>
  rw[show idB (x.o,x.d).2=⇑kv from hx]at hf;cases _aa hf;obtain⟨a,ev,hH,_⟩:=_lO ok hx;exact#[a,kv,by rw[ev],hH,λl hl=>k _ _ rfl rfl (KQ hl (_ij) nofun)]
def _lV:List V->Hp->VK->Prop:=λxs H Q=>∃(a:Addr) (kv:List Int),xs=[.ref a]/\H a=⇑(.dK (dkB kv))/\Q (.int kv.length) H
def _lW{X}:CallR X (.builtin "len") _lV:=by
 rintro a8 s σ H xs us Q I r ⟨a,kv,rfl,hH,q⟩;obtain⟨u,rfl,rx⟩:=xk r;cases rx;obtain⟨hz,lo,vs,dj,o,es,ep,h1,h2,h3,h4,h5,h6⟩:=_cB I.hok hH;have hl:es.size=kv.length:=by
  have:=h5.length;rw[(_lR dj).1]at this;exact this
 have hz:kv.length<=sizeLine:=by simpa [dkB]using hz
 exact _kg lo #[o,es,ep,h1,h2.1,h3,hl] (by rw[sizeLine_eq]at hz;lia) #[.int kv.length,H,I.tok _,#[_,rfl],q]
def _lX{K}:Ad1 K (λv H Q=>_lV [v] H Q) (pu1 XX):=by
 intro H x s Q ok hf k;have hf:(XX x.d).map _=⇑s:=hf;unfold XX at hf;cases hx:idB x.d with
 |none=>simp_all
 |some kv=>
  rw[hx]at hf;cases _aa hf;obtain⟨a,ev,hH,_⟩:=_lO ok hx;exact#[a,kv,by rw[ev],hH,k _ H rfl rfl (_eG (λ_ _ h=>h) vw)]
end Q
namespace Q
def _lY:D->Option D
 |.lst ds=>(match Qq ds with
  |some is=>is.max?.map D.int
  |none=>none)
 |_=>none
end Q
namespace Q
open PySem PySem.Spec PyProof.Rows L2 L3
def _lZ(K:Frag):List V->Hp->VK->Prop:=λxs H Q=>∃(p:Addr) (is:List Int) (M:Int),xs=[.ref p]/\SqL K H p (is.map V.int)/\is.max?=⇑M/\Q (.int M) H
def _l0{X}(hc:X.calm=true<|>Ŕ):CallR X (.builtin "max") (_lZ X.K):=by
 rintro a8 s σ H xs us Q I r ⟨p,is,M,rfl,hq,hM,q⟩;obtain⟨u,rfl,ru⟩:=xk r;cases ru;obtain⟨ab,rv,pl,hz⟩:=I.list hq;have ue:=pl.isList;have cj:p<↥s:=by obtain⟨_,e,_⟩:=ue;exact Xf e
 have ae:is.length=ab.length:=by rw[<-rv.length,X4]
 obtain⟨hM1,hM2⟩:=List.max?_eq_some_iff.mp hM;have i6:∀i h,is.getD i 0=is[i]:=λi h=>by rw[X2,X1 h];rfl
 have hP:∀i v,ab.toArray[i]?=⇑v->∃t,v=Value.int (is.getD i 0) t:=λi v hP=>by
  have hP:ab[i]?=⇑v:= ~~~hP
  have hi:i<is.length:=by rw[ae];exact(aF hP).1
  obtain⟨u,e1,e2⟩:=rv.get (by rw[Xh,X1 hi];rfl);rw[hP]at e1;cases _aa e1;obtain⟨t,rfl⟩:=e2;exact#[t,by rw[i6 i hi]]
 have h0:=List.length_pos_of_mem hM1;refine call_max_walk (Zg ue ?_);refine#[↥s,[↥s,p],[↥s],ab.toArray.size,_,_,_,rfl,PySem.Walks.list (A:=X.A.in1) (I.ok.hd hc) _ p (Xk cj) ab.toArray,
  #[#[_,X9 _ rfl,rfl,rfl],ue.push _],λb fq=>?_,by rw[X8];lia,CmpOf.ints_gt _ hP,λv h' tk hv hk=>?_]
 ·rw[Zb];simp at fq;rcases fq with e|e
  ·rw[e];exact Nat.lt_succ_self _
  ·rw[e];exact Z6 cj
 ·obtain⟨t,rfl⟩:=hP _ _ hv;obtain⟨h1,h2⟩:=argBest_gt _ (ab.toArray.size - 1);rw[X8,<-ae]at h1 h2 ⊢;generalize argBest _ _=b at h1 h2 ⊢;have e:is.getD b 0=M:=by
   have hb:b<is.length:=⋯
   obtain⟨j,hj,ej⟩:=Yj hM1;have g1:=h2 j ⋯;have g2:=hM2 is[b] (Xn hb);rw[i6 b hb]at g1 ⊢;rw[i6 j hj,ej]at g1;lia
  rw[e];refine#[.int _,H,I.kept (t':=tk) (h':=h') λb o e=>hk b o (λz=>?_) (X3 _ e),#[_,rfl],q];exact absurd (Xf e) (aC z▸Ym _)
def _l1{X} K (hK:X.K=K<|>Ŕ)(hc:X.calm=true<|>Ŕ):CallR X (.builtin "max") (_lZ K):=by subst hK;exact _l0 hc
#where in
def _l2{K}:Ad1 K (λv H Q=>_lZ K [v] H Q) (pu1 _lY):=by
 intro H x s Q ok hf k;unfold pu1 _lY at hf;dsimp only at hf
 split at hf
 ·rename_i ds e;cases hb:Qq ds with
  | none=>rw[hb]at hf;cases hf
  | some is=>
   rw[hb]at hf;dsimp only at hf;cases hM:is.max? with
   |none=>grind
   |some M=>
    rw[hM]at hf;cases _aa hf;obtain⟨l,xs,cs,ev,q3,r3,_⟩:=items ok (.inl e);have q3:LsR K H l xs:=by rcases q3 with⟨_,z⟩|⟨z,_⟩;exact z;rw[e]at z;cases z
    exact#[l,is,M,by rw[ev],by rw[<-_ih hb r3];exact q3.sq,hM,k _ H rfl rfl KK]
 ·cases hf
def OkF(P:Program)(w:PySem.World)(K:Frag)(mg:Str->Option Value)(base:Heap)(k:Nat)(x:Str)(st:Stmt)(ps:List Str)(n:Nat)(m:Fn):Prop:=∀(f:Addr) (fd:FuncData),Fun K x x st f fd->FnOk P w K mg base (CXE P w) k f fd ps (spF K mg n m)
section
variable {P:Program}{w:PySem.World}{K:Frag}{mg:Str->Option Value}{base h:Heap}{k n nn:Nat}{x:Str}{st:Stmt}{ps N:List Str}{B:Sm}
def okF(S:FnScope N ps (jW st))(t:∀{f ce A outer s H E},Room k (A.deeper (envOfC x (jW st) ↥s f ce))->QSs (Cx.ex' (Jk (CXE P w) P w K mg base N x (jW st) f ce A outer s H E) E) #[K,mg,E] [] B (zK st))(hp:ps.length=n<|>Ŕ)(hN:N.length=nn<|>Ŕ):OkF P w K mg base (k+1) x st ps n (fn nn B):=
 λ_ _ F=>_d0 F S (_f7 hp) λ_ _ _ _ _ _ _ _ hr h=>_f9 hN (t hr) h
end
section
variable {X:Cx}{Z:Fx0}{pn:List Nat}{q qa:Bool}{a b:Ex}{ea eb:Expr}{pos p:Pos}{m:Nat}
def xQ{v:Bool}{j}:QE X Z true (cC (.bl v)) (.Constant (.bool v) j p):=q_C _av λ_=>_eK
noncomputable def zq:QE X Z true (q9 .rt []) (.List [] p):=wX jq
def jK(h:QE X Z q a ea):QSs X Z pn (jJ a) [.Return ⇑ea pos]:=k8 (_e5 h)
def Qw{z j p'}:QE X Z true (cF1 (pu1 zJ) (vE (cC (.int z)))) (.UnaryOp .USub (.Constant (.int z) j p') p):=q_un _bf _gA ki
def K8(ha:QV X Z qa a ea)(hb:QV X Z true b eb):QE X Z qa (cF2 (pu2 zY) a b) (.BinOp ea .FloorDiv eb pos):=Vq _c9 _eQ ha hb
def K5(hr:Room m X.A)(ha:QV X Z qa a ea)(hb:QV X Z true b eb)(hK:X.K=Z.K<|>Ŕ):QT X Z qa (tE (cF2 (pu2 fEq) a b)) (.Compare ea [.Eq] [eb] pos):=ww (_fF hr.units hK) _fH ha hb (J9 _) _hp
def Kv(hr:Room m X.A)(ha:QV X Z qa a ea)(hb:QV X Z true b eb)(hK:X.K=Z.K<|>Ŕ):QT X Z qa (tE (cF2 (pu2 fNe) a b)) (.Compare ea [.NotEq] [eb] pos):=ww (_fG hr.units hK) _fI ha hb (J9 _) _hq
def V9(hr:Room m X.A)(ha:QV X Z qa a ea)(hb:QV X Z true b eb)(hK:X.K=Z.K<|>Ŕ):QE X Z qa (cF2 (pu2 fEq) a b) (.Compare ea [.Eq] [eb] pos):=W0 (_fF hr.units hK) _fH ha hb (J9 _)
def Q6(ha:QV X Z qa a ea)(hb:QV X Z true b eb):QT X Z qa (tE (cF2 (f2First fIsNon) a b)) (.Compare ea [.Is] [eb] pos):=ww _bk _gy ha hb (J9 _) _hu
def _l3(ha:QV X Z qa a ea)(hb:QV X Z true b eb):QT X Z qa (tE (cF2 (f2First fNotNon) a b)) (.Compare ea [.IsNot] [eb] pos):=ww _bl _gz ha hb (J9 _) _hv
def _l4(ha:QV X Z qa a ea)(hb:QV X Z true b eb):QT X Z qa (tE (cF2 (pu2 fLt) a b)) (.Compare ea [.Lt] [eb] pos):=ww _bh Kq ha hb (J9 _) _ho
def _l5(ha:QV X Z qa a ea)(hb:QV X Z true b eb):QE X Z qa (cF2 (pu2 fLe) a b) (.Compare ea [.LtE] [eb] pos):=W0 XW Kq ha hb (J9 _)
def kJ{u A ss}(h:QT X Z q u ea)(t:QSs X Z pn A ss):QS X Z pn (sIf u A k5) (.If ea ss [] pos):=q_if h t _e4
end
end Q
namespace Q
def _l6(i j a b c:Nat)(E E':En):Prop:=∃d0 rs o n m k g st,E[i]?=some ⇑(.dp,.tup [d0,.lst rs])/\E[j]?=some ⇑(o,.int n)/\ixN rs.length n=⇑m/\rs[m]?=⇑(.tup [.int k,.bl g,st])/\(a<E.length/\b<E.length/\c<E.length) /\
 E'=(((E.set i ⇑(.dp,.tup [d0,.lst (rs.set m (.tup [.int k,.bl (!g),st]))])).set a ⇑(.dp,.int k)).set b ⇑(.dp,.bl g)).set c none
open Classical in
def _l7(i j a b c:Nat):Sm:=λE=>if h:∃E',_l6 i j a b c E E' then ⇑(.nx h.choose)else none
end Q
namespace Q
open PySem PySem.Spec PyProof.Rows L2 L3
def RepA.swap{K:Frag}{H:Hp}{d:D}:∀{ds:List D} {xs:List V} {bs:List Addr} (m:Nat),RepA K H false ds xs bs->ds[m]?=⇑d->∃x b1,xs[m]?=⇑x/\RepL K H false d x b1/\(∀b∈b1,b∈bs)/\∀H' d' x',Kp H H' bs->RepL K H' false d' x' b1->RepA K H' false (ds.set m d') (xs.set m x') bs:=by
 intro ds
 induction ds with
 | nil=>intro xs bs m _ h;cases m<;>cases h
 | cons e ds ih=>
  intro xs bs m h hd;obtain⟨y,r,b1,b2,rfl,rfl,h1,h2⟩:=h;have k1:∀{H'},Kp H H' (b1++b2)->Kp H H' b1:=λk=>#[k.1,k.2.1,λa ha=>k.2.2 a (_ac _ ha)]
  have k2:∀{H'},Kp H H' (b1++b2)->Kp H H' b2:=λk=>#[k.1,k.2.1,λa ha=>k.2.2 a (_ab _ ha)]
  cases m with
  |zero=>
   cases _aa hd;exact#[y,b1,rfl,h1,λb hb=>_ac _ hb,λ_ _ x' k hx=>#[x',r,b1,b2,rfl,rfl,hx,h2.kp (k2 k)]]
  |succ m=>
   obtain⟨x,c1,e1,e2,e3,e4⟩:=ih m h2 hd;exact#[x,c1,e1,e2,λb hb=>_ab _ (e3 b hb),λ_ _ x' k hx=>#[y,r.set m x',b1,b2,rfl,rfl,h1.kp (k1 k),e4 _ _ x' (k2 k) hx]]
def World.flip{K:Frag}{H:Hp}{M:Ls}{y:Sl}{rs:List D}{m:Nat}{k g st}(w:World K H (⇑y::M))(ho:y.o=.dp)(hd:y.d=.lst rs)(hm:rs[m]?=⇑(.tup [.int k,.bl g,st])):
  ∃la xs t sv,y.v=.ref la/\H la=⇑(.lst xs)/\xs.length=rs.length/\xs[m]?=⇑(.ref t)/\SqT K H t [.int k,.bl g,sv]/\∀p,H p=none->∃z:Sl,z.o=.dp/\z.d=.lst (rs.set m (.tup [.int k,.bl (!g),st]))/\z.v=y.v /\
   World K (upd (upd H p (.tup [.int k,.bl (!g),sv])) la (.lst (xs.set m (.ref p)))) (⇑z::M)/\Step H (⇑y::M) (upd (upd H p (.tup [.int k,.bl (!g),sv])) la (.lst (xs.set m (.ref p)))) (⇑z::M):=by
 obtain⟨la,xs,bs,c1,c2,c3,c4,c5⟩:=_iL (w.ok y X5) hd ho;have nd:=w.nd;rw[k3,Xa,c4,Yn]at nd;obtain⟨x,b1,e1,e2,e3,e4⟩:=c5.swap m hm;obtain⟨t,ab,rfl,sq,ra⟩:=e2;obtain⟨y1,r1,f1,f2,rfl,rfl,h1,ra⟩:=ra;obtain⟨y2,r2,f3,f4,rfl,rfl,h2,ra⟩:=ra;obtain⟨y3,r3,f5,f6,rfl,rfl,h3,ra⟩:=ra;obtain⟨rfl,rfl⟩:=ra;obtain⟨rfl,rfl⟩:=h1;obtain⟨rfl,rfl⟩:=h2;refine#[la,xs,t,y3,c1,c2,c5.len.symm,e1,sq,λp hp=>?_];have hlp:la≠p:=λz=>by rw[z,hp]at c2;cases c2
 have sm:k9 H (upd H p (.tup [.int k,.bl (!g),y3])):=wx hp;have w1:World K (upd H p (.tup [.int k,.bl (!g),y3])) (⇑y::M):=#[λt ht=>RepO.kp (w.ok t ht) (Kp.of_same sm),w.nd,w.ds];have i8:Step H (⇑y::M) (upd H p (.tup [.int k,.bl (!g),y3])) (⇑y::M):=#[λb ob h _=>sm b ob h,λ_ h=>.inl h,λ_ h=>.inl h];have kp2:∀as:List Addr,la∉as->Kp H (upd (upd H p (.tup [.int k,.bl (!g),y3])) la (.lst (xs.set m (.ref p)))) as:=λas ha=>by
  have a1:=_kb (ob:=.lst (xs.set m (.ref p))) (sm la _ c2) ha;exact#[λa zs e=>a1.1 a zs (sm a _ e),λa o u e=>a1.2.1 a o u (sm a _ e),λa h ob e=>a1.2.2 a h ob (sm a _ e)]
 have nb:la∉f5:=λz=>nd.1.1 (e3 la (~~~z))
 have hn:=e4 _ (.tup [.int k,.bl (!g),st]) (.ref p) (kp2 bs nd.1.1) #[p,[.int k,.bl (!g),y3],rfl,SqT.of (by rw[qx hlp.symm];exact vW),#[_,_,[],_,rfl,rfl,#[rfl,rfl],#[_,_,[],_,rfl,rfl,#[rfl,rfl],#[_,_,f5,[],rfl,rfl,h3.kp (kp2 f5 nb),#[rfl,rfl]]]]];obtain⟨w2,s2⟩:=World.write (T:=[]) (l:=la) (ob:=.lst (xs.set m (.ref p))) (y':=#[.dp,.lst (rs.set m (.tup [.int k,.bl (!g),st])),y.v,la::bs]) w1 (c4▸X5) #[la,_,bs,c1,hn,.inl #[vW,rfl]] (List.nodup_cons.mpr nd.1) (λa ha=>.inl (c4▸ha)) (nofun) (nofun);exact#[#[.dp,_,y.v,la::bs],rfl,rfl,rfl,w2,i8.trans s2]
def _l8{E:En}{σ:L2.St}{L:Ls}{v:Option V}(m:Mt E σ L):∀c,Mt (E.set c none) (σ.set c v) (L.set c none):=by
 induction m with
 |nil=>exact λc=>.nil
 |un m ih=>exact λc=>match c with
  |0=>.un m|c+1=>.un (ih c)
 |cons m ih=>exact λc=>match c with
  |0=>.un m|c+1=>.cons (ih c)
def World.clear{K:Frag}{H:Hp}{L:Ls}(w:World K H L)(c:Nat):World K H (L.set c none)/\Step H L H (L.set c none):=by
 match h:L[c]? with
 |none=>rw[List.set_eq_of_length_le (List.getElem?_eq_none_iff.mp h)];exact#[w,Step.refl]|some none=>rw[W4 h];exact#[w,Step.refl]
 |some ⇑y=>
  obtain⟨w1,s1⟩:=_ka w h;exact#[w1.tail,s1.trans Step.drop]
def World.atom{K:Frag}{H:Hp}{L:Ls}{d:D}{v:V}(w:World K H L)(c:Nat)(h:RepL K H false d v []):World K H (L.set c ⇑#[.dp,d,v,[]])/\Step H L H (L.set c ⇑#[.dp,d,v,[]]):=
 #[(w.consPu (x:=#[.dp,d,v,[]]) h rfl).set,(Jw (x:=#[.dp,d,v,[]]) Step.refl (nofun) rfl).trans Step.set]
section
variable {X:Cx}{Z:Fx0}{pn:List Nat}{i j a b c:Nat}{i8 bo:Stmt}
#where in
def _l9(s1:PS X i8 (xqj (tOp (rIx X.K) (tP Z.K i [1]) (wV j)) (xxt X.K 3 (vk9 (V3 a) (vk9 (V3 b) (vk9 (V3 c) xwr))))))
  (s2:PS X bo (xqj (xxb (qv6 (wV a) (qv6 (wwo (wV b)) (qv6 (wV c) xqh)))) (xxu (tP Z.K i [1]) (wV j) _ca)))
  (hd:[i,j,a,b,c].Nodup<|>ŕ) (hpn:a∉pn/\b∉pn/\c∉pn<|>ŕ) (hK:X.K=Z.K<|>Ŕ):QSs X Z pn (_l7 i j a b c) [i8,bo]:=_ez (_aL s1 (_aM s2)) λD σ H ai=>ex7 ai λE L r m w ia kk=>by
 unfold _l7 at ia
 split at ia
 rotate_left
 ·cases ia
 rename_i hc;cases _aa ia;obtain⟨d0,rs,oj,n,mm,k,g,st,hEi,hEj,jg,jd,hln,hE⟩:=hc.choose_spec;generalize hc.choose=E' at hE kk;subst hE;obtain⟨y,a1,a2,a3,a4⟩:=m.get hEi;obtain⟨yj,b1,b2,b3,b4⟩:=m.get hEj;have vj:yj.v=.int n:=qj (w.ok yj (vz b1)) b3;obtain⟨w0,s0⟩:=_ka w a1;obtain⟨y1,c1,c2,c3,c4,c5⟩:=w0.hole (p:=[1]) (d1:=.lst rs) a2 (a3▸rfl);obtain⟨la,xs,t,sv,f1,f2,f3,f4,f5,f6⟩:=World.flip c4 c1 c2 jd;have hl:=m.len;simp only[Yn,Yq,not_or,Y6,not_false_eq_true,and_true,Xp]at hd;refine#[y.d,y.v,y1.v,a4,c3,yj.v,b4,.inl #[la,xs,n,.ref t,f1,vj,.inl (.inl f2),by unfold atI;rw[f3,<-_gB,jg];exact f4,#[t,_,rfl,hK▸f5,rfl,_,_,rfl,_,_,rfl,_,_,rfl,rfl,?_]]];refine#[.int k,by simp[List.getElem?_set];grind,.bl g,by simp[List.getElem?_set];grind,g,rfl,sv,by simp[List.getElem?_set];grind,(show 3<=sizeLine by decide),λp hp=>?_];obtain⟨z,z1,z2,z3,z4,z5⟩:=f6 p hp;obtain⟨y',g1,g2,g3,g4,g5⟩:=c5 _ _ z z4 z5 z1 z3;have sm:k9 H (upd H p (.tup [.int k,.bl (!g),sv])):=wx hp;refine#[y.d,y.v,y1.v,by simp[List.getElem?_set];grind,?_,yj.v,by simp[List.getElem?_set];grind,la,xs,n,mm,f1,vj,sm la _ f2,by rw[f3];exact jg,?_]
 ·rw[a3]at c3 ⊢;obtain⟨q1,q2,q3,q4,q5,q6,q7⟩:=c3;exact#[q1,q2,q3,q4,q5,Kp.tupT (as:=[]) (Kp.of_same sm) q6,q7]
 have mt:=QY (i:=i) (s:=(.dp,Q.D.put z.d [1] (.tup [d0,.lst rs]))) (_eE i m) g1 (by rw[g2,a3]);rw[g3,W4 a4,List.set_set,z2]at mt;have mt:=_l8 (v:=⇑sv) (QY (i:=b) (x:=#[.dp,.bl g,.bl g,[]]) (s:=(.dp,.bl g)) (QY (i:=a) (x:=#[.dp,.int k,.int k,[]]) (s:=(.dp,.int k)) mt rfl rfl) rfl rfl) c;obtain⟨w3,s3⟩:=World.atom g4.set a (d:=.int k) (v:=.int k) vw;obtain⟨w4,s4⟩:=World.atom w3 b (d:=.bl g) (v:=.bl g) _eK;obtain⟨w5,s5⟩:=World.clear w4 c;exact kk _ _ _ (((Pn.refl.set hpn.1).trans (Pn.refl.set hpn.2.1)).trans (Pn.refl.set hpn.2.2)) mt w5 (s0.trans ((((g5.trans Step.set).trans s3).trans s4).trans s5))
end
end Q
namespace Q
open PySem
def _ma n (h:300<=n):10 ^ 70<2 ^ n:=Xq (show 10 ^ 70<2 ^ 240 by decide) (Nat.pow_le_pow_right ⋯ ⋯)
def mul_l{o1 o2 a b}(h1:-18446744073709551616<a)(h2:a<18446744073709551616):YX (o1,.int a) (o2,.int b)=⇑(.dp,.int (a*b)):=by
 have:Q2 a b=true:=by
  have:Vz a=true:=by unfold Vz;rw[Xg (show -_<a by lia),Xg (show a<2 ^ 64 by lia)];rfl
  unfold Q2;rw[this];rfl
 show(if Q2 a b=true then _ else _)=_;rw[Xb this]
def mul_r{o1 o2:Own}{a b:Int}(h1:-18446744073709551616<b)(h2:b<18446744073709551616):YX (o1,.int a) (o2,.int b)=⇑(.dp,.int (a*b)):=by
 have:Q2 a b=true:=by
  have:Vz b=true:=by unfold Vz;rw[Xg (show -(2 ^ 64)<b by lia),Xg (show b<2 ^ 64 by lia)];rfl
  unfold Q2;rw[this,Bool.or_true];rfl
 show(if Q2 a b=true then _ else _)=_;rw[Xb this]
def add_i{o1 o2:Own}{a b:Int}:kq (o1,.int a) (o2,.int b)=⇑(.dp,.int (a+b)):=rfl
def sub_i{a b:Int}:_d7 (.int a) (.int b)=⇑(.int (a - b)):=rfl
def div_i{a b}(h:0<b)(h2:b<10 ^ 70):zY (.int a) (.int b)=⇑(.int (a / b)):=by
 have hb:b.natAbs.log2<9000:=by
  exact(Nat.log2_lt ⋯).mpr (Nat.lt_trans (show b.natAbs<10 ^ 70 by lia) (_ma 9000 (by simp)))
 show(if 0<b/\b.natAbs.log2<9000 then ⇑_ else none).map _=_;rw[Xb #[h,hb]];rfl
def mod_i{a b}(h:0<b):v7 (.int a) (.int b)=⇑(.int (a % b)):=by
 show(if 0<b then ⇑_ else none).map _=_;rw[Xb h];rfl
def _mb{a b}:fEq (.int a) (.int b)=⇑(.bl (a==b)):=rfl
def lt_ii{a b}:fLt (.int a) (.int b)=⇑(.bl (decide (a<b))):=rfl
def le_ii{a b}:fLe (.int a) (.int b)=⇑(.bl (decide (a<=b))):=rfl
def ge_ii{a b:Int}:fGe (.int a) (.int b)=⇑(.bl (decide (b<=a))):=rfl
def vq{xs i d}(h0:0<=i)(h:xs[i.toNat]?=⇑d):jQ (.lst xs) (.int i)=⇑d:=by
 show((ixN xs.length i).bind λj=>xs[j]?)=⇑d;have hl:=(aF h).1;unfold ixN
 rwa [Xb h0,Xb ⋯]
def _mc{xs i d}(h0:0<=i)(h:xs[i.toNat]?=⇑d):jQ (.tup xs) (.int i)=⇑d:=by
 show((ixN xs.length i).bind λj=>xs[j]?)=⇑d;have hl:=(aF h).1;unfold ixN
 rwa [Xb h0,Xb ⋯]
def len_l{xs:List D}:kW (.lst xs)=⇑(.int xs.length):=rfl
def len_t{xs:List D}:kW (.tup xs)=⇑(.int xs.length):=rfl
def _md{o1 o2 a b}(h1:o1≠.dp)(h2:o2≠.dp)(hl:a.length+b.length<10000):kq (o1,.lst a) (o2,.lst b)=⇑(.rt,.lst (a++b)):=by
 show(if a.length+b.length<=big/\qW _/\qW _ then _ else _)=_;rw[Xb #[by unfold big;lia,by cases o1<;>simp_all [qW],by cases o2<;>simp_all [qW]]]
def tup_l{o xs}(h:o≠.dp):z7 (o,.lst xs)=⇑(.no,.tup xs):=by
 show(if qW _ then _ else _)=_;rw[Xb (by cases o<;>simp_all [qW])]
abbrev XP:=Str->Prop
def nd{α}{a b:α}(h:a=b):a=b:=h
@[irreducible] noncomputable def Eo {α:Type} (m:Option (Res α)) (P:En->α->Prop) (X:XP):Prop:=match m with
 |some (.ok E a)=>P E a|some (.exc _ c)=>X c|none=>False
@[irreducible] noncomputable def Vo {α:Type} (m:Option α) (P:α->Prop):Prop:=match m with
 |some a=>P a|none=>False
@[irreducible] noncomputable def Oo (f:Fn) (xs:List Sd) (P:Sd->Prop) (X:XP):Prop:=match f xs with
 |some (.ok _ y)=>P y|some (.exc _ c)=>X c|none=>False
@[irreducible] noncomputable def Po (r:Option Fl) (N C:En->Prop) (R:Sd->Prop) (X:XP):Prop:=match r with
 |some (.nx E)=>N E|some (.ct E)=>C E|some (.rt _ x)=>R x|some (.xc _ c)=>X c|_=>False
abbrev noX:XP:=λ_=>False
section
variable {α β:Type}{P:En->α->Prop}{X:XP}{N C:En->Prop}{R:Sd->Prop}{E:En}
def W8{a}:Eo ⇑(.ok E a) P X=P E a:=nd (by ac_rfl)
def jY{m}{f:En->β->Option _}:Eo (bnd m f) P X=Eo m (λE a=>Eo (f E a) P X) X:=by
 cases m with|none=>ac_rfl|some r=>cases r<;>ac_rfl
def vo_some{a}{P:α->Prop}:Vo ⇑a P=P a:=nd (by ac_rfl)
def vo_map{x}{f:β->α}{P}:Vo (x.map f) P=Vo x (λa=>P (f a)):=by cases x<;>ac_rfl
def xX{x}:Eo (val E x) P X=Vo x (P E):=by cases x<;>ac_rfl
def _me{E}:Po ⇑(.nx E) N C R X=N E:=nd (by ac_rfl)
def Qv{m}{f:En->α->Option Fl}:Po (ofE m f) N C R X=Eo m (λE a=>Po (f E a) N C R X) X:=by
 cases m with|none=>ac_rfl|some r=>cases r<;>ac_rfl
def _mf{a b}:Po (j6 a b E) N C R X=Po (a E) (λE=>Po (b E) N C R X) C R X:=by
 unfold j6 Po;cases a E with|none=>ac_rfl|some r=>cases r<;>ac_rfl
def _mg{x:Option β}{f:β->Fl}:Po (x.map f) N C R X=Vo x (λa=>Po ⇑(f a) N C R X):=by cases x<;>ac_rfl
def Eo.mono{m P'}(h:Eo m P X)(k:∀E a,P E a->P' E a):Eo m P' X:=by
 cases m with
 |none=>exists h
 |some r=>cases r with|ok E a=>exists k E a h|exc E c=>exists h
def Oo.mono{f xs P P'}(h:Oo f xs P X)(k:∀y,P y->P' y):Oo f xs P' X:=by
 unfold Oo at h ⊢;cases hf:f xs with
 |none=>simp_all
 |some r=>rw[hf]at h;cases r with|ok E a=>exists k a h|exc E c=>simp_all
def Oo.out{f xs P}(h:Oo f xs P noX):∃E y,f xs=⇑(.ok E y)/\P y:=by
 unfold Oo at h;cases hf:f xs with
 |none=>simp_all
 |some r=>rw[hf]at h;cases r with|ok E a=>with_unfolding_all exact#[E,a,rfl,h]|exc E c=>exists (h).elim
def k6{n b xs P}(h:Po (b (xs.map some++List.replicate (n - xs.length) none)) (λ_=>P (.dp,.non)) (λ_=>False) P X):Oo (fn n b) xs P X:=by
 unfold Oo fn;unfold Po at h;cases hb:b _ with|none=>simp_all|some r=>rw[hb]at h;cases r<;>exists h
def _mh{f cs P}:Eo (jx f cs E) P X=Eo (vX cs E) (λE xs=>Oo f (letAll xs) (P E) X) X:=by
 unfold jx;rw[jY]
 congr 1
 funext E xs;unfold Oo;cases f _ with|none=>ac_rfl|some r=>cases r<;>ac_rfl
def _mi{f:Fn}{cs:List Ex}{P:En->Sd->Prop}:Eo (KY f cs E) P X=Eo (vX cs E) (λE xs=>Oo f (letAll xs) (λy=>y.2.pure=true/\P E (.dp,y.2)) X) X:=by
 unfold KY;rw[jY]
 congr 1
 funext E xs;unfold Oo;cases f _ with
 | none=>ac_rfl
 | some r=>
  cases r with
  |exc=>ac_rfl
  |ok E1 y=>
   dsimp only
   by_cases hp:y.2.pure=true
   ·rw[Xb hp];with_unfolding_all exact propext #[λh=>#[hp,h],λh=>h.2]
   ·rw[Xj hp];with_unfolding_all exact propext #[λh=>(h).elim,λh=>hp h.1]
def _mj(d:D){α:Type}(a b:Option α):Option α:=match d with
 |.bl k=>if k=true then a else b|_=>none
def _mk(a b:Ex):Q7 a b E=bnd (a E) λE x=>_mj x.2 (b E) (⇑(.ok E (.dp,.bl false))):=by
 unfold Q7 _mj
 congr 1
 funext E x;cases x.2 with|bl k=>cases k<;>ac_rfl|_=>ac_rfl
def _ml{tg b}(I:En->List D->Prop)(hs:∀E d ds,I E (d::ds)->Vo (tg.put d E) λE1=>Po (b E1) (λE2=>I E2 ds) (λE2=>I E2 ds) R X)(h1:∀E,I E []->N E):∀ds E,I E ds->Po (Q5 tg b ds E) N C R X
 | [],E,h=>by exists h1 E h
 | d::ds,E,h=>by
  have h2:=hs E d ds h;unfold Q5;cases hp:tg.put d E with
  | none=>rw[hp]at h2;exists (h2).elim
  | some E1=>
   rw[hp]at h2;have h2:Po (b E1) (λE2=>I E2 ds) (λE2=>I E2 ds) R X:=by exists h2
   dsimp only;cases hb:b E1 with
   |none=>rw[hb]at h2;exists (h2).elim
   |some r=>
    rw[hb]at h2;cases r with|nx E2=>exists _ml I hs h1 ds E2 h2|ct E2=>exists _ml I hs h1 ds E2 h2|rt E2 x=>exists h2|xc E2 c=>exists h2|bk E2=>exists (h2).elim
def qQ{it tg}{b} I (h0:Eo (it E) I X)(hs:∀E d ds,I E (d::ds)->Vo (tg.put d E) λE1=>Po (b E1) (λE2=>I E2 ds) (λE2=>I E2 ds) R X)(h1:∀E,I E []->N E):Po (kQ it tg b E) N C R X:=by
 show Po (ofE _ λE ds=>Q5 tg b ds E) N C R X;rw[Qv]
 exists h0.mono λE ds h=>_ml I hs h1 ds E h
def _mm{t:Ts}{b:Sm}(I:Nat->En->Prop)(hs:∀n E,I n E->Eo (t E) (λE1 k=>if k=true then Po (b E1) (λE2=>∃m,m<n/\I m E2) (λE2=>∃m,m<n/\I m E2) R X else N E1) X):∀n E,I n E->Po (JX t b E) N C R X:=by
 intro n
 induction n using Nat.strongRecOn with
 | _ n ih=>
  intro E h;have h2:=hs n E h;rw [_ef];unfold whF;cases ht:t E with
  | none=>rw[ht]at h2;exists (h2).elim
  | some r=>
   rw [ht]at h2;cases r with
   | exc E1 c=>exists h2
   | ok E1 k=>
    cases k with
    | false=>exists h2
    | true=>
     have h2:Po (b E1) (λE2=>∃m,m<n/\I m E2) (λE2=>∃m,m<n/\I m E2) R X:=by exists h2
     dsimp only;cases hb:b E1 with
     |none=>rw[hb]at h2;exists (h2).elim
     |some r=>
      rw[hb]at h2;cases r with|nx E2=>exact(show ∃m,m<n/\I m E2 by exists h2).elim λm hh=>ih m hh.1 E2 hh.2|ct E2=>exact(show ∃m,m<n/\I m E2 by exists h2).elim λm hh=>ih m hh.1 E2 hh.2|rt E2 x=>exists h2|xc E2 c=>exists h2|bk E2=>exists (h2).elim
def _mn{tg t c P}(J:En->List D->List Sd->Prop)(hs:∀B d ds ac,J B (d::ds) ac->Vo (tg.put d B) λB1=>Eo (t B1) (λB2 k=>if k=true then Eo (c B2) (λB3 y=>J B3 ds (ac++[y])) X else J B2 ds ac) X)(h1:∀B ac,J B [] ac->P B ac):∀ds B ac,J B ds ac->Eo (lcL tg t c ds B ac) P X
 | [],B,ac,h=>by exists h1 B ac h
 | d::ds,B,ac,h=>by
  have h2:=hs B d ds ac h;unfold lcL;cases hp:tg.put d B with
  | none=>rw[hp]at h2;exists (h2).elim
  | some B1=>
   rw[hp]at h2;have h2:Eo (t B1) (λB2 k=>if k=true then Eo (c B2) (λB3 y=>J B3 ds (ac++[y])) X else J B2 ds ac) X:=by exists h2
   rw[jY];refine h2.mono λB2 k h3=>?_
   cases k with
   |false=>exists _mn J hs h1 ds B2 ac h3
   |true=>
    show Eo (bnd _ _) P X;rw[jY]
    exists Eo.mono h3 λB3 y h4=>_mn J hs h1 ds B3 _ h4
def QX{o k r it tg t c P}(J:En->En->List D->List Sd->Prop)(h0:Eo (it E) (λE1 ds=>J E1 (ZZ k r E1) ds []) X)
  (hs:∀E1 B d ds ac,J E1 B (d::ds) ac->Vo (tg.put d B) λB1=>Eo (t B1) (λB2 k=>if k=true then Eo (c B2) (λB3 y=>J E1 B3 ds (ac++[y])) X else J E1 B2 ds ac) X) (h1:∀E1 B ac,J E1 B [] ac->Eo (mkL o (Jz k r B E1) ac) P X):Eo (cLC o k r it tg t c E) P X:=by
 unfold cLC;rw[jY];refine h0.mono λE1 ds hJ=>?_
 have:=_mn _ (hs E1) (h1 E1) ds _ _ hJ;cases hl:lcL tg t c ds _ []with|none=>rw[hl]at this;exists (this).elim|some q=>rw[hl]at this;cases q<;>exists this
end
def mulT_i{o1 a y}:J3 (o1,.int a) y=YX (o1,.int a) y:=by
 unfold J3;ac_rfl
def sl(q:Option (Option Sd)):Option Sd:=match q with
 |some ⇑x=>⇑x|_=>none
def sl_some{x}:sl ⇑(⇑x)=⇑x:=nd (by ac_rfl)
def _mo(d:D)(a b:Prop):Prop:=match d with
 |.bl k=>if k=true then a else b|_=>False
def andP_bl{k a b}:_mo (.bl k) a b=if k=true then a else b:=nd (by ac_rfl)
def Wo{α:Type}(m:Option α)(E:En)(P:En->α->Prop):Prop:=Vo m (P E)
def wo_some{α a E}{P:En->α->Prop}:Wo ⇑a E P=P E a:=vo_some
def wo_map{α β x}{f:β->α}{E P}:Wo (x.map f) E P=Wo x E (λE a=>P E (f a)):=vo_map
def Oe(f:Fn)(xs:List Sd)(E:En)(P:En->Sd->Prop)(X:XP):Prop:=Oo f xs (P E) X
def intP(d:D)(P:Int->Prop):Prop:=match d with
 |.int i=>P i|_=>False
def Ie(d:D)(E:En)(P:En->Int->Prop):Prop:=intP d (P E)
def ie_i{i E P}:Ie (.int i) E P=P E i:=nd (by ac_rfl)
section
variable {P:En->Sd->Prop}{T:En->Bool->Prop}{X:XP}{N C:En->Prop}{R:Sd->Prop}{E:En}{e:Option Sd}{a b c:Ex}{t u:Ts}{i:Nat}
def w_seq{a b}:Po (j6 a b (e::E)) N C R X=Po (a (e::E)) (λE=>Po (b E) N C R X) C R X:=_mf
def w_asg:Po (jw i c (e::E)) N C R X=Eo (c (e::E)) (λE x=>N (E.set i ⇑x)) X:=by unfold jw;rw[Qv];ac_rfl
def w_ret:Po (jJ c (e::E)) N C R X=Eo (c (e::E)) (λ_ x=>R x) X:=by unfold jJ;rw[Qv];ac_rfl
def w_pass:Po (k5 (e::E)) N C R X=N (e::E):=nd (by ac_rfl)
def w_if{a b}:Po (sIf t a b (e::E)) N C R X=Eo (t (e::E)) (λE k=>if k=true then Po (a E) N C R X else Po (b E) N C R X) X:=by
 unfold sIf;rw[Qv];congr 1;funext E k;cases k<;>ac_rfl
def w_tup{is:List Nat}:Po (Kj is c (e::E)) N C R X=Eo (c (e::E)) (λE x=>Vo (Tg.put (.t is) x.2 E) N) X:=by
 unfold Kj;rw[Qv];congr 1;funext E x;rw[_mg];ac_rfl
def w_vV:Eo (vV i (e::E)) P X=Wo (sl (e::E)[i]?) (e::E) P:=by
 unfold vV Wo;cases(e::E)[i]? with|none=>ac_rfl|some q=>cases q<;>ac_rfl
def w_cV:Eo (cV i (e::E)) P X=Wo (sl (e::E)[i]?) (e::E) (λE x=>P (E.set i ⇑(.no,x.2)) (.no,x.2)):=by
 unfold cV Wo;cases(e::E)[i]? with|none=>ac_rfl|some q=>cases q<;>ac_rfl
def w_cMv:Eo (cMv i (e::E)) P X=Wo (sl (e::E)[i]?) (e::E) (λE x=>P (E.set i none) x):=by
 unfold cMv Wo;cases(e::E)[i]? with|none=>ac_rfl|some q=>cases q<;>ac_rfl
def w_cC{d}:Eo (cC d (e::E)) P X=P (e::E) (.dp,d):=nd (by ac_rfl)
def w_vE:Eo (vE c (e::E)) P X=Eo (c (e::E)) (λE x=>P E (.no,x.2)) X:=by unfold vE;rw[jY];ac_rfl
def w_cH:Eo (cH c (e::E)) P X=Eo (c (e::E)) (λE x=>if x.1=.no then P E (.no,x.2)else if x.2.pure=true then P E (.dp,x.2)else False) X:=by
 unfold cH;rw[jY]
 congr 1
 funext E x
 by_cases h:x.1=.no
 ·rw[Xb h,Xb h];ac_rfl
 ·rw[Xj h,Xj h]
  by_cases h2:x.2.pure=true
  ·rw[Xb h2,Xb h2];ac_rfl
  ·rw[Xj h2,Xj h2];ac_rfl
def w_f1{f}:Eo (cF1 f a (e::E)) P X=Eo (a (e::E)) (λE x=>Wo (f x) E P) X:=by
 unfold cF1;rw[jY];congr 1;funext E x;exact xX
def w_f2{f}:Eo (cF2 f a b (e::E)) P X=Eo (a (e::E)) (λE x=>Eo (b E) (λE y=>Wo (f x y) E P) X) X:=by
 unfold cF2;rw[jY];congr 1;funext E x;rw[jY];congr 1;funext E y;exact xX
def w_ix:Eo (j9 a b (e::E)) P X=Eo (a (e::E)) (λE x=>Eo (b E) (λE y=>Wo (jQ x.2 y.2) E (λE d=>P E (sub x.1,d))) X) X:=by
 unfold j9;rw[jY];congr 1;funext E x;rw[jY];congr 1;funext E y;rw[xX];exact vo_map
def w_tE:Eo (tE c (e::E)) T X=Eo (c (e::E)) (λE x=>Wo (truth x.2) E T) X:=by
 unfold tE;rw[jY];congr 1;funext E x;exact xX
def w_tEQ:Eo (tEQ c (e::E)) T X=Eo (c (e::E)) (λE x=>Wo (truthQ x.2) E T) X:=by
 unfold tEQ;rw[jY];congr 1;funext E x;exact xX
def w_tNot:Eo (tNot t (e::E)) T X=Eo (t (e::E)) (λE k=>T E (!k)) X:=by unfold tNot;rw[jY];ac_rfl
def w_tAnd:Eo (tAnd t u (e::E)) T X=Eo (t (e::E)) (λE k=>if k=true then Eo (u E) T X else T E false) X:=by
 unfold tAnd;rw[jY];congr 1;funext E k;cases k<;>ac_rfl
def w_tOr:Eo (tOr t u (e::E)) T X=Eo (t (e::E)) (λE k=>if k=true then T E true else Eo (u E) T X) X:=by
 unfold tOr;rw[jY];congr 1;funext E k;cases k<;>ac_rfl
def w_tYes:Eo (tYes (e::E)) T X=T (e::E) true:=nd (by ac_rfl)
def w_cIf:Eo (cIf t a b (e::E)) P X=Eo (t (e::E)) (λE k=>if k=true then Eo (a E) P X else Eo (b E) P X) X:=by
 unfold cIf;rw[jY];congr 1;funext E k;cases k<;>ac_rfl
def w_cAnd:Eo (Q7 a b (e::E)) P X=Eo (a (e::E)) (λE x=>_mo x.2 (Eo (b E) P X) (P E (.dp,.bl false))) X:=by
 rw[_mk,jY];congr 1;funext E x;cases x.2 with|bl k=>cases k<;>ac_rfl|_=>ac_rfl
def w_cNotQ:Eo (_d9 c (e::E)) P X=Eo (c (e::E)) (λE x=>Wo (truthQ x.2) E (λE k=>P E (.dp,.bl (!k)))) X:=by
 unfold _d9;rw[jY];congr 1;funext E x;rw[xX];exact vo_map
def w_call{f cs}:Eo (jx f cs (e::E)) P X=Eo (vX cs (e::E)) (λE xs=>Oe f (letAll xs) E P X) X:=by exists _mh
def w_callB{f:Fn}{cs:List Ex}:Eo (KY f cs (e::E)) P X=Eo (vX cs (e::E)) (λE xs=>Oe f (letAll xs) E (λE y=>y.2.pure=true/\P E (.dp,y.2)) X) X:=by exists _mi
def w_partN{P}:Eo (Vk none (e::E)) P X=P (e::E) none:=nd (by ac_rfl)
def w_partS{P}:Eo (Vk ⇑c (e::E)) P X=Eo (c (e::E)) (λE x=>Ie x.2 E (λE i=>P E ⇑i)) X:=by
 show Eo (bnd _ _) P X=_;rw[jY];congr 1;funext E x;cases x.2<;>ac_rfl
def w_sl{lo hi}:Eo (cSl a lo hi (e::E)) P X=Eo (a (e::E)) (λE x=>Eo (Vk lo E) (λE l=>Eo (Vk hi E) (λE h=>Wo (fSl x l h) E P) X) X) X:=by
 unfold cSl;rw[jY];congr 1;funext E x;rw[jY];congr 1;funext E l;rw[jY];congr 1;funext E h;exact xX
def w_idx:Eo (K6 a b (e::E)) P X=Eo (a (e::E)) (λE x=>if isSq x.2=true then Eo (b E) (λE y=>Wo (_hD x.2 y.2) E (λE d=>P E (.dp,d))) X else False) X:=by
 unfold K6;rw[jY];congr 1;funext E x;cases isSq x.2 with
 |false=>ac_rfl
 |true=>
  show Eo (bnd _ _) P X=_;rw[jY]
  congr 1;funext E y;rw[xX];exact vo_map
def w_itS{P}:Eo (itS c (e::E)) P X=Eo (c (e::E)) (λE x=>Wo (seqOf x.2) E P) X:=by
 unfold itS;rw[jY]
 congr 1
 funext E x;exact xX
def w_itEn{P}:Eo (_hC c (e::E)) P X=Eo (c (e::E)) (λE x=>Wo (lstOf x.2) E (λE ds=>P E (z6 0 ds))) X:=by
 unfold _hC;rw[jY]
 congr 1
 funext E x;rw[xX];exact vo_map
end
def args_nil{e}{E:En}{P X}:Eo (vX [] (e::E)) P X=P (e::E) []:=nd (by ac_rfl)
def args_cons{e}{E:En}{c cs P X}:Eo (vX (c::cs) (e::E)) P X=Eo (c (e::E)) (λE x=>Eo (vX cs E) (λE xs=>P E (x::xs)) X) X:=by
 show Eo (bnd _ λE x=>bnd _ λE xs=>⇑_) P X=_;rw[jY]
 congr 1
 funext E x;rw[jY]
 ac_rfl
def eo_tup{e}{E:En}{cs P X}:Eo (kw .no cs (e::E)) P X=Eo (vX cs (e::E)) (λE xs=>P E (.no,.tup (xs.map (·.2)))) X:=by
 unfold kw;rw[jY]
 ac_rfl
def eo_lst{e}{E:En}{cs P X}:Eo (q9 .rt cs (e::E)) P X=Eo (vX cs (e::E)) (λE xs=>P E (.rt,.lst (xs.map (·.2)))) X:=by
 unfold q9;rw[jY]
 ac_rfl
def _mp{i:Nat}{c}{E:En}{o xs N C R X}(h0:E[i]?=some ⇑(o,.lst xs))
  (h:Eo (c E) (λE1 x=>∃o ys,E1[i]?=some ⇑(o,.lst ys)/\o≠.no/\ys.length<10000/\N (E1.set i ⇑(if o=.dp/\wQ x then .dp else .rt,.lst (ys++[x.2])))) X):Po (v4 v3 i c E) N C R X:=by
 unfold v4;rw[h0,Xb (show Wv _=true from rfl),Qv];refine h.mono ?_;rintro E1 x ⟨o,ys,h1,h2,h3,h4⟩;rw[h1];dsimp only;have hg:v3 ys x.2=⇑(ys++[x.2]):=by unfold v3;rw[Xb (by unfold big;lia)]
 rw[Xj h2,hg]
 exists h4
def xJ{i:Nat}{c}{E:En}{xs N C R X}(h0:E[i]?=some ⇑(.rt,.lst xs))
  (h:Eo (c E) (λE1 x=>∃ys,E1[i]?=some ⇑(.rt,.lst ys)/\ys.length<10000/\N (E1.set i ⇑(.rt,.lst (ys++[x.2])))) X):Po (v4 v3 i c E) N C R X:=
 _mp h0 (h.mono λE1 x hz=>by obtain⟨ys,h1,h2,h3⟩:=hz;exact#[.rt,ys,h1,⋯,h2,by rw[];exists h3])
def rng_ok{n}(h1:-1000<=n)(h2:n<=1000):(zQ n=true/\n.toNat<=big)=True:=by
 have:zQ n=true:=by unfold zQ;rw[Xg ⋯,Xg ⋯];ac_rfl
 with_unfolding_all exact eq_true #[this,by unfold big;lia]
def ZX{α p}[Decidable p]{a}{P:En->α->Prop}{X}:Eo (if p then a else none) P X=(p/\Eo a P X):=by
 by_cases h:p
 ·simp_all
 ·rw[Xj h];with_unfolding_all exact propext #[λz=>z.elim,λz=>h z.1]
def w_R1{c e}{E:En}{P X}:Eo (vZ c (e::E)) P X=Eo (c (e::E)) (λE x=>Ie x.2 E λE n=>(zQ n=true/\n.toNat<=big)/\P E (k4 0 n)) X:=by
 unfold vZ;rw[jY];congr 1;funext E x;cases x.2 with|int n=>exists ZX|_=>ac_rfl
def w_LR1{c e}{E:En}{P X}:Eo (W5 c (e::E)) P X=Eo (c (e::E)) (λE x=>Ie x.2 E λE n=>(zQ n=true/\n.toNat<=big)/\P E (.rt,.lst (k4 0 n))) X:=by
 unfold W5;rw[jY];congr 1;funext E x;cases x.2 with|int n=>exists ZX|_=>ac_rfl
def lst_dp0{e:Option Sd}{E:En}{P:En->Sd->Prop}{X:XP}:Eo (q9 .dp [] (e::E)) P X=P (e::E) (.dp,.lst []):=nd (by ac_rfl)
def _mq{o:Own}{xs:List D}{lo hi:Option Int}(h:o≠.dp):fSl (o,.lst xs) lo hi=⇑(.rt,.lst (KJ xs lo hi)):=by
 show(if qW _ then _ else _)=_;rw[Xb (by cases o<;>simp_all [qW])]
def sub_no:sub .no=.no:=nd (by ac_rfl)
def sub_rt:sub .rt=.no:=nd (by ac_rfl)
def sub_dp:sub .dp=.dp:=nd (by ac_rfl)
def Oo.use{ι f xs}{g:ι->Sd}{S:ι->Prop}{E P X}(h:Oo f xs (λy=>∃i,y=g i/\S i) X)(k:∀i,S i->P E (g i)):Oe f xs E P X:=h.mono λy hz=>by obtain⟨i,e,s⟩:=hz;exact e▸k i s
def Oo.via{f xs S E P X}(h:Oo f xs S X)(k:∀y,S y->P E y):Oe f xs E P X:=h.mono k
def zw{E ys P X}:Eo (mkL .rt E ys) P X=P E (.rt,.lst (ys.map (·.2))):=nd (by ac_rfl)
def _mr{i:Nat}{c:Ex}{E:En}{o:Own}{xs:List D}{P:En->Sd->Prop}{X:XP}(h0:E[i]?=some ⇑(o,.lst xs))
  (h:Eo (c E) (λE1 x=>∃(o:Own) (ys:List D) (k:Int) (d:D),E1[i]?=some ⇑(o,.lst ys)/\o≠.no/\x.2=.int k/\0<=k/\k<=1000/\ys[k.toNat]?=⇑d/\d.pure=true/\P (E1.set i ⇑(o,.lst (ys.eraseIdx k.toNat))) (.dp,d)) X):Eo (_hE i c E) P X:=by
 unfold _hE;rw[h0,Xb (show Wv _=true from rfl),jY];refine h.mono ?_;rintro E1 ⟨o',d'⟩ ⟨o,ys,k,d,h1,h2,e,k0,k1,h3,h4,h5⟩;subst e;have hl:=(aF h3).1;have hx:ixN ys.length k=⇑k.toNat:=by unfold ixN;rw[Xb k0,Xb ⋯]
 have hs:zQ k=true:=by unfold zQ;rw[Xg ⋯,Xg ⋯];ac_rfl
 rw[h1];dsimp only;rw[Xj h2,hx];dsimp only;rw[h3];dsimp only;rw[h4,hs,Xb ⋯,W8];exact h5
def w_chain{f g a b c e}{E:En}{P X}:Eo (Vj f g a b c (e::E)) P X=Eo (a (e::E)) (λE x=>Eo (b E) (λE y=>Wo (f x.2 y.2) E λE d=>_mo d (Eo (c E) (λE z=>Wo (g y.2 z.2) E λE d=>P E (.dp,d)) X) (P E (.dp,.bl false))) X) X:=by
 unfold Vj;rw [jY]
 congr 1
 funext E x;rw [jY]
 congr 1
 funext E y;cases f x.2 y.2 with
 | none=>ac_rfl
 | some d=>
  rw[wo_some];cases d with
  | bl k=>
   rw[andP_bl];cases k with
   |false=>ac_rfl
   |true=>
    dsimp only;rw[jY]
    congr 1
    funext E z;rw[xX];exact vo_map
  |_=>ac_rfl
def Oo.any{f xs P X}(h:Oo f xs P noX):Oo f xs P X:=by
 unfold Oo at *;cases hf:f xs with
 |none=>simp_all
 |some r=>rw[hf]at h;cases r with|ok E a=>simp_all|exc E c=>exists (h).elim
section
variable {c kc vc:Ex}{e:Option Sd}{E:En}{X:XP}{N C:En->Prop}{R:Sd->Prop}
def _ms{P}:Eo (_hG (e::E)) P X=P (e::E) (.rt,.dct []):=nd (by ac_rfl)
def _mt{P}:Eo (_hK kc vc (e::E)) P X=Eo (kc (e::E)) (λE k=>Eo (vc E) (λE v=>qZ k.2=true/\P E (.rt,.dct [(k.2,v.2)])) X) X:=by
 unfold _hK;rw[jY];congr 1;funext E k;rw[jY];congr 1;funext E v;rw[ZX,W8]
def _mu{g0 g}{i:Nat}(h:Eo (vc E) (λE1 v=>g0 E1[i]?=true/\Eo (kc E1) (λE2 k=>∃s d,E2[i]?=some ⇑s/\g s k.2 v.2=⇑d/\N (E2.set i ⇑(.rt,d))) X) X):Po (WX g0 g i kc vc E) N C R X:=by
 unfold WX;rw[Qv];refine h.mono λE1 v hz=>?_
 rw[Xb hz.1,Qv];refine hz.2.mono λE2 k hz=>?_
 obtain⟨s,d,e2,h3,h4⟩:=hz;rw[e2];dsimp only
 rwa [h3,Option.map_some,_me]
def _mv{i:Nat}(h:Eo (vc E) (λE1 v=>(∃kvs,E1[i]?=some ⇑(.rt,.dct kvs))/\Eo (kc E1) (λE2 k=>∃kvs,E2[i]?=some ⇑(.rt,.dct kvs)/\qZ k.2=true/\(kvs.length<10000/\unm kvs=true)/\N (E2.set i ⇑(.rt,.dct (Qz kvs k.2 v.2)))) X) X):Po (_hJ i kc vc E) N C R X:=by
 refine _mu (h.mono λE1 v hz=>?_);obtain⟨⟨kvs,e1⟩,h1⟩:=hz;refine#[by rw[e1];rfl,h1.mono λE2 k hz=>?_];obtain⟨kvs2,e2,h2,h3,h4⟩:=hz;exact#[_,_,e2,by unfold _hI;exact Xb #[h2,by unfold big;lia,h3.2],h4]
end
def _mw{x kvs}(h:qZ x=true)(hu:unm kvs=true):V0 x (.dct kvs)=⇑(.bl (!decide (x∈kvs.map (·.1)))):=by
 unfold V0;dsimp only;rw[Xb #[h,hu]]
section
variable {a b c kc vc:Ex}{e:Option Sd}{E:En}{X:XP}{N C:En->Prop}{R:Sd->Prop}{P:En->Sd->Prop}
def _mx:Eo (_hQ a b (e::E)) P X=Eo (a (e::E)) (λE x=>Eo (b E) (λE y=>Wo (_hP x.2 y.2) E (λE d=>P E (.dp,d))) X) X:=by
 unfold _hQ;rw[jY];congr 1;funext E x;rw[jY];congr 1;funext E y;rw[xX];exact vo_map
def _my:Eo (_hT a b c (e::E)) P X=Eo (a (e::E)) (λE x=>_hS x.2=true/\Eo (b E) (λE y=>Eo (c E) (λE z=>Wo (_hR x.2 y.2 z.2) E (λE d=>P E (.dp,d))) X) X) X:=by
 unfold _hT;rw[jY];congr 1;funext E x;rw[ZX];congr 1;rw[jY];congr 1;funext E y;rw[jY];congr 1;funext E z;rw[xX];exact vo_map
def _mz{z}:Eo (_hX z c (e::E)) P X=Eo (c (e::E)) (λE x=>Wo (_hW z x.2) E (λE d=>P E (.dp,d))) X:=by
 unfold _hX;rw[jY];congr 1;funext E x;rw[xX];exact vo_map
def _mA{P}:Eo (_hZ c (e::E)) P X=Eo (c (e::E)) (λE x=>Wo (_hY x.2) E (λE ds=>P E (z6 0 ds))) X:=by
 unfold _hZ;rw[jY];congr 1;funext E x;rw[xX];exact vo_map
def v_is{i:Nat}{o ds P}(h:E[i]?=some ⇑(o,.lst ds))(hp:D.pures ds=true)(k:P E ds):Eo (itV i E) P X:=by
 unfold itV;rw[h];dsimp only
 rwa [Xb hp,W8]
def _mB:Eo (_hN (e::E)) P X=P (e::E) (.rt,wq []):=nd (by ac_rfl)
def _mC{i:Nat}(h:Eo (vc E) (λE1 v=>Wv E1[i]?=true/\Eo (kc E1) (λE2 k=>∃(o:Own) (xs:List D) (j:Int) (n:Nat),E2[i]?=some ⇑(o,.lst xs)/\o≠.no/\k.2=.int j/\ixN xs.length j=⇑n/\N (E2.set i ⇑(.rt,.lst (xs.set n v.2)))) X) X):Po (Zx i kc vc E) N C R X:=by
 refine _mu (h.mono λE1 v hz=>#[hz.1,hz.2.mono λE2 k hz=>?_]);obtain⟨o,xs,j,n,e2,ho,hk,hn,h4⟩:=hz;exact#[_,_,e2,by unfold _hL;rw[hk];dsimp only;rw[Xj ho,hn];rfl,h4]
def _mD{i:Nat}(h:Eo (vc E) (λE1 v=>_hH E1[i]?=true/\Eo (kc E1) (λE2 k=>∃(kv:List _) (x y:Int),E2[i]?=some ⇑(.rt,wq kv)/\k.2=.int x/\v.2=.int y/\kv.length<10000/\N (E2.set i ⇑(.rt,wq (qX kv x y)))) X) X):Po (_hV i kc vc E) N C R X:=by
 refine _mu (h.mono λE1 v hz=>#[hz.1,hz.2.mono λE2 k hz=>?_]);obtain⟨kv,x,y,e2,hk,hv,hl,h4⟩:=hz;refine#[_,_,e2,?_,h4];unfold _hU;rw[hk,hv];dsimp only;rw[_jo,Option.bind_some,Xb (by unfold big;lia)]
def _mE{f}{i:Nat}{o x}(h0:E[i]?=some ⇑(o,.int x))(h:Eo (vc E) (λE1 v=>∃y,v.2=.int y/\N (E1.set i ⇑(.dp,.int (f x y)))) X):Po (_hM f i vc E) N C R X:=by
 unfold _hM;rw[h0,Qv];refine h.mono ?_;rintro E1 v ⟨y,e1,h1⟩
 rwa [e1,_me]
end
def _mF{k kv}:W7 (.int k) (wq kv)=⇑(.bl (jV kv k).isSome):=by
 unfold W7;rw[_jo]
def _mG{k v kv}(h:jV kv k=⇑v):_hP (wq kv) (.int k)=⇑(.int v):=by
 unfold _hP;rw[_jo];dsimp only;rw[h];rfl
def _mH{k z kv}:_hR (wq kv) (.int k) (.int z)=⇑(.int ((jV kv k).getD z)):=by
 unfold _hR;rw[_jo]
def _mI{kv}:_hS (wq kv)=true:=by
 unfold _hS;rw[_jo];rfl
def _mJ{o}{ps:List (Int×Int)}(h:ps.length<10000):Zw (o,.lst (ps.map λp=>D.tup [.int p.1,.int p.2]))=⇑(.rt,wq (ps.foldl (λkv p=>qX kv p.1 p.2) [])):=by
 unfold Zw;dsimp only;rw[_jT];dsimp only;rw[Xb (by unfold big;lia)]
section
variable {a b c:Ex}{cs:List Ex}{e:Option Sd}{E:En}{X:XP}{N C:En->Prop}{R:Sd->Prop}{P:En->Sd->Prop}{i r:Nat}{p:List Nat}{d:D}{ds:List D}
def _mK:Eo (_h1 c (e::E)) P X=Eo (c (e::E)) (λE x=>_h0 x=true/\P E (.dp,x.2)) X:=by
 unfold _h1;rw[jY];congr 1;funext E x;rw[ZX,W8]
def _mL:Eo (kw .dp cs (e::E)) P X=Eo (vX cs (e::E)) (λE xs=>xs.all wQ=true/\P E (.dp,.tup (xs.map (·.2)))) X:=by
 unfold kw;rw[jY];congr 1;funext E x;rw[Xb rfl,ZX,W8]
end
end Q
namespace C
open PySem Q
def m_read_by:Fn:=fn 8
  (j6 (sIf (tOr (tE (cF2 (f2First fIsNon) (vV 1) (vE (cC .non)))) (tE (cF2 (pu2 zZ) (vV 2) (j9 (vV 0) (C9 0))))) (jJ (cC .non)) k5)
  (j6 (jw 4 (cH (j9 (vV 1) (C9 1))))
  (j6 (jw 5 (cH (j9 (j9 (j9 (j9 (vV 0) (C9 1)) (j9 (vV 1) (C9 0))) (C9 2)) (vE (K6 (j9 (vV 0) (C9 0)) (vV 2))))))
  (j6 (jw 6 (cH (j9 (vV 5) (vE (cIf (tE (cF2 (pu2 J1) (vV 3) (vV 4))) (K6 (vV 4) (vV 3)) (cF1 (pu1 kW) (vV 4)))))))
  (j6 (sIf (tE (cF2 (f2First fIsNon) (vV 6) (vE (cC .non)))) (jJ (cC .non)) k5)
  (j6 (jw 7 (cF2 kq (vV 4) (vE (kw .no [(cV 3)]))))
  (jJ (kw .no [(cH (j9 (vV 6) (C9 0))),(cF1 z7 (vE (cLC .rt 1 [7] (itS (cH (j9 (vV 6) (C9 1)))) (.n 0) tYes (cH (j9 (vV 1) (vV 0))))))]))))))))
end C
local macro_rules
 | `(tactic| simp![$ts,*])=>do
  let f:=λ(p s:String)=>((s.splitOn " ").map λs=>Lean.mkIdent (p++s).toName).toArray
  let a:=f "_root_.Q." "w_seq w_asg w_ret w_pass w_if w_tup w_vV w_cV w_cMv w_cC w_vE w_cH w_f1 w_f2 w_ix w_tE w_tEQ w_tNot w_tAnd w_tOr w_tYes w_cIf w_cAnd w_cNotQ w_call w_callB w_partN w_partS w_sl w_idx w_itS w_itEn w_chain w_R1 w_LR1 ie_i andP_bl vo_some vo_map wo_some wo_map args_nil args_cons eo_tup eo_lst"
  let b:=f "_root_." "Q.rng_ok true_and Q.lst_dp0 Q.isSq Q.sl_some Q.letAll Q.pu2 Q.pu1 Q.f2First Q.fIsNon Q.fNotNon Q.isNon List.map_cons List.map_nil List.cons_append List.nil_append _a.Xm List.length_nil _a.X4 List.replicate List.set_cons_zero List.set_cons_succ List.getElem?_cons_zero List.getElem?_cons_succ Q.len_l Q.len_t Q.lt_ii Q.le_ii Q.ge_ii Q.add_i Q.sub_i Q.div_i Q.mod_i Q.mulT_i Q.mul_l Q.mul_r Option.map_some Q.truth Q.truthQ Q.D.pure if_true if_false ite_true ite_false Q.sub_no Q.sub_rt Q.sub_dp Bool.false_eq_true Bool.not_true Bool.not_false Q.Tg.put Q.setAll Q.seqOf Q.lstOf"
  `(tactic| simp(config:={maxSteps:=1000000,failIfUnchanged:=false,implicitDefEqProofs:=true}) (disch:=lia) only[$[↓$a:ident],*,$[$b:ident],*,Nat.reduceAdd,Nat.reduceSub,↓reduceIte,reduceCtorEq,$ts,*])
namespace C
open Q PySem
abbrev most:Int:=1000*10 ^ 64
abbrev iL(ns:List Int):D:=.lst (ns.map D.int)
def Each(G:D->Sd->Prop):List D->List Sd->Prop
 |[],[]=>True|d::ds,y::ys=>G d y/\Each G ds ys|_,_=>False
def Each.snoc{G d y}(h:G d y):∀{ds ys},Each G ds ys->Each G (ds++[d]) (ys++[y])
 |[],[],_=>#[h,trivial]|_::_,_::_,r=>#[r.1,Each.snoc h r.2]
def WQ{X E o}{r:List Nat}{it c P}(aa:En) G (h0:Eo (it E) (λE1 ds=>r.map (at' E1)=aa/\(∀d∈ds,Eo (c (⇑(.no,d)::aa)) (λB y=>(∃q,B=q::aa)/\G d y) X)/\∀ys,Each G ds ys->Eo (mkL o (back r aa (clr r E1)) ys) P X) X):Eo (cLC o 1 r it (.n 0) tYes c E) P X:=by
 refine QX (λE1 B ds2 ac=>∃ds ds1 q,ds=ds1++ds2/\B=q::aa/\Each G ds1 ac/\(∀d∈ds,Eo (c (⇑(.no,d)::aa)) (λB y=>(∃q,B=q::aa)/\G d y) X)/\∀ys,Each G ds ys->Eo (mkL o (back r aa (clr r E1)) ys) P X) ?_ ?_ ?_
 ·refine h0.mono λE1 ds hz=>by obtain⟨h1,h2,h3⟩:=hz;exact#[ds,[],none,rfl,by rw[<-h1];rfl,trivial,h2,h3]
 ·rintro E1 B d ds2 ac ⟨ds,ds1,q,e,rfl,hE,h2,h3⟩;have hp:(Tg.n 0).put d (q::aa)=⇑_:=rfl;rw[hp,vo_some,show tYes _=⇑_ from rfl,W8];refine(h2 d (by rw[e];simp)).mono ?_;rintro B y ⟨⟨q',rfl⟩,hG⟩;exact#[ds,ds1++[d],q',by rw[e];simp,rfl,hE.snoc hG,h2,h3]
 ·rintro E1 B ac ⟨ds,ds1,q,e,rfl,hE,h2,h3⟩;rw[Xv]at e;subst e;exact h3 ac hE
def _mM{G}{S:Int->Prop}(hG:∀d y,G d y->∃i,y.2=.int i/\S i):∀{ds ys},Each G ds ys->∃ps:List Int,ys.map (·.2)=ps.map D.int/\ps.length=ds.length/\∀p∈ps,S p
 |[],[],_=>#[[],rfl,rfl,nofun]
 |d::ds,y::ys,r=>by
  obtain⟨i,e,s⟩:=hG d y r.1;obtain⟨ps,h1,h2,h3⟩:=_mM hG r.2;exact#[i::ps,by simp[e,h1],by simp[h2],λp hp=>(aD hp).elim (λz=>z▸s) (h3 p)]
def _mN{n}:k4 n n=[]:=by unfold k4;rw[Int.sub_self];rfl
def _mO{k n}(h:k<n):k4 k n=.int k::k4 (k+1) n:=by
 unfold k4;have:(n - k).toNat=(n - (k+1)).toNat+1:=by
  obtain⟨m,hm⟩:=Int.eq_ofNat_of_zero_le (show 0<=n - (k+1)by lia);rw[hm,show n - k=(m+1:Nat)by lia];rfl
 rw[this,List.range_succ_eq_map,List.map_cons,Xi]
 congr 1
 ·simp
 ·apply Y5;intro i _
  grind
def xz{k n d ds}(hk:k<=n)(h:d::ds=k4 k n):k<n/\d=.int k/\ds=k4 (k+1) n:=by
 by_cases hl:k<n
 ·rw[_mO hl]at h;injection h with h1 h2;exact#[hl,h1,h2]
 ·have:k=n:=⋯
  subst this;rw[_mN]at h
  grind
def z9{k n}(hk:k<=n)(h:[]=k4 k n):k=n:=by
 by_cases hl:k<n
 ·rw[_mO hl]at h;cases h
 ·lia
def _mP{k n d}(h:d∈k4 k n):∃i,k<=i/\i<n/\d=.int i:=by
 obtain⟨j,hj,rfl⟩:=aE h;have:=List.mem_range.mp hj;exact#[k+j,⋯,⋯,rfl]
def _mQ{k n}(h:k<=n):((k4 k n).length:Int)=n - k:=by
 unfold k4;rw[X4,Y7];lia
def _b7 z i (h0:0<=i)(h1:i<z.cps.size):∃c,jQ (.str z) (.int i)=⇑(.str #[%[c|0]]):=by
 have:i.toNat<z.cps.toList.length:=by rw[Y4];lia
 refine#[z.cps.toList[i.toNat],?_];show((ixN z.cps.size i).bind λj=>(z.cps.toList[j]?).map λc=>D.str #[%[c|0]])=_;unfold ixN;rw[Xb h0,Xb h1];show((z.cps.toList[i.toNat]?).map λc=>D.str #[%[c|0]])=_;rw[X1 this];rfl
def _mR{o1 o2 a b}(h:a.cps.size+b.cps.size<=10000):kq (o1,.str a) (o2,.str b)=⇑(.dp,.str (a++b)):=by
 show(if a.cps.size+b.cps.size<=big then _ else _)=_;rw[Xb (by unfold big;lia)]
def _mS(a b:Str):(a++b).cps.size=a.cps.size+b.cps.size:=by
 exact Array.size_append
def _mT:∀ss,JQ (ss.map D.str)=⇑ss
 |[]=>rfl|s::ss=>by rw[List.map_cons,JQ,_mT ss];rfl
abbrev sL(ss:List Str):D:=.lst (ss.map D.str)
def ixI ks (S:Int->Prop)(hS:∀k∈ks,S k) i (h0:0<=i)(h1:i<ks.length):∃v,jQ (iL ks) (.int i)=⇑(.int v)/\S v/\ks[i.toNat]?=⇑v:=by
 have hl:i.toNat<ks.length:=⋯
 refine#[ks[i.toNat],vq h0 (by rw[Xh,X1 hl];rfl),hS _ (Xn hl),X1 hl]
def W1{n}:∀{ks},(∀k∈ks,k.flat n=true)->D.flats n ks=true
 |[],_=>by cases n<;>simp[D.flats]|k::ks,h=>by rw[D.flats,h k X5,W1 λe he=>h e (_ad _ he)];rfl
mutual
theorem XV:∀{n} (d),d.flat n=true->peq d d=true
 |n,.non,_=>by simp[peq]|n,.bl b,_=>by simp[peq]|n,.int b,_=>by simp[peq]|n,.str b,_=>by simp[peq]|n+1,.tup xs,h=>peqs_refl xs (by simpa [D.flat]using h)|n+1,.lst xs,h=>peqs_refl xs (by simpa [D.flat]using h)|n,.dct _,h=>by cases n<;>simp[D.flat]at h|n,.obj _ _,h=>by cases n<;>simp[D.flat]at h
theorem peqs_refl:∀{n} ds,D.flats n ds=true->peqs ds ds=true
 |_,[],_=>by simp[peqs]
 |n,d::ds,h=>by
  rw[D.flats,Bool.and_eq_true]at h;rw[peqs,XV d h.1,peqs_refl ds h.2];rfl
end
def eq_self{d}(h:d.flat 40=true):fEq d d=⇑(.bl true):=by unfold fEq;rw[h,XV d h];rfl
def _mU{d}(h:d.flat 40=true):fNe d d=⇑(.bl false):=by unfold fNe;rw[h,XV d h];rfl
def p0(a b:D):jQ (.tup [a,b]) (.int 0)=⇑a:=rfl
def p1(a b:D):jQ (.tup [a,b]) (.int 1)=⇑b:=rfl
def t0(a b c:D):jQ (.tup [a,b,c]) (.int 0)=⇑a:=rfl
def t1(a b c):jQ (.tup [a,b,c]) (.int 1)=⇑b:=rfl
def t2(a b c):jQ (.tup [a,b,c]) (.int 2)=⇑c:=rfl
def YK{G h}(hG:∀d y,G d y->y.2=h d):∀{ds ys},Each G ds ys->ys.map (·.2)=ds.map h
 |[],[],_=>rfl|d::ds,y::ys,r=>by rw[List.map_cons,List.map_cons,hG d y r.1,YK hG r.2]
abbrev jk(ss:List Str)(rs:List D):D:=.tup [sL ss,.lst rs]
def _mV{α:Type}[DecidableEq α]:∀{l m:List α},l.Nodup->(∀x∈l,x∈m)->l.length<=m.length
 |[],_,_,_=>Y1 _
 |a::l,m,nd,h=>by
  rw[Yn]at nd;have ha:=h a X5;have:=_mV nd.2 λx hx=>(List.mem_erase_of_ne (by rintro rfl;exact nd.1 hx)).mpr (h x (_ad _ hx))
  grind
def _mW{o xs}(h:o≠.dp):W9 (o,.lst xs)=⇑(.rt,.lst xs):=by
 show(if qW _ then _ else _)=_;rw[Xb (by cases o<;>simp_all [qW])]
def _mX{z ss}:zZ (.str z) (sL ss)=⇑(.bl (!ss.any λw=>w==z)):=by
 show VX _ _=_;unfold VX;have:fIn (.str z) (sL ss)=⇑(.bl (ss.any λw=>w==z)):=by
  show(if(D.str z).flat 30&&D.flats 30 _ then ⇑_ else none)=_;rw[W1 (λk hk=>by obtain⟨w,_,rfl⟩:=aE hk;rfl),List.any_map];rfl
 rw[this];rfl
def Q8{p}{ks:List Int}:J1 (.int p) (.tup (ks.map D.int))=⇑(.bl (ks.any λw=>w==p)):=by
 show(if(D.int p).flat 30&&D.flats 30 _ then ⇑_ else none)=_;rw[W1 (λk hk=>by obtain⟨w,_,rfl⟩:=aE hk;rfl),List.any_map];rfl
def V2{p}{ks:List Int}:(ks.any λw=>w==p)=decide (p∈ks):=by
 rw[Bool.eq_iff_iff];simp
def vk(own k:Int):Int:=own+(if k=own then 1 else 0)
def Cs(kps:List Int)(b:Int)(c:D):Prop:=c=.non\/∃(to:Int) (fs:List Int),c=.tup [.int to,.tup (fs.map D.int)]/\0<=to/\to<kps.length/\(∀f∈fs,0<=f/\f<b)/\fs.Nodup/\(fs.length:Int)=kps.getD to.toNat 0
def YY{α:Type}:∀{l:List α} {i} (h),(l[i]::l.eraseIdx i).Perm l
 |a::l,0,h=>List.Perm.refl _
 |a::l,i+1,h=>by
  have:=YY (~~~h);exact(List.Perm.swap ..).trans (this.cons a)
def _mY{α β:Type}(f:α->β):∀(l:List α) (i),(l.map f).eraseIdx i=(l.eraseIdx i).map f
 |[],_=>rfl|a::l,0=>rfl|a::l,i+1=>by rw[List.map_cons,List.eraseIdx_cons_succ,List.eraseIdx_cons_succ,List.map_cons,_mY f l i]
def _mZ(a b:Int):K9 (.bl (a==b))=⇑(.int (if a=b then 1 else 0)):=by
 by_cases h:a=b
 ·rw[Xb h,show(a==b)=true by simpa using h];rfl
 ·rw[Xj h,show(a==b)=false by simpa using h];rfl
def Pr(kps:List Int)(n:Nat)(own:Int)(d:D):Prop:=∃(gd:Bool) (st:List D),d=.tup [.int own,.bl gd,.lst st]/\st.length=n/\∀c∈st,∃cs:List D,c=.lst cs/\(cs.length:Int)=own+1/\∀k:Nat,k<cs.length->∃z,cs[k]?=⇑z/\Cs kps (vk own k) z
def Prs(kps:List Int)(n:Nat)(rs:List D):Prop:=rs.length=kps.length/\∀i:Nat,i<kps.length->∃r,rs[i]?=⇑r/\Pr kps n (kps.getD i 0) r
def _m0{α:Type}{p}:∀{l:List α},l.any p=true->l.findIdx? p=⇑(l.findIdx p)
 | [],h=>by cases h
 | a::l,h=>by
  rw[List.findIdx?_cons,List.findIdx_cons];cases hp:p a with
  |true=>simp
  |false=>
   rw[Zj,hp]at h;rw[_m0 h];simp
def _m1{α:Type}{p}{l:List α}(h:l.any p=true):l.findIdx p<l.length:=by
 obtain⟨x,hx,hp⟩:=List.any_eq_true.mp h;exact Yw #[x,hx,hp]
def _m2{α:Type}{p}{l:List α}(h:l.any p=false):l.findIdx p=l.length:=by
 rw[List.findIdx_eq_length];intro x hx;cases hp:p x with|false=>rfl|true=>rw[List.any_eq_true.mpr #[x,hx,hp]]at h;cases h
def _m3{z ss}(h:(ss.any λw=>w==z)=true):_hD (sL ss) (.str z)=⇑(.int (ss.findIdx λw=>w==z:Nat)):=by
 show(if(D.str z).flat 30&&D.flats 30 _ then((ss.map D.str).findIdx? λw=>peq w _).map λ(j:Nat)=>D.int j else none)=_;rw[W1 (λk hk=>by obtain⟨w,_,rfl⟩:=aE hk;rfl),List.findIdx?_map];have:ss.findIdx? ((λw=>peq w (.str z))∘D.str)=ss.findIdx? λw=>w==z:=rfl
 rw[this,_m0 h];rfl
def _m4{p}{ks:List Int}(h:(ks.any λw=>w==p)=true):_hD (.tup (ks.map D.int)) (.int p)=⇑(.int (ks.findIdx λw=>w==p:Nat)):=by
 show(if(D.int p).flat 30&&D.flats 30 _ then((ks.map D.int).findIdx? λw=>peq w _).map λ(j:Nat)=>D.int j else none)=_;rw[W1 (λk hk=>by obtain⟨w,_,rfl⟩:=aE hk;rfl),List.findIdx?_map];have:ks.findIdx? ((λw=>peq w (.int p))∘D.int)=ks.findIdx? λw=>w==p:=rfl
 rw[this,_m0 h];rfl
def _m5{a b}(hl:a.length+b.length<=10000):kq (.no,.tup a) (.no,.tup b)=⇑(.no,.tup (a++b)):=by
 show(if a.length+b.length<=big/\qW _/\qW _ then _ else _)=_;rw[Xb #[by unfold big;lia,rfl,rfl]]
abbrev iT(ks:List Int):D:=.tup (ks.map D.int)
def nameAt(ks:List Int)(p:Int)(f:Int):Int:=(ks++[p]).getD f.toNat 0
def Wz(ks:List Int)(p:Int)(c:D):D:=match c with
 |.tup [to,.tup fs]=>.tup [to,.tup (fs.map λf=>match f with|.int i=>.int (nameAt ks p i)|_=>.non)]
 |_=>.non
def caseD_is{ks fs p to}:Wz ks p (.tup [.int to,iT fs])=.tup [.int to,iT (fs.map (nameAt ks p))]:=by
 unfold Wz iT;simp[Function.comp]
def x4(ss:List Str)(st:List D)(ks:List Int)(z:Str)(p:Int):D:=match st[ss.findIdx λw=>w==z]? with
 |some (.lst cs)=>cs.getD (ks.findIdx λw=>w==p) .non|_=>.non
def wK(ss:List Str)(st:List D)(ks:List Int)(z:Str)(p:Int):D:=if(ss.any λw=>w==z)=true then Wz ks p (x4 ss st ks z p)else .non
def Cas(kps:List Int)(n:Nat)(own:Int)(st:List D):Prop:=st.length=n/\∀c∈st,∃cs:List D,c=.lst cs/\(cs.length:Int)=own+1/\∀k:Nat,k<cs.length->∃z,cs[k]?=⇑z/\Cs kps (vk own k) z
def _m6{ks:List Int}{p}:(ks.findIdx λw=>w==p)<=ks.length:=List.findIdx_le_length
def ZQ{kps ss st ks}{z} p (h:Cas kps ss.length ks.length st)(hz:(ss.any λw=>w==z)=true):∃cs,st[ss.findIdx λw=>w==z]?=⇑(.lst cs)/\(cs.length:Int)=ks.length+1/\cs[ks.findIdx λw=>w==p]?=⇑(x4 ss st ks z p)/\Cs kps (vk ks.length (ks.findIdx λw=>w==p:Nat)) (x4 ss st ks z p):=by
 have hj:(ss.findIdx λw=>w==z)<st.length:=by rw[h.1];exact _m1 hz
 obtain⟨cs,e,hl,hc⟩:=h.2 st[ss.findIdx λw=>w==z] (Xn hj);have hg:st[ss.findIdx λw=>w==z]?=⇑(.lst cs):=by rw[X1 hj,e]
 have gl:=_m6 (ks:=ks) (p:=p);obtain⟨c,e2,hC⟩:=hc (ks.findIdx λw=>w==p) ⋯;have hca:x4 ss st ks z p=c:=by unfold x4;rw[hg];dsimp only;rw[X2,e2];rfl
 exact#[cs,hg,hl,by rw[hca];exact e2,by rw[hca];exact hC]
def _m7{ks p f}(h0:0<=f)(h1:f<=ks.length):jQ (.tup (ks.map D.int++[.int p])) (.int f)=⇑(.int (nameAt ks p f)):=by
 refine _mc h0 ?_;rw[show ks.map D.int++[D.int p]=(ks++[p]).map D.int by simp,Xh];unfold nameAt;rw[X2,X1 (by simp;lia)];rfl
def _m8{own k}:vk own k<=own+1:=by unfold vk;split<;>lia
def _m9{a0 a1 a2 a5 a6 a7 o3 o4 ks p P X}:Eo (cIf (tE (cF2 (pu2 J1) (vV 3) (vV 4))) (K6 (vV 4) (vV 3)) (cF1 (pu1 kW) (vV 4)) [a0,a1,a2,⇑(o3,.int p),⇑(o4,iT ks),a5,a6,a7]) P X=P [a0,a1,a2,⇑(o3,.int p),⇑(o4,iT ks),a5,a6,a7] (.dp,.int (ks.findIdx λw=>w==p:Nat)):=by
 cases hp:(ks.any λw=>w==p)with|true=>simp![Q8,hp,_m4 hp]|false=>simp![Q8,hp,_m2 hp]
def _na{kps ss rs st kp gd room ks z p}(h0:0<=room)(hr:rs[room.toNat]?=⇑(.tup [kp,gd,.lst st]))(hc:Cas kps ss.length ks.length st)(hl:ks.length<=1000):
  Oo m_read_by [(.no,jk ss rs),(.no,.tup [.int room,iT ks]),(.no,.str z),(.no,.int p)] (λy=>y.2=wK ss st ks z p) noX:=by
 have hi:jQ (.lst rs) (.int room)=⇑(.tup [kp,gd,.lst st]):=vq h0 hr;have hif:=λa5 a6 a7 P=>@_m9 ⇑(.no,jk ss rs) ⇑(.no,.tup [.int room,iT ks]) ⇑(.no,.str z) a5 a6 a7 .no .no ks p P noX
 unfold wK m_read_by;generalize cIf _ _ _=I at hif ⊢;refine k6 ?_;cases hz:(ss.any λw=>w==z)with
 | false=>simp![p0,_mX,hz]
 | true=>
  obtain⟨cs,g1,g2,g3,g4⟩:=ZQ p hc hz;have hx:jQ (.lst st) (.int (ss.findIdx λw=>w==z:Nat))=⇑(.lst cs):=vq ⋯ (by rw[Xu];exact g1);have hy:jQ (.lst cs) (.int (ks.findIdx λw=>w==p:Nat))=⇑(x4 ss st ks z p):=vq ⋯ (by rw[Xu];exact g3);have gu:=_m5 (a:=ks.map D.int) (b:=[.int p]) (by simp;lia);have my:=_m3 hz;have hb:=_m8 (own:=ks.length) (k:=(ks.findIdx λw=>w==p:Nat));generalize x4 ss st ks z p=c at g4 hy;rw[Xb rfl];rcases g4 with rfl|⟨to,fs,rfl,t0',t1',hfs,_⟩
  ·simp![p0,p1,_mX,hz,hi,t2,my,hx,hif,hy];rfl
  ·simp![p0,p1,_mX,hz,hi,t2,my,hx,hif,hy,gu];refine WQ [⇑(.no,.tup (ks.map D.int++[.int p]))] (λf y=>y.2=match f with|.int i=>.int (nameAt ks p i)|_=>.non) ?_;simp![p1];refine#[rfl,λf hf=>?_,λys hy=>?_]
   ·obtain⟨i,jt,rfl⟩:=aE hf;have:=hfs i jt;simp![_m7 (ks:=ks) (p:=p) (f:=i) this.1 ⋯];exact#[#[_,rfl],trivial]
   ·rw[zw,YK (h:=λf=>match f with|.int i=>.int (nameAt ks p i)|_=>.non) (λd y h=>h) hy,Xi,show(_∘D.int)=D.int∘nameAt ks p from rfl,<-Xi];simp only[back,clr,at',List.set_cons_zero,List.set_cons_succ];simp![tup_l (o:=.no) (xs:=(fs.map (nameAt ks p)).map D.int) ⋯];exact caseD_is.symm
def neg1:zJ (.int 1)=⇑(.int (-1)):=rfl
def cut_to{xs c}(h0:0<=c)(h1:c<=xs.length):KJ xs none ⇑c=xs.take c.toNat:=by
 unfold KJ VY;dsimp only;rw[Xj ⋯,List.drop_zero,Nat.sub_zero,Nat.min_eq_left (Int.toNat_le.mpr h1)]
def Ok2(kps:List Int)(s:D):Prop:=s=.non\/∃(room:Int) (ks:List Int),s=.tup [.int room,iT ks]/\0<=room/\room<kps.length/\(ks.length:Int)=kps.getD room.toNat 0
def Rd(kps:List Int)(ss:List Str)(rs:List D)(s:D)(w:Str×Int)(s':D):Prop:=(s=.non/\s'=.non)\/∃(room:Int) (ks:List Int) (st:List D) (kp gd:D),s=.tup [.int room,iT ks]/\0<=room/\rs[room.toNat]?=⇑(.tup [kp,gd,.lst st])/\Cas kps ss.length ks.length st/\ks.length<=6/\s'=wK ss st ks w.1 w.2
abbrev _root_.Abk(l:List Int):Prop:=∀p∈l,0<=p/\p<=3
def _cA{kps ss rs}{s} w (hP:Prs kps ss.length rs)(hk:Abk kps)(h:Ok2 kps s):∃s',Rd kps ss rs s w s'/\Ok2 kps s'/\((ss.any λz=>z==w.1)=false->s'=.non):=by
 rcases h with rfl|⟨room,ks,rfl,r0,r1,hl⟩
 ·exact#[.non,.inl #[rfl,rfl],.inl rfl,λ_=>rfl]
 ·obtain⟨r,er,gd,st,rfl,iu,ba⟩:=hP.2 room.toNat ⋯;have js:=hk (kps.getD room.toNat 0) (by rw[X2,X1 ⋯];exact Xn _);have ld:Cas kps ss.length ks.length st:=#[iu,by rw[hl];exact ba];refine#[wK ss st ks w.1 w.2,.inr #[room,ks,st,_,_,rfl,r0,er,ld,⋯,rfl],?_,λhz=>?_]
  ·unfold wK;cases hz:(ss.any λz=>z==w.1)with
   |false=>exact .inl rfl
   |true=>
    obtain⟨cs,g1,g2,g3,g4⟩:=ZQ w.2 ld hz;rcases g4 with e|⟨to,fs,e,t0,t1,_,_,hfl⟩
    ·rw[e];exact .inl rfl
    ·rw[e,caseD_is];exact .inr #[to,_,rfl,t0,t1,by rw[X4];exact hfl]
  ·unfold wK;rw[hz];rfl
def _nb{kps ss rs s s' w}(h:Rd kps ss rs s w s'):Oo m_read_by [(.no,jk ss rs),(.no,s),(.no,.str w.1),(.no,.int w.2)] (λy=>y.2=s') noX:=by
 rcases h with⟨rfl,rfl⟩|⟨room,ks,st,kp,gd,rfl,r0,er,hc,hl,rfl⟩
 ·refine k6 ?_;simp![]
 ·exact _na r0 er hc ⋯
abbrev Lw:=List (Str×Int)
def Ch2(kps:List Int)(ss:List Str)(rs:List D):D->Lw->D->Prop
 |s,[],s'=>s=s'|s,x::r,s'=>∃m,Rd kps ss rs s x m/\Ch2 kps ss rs m r s'
noncomputable section
end
noncomputable section
end
end C
namespace B
open PySem Q
def m_keepers_in:Fn:=fn 2
  (jJ (cIf (tE (cF2 (pu2 fEq) (vV 1) (vE (cC (.int (-1)))))) (cC (.int 0)) (cH (j9 (j9 (j9 (vV 0) (C9 1)) (vV 1)) (C9 0)))))
def m_standing_in:Fn:=fn 2
  (jJ (cIf (tE (cF2 (pu2 fEq) (vV 0) (vE (cC (.int (-1)))))) (cC .non) (kw .no [(cV 0),(cF1 z7 (vV 1))])))
def m_first_standings:Fn:=fn 7
  (j6 (jw 3 (jx m_keepers_in [(cV 0),(cH (j9 (vV 2) (C9 0)))]))
  (j6 (jw 4 (cF1 Zw (vE (cLC .rt 2 [] (itS (cH (j9 (vV 2) (C9 2)))) (.t [0,1]) tYes (kw .no [(cV 1),(cV 0)])))))
  (j6 (jw 5 (q9 .rt []))
  (j6 (kQ (vZ (vE (jx m_keepers_in [(cV 1),(cH (j9 (vV 2) (C9 1)))]))) (.n 6) (v4 v3 5 (cIf (tE (cF2 (pu2 W7) (vV 6) (vV 4))) (cH (_hQ (vV 4) (vV 6))) (cF2 kq (vV 3) (vE (cF1 (pu1 kW) (vE (cLC .rt 1 [3] (itV 5) (.n 0) (tE (cF2 (pu2 fGe) (vV 0) (vV 1))) (cV 0)))))))))
  (jJ (kw .no [(jx m_standing_in [(cH (j9 (vV 2) (C9 0))),(W5 (vV 3))]),(KY m_standing_in [(j9 (vV 2) (C9 1)),(vV 5)])]))))))
def m_names_of:Fn:=fn 1
  (jJ (cIf (tE (cF2 (f2First fIsNon) (vV 0) (vE (cC .non)))) (kw .no []) (cH (j9 (vV 0) (C9 1)))))
def m_room_of:Fn:=fn 1
  (jJ (cIf (tE (cF2 (f2First fIsNon) (vV 0) (vE (cC .non)))) (cC (.int (-1))) (cH (j9 (vV 0) (C9 0)))))
def m_pair_of:Fn:=fn 4
  (j6 (jw 1 (jx m_names_of [(cH (j9 (vV 0) (C9 0)))]))
  (j6 (jw 2 (jx m_names_of [(cH (j9 (vV 0) (C9 1)))]))
  (j6 (jw 3 (cLC .rt 2 [2] (_hZ (cV 1)) (.t [0,1]) (tE (cF2 (pu2 J1) (vV 1) (vV 2))) (kw .no [(cV 0),(K6 (vV 2) (vV 1))])))
  (jJ (kw .no [(jx m_room_of [(cH (j9 (vV 0) (C9 0)))]),(jx m_room_of [(cH (j9 (vV 0) (C9 1)))]),(cF1 z7 (vV 3))])))))
def m_read_by_both:Fn:=fn 5
  (jJ (kw .no [(jx C.m_read_by [(cV 0),(cH (j9 (vV 2) (C9 0))),(cV 3),(cV 4)]),(jx C.m_read_by [(cV 1),(cH (j9 (vV 2) (C9 1))),(cV 3),(cV 4)])]))
def m_held_by_both:Fn:=fn 2
  (j6 (jw 1 (jx m_names_of [(cH (j9 (vV 0) (C9 0)))]))
  (jJ (cF2 kq (vV 1) (vE (cF1 z7 (vE (cLC .rt 1 [1] (itS (jx m_names_of [(cH (j9 (vV 0) (C9 1)))])) (.n 0) (tE (cF2 (pu2 zZ) (vV 0) (vV 1))) (cV 0))))))))
def m_is_good_in:Fn:=fn 2
  (jJ (Q7 (vE (cF2 (pu2 fNe) (vV 1) (vE (cC (.int (-1)))))) (cH (j9 (j9 (j9 (vV 0) (C9 1)) (vV 1)) (C9 1)))))
def m_agrees:Fn:=fn 3
  (jJ (cF2 (pu2 fEq) (vE (jx m_is_good_in [(cV 0),(cH (j9 (vV 2) (C9 0)))])) (vE (jx m_is_good_in [(cV 1),(cH (j9 (vV 2) (C9 1)))]))))
end B
namespace B
open Q PySem C
abbrev Sn:=Option (Int×List Int)
def stn:Sn->D
 |none=>.non|some p=>.tup [.int p.1,iT p.2]
def nms:Sn->List Int
 |none=>[]|some p=>p.2
def rmO:Sn->Int
 |none=>-1|some p=>p.1
def _nc s:Oo m_names_of [(.no,stn s)] (λy=>y=(.no,iT (nms s))) noX:=by
 cases s with
 |none=>
  refine k6 ?_;simp![stn];rfl
 |some p=>
  refine k6 ?_;simp![stn,p1];rfl
def _nd s:Oo m_room_of [(.no,stn s)] (λy=>∃o',y=(o',.int (rmO s))/\True) noX:=by
 cases s with
 |none=>
  refine k6 ?_;simp![stn];exact#[_,rfl,trivial]
 |some p=>
  refine k6 ?_;simp![stn,p0];exact#[_,rfl,trivial]
def _ne{kps a9 ss rs rs' s s' t t' w}(h:Rd kps ss rs s w s')(h':Rd a9 ss rs' t w t'):Oo m_read_by_both [(.no,jk ss rs),(.no,jk ss rs'),(.no,.tup [s,t]),(.no,.str w.1),(.no,.int w.2)] (λy=>y=(.no,.tup [s',t'])) noX:=by
 refine k6 ?_;simp![p0];refine(_nb h).via ?_;rintro ⟨o,d⟩ e;cases(show d=s' from e);simp![p1];refine(_nb h').via ?_;rintro ⟨o',d⟩ e;cases(e);simp![]
def qv(o t:List Int):List Int:=o++t.filter λn=>!(o.any λw=>w==n)
def _nf{p}{ks:List Int}:zZ (.int p) (.tup (ks.map D.int))=⇑(.bl (!(ks.any λw=>w==p))):=by
 show VX _ _=_;unfold VX;have:fIn _ (.tup _)=⇑(.bl (ks.any λw=>w==p)):=Q8;rw[this];rfl
def _ng(a b)(ha:(nms a).length<=100)(hb:(nms b).length<=100):Oo m_held_by_both [(.no,.tup [stn a,stn b])] (λy=>y=(.no,iT (qv (nms a) (nms b)))) noX:=by
 refine k6 ?_;simp![p0];refine(_nc a).via ?_;rintro _ rfl;simp![p1];refine QX (λE1 B ds ac=>E1=[⇑(Own.no,D.tup [stn a,stn b]),⇑(.no,iT (nms a))]/\∃q f1 f2,B=[q,⇑(.no,iT (nms a))]/\nms b=f1++f2/\ds=f2.map D.int/\ac.map (·.2)=(f1.filter λn=>!(nms a).any λw=>w==n).map D.int) ?_ ?_ ?_
 ·simp![p1];refine(_nc b).via ?_;rintro _ rfl;simp![];exact#[none,[],nms b,rfl,rfl,rfl,rfl]
 ·rintro E1 B d ds ac ⟨rfl,q,f1,f2,rfl,hf,be,au⟩;cases f2 with
  | nil=>cases be
  | cons z f2=>
   injection be with e1 e2;subst e1 e2;simp![_nf];cases hz:((nms a).any λw=>w==z)with
   |true=>
    refine#[_,f1++[z],f2,rfl,by rw[hf];simp,rfl,?_];rw[au,Yi];simp[hz]
   |false=>
    refine#[_,f1++[z],f2,rfl,by rw[hf];simp,rfl,?_];rw[X7,au,Yi];simp[hz]
 ·rintro E1 B ac ⟨rfl,q,f1,f2,rfl,hf,be,au⟩;cases f2 with
  |cons=>grind
  |nil=>
   rw[Xv]at hf;subst hf;have gl:((nms b).filter λn=>!(nms a).any λw=>w==n).length<=100:=Yd (List.length_filter_le _ _) hb;rw[zw,au];simp![Q.tup_l (o:=.no) (xs:=((nms b).filter λn=>!(nms a).any λw=>w==n).map D.int) ⋯,_m5 (a:=(nms a).map D.int) (b:=((nms b).filter λn=>!(nms a).any λw=>w==n).map D.int) (by rw[X4,X4];lia)];unfold qv iT;rw[X7]
def jX(t:List Int):Nat->List Int->List (Int×Int)
 |_,[]=>[]|k,n::o=>if(t.any λw=>w==n)=true then((k:Int),((t.findIdx λw=>w==n:Nat):Int))::jX t (k+1) o else jX t (k+1) o
abbrev prs(l:List (Int×Int)):List D:=l.map λp=>.tup [.int p.1,.int p.2]
def v9(a b:Sn):D:=.tup [.int (rmO a),.int (rmO b),.tup (prs (jX (nms b) 0 (nms a)))]
def _nh(a b)(ha:(nms a).length<=100)(hb:(nms b).length<=100):Oo m_pair_of [(.no,.tup [stn a,stn b])] (λy=>y=(.no,v9 a b)) noX:=by
 refine k6 ?_;simp![p0,p1];refine(_nc a).via ?_;rintro _ rfl;simp![p0,p1];refine(_nc b).via ?_;rintro _ rfl;simp![];refine QX (λE1 B ds ac=>E1=[⇑(Own.no,D.tup [stn a,stn b]),⇑(Own.no,iT (nms a)),⇑(Own.no,iT (nms b)),none]/\∃(q0 q1:Option Sd) (f1 f2:List Int),B=[q0,q1,⇑(.no,iT (nms b))]/\nms a=f1++f2/\ds=z6 f1.length (f2.map D.int)/\ac.map (·.2)++prs (jX (nms b) f1.length f2)=prs (jX (nms b) 0 (nms a))) ?_ ?_ ?_
 ·simp![↓_mA,show _hY (iT (nms a))=⇑((nms a).map D.int)from rfl];exact#[none,none,[],nms a,rfl,rfl,rfl,rfl]
 ·rintro E1 B d ds ac ⟨rfl,q0,q1,f1,f2,rfl,hf,be,au⟩;cases f2 with
  | nil=>cases be
  | cons z f2=>
   injection be with e1 e2;subst e1 e2;simp![Q8];have iy:(f1++[z]).length=f1.length+1:=by simp
   cases hz:((nms b).any λw=>w==z)with
   |false=>
    refine#[_,_,f1++[z],f2,rfl,by rw[hf];simp,by rw[iy],?_];rw[<-au,iy]
    conv=>rhs;unfold jX
    rw[hz,Xj ⋯]
   |true=>
    simp![_m4 hz];refine#[_,_,f1++[z],f2,rfl,by rw[hf];simp,by rw[iy],?_];rw[<-au,iy,X7,Xs]
    conv=>rhs;unfold jX
    rw[hz,Xb rfl];rfl
 ·rintro E1 B ac ⟨rfl,q0,q1,f1,f2,rfl,hf,be,au⟩;cases f2 with
  |cons=>cases be
  |nil=>
   have au:ac.map (·.2)=prs (jX (nms b) 0 (nms a)):=by rw[<-au];simp[jX]
   rw[zw,au,show Jz 2 [2] [q0,q1,⇑(Own.no,iT (nms b))] [⇑(Own.no,D.tup [stn a,stn b]),⇑(Own.no,iT (nms a)),⇑(Own.no,iT (nms b)),none]=[⇑(Own.no,D.tup [stn a,stn b]),⇑(Own.no,iT (nms a)),⇑(Own.no,iT (nms b)),none]from rfl];simp![p0,p1];refine(_nd a).use ?_;intro o1 _;simp![p0,p1];refine(_nd b).use ?_;intro o2 _;simp![Q.tup_l (o:=.rt) (xs:=prs (jX (nms b) 0 (nms a))) ⋯];rfl
def Kpr(rs:List D)(room k:Int):Prop:=(room=-1/\k=0)\/(0<=room/\∃g st,rs[room.toNat]?=⇑(.tup [.int k,g,st]))
def eqi{a b k}(h:(a==b)=k):fEq (.int a) (.int b)=⇑(.bl k):=by rw[<-h];rfl
def _ni{ss rs room k}(h:Kpr rs room k):Oo m_keepers_in [(.no,jk ss rs),(.no,.int room)] (λy=>∃o',y=(o',.int k)/\True) noX:=by
 refine k6 ?_;rcases h with⟨rfl,rfl⟩|⟨h0,g,st,hr⟩
 ·simp![eqi rfl];exact#[_,rfl,trivial]
 ·have bh:(room == -1)=false:=Y2 ⋯;simp![p1,eqi bh,(vq h0 hr),show jQ (.tup [.int k,g,st]) (.int 0)=⇑_ from rfl];exact#[_,rfl,trivial]
def v6(room:Int)(ks:List Int):Sn:=if room=-1 then none else ⇑(room,ks)
def _nj room ks o (ho:o≠.dp):Oo m_standing_in [(.no,.int room),(o,iL ks)] (λy=>∃o',y=(o',stn (v6 room ks))/\True) noX:=by
 unfold m_standing_in v6;refine k6 ?_
 by_cases h:room=-1
 ·subst h;simp![eqi rfl];exact#[_,rfl,trivial]
 ·have bh:_=false:=Y2 h;rw[Xj h];simp![eqi bh,Q.tup_l ho];exact#[_,rfl,trivial]
def nmF(own:Int)(kv:List (Int×Int)):Nat->List Int
 |0=>[]
 |n+1=>nmF own kv n++[match jV kv n with
  |some i=>i
  |none=>own+((nmF own kv n).filter λx=>decide (own<=x)).length]
def _nk:∀(ks:List Int),D.pures (ks.map D.int)=true
 |[]=>rfl
 |k::ks=>by
  rw[List.map_cons];unfold D.pures;rw[_nk ks];rfl
def _nl own kv n:nmF own kv (n+1)=nmF own kv n++[match jV kv n with|some i=>i|none=>own+((nmF own kv n).filter λx=>decide (own<=x)).length]:=rfl
def _nm k:k4 0 k=(((List.range k.toNat).map λ(i:Nat)=>(i:Int)).map D.int):=by
 unfold k4;rw[Xi,Int.sub_zero];refine Y5 λi _=>?_
 show D.int _=D.int i;rw[Int.zero_add]
def _nn s:(stn s).pure=true:=by
 cases s with
 |none=>rfl
 |some p=>
  show D.pures [.tup _]=true;simp only[D.pures,D.pure,_nk,Bool.and_self]
def Kk(own)(kv):∀n,(nmF own kv n).length=n
 |0=>rfl|n+1=>by unfold nmF;rw[Xe,Kk own kv n];rfl
def kvS(sh:List (Int×Int)):List (Int×Int):=(sh.map λp=>(p.2,p.1)).foldl (λkv p=>qX kv p.1 p.2) []
def _no {ss rs rs' p q k k' sh} (hp:Kpr rs p k) (hq:Kpr rs' q k') (hk:0<=k) (n8:k<=100) (ak:0<=k') (hk2':k'<=100) (gw:sh.length<=100):
  Oo m_first_standings [(.no,jk ss rs),(.no,jk ss rs'),(.no,.tup [.int p,.int q,.tup (prs sh)])] (λy=>y=(.no,.tup [stn (v6 p ((List.range k.toNat).map λ(i:Nat)=>(i))),stn (v6 q (nmF k (kvS sh) k'.toNat))])) noX:=by
 refine k6 ?_;simp![t0,t1,t2];refine (_ni hp).use ?_;intro o1 _;simp![t0,t1,t2];refine QX (λE1 B ds ac=>E1=[⇑(Own.no,jk ss rs),⇑(Own.no,jk ss rs'),⇑(Own.no,D.tup [D.int p,D.int q,D.tup (prs sh)]),⇑(o1,D.int k),none,none,none]/\∃(q0 q1:Option Sd) (f1 f2:List (Int×Int)),B=[q0,q1]/\sh=f1++f2/\ds=prs f2/\ac.map (·.2)=prs (f1.map λp=>(p.2,p.1))) ?_ ?_ ?_
 ·simp![t2];exact #[none,none,[],sh,rfl,rfl,rfl,rfl]
 ·rintro E1 B d ds ac ⟨rfl,q0,q1,f1,f2,rfl,hf,be,au⟩;cases f2 with
  | nil=>cases be
  | cons z f2=>
   have be:d::ds=.tup [.int z.1,.int z.2]::prs f2:=be;injection be with e1 e2;subst e1 e2;simp![];refine#[_,_,f1++[z],f2,rfl,by rw[hf];simp,rfl,?_];rw [X7,au,X7];simp [prs]
 ·rintro E1 B ac ⟨rfl,q0,q1,f1,f2,rfl,hf,be,au⟩;cases f2 with
  | cons=>cases be
  | nil =>
   rw [Xv]at hf;subst hf;rw [zw,au,show Jz 2 [] [q0,q1] [⇑(Own.no,jk ss rs),⇑(Own.no,jk ss rs'),⇑(Own.no,D.tup [D.int p,D.int q,D.tup (prs sh)]),⇑(o1,D.int k),none,none,none]=[⇑(Own.no,jk ss rs),⇑(Own.no,jk ss rs'),⇑(Own.no,D.tup [D.int p,D.int q,D.tup (prs sh)]),⇑(o1,D.int k),none,none,none]from rfl];have je:Zw (Own.no,D.lst (prs (sh.map λp=>(p.2,p.1))))=⇑(.rt,wq (kvS sh)):=_mJ (by rw[X4];lia);simp![je];refine qQ (λE aa=>∃(j:Int) (l6:Option Sd),E=[⇑(Own.no,jk ss rs),⇑(Own.no,jk ss rs'),⇑(Own.no,D.tup [D.int p,D.int q,D.tup (prs sh)]),⇑(o1,D.int k),⇑(.rt,wq (kvS sh)),⇑(.rt,iL (nmF k (kvS sh) j.toNat)),l6]/\0<=j/\j<=k'/\aa=k4 j k') ?_ ?_ ?_
   ·simp![t0,t1,t2];refine(_ni hq).use ?_;intro o2 _;simp![];exact#[0,_,rfl,⋯,ak,rfl]
   ·rintro E d ds ⟨j,l6,rfl,j0,j1,hr⟩;obtain⟨hj,rfl,rfl⟩:=xz j1 hr;have wf:(j+1).toNat=j.toNat+1:=⋯
    have xl:((j.toNat:Nat):Int)=j:=⋯
    simp![];refine xJ rfl ?_;cases hv:jV (kvS sh) j with
    | some v=>
     simp![↓_mx,_mF,_mG hv,hv,Option.isSome_some];refine#[_,rfl,by rw[X4,Kk];lia,j+1,⇑(.no,.int j),?_,⋯,⋯,rfl];rw [wf,_nl,xl,hv];simp
    | none=>
     simp![↓_mx,_mF,hv,Option.isSome_none];have hge:∀z,fGe (.int z) (.int k)=⇑(.bl (decide (k<=z))):=λz=>rfl
     refine QX (λE1 B ds ac=>E1=[⇑(Own.no,jk ss rs),⇑(Own.no,jk ss rs'),⇑(Own.no,D.tup [D.int p,D.int q,D.tup (prs sh)]),⇑(o1,D.int k),⇑(.rt,wq (kvS sh)),⇑(.rt,iL (nmF k (kvS sh) j.toNat)),⇑(.no,.int j)]/\∃(q0:Option Sd) (f1 f2:List Int),B=[q0,⇑(o1,.int k)]/\nmF k (kvS sh) j.toNat=f1++f2/\ds=f2.map D.int/\ac.map (·.2)=(f1.filter λx=>decide (k<=x)).map D.int) ?_ ?_ ?_
     ·exact v_is rfl (_nk _) (#[rfl,none,[],_,rfl,rfl,rfl,rfl])
     ·rintro E1 B d ds ac ⟨rfl,q0,f1,f2,rfl,hf,be,au⟩;cases f2 with
      | nil=>cases be
      | cons z f2=>
       rw[List.map_cons]at be;injection be with e1 e2;subst e1 e2;simp![hge]
       by_cases hz:k<=z
       ·have iz:decide (k<=z)=true:=Xg hz;simp![iz];refine#[_,f1++[z],f2,rfl,by rw[hf];simp,rfl,?_];rw[X7,au,Yi];simp[hz]
       ·have iz:decide (k<=z)=false:=Xl hz;simp![iz];refine#[_,f1++[z],f2,rfl,by rw[hf];simp,rfl,?_];rw[au,Yi];simp[hz]
     ·rintro E1 B ac ⟨rfl,q0,f1,f2,rfl,hf,be,au⟩;cases f2 with
      |cons=>cases be
      |nil=>
       rw[Xv]at hf;rw[zw,au,<-hf];simp![];refine#[_,rfl,by rw[X4,Kk];lia,j+1,⇑(.no,.int j),?_,⋯,⋯,rfl];rw[wf,_nl,xl,hv];have:∀l (v),l.map D.int++[D.int v]=(l++[v]).map D.int:=λl v=>by simp
       rw[this];rfl
   ·rintro E ⟨j,l6,rfl,j0,j1,hr⟩;have:=z9 j1 hr;subst this;simp![t0,t1,t2];rw[_nm];refine(_nj p ((List.range k.toNat).map λ(i:Nat)=>(i)) .no ⋯).use ?_;intro o3 _;simp![t0,t1,t2];refine(_nj q (nmF k (kvS sh) j.toNat) .no ⋯).use ?_;intro o4 _;refine#[_nn _,?_];simp![]
abbrev kX(k:Int):List Int:=(List.range k.toNat).map λ(i:Nat)=>(i:Int)
def _np(p k:Int):Sn:=v6 p (kX k)
def JJ(q k k':Int)(sh:List (Int×Int)):Sn:=v6 q (nmF k (kvS sh) k'.toNat)
def vK(f:Int->Int):Sn->Sn:=Option.map λp=>(p.1,p.2.map f)
def _nq f s:nms (vK f s)=(nms s).map f:=by cases s<;>rfl
def _nr f s:rmO (vK f s)=rmO s:=by cases s<;>rfl
section
variable {f:Int->Int}
def _ns{x n}(h:f x=f n->x=n):(f x==f n)=(x==n):=by
 rw[Bool.eq_iff_iff];simp;exact#[h,λe=>by rw[e]]
def _nt{n}:∀{t:List Int},(∀x∈t,f x=f n->x=n)->((t.map f).any λw=>w==f n)=t.any λw=>w==n
 |[],_=>rfl
 |x::t,h=>by
  rw[List.map_cons,Zj,Zj,_ns (h x X5),_nt λy hy=>h y (_ad _ hy)]
def _nu{n}:∀{t:List Int},(∀x∈t,f x=f n->x=n)->((t.map f).findIdx λw=>w==f n)=t.findIdx λw=>w==n
 |[],_=>rfl
 |x::t,h=>by
  rw[List.map_cons,List.findIdx_cons,List.findIdx_cons,_ns (h x X5),_nu λy hy=>h y (_ad _ hy)]
def _nv{t}:∀{o} (k),(∀n∈o,∀x∈t,f x=f n->x=n)->jX (t.map f) k (o.map f)=jX t k o
 |[],_,_=>rfl
 |n::o,k,h=>by
  have h1:=h n X5;rw[List.map_cons];unfold jX;rw[_nt h1,_nu h1,(_nv (k+1) λm hm=>h m (_ad _ hm))]
def _nw{s t}(h:∀n∈nms s,∀x∈nms t,f x=f n->x=n):v9 (vK f s) (vK f t)=v9 s t:=by
 unfold v9;rw[_nr,_nr,_nq,_nq,_nv 0 h]
def _nx{ks c i}(h:i.toNat<ks.length+1):C.nameAt (ks.map f) (f c) i=f (C.nameAt ks c i):=by
 unfold C.nameAt;rw[show ks.map f++[f c]=(ks++[c]).map f by simp,X2,X2,Xh,X1 (~~~h)];rfl
def _ny{ks c i}(h:i.toNat<ks.length+1):C.nameAt ks c i∈ks\/C.nameAt ks c i=c:=by
 unfold C.nameAt;rw[X2,X1 _];have:(ks++[c])[i.toNat]'(~~~h)∈ks++[c]:=Xn _;rcases aA this with q|q
 ·exact .inl q
 ·exact .inr (~~~q)
def _nz{ss st ks z c}(h:∀x∈ks,f x=f c->x=c):x4 ss st (ks.map f) z (f c)=x4 ss st ks z c:=by
 unfold x4;rw[_nu h]
def qk(kps:List Int)(s:Sn):Prop:=∀room ks,s=⇑(room,ks)->0<=room/\room<kps.length/\(ks.length:Int)=kps.getD room.toNat 0
def _nA{kps ss rs S z c}(hP:Prs kps ss.length rs)(hk:Abk kps)(hS:qk kps S)(rg:∀x∈nms S,f x=f c->x=c):
  ∃ s',Rd kps ss rs (stn S) (z,c) (stn s')/\Rd kps ss rs (stn (vK f S)) (z,f c) (stn (vK f s'))/\(∀n∈nms s',n∈nms S\/n=c)/\(nms s').length<=100/\qk kps s':=by
 cases S with
 | none=>exact#[none,.inl #[rfl,rfl],.inl #[rfl,rfl],λ_ h=>(nomatch h),Y1 _,λ_ _ h=>(nomatch h)]
 | some P=>
  obtain⟨room,ks⟩:=P;obtain⟨r0,r1,hl⟩:=hS room ks rfl;obtain⟨r,er,gd,st,rfl,iu,ba⟩:=hP.2 room.toNat ⋯;have js:=hk (kps.getD room.toNat 0) (by rw[X2,X1 ⋯];exact Xn _);have ld:Cas kps ss.length ks.length st:=#[iu,by rw[hl];exact ba];have ud:Cas kps ss.length (ks.map f).length st:=by rw[X4];exact ld
  have inj:∀x∈ks,f x=f c->x=c:=rg;have done:∀s',wK ss st ks z c=stn s'->wK ss st _ z (f c)=stn _->_->(nms s').length<=100->qk kps s'->∃s',Rd kps ss rs _ (z,c) _/\Rd kps ss rs _ (z,f c) (stn (vK f s'))/\(∀n∈nms s',n∈nms (⇑(room,ks))\/n=c)/\(nms s').length<=100/\qk kps s':=λs' h1 h2 h3 h4 h5=>
   #[s',.inr #[room,ks,st,_,_,rfl,r0,er,ld,⋯,h1.symm],.inr #[room,ks.map f,st,_,_,rfl,r0,er,ud,by rw[X4];lia,h2.symm],h3,h4,h5]
  cases hz:(ss.any λw=>w==z)with
  | false=>
   refine done none ?_ ?_ (λ_ h=>(nomatch h)) (Y1 _) (λ_ _ h=>(nomatch h))
   ·unfold wK;rw[hz];rfl
   ·unfold wK;rw[hz];rfl
  | true=>
   obtain⟨cs,g1,g2,g3,g4⟩:=ZQ c ld hz;have e1:wK ss st ks z c=Wz ks c (x4 ss st ks z c):=by unfold wK;rw[hz,Xb rfl]
   have e2:wK ss st (ks.map f) z (f c)=Wz (ks.map f) (f c) (x4 ss st ks z c):=by unfold wK;rw[hz,Xb rfl,_nz inj]
   rcases g4 with e|⟨to,fs,e,t0,t1,hfs,_,hfl⟩
   ·refine done none ?_ ?_ (λ_ h=>(nomatch h)) (Y1 _) (λ_ _ h=>(nomatch h))
    ·rw[e1,e];rfl
    ·rw[e2,e];rfl
   ·have hb:=_m8 (own:=ks.length) (k:=(ks.findIdx λw=>w==c:Nat));have cj:∀i∈fs,i.toNat<ks.length+1:=λi hi=>by have:=hfs i hi;lia
    refine done ⇑(to,fs.map (C.nameAt ks c)) ?_ ?_ (λn hn=>?_) ?_ (λpc vg h=>?_)
    ·rw[e1,e,caseD_is];rfl
    ·rw[e2,e,caseD_is];show D.tup [.int to,iT _]=D.tup [.int to,iT ((fs.map _).map f)];rw[Xi]
     congr 4
     exact Y5 λi hi=>_nx (cj i hi)
    ·obtain⟨i,hi,rfl⟩:=aE hn;exact _ny (cj i hi)
    ·show(fs.map _).length<=100;rw[X4];have:=hk (kps.getD to.toNat 0) (by rw[X2,X1 ⋯];exact Xn _);lia
    ·injection h with h;injection h with h3 h4;subst h3 h4;exact#[t0,t1,by rw[X4];exact hfl]
end
end B
namespace B
open PySem Q
def m__law_cell_at:Fn:=fn 2
  (j6 (sIf (tE (cF2 (pu2 fLt) (vV 1) (vE (cF1 (pu1 kW) (vV 0))))) (jJ (cH (j9 (vV 0) (vV 1)))) k5)
  (jJ (cC (.int 0))))
def m__law_whole:Fn:=fn 1
  (jJ (Q7 (vE (cF1 (pu1 (vx "int")) (vV 0))) (_d9 (vE (cF1 (pu1 (vx "bool")) (vV 0))))))
def m__law_stream:Fn:=fn 5
  (j6 (jw 2 (q9 .rt []))
  (j6 (sIf (tE (cF2 (pu2 fEq) (vE (cF2 (pu2 v7) (vV 0) (C9 2))) (C9 1))) (j6 (jw 0 (cF2 (pu2 zY) (vV 0) (C9 2)))
  (j6 (kQ (vZ (vV 1)) (.n 3) (j6 (v4 v3 2 (cF2 (pu2 v7) (vV 0) (C9 2147483647)))
  (jw 0 (cF2 (pu2 zY) (vV 0) (C9 2147483647)))))
  (jJ (cMv 2)))) k5)
  (j6 (jw 4 (cF2 kq (vE (cF2 (pu2 v7) (vE (cF2 (pu2 zY) (vV 0) (C9 2))) (C9 2147483647))) (C9 48271)))
  (j6 (kQ (vZ (vE (cF2 kq (vV 1) (C9 1)))) (.n 3) (j6 (jw 4 (cF2 (pu2 v7) (vE (cF2 kq (vE (cF2 kq (vE (cF2 J3 (vV 4) (vV 4))) (vE (cF2 J3 (C9 48271) (vV 4))))) (vV 3))) (C9 2147483647)))
  (v4 v3 2 (cF2 (pu2 v7) (vE (cF2 kq (vE (cF2 J3 (vV 4) (C9 40692))) (vE (cF2 J3 (C9 7) (vV 3))))) (C9 2147483399)))))
  (jJ (cSl (vV 2) ⇑(C9 1) none))))))
def m__law_signs:Fn:=fn 7
  (j6 (jw 1 (cC (.str "abcdefghijklmnopqrstuvwxyz")))
  (j6 (jw 2 (jx m__law_stream [(cV 0),(cC (.int 9))]))
  (j6 (jw 3 (_hX "" (vE (cLC .rt 1 [1] (itS (cSl (vV 2) none ⇑(vE (cF2 kq (C9 1) (vE (cF2 (pu2 v7) (vV 0) (C9 8))))))) (.n 0) tYes (cH (j9 (vV 1) (vE (cF2 (pu2 v7) (vV 0) (C9 26)))))))))
  (j6 (jw 4 (cF2 (pu2 v7) (vE (cF2 (pu2 zY) (vV 0) (C9 8))) (vE (cF1 (pu1 kW) (vV 3)))))
  (j6 (jw 5 (q9 .rt []))
  (j6 (kQ (vZ (j9 (vE (q9 .rt [(cC (.int 1)),(cC (.int 2)),(cC (.int 1)),(cC (.int 2)),(cC (.int 2)),(cC (.int 1)),(cC (.int 2)),(cC (.int 3))])) (vE (cF2 (pu2 v7) (vE (cF2 (pu2 zY) (vV 0) (C9 64))) (C9 8))))) (.n 6) (v4 v3 5 (cF2 kq (vE (cF2 kq (vE (cSl (vV 3) none ⇑(vV 4))) (j9 (vV 1) (vE (cF2 kq (vE (cF2 (pu2 v7) (j9 (vV 2) (C9 8)) (C9 24))) (vV 6)))))) (vE (cSl (vV 3) ⇑(vE (cF2 kq (vV 4) (C9 1))) none)))))
  (jJ (cMv 5))))))))
def m__law_fills:Fn:=fn 6
  (j6 (jw 3 (W5 (vV 2)))
  (j6 (jw 4 (q9 .rt []))
  (j6 (kQ (vZ (vV 1)) (.n 5) (j6 (v4 v3 4 (_hE 3 (vE (cF2 (pu2 v7) (vV 0) (vE (cF1 (pu1 kW) (vV 3)))))))
  (jw 0 (cF2 kq (vE (cF2 (pu2 zY) (vV 0) (C9 7))) (vE (cF2 J3 (C9 5) (vV 5)))))))
  (jJ (cF1 z7 (vV 4))))))
def m__law_case:Fn:=fn 5
  (j6 (sIf (tE (cF2 (pu2 fEq) (vE (cF2 (pu2 v7) (vV 0) (C9 5))) (C9 4))) (jJ (cC .non)) k5)
  (j6 (jw 3 (cLC .rt 1 [1,2] (vZ (vE (cF1 (pu1 kW) (vV 1)))) (.n 0) (tE (cF2 (pu2 fLe) (j9 (vV 1) (vV 0)) (vV 2))) (cV 0)))
  (j6 (jw 4 (cH (j9 (vV 3) (vE (cF2 (pu2 v7) (vE (cF2 (pu2 zY) (vV 0) (C9 5))) (vE (cF1 (pu1 kW) (vV 3))))))))
  (jJ (kw .no [(cV 4),(jx m__law_fills [(cF2 (pu2 zY) (vV 0) (C9 35)),(cH (j9 (vV 1) (vV 4))),(cV 2)])])))))
def m__law_plain:Fn:=fn 13
  (j6 (jw 2 (jx m__law_stream [(cV 0),(cC (.int 90))]))
  (j6 (jw 3 (cH (j9 (vE (q9 .rt [(cC (.int 1)),(cC (.int 2)),(cC (.int 3)),(cC (.int 4)),(cC (.int 5)),(cC (.int 2)),(cC (.int 4)),(cC (.int 6))])) (vE (cF2 (pu2 v7) (j9 (vV 2) (C9 0)) (C9 8))))))
  (j6 (jw 4 (cC (.int 2)))
  (j6 (sIf (tAnd (tE (cF2 (pu2 fEq) (vV 3) (C9 3))) (tE (cF2 (pu2 fEq) (vE (cF2 (pu2 v7) (j9 (vV 2) (C9 1)) (C9 3))) (C9 0)))) (jw 4 (cC (.int 3))) k5)
  (j6 (jw 5 (cF2 kq (vE (q9 .rt [(cC (.int 0))])) (vE (cLC .rt 1 [2,4] (vZ (vE (cF2 (pu2 _d7) (vV 3) (C9 1)))) (.n 0) tYes (cF2 (pu2 v7) (vE (cF2 (pu2 zY) (j9 (vV 1) (vE (cF2 kq (C9 1) (vV 0)))) (C9 3))) (vE (cF2 kq (vV 2) (C9 1))))))))
  (j6 (jw 6 (q9 .rt []))
  (j6 (jw 7 (cC (.int 8)))
  (j6 (kQ (vZ (vV 3)) (.n 8) (j6 (jw 9 (q9 .rt []))
  (j6 (kQ (vZ (vE (cF1 (pu1 kW) (vV 1)))) (.n 10) (j6 (jw 11 (q9 .rt []))
  (j6 (kQ (vZ (vE (cF2 kq (j9 (vV 5) (vV 8)) (C9 1)))) (.n 12) (j6 (v4 v3 11 (jx m__law_case [(cH (j9 (vV 2) (vV 7))),(cV 5),(cF2 kq (j9 (vV 5) (vV 8)) (vE (cF1 (pu1 K9) (vE (cF2 (pu2 fEq) (vV 12) (j9 (vV 5) (vV 8)))))))]))
  (jw 7 (cF2 kq (vV 7) (C9 1)))))
  (v4 v3 9 (cV 11)))))
  (j6 (v4 v3 6 (kw .no [(cH (j9 (vV 5) (vV 8))),(cF2 (pu2 fEq) (vE (cF2 (pu2 v7) (j9 (vV 2) (vV 7)) (C9 2))) (C9 0)),(cV 9)]))
  (jw 7 (cF2 kq (vV 7) (C9 1)))))))
  (jJ (kw .no [(cF1 W9 (vV 1)),(cV 6)]))))))))))
def m__law_read:Fn:=fn 11
  (j6 (sIf (tE (cF2 (f2First fIsNon) (vV 1) (vE (cC .non)))) (jJ (cC .non)) k5)
  (j6 (Kj [4,5] (cV 1))
  (j6 (Kj [6,7,8] (cH (j9 (j9 (vV 0) (C9 1)) (vV 4))))
  (j6 (jw 9 (cV 6))
  (j6 (sIf (tE (cF2 (pu2 J1) (vV 3) (vV 5))) (jw 9 (K6 (vV 5) (vV 3))) k5)
  (j6 (jw 10 (cH (j9 (j9 (vV 8) (vE (K6 (j9 (vV 0) (C9 0)) (vV 2)))) (vV 9))))
  (j6 (sIf (tE (cF2 (f2First fIsNon) (vV 10) (vE (cC .non)))) (jJ (cC .non)) k5)
  (jJ (kw .no [(cH (j9 (vV 10) (C9 0))),(cF1 z7 (vE (cLC .rt 1 [5,3] (itS (cH (j9 (vV 10) (C9 1)))) (.n 0) tYes (cH (j9 (vE (cF2 kq (vE (cF1 W9 (vV 1))) (vE (q9 .rt [(cV 2)])))) (vV 0))))))])))))))))
def m__law_keepers:Fn:=fn 2
  (j6 (sIf (tE (cF2 (pu2 fEq) (vV 1) (vE (cF1 (pu1 zJ) (C9 1))))) (jJ (cC (.int 0))) k5)
  (jJ (cH (j9 (j9 (j9 (vV 0) (C9 1)) (vV 1)) (C9 0)))))
def m__law_pair:Fn:=fn 7
  (j6 (jw 2 (q9 .rt [(kw .no []),(kw .no [])]))
  (j6 (jw 3 (q9 .rt [(cF1 (pu1 zJ) (C9 1)),(cF1 (pu1 zJ) (C9 1))]))
  (j6 (kQ (_hC (q9 .rt [(cV 0),(cV 1)])) (.t [4,5]) (sIf (tE (cF2 (f2First fNotNon) (vV 5) (vE (cC .non)))) (j6 (Zx 3 (vV 4) (cH (j9 (vV 5) (C9 0))))
  (Zx 2 (vV 4) (cH (j9 (vV 5) (C9 1))))) k5))
  (j6 (jw 6 (cLC .rt 2 [2] (_hZ (cH (j9 (vV 2) (C9 0)))) (.t [0,1]) (tE (cF2 (pu2 J1) (vV 1) (j9 (vV 2) (C9 1)))) (kw .no [(cV 0),(K6 (j9 (vV 2) (C9 1)) (vV 1))])))
  (jJ (kw .no [(cH (j9 (vV 3) (C9 0))),(cH (j9 (vV 3) (C9 1))),(cF1 z7 (vV 6))]))))))
def m__law_is_pair:Fn:=fn 3
  (j6 (sIf (tOr (tNot (tEQ (vE (cF1 (pu1 (vx "tuple")) (vV 0))))) (tOr (tE (cF2 (pu2 fNe) (vE (cF1 (pu1 kW) (vV 0))) (C9 3))) (tNot (tEQ (vE (cF1 (pu1 (vx "tuple")) (j9 (vV 0) (C9 2)))))))) (jJ (cC (.bl false))) k5)
  (j6 (sIf (tOr (tNot (tEQ (vE (jx m__law_whole [(cH (j9 (vV 0) (C9 0)))])))) (tNot (tEQ (vE (jx m__law_whole [(cH (j9 (vV 0) (C9 1)))]))))) (jJ (cC (.bl false))) k5)
  (j6 (kQ (itS (cH (j9 (vV 0) (C9 2)))) (.n 2) (sIf (tOr (tNot (tEQ (vE (cF1 (pu1 (vx "tuple")) (vV 2))))) (tOr (tE (cF2 (pu2 fNe) (vE (cF1 (pu1 kW) (vV 2))) (C9 2))) (tOr (tNot (tEQ (vE (jx m__law_whole [(cH (j9 (vV 2) (C9 0)))])))) (tNot (tEQ (vE (jx m__law_whole [(cH (j9 (vV 2) (C9 1)))]))))))) (jJ (cC (.bl false))) k5))
  (jJ (cF2 (pu2 fEq) (vV 0) (vV 1))))))
end B
namespace B
open Q PySem C
def _nB{f xs P}(h:Oo f xs P noX):∃y,P y/\Oo f xs (λy'=>y'=y) noX:=by
 unfold Oo at h ⊢;cases hf:f xs with
 |none=>rw[hf]at h;exact absurd (show False by exists h) id
 |some r=>
  rw[hf]at h;cases r with|ok E y=>exact#[y,by with_unfolding_all exact h,by exists rfl]|exc E c=>grind
def xK(ns:List Int)(k:Nat):Int:=ns.getD k 0
def _nC ns (k:Nat)(hn:ns.length<=10000):Oo m__law_cell_at [(.no,iL ns),(.no,.int k)] (λy=>∃o',y=(o',.int (xK ns k))/\True) noX:=by
 refine k6 ?_;simp![]
 by_cases h:(k:Int)<ns.length
 ·have hx:jQ (iL ns) (.int k)=⇑(.int (xK ns k)):=by
   refine vq ⋯ ?_;unfold xK;rw[Xu,Xh,X2,X1 ⋯];rfl
  have hd:=Xg h;rw[Xb hd];simp![hx];exact#[_,rfl,trivial]
 ·have hd:¬decide ((k:Int)<ns.length)=true:=by rw[Xl h];decide
  rw[Xj hd];refine#[.dp,?_,trivial];rw[show xK ns k=0 by unfold xK;rw[X2,Xz ⋯];rfl]
def whole_int i:Oo m__law_whole [(.no,.int i)] (λy=>∃o',y=(o',.bl true)/\True) noX:=by
 refine k6 ?_;simp![show vx "int" (.int i)=⇑(.bl true)from rfl,show vx "bool" (.int i)=⇑_ from rfl];exact#[_,rfl,trivial]
def St(n:Int)(xs:List Int):Prop:=(xs.length:Int)=n/\∀x∈xs,0<=x/\x<2147483647
def _nD(c n)(hn:0<=n)(nj:n<=100):Oo m__law_stream [(.no,.int c),(.no,.int n)] (λy=>∃xs,y=(.rt,iL xs)/\St n xs) noX:=by
 refine k6 ?_
 by_cases h:c % 2=1
 ·have hd:(c % 2==1)=true:=by simp[h]
  simp![eqi hd];refine qQ (λE aa=>∃(j v:Int) (xs:List Int) (l3:Option Sd),E=[⇑(.dp,.int v),⇑(.no,.int n),⇑(.rt,iL xs),l3,none]/\0<=j/\j<=n/\aa=k4 j n/\St j xs) ?_ ?_ ?_
  ·simp![];exact#[0,_,[],_,rfl,⋯,hn,rfl,rfl,nofun]
  ·rintro E d ds ⟨j,v,xs,l3,rfl,j0,j1,hr,hx⟩;obtain⟨hj,rfl,rfl⟩:=xz j1 hr;simp![];refine xJ rfl ?_;simp![];refine#[_,rfl,by rw[X4];have:=hx.1;lia,(#[j+1,v / 2147483647,xs++[v % 2147483647],⇑(.no,.int j),by simp,⋯,⋯,rfl,by have:=hx.1;simp;lia,λx hm=>?_])];rcases aA hm with z|z
   ·exact hx.2 x z
   ·rw[aC z];lia
  ·rintro E ⟨j,v,xs,l3,rfl,j0,j1,hr,hx⟩;have:=z9 j1 hr;subst this;simp![];exact#[xs,rfl,hx]
 ·have hd:(c % 2==1)=false:=Y2 h;simp![eqi hd];refine qQ (λE aa=>∃(j v:Int) (xs:List Int) (l3:Option Sd),E=[⇑(.no,.int c),⇑(.no,.int n),⇑(.rt,iL xs),l3,⇑(.dp,.int v)]/\0<=j/\j<=n+1/\aa=k4 j (n+1)/\St j xs/\0<=v/\v<4294967296) ?_ ?_ ?_
  ·simp![];exact#[0,_,[],_,rfl,⋯,⋯,rfl,#[rfl,nofun],⋯,⋯]
  ·rintro E d ds ⟨j,v,xs,l3,rfl,j0,j1,hr,hx,v0,v1⟩;obtain⟨hj,rfl,rfl⟩:=xz j1 hr;have hm:=mul_l (o1:=.dp) (o2:=.dp) (a:=v) (b:=v) ⋯ ⋯;simp![hm];generalize hw:(v*v+48271*v+j) % 2147483647=u;refine xJ rfl ?_;simp![(mul_l (o1:=.dp) (o2:=.dp) (a:=u) (b:=40692) ⋯ ⋯)];refine#[_,rfl,by rw[X4];have:=hx.1;lia,(#[j+1,u,xs++[(u*40692+7*j) % 2147483399],⇑(.no,.int j),by simp,⋯,⋯,rfl,#[by have:=hx.1;simp;lia,λx hm=>?_],⋯,⋯])];rcases aA hm with z|z
   ·exact hx.2 x z
   ·grind
  ·rintro E ⟨j,v,xs,l3,rfl,j0,j1,hr,hx,v0,v1⟩;have:=z9 j1 hr;simp![_mq (o:=.rt) (xs:=xs.map D.int) (lo:=⇑1) (hi:=none) ⋯];have hl:=hx.1;have hcut:KJ (xs.map D.int) ⇑1 none=(xs.drop 1).map D.int:=by
    unfold KJ VY;dsimp only;rw[Xj ⋯,X4,show min (1:Int).toNat xs.length=1 by show min 1 xs.length=1;lia,<-List.map_drop,List.take_of_length_le (by rw[X4,List.length_drop];lia)]
   rw[hcut];exact#[xs.drop 1,rfl,by rw[List.length_drop];lia,λx hm=>hx.2 x (List.mem_of_mem_drop hm)]
def _nE n:((List.range n).map λ(j:Nat)=>(j:Int)).Nodup:=List.Pairwise.map _ (λa b h e=>h ⋯) List.nodup_range
def _nF(x need free)(h0:0<=need)(h1:need<=free)(h2:free<=100):Oo m__law_fills [(.no,.int x),(.no,.int need),(.no,.int free)] (λy=>∃fs:List Int,y=(.no,.tup (fs.map D.int))/\(fs.length:Int)=need/\(∀f∈fs,0<=f/\f<free)/\fs.Nodup) noX:=by
 refine k6 ?_;simp![];rw[_nm];refine qQ (λE aa=>∃(j v:Int) (o:Own) (sm fl:List Int) (l5:Option Sd),E=[⇑(o,.int v),⇑(.no,.int need),⇑(.no,.int free),⇑(.rt,iL sm),⇑(.rt,iL fl),l5]/\0<=j/\j<=need/\aa=k4 j need/\(fl.length:Int)=j/\(sm.length:Int)+fl.length=free/\(fl++sm).Nodup/\∀f∈fl++sm,0<=f/\f<free) ?_ ?_ ?_
 ·simp![];refine#[0,x,.no,(List.range free.toNat).map λ(j:Nat)=>(j),[],none,rfl,⋯,h0,rfl,rfl,?_,?_,?_]
  ·simp;lia
  ·rw[List.nil_append];exact _nE _
  ·intro f hf;obtain⟨j,hj,rfl⟩:=aE hf;have:=List.mem_range.mp hj;lia
 ·rintro E d ds ⟨j,v,o,sm,fl,l5,rfl,j0,j1,hr,hl,hs,hn,hm⟩;obtain⟨hj,rfl,rfl⟩:=xz j1 hr;have u1:=Yl v (show(0:Int)<sm.length by lia);have hi:(v % sm.length).toNat<sm.length:=⋯
  simp![];refine xJ rfl (_mr rfl ?_);simp![mod_i (b:=(sm.length:Int)) _];refine#[.rt,_,_,.int _,rfl,⋯,rfl,(Z1 v (show _≠0 by lia)),⋯,by rw[Xh,X1 hi];rfl,rfl,?_];refine#[_,rfl,by rw[X4];lia,?_];have pm:(fl++[sm[(v % sm.length).toNat]]++sm.eraseIdx (v % sm.length).toNat).Perm (fl++sm):=by
   rw[Xs];exact List.Perm.append_left fl (YY hi)
  refine#[j+1,v / 7+5*j,.dp,sm.eraseIdx (v % sm.length).toNat,fl++[sm[(v % sm.length).toNat]],⇑(.no,.int j),?_,⋯,⋯,rfl,?_,?_,pm.nodup_iff.mpr hn,λf hf=>hm f (pm.mem_iff.mp hf)]
  ·simp only[iL,X7,List.map_cons,List.map_nil,_mY]
  ·rw[Xe];simp;lia
  ·rw[List.length_eraseIdx_of_lt hi,Xe];simp;lia
 ·rintro E ⟨j,v,o,sm,fl,l5,rfl,j0,j1,hr,hl,hs,hn,hm⟩;have:=z9 j1 hr;subst this;simp![Q.tup_l (o:=.rt) (xs:=fl.map D.int) ⋯];exact#[fl,rfl,hl,λf hf=>hm f (_ac _ hf),(List.nodup_append.mp hn).1]
def _nG(x free)(kps)(hk:Abk kps)(ku:kps[0]?=⇑0)(hl:kps.length<=100)(hf:0<=free)(hf2:free<=100):Oo m__law_case [(.no,.int x),(.no,iL kps),(.no,.int free)] (λy=>Cs kps free y.2) noX:=by
 have ae:0<kps.length:=by
  cases kps with| nil=>cases ku| cons=>simp
 refine k6 ?_
 by_cases h:x % 5=4
 ·have hd:(x % 5==4)=true:=by simp[h]
  simp![eqi hd];exact .inl rfl
 ·have hd:(x % 5==4)=false:=Y2 h;simp![eqi hd];refine QX (λE1 B ds ac=>E1=[⇑(.no,.int x),⇑(.no,iL kps),⇑(.no,.int free),none,none]/\∃(j:Int) (q0:Option Sd) (fl:List Int),B=[q0,⇑(.no,iL kps),⇑(.no,.int free)]/\0<=j/\j<=kps.length/\ds=k4 j kps.length/\ac.map (·.2)=fl.map D.int/\(∀t∈fl,0<=t/\t<kps.length/\kps.getD t.toNat 0<=free)/\(0<j->fl≠[])/\(fl.length:Int)<=j) ?_ ?_ ?_
  ·simp![];exact#[0,none,[],rfl,⋯,⋯,rfl,rfl,λ_ z=>(nomatch z),λz=>absurd z ⋯,by simp]
  ·rintro E1 B d ds ac ⟨rfl,j,q0,fl,rfl,j0,j1,hr,au,hfl,bh,gl⟩;obtain⟨hj,rfl,rfl⟩:=xz j1 hr;have hjl:j.toNat<kps.length:=⋯
   have hx:jQ (iL kps) (.int j)=⇑(.int (kps.getD j.toNat 0)):=vq j0 (by rw[Xh,X1 hjl,X2,X1 hjl];rfl)
   by_cases hz:kps.getD j.toNat 0<=free
   ·have iz:decide (kps.getD j.toNat 0<=free)=true:=Xg hz;simp![hx,iz];refine#[j+1,_,fl++[j],rfl,⋯,⋯,rfl,by rw[X7,X7,au];rfl,λt ht=>?_,λ_=>by simp,by simp;lia];rcases aA ht with q|q
    ·exact hfl t q
    ·rw[aC q];exact#[j0,⋯,hz]
   ·have iz:decide (kps.getD j.toNat 0<=free)=false:=Xl hz;have hj0:0<j:=by
     rcases Int.lt_or_eq_of_le j0 with q|q
     ·exact q
     ·subst q;exfalso;apply hz;rw[X2];show(kps[0]?).getD 0<=free
      rwa [ku]
    simp![hx,iz];exact#[j+1,_,fl,rfl,⋯,⋯,rfl,au,hfl,λ_=>bh hj0,⋯]
  ·rintro E1 B ac ⟨rfl,j,q0,fl,rfl,j0,j1,hr,au,hfl,bh,gl⟩;have:=z9 j1 hr;subst this;have hfl0:0<fl.length:=List.length_pos_iff.mpr (bh ⋯);have u1:=Yl (x / 5) (show(0:Int)<fl.length by lia);have hi:(x / 5 % fl.length).toNat<fl.length:=⋯
   obtain⟨t,et⟩:∃t,fl[(x / 5 % fl.length).toNat]?=⇑t:=#[_,X1 hi];obtain⟨t0,t1,t2⟩:=hfl t (Yu et);have hx:jQ (iL fl) (.int (x / 5 % fl.length))=⇑(.int t):=vq (Z1 (x / 5) (show(fl.length:Int)≠0 by lia)) (by rw[Xh,et];rfl);have htl:t.toNat<kps.length:=⋯
   have hy:jQ (iL kps) (.int t)=⇑(.int (kps.getD t.toNat 0)):=vq t0 (by rw[Xh,X1 htl,X2,X1 htl];rfl);rw[zw,au,show Jz 1 [1,2] [q0,⇑(Own.no,iL kps),⇑(Own.no,D.int free)] [⇑(Own.no,D.int x),⇑(Own.no,iL kps),⇑(Own.no,D.int free),none,none]=[⇑(Own.no,D.int x),⇑(Own.no,iL kps),⇑(Own.no,D.int free),none,none]from rfl];simp![mod_i (a:=x / 5) (b:=(fl.length:Int)) ⋯,hx,hy];refine(_nF (x / 35) (kps.getD t.toNat 0) free (hk (kps.getD t.toNat 0) (by rw[X2,X1 htl];exact Xn _)).1 t2 hf2).use ?_;rintro fs ⟨f1,f2,f3⟩;simp![];exact .inr #[t,fs,rfl,t0,t1,f2,f3,f1]
def Gdr(rs:List D)(room:Int)(g:Bool):Prop:=(room=-1/\g=false)\/(0<=room/\∃k st,rs[room.toNat]?=⇑(.tup [k,.bl g,st]))
def nei{a b k}(h:(a==b)=k):fNe (.int a) (.int b)=⇑(.bl !k):=by rw[<-h];rfl
def _nH{ss rs room g}(h:Gdr rs room g):Oo m_is_good_in [(.no,jk ss rs),(.no,.int room)] (λy=>∃o',y=(o',.bl g)/\True) noX:=by
 refine k6 ?_;rcases h with⟨rfl,rfl⟩|⟨h0,k,st,hr⟩
 ·simp![nei rfl];exact#[_,rfl,trivial]
 ·have bh:(room == -1)=false:=Y2 ⋯;simp![p1,nei bh,(vq h0 hr),show jQ (.tup [k,.bl g,st]) (.int 1)=⇑_ from rfl];exact#[_,rfl,trivial]
def eqb(a b):fEq (.bl a) (.bl b)=⇑(.bl (a==b)):=by cases a<;>cases b<;>rfl
def _nI{ss rs rs' p q g g' d}(h:Gdr rs p g)(h':Gdr rs' q g'):Oo m_agrees [(.no,jk ss rs),(.no,jk ss rs'),(.no,.tup [.int p,.int q,d])] (λy=>∃o',y=(o',.bl (g==g'))/\True) noX:=by
 refine k6 ?_;simp![t0];refine(_nH h).use ?_;intro o1 _;simp![t1];refine(_nH h').use ?_;intro o2 _;simp![eqb];exact#[_,rfl,trivial]
def neg1:zJ (.int 1)=⇑(.int (-1)):=rfl
def _nJ{ss rs room k}(h:Kpr rs room k):Oo m__law_keepers [(.no,jk ss rs),(.no,.int room)] (λy=>∃o',y=(o',.int k)/\True) noX:=by
 refine k6 ?_;rcases h with⟨rfl,rfl⟩|⟨h0,g,st,hr⟩
 ·simp![neg1,eqi rfl];exact#[_,rfl,trivial]
 ·have bh:(room == -1)=false:=Y2 ⋯;simp![neg1,p1,eqi bh,(vq h0 hr),show jQ (.tup [.int k,g,st]) (.int 0)=⇑_ from rfl];exact#[_,rfl,trivial]
def _nK{o xs}(h:o≠.dp):W9 (o,.tup xs)=⇑(.rt,.lst xs):=by
 cases o with|dp=>exact absurd rfl h|no=>rfl|rt=>rfl
def _nL{kps}{ss:List Str}{rs st:List D}{gd:D}{room:Int}{ks:List Int}{z:Str}{p:Int}(h0:0<=room)(hr:rs[room.toNat]?=⇑(.tup [.int ks.length,gd,.lst st]))(hc:Cas kps ss.length ks.length st)(hl:ks.length<=1000)(hz:(ss.any λw=>w==z)=true):
  Oo m__law_read [(.no,jk ss rs),(.no,.tup [.int room,iT ks]),(.no,.str z),(.no,.int p)] (λy=>y.2=wK ss st ks z p) noX:=by
 have hi:jQ (.lst rs) (.int room)=⇑(.tup [.int ks.length,gd,.lst st]):=vq h0 hr;unfold wK;obtain⟨cs,g1,g2,g3,g4⟩:=ZQ p hc hz;have hx:jQ (.lst st) (.int (ss.findIdx λw=>w==z:Nat))=⇑(.lst cs):=vq ⋯ (by rw[Xu];exact g1);have hy:jQ (.lst cs) (.int (ks.findIdx λw=>w==p:Nat))=⇑(x4 ss st ks z p):=vq ⋯ (by rw[Xu];exact g3);have my:=_m3 hz;rw [Xb hz];generalize x4 ss st ks z p=c at g4 hy;have gu:kq (.no,.lst (ks.map D.int)) (.no,.lst [.int p])=⇑(.rt,.lst ((ks++[p]).map D.int)):=by
  rw[show(ks++[p]).map D.int=ks.map D.int++[.int p]by simp];exact _md ⋯ ⋯ (by simp;lia)
 have me:∀{i:Int},0<=i->i<=ks.length->jQ (.lst ((ks++[p]).map D.int)) (.int i)=⇑(.int (C.nameAt ks p i)):=fun {i} i0 i1=>by
  refine vq i0 ?_;unfold C.nameAt;rw[Xh,X2,X1 (by simp;lia)];rfl
 have hb:=_m8 (own:=ks.length) (k:=(ks.findIdx λw=>w==p:Nat));unfold m__law_read;generalize hR:j6 (jw 10 _) _=R;have jc:∀o9,Po (R [⇑(.no,jk ss rs),⇑(.no,.tup [.int room,iT ks]),⇑(.no,.str z),⇑(.no,.int p),⇑(.no,.int room),⇑(.no,iT ks),⇑(.no,.int ks.length),⇑(.no,gd),⇑(.no,.lst st),⇑(o9,.int (ks.findIdx λw=>w==p:Nat)),none]) (λ_=>D.non=Wz ks p c) (λ_=>False) (λy=>y.2=Wz ks p c) noX:=by
  subst hR;intro o9;rcases g4 with rfl|⟨to,fs,rfl,t0',t1',hfs,_⟩
  ·simp![p0,my,hx,hy];rfl
  ·simp![p0,p1,my,hx,hy];refine WQ [⇑(.no,iT ks),⇑(.no,.int p)] (λf y=>y.2=match f with|.int i=>.int (C.nameAt ks p i)|_=>.non) ?_;simp![p1];refine#[rfl,λf hf=>?_,λys uf=>?_]
   ·obtain⟨i,jt,rfl⟩:=aE hf;have:=hfs i jt;simp![_nK (o:=.no) (xs:=ks.map D.int) ⋯,gu,me (i:=i) this.1 ⋯];exact#[#[_,rfl],trivial]
   ·rw[zw,YK (h:=λf=>match f with|.int i=>.int (C.nameAt ks p i)|_=>.non) (λd y h=>h) uf,Xi,show(_∘D.int)=D.int∘C.nameAt ks p from rfl,<-Xi];simp only[back,clr,at',List.set_cons_zero,List.set_cons_succ];simp![Q.tup_l (o:=.no) (xs:=(fs.map (C.nameAt ks p)).map D.int) ⋯];exact caseD_is.symm
 refine k6 ?_;cases hp:(ks.any λw=>w==p)with
 |true=>
  simp![p1,hi,Q8,hp,_m4 hp];exact jc _
 |false=>
  rw[_m2 hp]at jc;simp![p1,hi,Q8,hp];exact jc _
inductive PSt (a b:Sn):List (List Int)->List Int->List D->Prop
 |a:PSt a b [[],[]] [-1,-1] [.tup [.int 0,stn a],.tup [.int 1,stn b]]
 |b:PSt a b [nms a,[]] [rmO a,-1] [.tup [.int 1,stn b]]
 |c:PSt a b [nms a,nms b] [rmO a,rmO b] []
def PSt.step{a b n r d ds}(h:PSt a b n r (d::ds)):∃(k:Nat) (s:Sn),d=.tup [.int k,stn s]/\Q.ixN (n.map iT).length k=⇑k/\Q.ixN (r.map D.int).length k=⇑k/\PSt a b (n.set k (nms s)) (r.set k (rmO s)) ds/\(s=none->n.set k []=n/\r.set k (-1)=r):=by
 cases h with|a=>exact#[0,a,rfl,rfl,rfl,.b,λ_=>#[rfl,rfl]]|b=>exact#[1,b,rfl,rfl,rfl,.c,λ_=>#[rfl,rfl]]
def _nM(a b)(ha:(nms a).length<=100)(hb:(nms b).length<=100):Oo m__law_pair [(.no,stn a),(.no,stn b)] (λy=>y=(.no,v9 a b)) noX:=by
 have sn:stn none=.non:=rfl;have ss:∀s,stn ⇑s=.tup [.int s.1,iT s.2]:=λs=>rfl
 unfold m__law_pair;refine k6 ?_;simp![neg1];refine qQ (λE aa=>∃(n:List (List Int)) (r:List Int) (l4 l5:Option Sd),E=[⇑(.no,stn a),⇑(.no,stn b),⇑(.rt,.lst (n.map iT)),⇑(.rt,.lst (r.map D.int)),l4,l5,none]/\PSt a b n r aa) ?_ ?_ ?_
 ·simp![];exact#[_,_,_,_,rfl,.a]
 ·rintro E d ds ⟨n,r,l4,l5,rfl,h⟩;obtain⟨k,s,rfl,h1,h2,h3,h4⟩:=h.step;cases s with
  | none=>
   obtain⟨e1,e2⟩:=h4 rfl;have h3:PSt a b (n.set k []) (r.set k (-1)) ds:=h3;rw [e1,e2]at h3;simp![sn];exact#[_,_,_,_,rfl,h3]
  | some s=>
   simp![ss];refine _mC ?_;simp![p0];refine#[rfl,.rt,_,k,k,rfl,⋯,rfl,h2,_mC ?_];simp![p1];refine#[rfl,.rt,_,k,k,rfl,⋯,rfl,h1,?_];rw [show(n.map iT).set k (iT s.2)=(n.set k s.2).map iT from List.map_set.symm,show(r.map D.int).set k (.int s.1)=(r.set k s.1).map D.int from List.map_set.symm];exact#[_,_,_,_,rfl,h3]
 ·rintro E ⟨_,_,l4,l5,rfl,h⟩;cases h
  ·have i0:jQ (.lst [iT (nms a),iT (nms b)]) (.int 0)=⇑(iT (nms a)):=rfl;have i1:jQ (.lst [iT (nms a),iT (nms b)]) (.int 1)=⇑(iT (nms b)):=rfl;have j0:jQ (.lst [.int (rmO a),.int (rmO b)]) (.int 0)=⇑(.int (rmO a)):=rfl;have j1:jQ (.lst [.int (rmO a),.int (rmO b)]) (.int 1)=⇑(.int (rmO b)):=rfl;simp![];refine QX (λE1 B ds ac=>E1=[⇑(.no,stn a),⇑(.no,stn b),⇑(.rt,.lst [iT (nms a),iT (nms b)]),⇑(.rt,.lst [.int (rmO a),.int (rmO b)]),l4,l5,none]/\∃(q0 q1:Option Sd) (f1 f2:List Int),B=[q0,q1,⇑(.rt,.lst [iT (nms a),iT (nms b)])]/\nms a=f1++f2/\ds=z6 f1.length (f2.map D.int)/\ac.map (·.2)++prs (jX (nms b) f1.length f2)=prs (jX (nms b) 0 (nms a))) ?_ ?_ ?_
   ·simp![i0,↓_mA,show _hY (iT (nms a))=⇑((nms a).map D.int)from rfl];exact#[none,none,[],nms a,rfl,rfl,rfl,rfl]
   ·rintro E1 B d ds ac ⟨rfl,q0,q1,f1,f2,rfl,hf,be,au⟩;cases f2 with
    | nil=>cases be
    | cons z f2=>
     have be:d::ds=.tup [.int f1.length,.int z]::z6 (f1.length+1) (f2.map D.int):=be;injection be with e1 e2;subst e1 e2;simp![i0,i1,Q8];have iy:(f1++[z]).length=f1.length+1:=by simp
     cases hz:((nms b).any λw=>w==z)with
     |false=>
      simp![];refine#[_,_,f1++[z],f2,rfl,by rw[hf];simp,by rw[iy],?_];rw[<-au,iy]
      congr 2
      conv=>rhs;unfold jX
      rw[hz,Xj ⋯]
     |true=>
      simp![i0,i1,_m4 hz];refine#[_,_,f1++[z],f2,rfl,by rw[hf];simp,by rw[iy],?_];rw[<-au,iy,X7,Xs]
      congr 1
      conv=>rhs;unfold jX
      rw[hz,Xb rfl];rfl
   ·rintro E1 B ac ⟨rfl,q0,q1,f1,f2,rfl,hf,be,au⟩;cases f2 with
    |cons=>cases be
    |nil=>
     have au:ac.map (·.2)=prs (jX (nms b) 0 (nms a)):=by rw[<-au];simp[jX]
     rw[zw,au,show Jz 2 [2] [q0,q1,⇑(Own.rt,D.lst [iT (nms a),iT (nms b)])] [⇑(Own.no,stn a),⇑(Own.no,stn b),⇑(Own.rt,D.lst [iT (nms a),iT (nms b)]),⇑(Own.rt,D.lst [D.int (rmO a),D.int (rmO b)]),l4,l5,none]=[⇑(Own.no,stn a),⇑(Own.no,stn b),⇑(Own.rt,D.lst [iT (nms a),iT (nms b)]),⇑(Own.rt,D.lst [D.int (rmO a),D.int (rmO b)]),l4,l5,none]from rfl];simp![j0,j1,Q.tup_l (o:=.rt) (xs:=prs (jX (nms b) 0 (nms a))) ⋯];rfl
def _nN:∀l,D.flats 38 (prs l)=true
 |[]=>by simp[D.flats]
 |p::l=>by
  have ih:=_nN l;unfold prs at ih ⊢;rw[List.map_cons];simp only[D.flats,D.flat,ih,Bool.and_self]
def _nO(r r') l:(D.tup [.int r,.int r',.tup (prs l)]).flat 40=true:=by
 have:=_nN l;simp only[D.flat,D.flats,this,Bool.and_self]
def _nP(r r')(l):Oo m__law_is_pair [(.no,.tup [.int r,.int r',.tup (prs l)]),(.no,.tup [.int r,.int r',.tup (prs l)])] (λy=>∃o',y=(o',.bl true)/\True) noX:=by
 have t0:jQ (.tup [.int r,.int r',.tup (prs l)]) (.int 0)=⇑(.int r):=rfl;have t1:jQ (.tup [.int r,.int r',.tup (prs l)]) (.int 1)=⇑(.int r'):=rfl;have t2:jQ (.tup [.int r,.int r',.tup (prs l)]) (.int 2)=⇑(.tup (prs l)):=rfl;have it:∀ds,vx "tuple" (.tup ds)=⇑(.bl true):=λds=>rfl
 unfold m__law_is_pair;refine k6 ?_;simp![t0,t1,t2,it,nei (a:=3) (b:=3) rfl,show((3:Nat):Int)=3 from rfl];rw[Xj ⋯];refine(whole_int r).use ?_;intro o1 _;simp![t0,t1,t2];refine(whole_int r').use ?_;intro o2 _;simp![t0,t1,t2];refine qQ (λE aa=>∃(l2:Option Sd) (m:List (Int×Int)),E=[⇑(.no,.tup [.int r,.int r',.tup (prs l)]),⇑(.no,.tup [.int r,.int r',.tup (prs l)]),l2]/\aa=prs m) ?_ ?_ ?_
 ·simp![t0,t1,t2];exact#[none,l,rfl,rfl]
 ·rintro E d ds ⟨l2,m,rfl,hr⟩;cases m with
  |nil=>cases hr
  |cons z m=>
   have hr:d::ds=.tup [.int z.1,.int z.2]::prs m:=hr;injection hr with e1 e2;subst e1 e2;simp![p0,p1,it,nei (a:=2) (b:=2) rfl,show((2:Nat):Int)=2 from rfl];rw[Xj ⋯];refine(whole_int z.1).use ?_;intro o3 _;simp![p0,p1];refine(whole_int z.2).use ?_;intro o4 _;simp![];exact#[_,m,rfl,rfl]
 ·rintro E ⟨l2,m,rfl,hr⟩;simp![(C.eq_self (_nO r r' l))];exact#[_,rfl,trivial]
def _nQ(many size:Int)(sh:List (Int×Int)):Prop:=(∀p∈sh,0<=p.1/\p.1<many/\0<=p.2/\p.2<size)/\(sh.map (·.1)).Nodup/\(sh.map (·.2)).Nodup
def kvN(N:List Int)(sh:List (Int×Int)):List (Int×Int):=sh.foldl (λkv p=>qX kv p.2 (N.getD p.1.toNat 0)) []
def _nR(N:List Int)(k:Int)(sh:List (Int×Int))(n:Nat):List Int:=(List.range n).map λ(j:Nat)=>(jV (kvN N sh) (j:Int)).getD (N.getD (k.toNat+j) 0)
def Zv:D->D:=λd=>match d with
 |.tup [.int r,x]=>if r=-1 then .non else .tup [.int r,x]|_=>.non
def _nS r ks:Zv (.tup [.int r,.tup (ks.map D.int)])=stn (v6 r ks):=by
 unfold Zv v6;dsimp only
 split<;>rfl
def _nT{m N N' C R X}(h:Po m N C R X)(k:∀E,N E->N' E):Po m N' C R X:=by
 cases m with
 |none=>exists h
 |some r=>cases r with|nx E=>exists k E h|bk E=>exists h|ct E=>exists h|rt E x=>exists h|xc E c=>exists h
def YZ{a b E N C R}{X} I (h1:Po (a E) I C R X)(h2:∀E,I E->Po (b E) N C R X):Po (j6 a b E) N C R X:=by
 rw[_mf];exact _nT h1 h2
inductive PlC (c:Int)(ss:List Str)(xs:List Int)(size m:Int)(kps:List Int)(rs:List D)(r own:Int)(st:List D)(s:Int):En->List D->Prop
 |mk (k:Int) (ei:Int) (cs:List D) {o5:Own} {o7:Own} {io:Option Sd} {aa:List D} (h0:sub o5=.no) (h1:0<=k) (h2:k<=own+1) (h3:aa=k4 k (own+1)) (h4:(cs.length:Int)=k) (h5:8<=ei) (h6:ei<=8+(3*(m+1)+1)*r+(m+1)*s+k) (h7:∀k:Nat,k<cs.length->∃z,cs[k]?=⇑z/\Cs kps (vk own k) z):PlC c ss xs size m kps rs r own st s [⇑(.no,.int c),⇑(.no,sL ss),⇑(.rt,iL xs),⇑(.no,.int size),⇑(.dp,.int m),⇑(o5,iL kps),⇑(.rt,.lst rs),⇑(o7,.int ei),⇑(.no,.int r),⇑(.rt,.lst st),⇑(.no,.int s),⇑(.rt,.lst cs),io] aa
inductive PlB (c:Int)(ss:List Str)(xs:List Int)(size m:Int)(kps:List Int)(rs:List D)(r own:Int):En->List D->Prop
 |mk (s:Int) (ei:Int) (st:List D) {o5:Own} {o7:Own} {i9:Option Sd} {np:Option Sd} {io:Option Sd} {aa:List D} (h0:sub o5=.no) (h1:0<=s) (h2:s<=ss.length) (h3:aa=k4 s ss.length) (h4:(st.length:Int)=s) (h5:8<=ei) (h6:ei<=8+(3*(m+1)+1)*r+(m+1)*s) (h7:∀c∈st,∃cs:List D,c=.lst cs/\(cs.length:Int)=own+1/\∀k:Nat,k<cs.length->∃z,cs[k]?=⇑z/\Cs kps (vk own k) z):PlB c ss xs size m kps rs r own [⇑(.no,.int c),⇑(.no,sL ss),⇑(.rt,iL xs),⇑(.no,.int size),⇑(.dp,.int m),⇑(o5,iL kps),⇑(.rt,.lst rs),⇑(o7,.int ei),⇑(.no,.int r),⇑(.rt,.lst st),i9,np,io] aa
inductive PlA (c:Int)(ss:List Str)(xs:List Int)(size m:Int)(kps:List Int):En->List D->Prop
 |mk (r:Int) (ei:Int) (rs:List D) {l8:Option Sd} {l9:Option Sd} {i9:Option Sd} {np:Option Sd} {io:Option Sd} {o5:Own} {o7:Own} {aa:List D} (h0:sub o5=.no) (h1:0<=r) (h2:r<=size) (h3:aa=k4 r size) (h4:(rs.length:Int)=r) (h5:8<=ei) (h6:ei<=8+(3*(m+1)+1)*r) (h7:∀i:Nat,i<rs.length->∃d,rs[i]?=⇑d/\Pr kps ss.length (kps.getD i 0) d):PlA c ss xs size m kps [⇑(.no,.int c),⇑(.no,sL ss),⇑(.rt,iL xs),⇑(.no,.int size),⇑(.dp,.int m),⇑(o5,iL kps),⇑(.rt,.lst rs),⇑(o7,.int ei),l8,l9,i9,np,io] aa
def _nU(c)(ss)(hs:1<=ss.length)(hs2:ss.length<=3):Oo m__law_plain [(.no,.int c),(.no,sL ss)] (λy=>∃rs,y=(.no,jk ss rs)/\∃kps,1<=kps.length/\kps.length<=6/\kps[0]?=⇑0/\(Kq9 kps)/\Prs kps ss.length rs) noX:=by
 unfold m__law_plain;refine k6 ?_;simp![];refine(_nD c 90 ⋯ ⋯).use ?_;intro xs hx;have hxl:=hx.1;have ix:∀i,0<=i->i<90->∃v,jQ (iL xs) (.int i)=⇑(.int v)/\0<=v:=λi i0 i1=>by
  obtain⟨v,e,h,_⟩:=ixI xs _ hx.2 i i0 ⋯;exact#[v,e,h.1]
 obtain⟨v0,e0,a0⟩:=ix 0 ⋯ ⋯;obtain⟨v1,e1,a1⟩:=ix 1 ⋯ ⋯;have q0:=Z1 v0 (show(8:Int)≠0 by decide);have q1:=Yl v0 (show(0:Int)<8 by decide);obtain⟨size,esz,sz0,sz1⟩:∃sz,jQ (.lst [.int 1,.int 2,.int 3,.int 4,.int 5,.int 2,.int 4,.int 6]) (.int (v0 % 8))=⇑(.int sz)/\1<=sz/\sz<=6:=by
  generalize v0 % 8=t at q0 q1;have:t=0\/t=1\/t=2\/t=3\/t=4\/t=5\/t=6\/t=7:=⋯
  rcases this with rfl|rfl|rfl|rfl|rfl|rfl|rfl|rfl<;>exact#[_,rfl,⋯,⋯]
 refine YZ (λE=>E=[⇑(.no,.int c),⇑(.no,sL ss),⇑(.rt,iL xs),⇑(.no,.int size),none,none,none,none,none,none,none,none,none]) ?_ ?_
 ·simp![e0,esz]
 rintro E rfl;refine YZ (λE=>E=[⇑(.no,.int c),⇑(.no,sL ss),⇑(.rt,iL xs),⇑(.no,.int size),⇑(.dp,.int 2),none,none,none,none,none,none,none,none]) ?_ ?_
 ·simp![]
 rintro E rfl;refine YZ (λE=>∃m,E=[⇑(.no,.int c),⇑(.no,sL ss),⇑(.rt,iL xs),⇑(.no,.int size),⇑(.dp,.int m),none,none,none,none,none,none,none,none]/\((m=2)\/(m=3/\size=3))) ?_ ?_
 ·by_cases h3:size=3
  ·have hb:(size==3)=true:=by simp[h3]
   by_cases h4:v1 % 3=0
   ·have fq:(v1 % 3==0)=true:=by simp[h4]
    simp![e1,eqi hb,eqi fq];exact#[3,rfl,.inr #[rfl,h3]]
   ·have fq:(v1 % 3==0)=false:=Y2 h4;simp![e1,eqi hb,eqi fq];exact#[2,rfl,.inl rfl]
  ·have hb:(size==3)=false:=Y2 h3;simp![eqi hb];exact#[2,rfl,.inl rfl]
 rintro E ⟨m,rfl,hm⟩;have hm0:2<=m/\m<=3:=by rcases hm with rfl|⟨rfl,_⟩<;>lia
 simp![];refine WQ [⇑(.rt,iL xs),⇑(.dp,.int m)] (λ_ y=>∃i,y=(.dp,.int i)/\0<=i/\i<=m) ?_;simp![];refine#[rfl,λd hd'=>?_,λys hy=>?_]
 ·obtain⟨i,i0,i1,rfl⟩:=_mP hd';obtain⟨w,ew,aw⟩:=ix (1+i) ⋯ ⋯;have:=Z1 (w / 3) (show m+1≠0 by lia);have:=Yl (w / 3) (show 0<m+1 by lia);simp![ew,mod_i (a:=w / 3) (b:=m+1) ⋯];exact#[#[_,rfl],_,rfl,⋯,⋯]
 obtain⟨ks,h1,h2,h3⟩:=_mM (S:=λi=>0<=i/\i<=m) (λd y hz=>by obtain⟨i,h,s⟩:=hz;exact#[i,by rw[h],s]) hy;rw [zw,h1];simp only[back,clr,at',List.map_cons,List.map_nil,List.set_cons_zero,List.set_cons_succ];have oh:((0::ks).length:Int)=size:=by rw[Xm];have:=_mQ (k:=0) (n:=size - 1) ⋯;lia
 have tz:∀p∈(0::ks:List Int),0<=p/\p<=m:=λp hp=>by
  rcases aD hp with rfl|hp
  ·exact#[⋯,⋯]
  ·exact h3 p hp
 have js:∀p∈(0::ks:List Int),0<=p/\p<=3:=λp hp=>by have:=tz p hp;lia
 have gu:kq (.no,.lst [.int 0]) (.no,.lst (ks.map D.int))=⇑(.rt,iL (0::ks)):=_md ⋯ ⋯ (by rw[X4];simp at oh ⊢;lia);have ku:(0::ks:List Int)[0]?=⇑0:=rfl;simp![gu];generalize (0::ks:List Int)=kps at oh tz js gu ku;refine qQ (PlA c ss xs size m kps) ?_ ?_ ?_
 ·simp![];exact#[0,8,[],rfl,⋯,⋯,rfl,rfl,⋯,⋯,nofun]
 ·rintro E d ds ⟨r,ei,rs,hs5,r0,r1,hr,ln,at0,at1,hrs⟩;obtain⟨sx,rfl,rfl⟩:=xz r1 hr;obtain⟨own,eo,⟨ow0,ow1⟩,how⟩:=ixI kps _ tz r r0 ⋯;simp![];refine qQ (PlB c ss xs size m kps rs r own) ?_ ?_ ?_
  ·simp![];exact#[0,ei,[],hs5,⋯,⋯,rfl,rfl,⋯,⋯,nofun]
  ·rintro E d ds ⟨s,ei,st,hs5,s0,s1,hr,iu,at0,at1,ba⟩;obtain⟨hsk,rfl,rfl⟩:=xz s1 hr;simp![];refine qQ (PlC c ss xs size m kps rs r own st s) ?_ ?_ ?_
   ·simp![eo,hs5];exact#[0,ei,[],hs5,⋯,⋯,rfl,rfl,⋯,⋯,nofun]
   ·rintro E d ds ⟨k,ei,cs,hs5,k0,k1,hr,f7,at0,at1,li⟩;obtain⟨hkk,rfl,rfl⟩:=xz k1 hr;have jd:ei<90:=by rcases hm with rfl|⟨rfl,_⟩<;>lia
    obtain⟨w,ew,aw⟩:=ix ei ⋯ jd;have hb1:own+(if k=own then(1:Int)else 0)=vk own k:=rfl;have hB0:0<=vk own k/\vk own k<=4:=by unfold vk;split<;>lia
    simp![];refine xJ rfl ?_;simp![eo,ew,_mb,_mZ,hb1,hs5];refine(_nG w (vk own k) kps js ku ⋯ hB0.1 ⋯).via ?_;intro y hy;simp![];refine#[_,rfl,⋯,k+1,ei+1,cs++[y.2],rfl,⋯,⋯,rfl,by simp;lia,⋯,⋯,?_];intro j hj;rw[Xe,Y9]at hj
    by_cases hj2:j<cs.length
    ·obtain⟨z,z1,z2⟩:=li j hj2;exact#[z,by rw[Xr hj2];exact z1,z2]
    ·have:j=cs.length:=⋯
     subst this;exact#[y.2,by simp,by rw[f7];exact hy]
   ·rintro E ⟨k,ei,cs,hs5,k0,k1,hr,f7,at0,at1,li⟩;have:=z9 k1 hr;subst this;refine xJ rfl ?_;simp![];refine#[_,rfl,⋯,s+1,ei,st++[.lst cs],hs5,⋯,⋯,rfl,by simp;lia,⋯,by rcases hm with rfl|⟨rfl,_⟩<;>lia,λc hc=>?_];rcases aA hc with z|z
    ·exact ba c z
    ·rw[aC z];exact#[cs,rfl,f7,li]
  ·rintro E ⟨s,ei,st,hs5,s0,s1,hr,iu,at0,at1,ba⟩;have:=z9 s1 hr;subst this;have jd:ei<90:=by rcases hm with rfl|⟨rfl,_⟩<;>lia
   obtain⟨w,ew,_⟩:=ix ei ⋯ jd;simp![];refine xJ rfl ?_;simp![eo,ew,_mb,hs5];refine#[_,rfl,⋯,?_];simp![];refine PlA.mk (r+1) (ei+1) (rs++[.tup [.int own,.bl (w % 2==0),.lst st]]) hs5 ?_ ?_ rfl ?_ ?_ ?_ ?_
   ·lia
   ·lia
   ·simp;lia
   ·lia
   ·rcases hm with rfl|⟨rfl,_⟩<;>lia
   intro j hj;rw[Xe,Y9]at hj
   by_cases hj2:j<rs.length
   ·obtain⟨z,z1,z2⟩:=hrs j hj2;exact#[z,by rw[Xr hj2];exact z1,z2]
   ·have:j=rs.length:=⋯
    subst this;refine#[_,by simp;rfl,?_];have hg:kps.getD rs.length 0=own:=by rw[X2,show rs.length=r.toNat by lia,how];rfl
    rw[hg];exact#[_,st,rfl,⋯,ba]
 ·rintro E ⟨r,ei,rs,hs5,r0,r1,hr,ln,at0,at1,hrs⟩;have:=z9 r1 hr;subst this;simp![_mW (o:=.no) (xs:=ss.map D.str) ⋯];exact#[rs,rfl,kps,⋯,⋯,ku,js,#[⋯,λi hi=>hrs i ⋯]]
def _nV{G}(hG:∀d y,G d y->∃c,y.2=.str #[%[c|0]]):∀{ds ys},Each G ds ys->∃ps:List Str,ys.map (·.2)=ps.map D.str/\ps.length=ds.length/\∀p∈ps,p.length=1
 |[],[],_=>#[[],rfl,rfl,nofun]
 |d::ds,y::ys,r=>by
  obtain⟨i,e⟩:=hG d y r.1;obtain⟨ps,h1,h2,h3⟩:=_nV hG r.2;exact#[#[%[i|0]]::ps,by simp[e,h1],by simp[h2],λp hp=>(aD hp).elim (λz=>z▸rfl) (h3 p)]
def _nW:∀{ps:List Str},(∀p∈ps,p.length=1)->(ps.map (·.length)).sum=ps.length
 |[],_=>rfl|p::ps,h=>by rw[List.map_cons,List.sum_cons,h p X5,_nW λq hq=>h q (_ad _ hq),Xm];lia
def _nX{y ys}(h:y.length=1):1<=(Str.join "" (y::ys)).length:=by
 cases ys with
 |nil=>show 1<=y.length;lia
 |cons z ys=>
  show 1<=(y++""++Str.join "" _).cps.size;rw[_mS,_mS];have:y.cps.size=1:=h;lia
def _nY{ps:List Str}(h:∀p∈ps,p.length=1)(h0:1<=ps.length)(h1:ps.length<=100):∃z,_hW "" (.lst (ps.map D.str))=⇑(.str z)/\1<=z.cps.size/\z.cps.size<=100:=by
 have hz:("":Str).length=0:=rfl;have hs:=_nW h;refine#[Txt.join "" ps,?_,?_,?_]
 ·unfold _hW;dsimp only;rw[_mT];dsimp only;rw[Xb (by rw[hs,hz];lia)]
 ·unfold Txt.join;rw[StrLaws.glued_eq_join];cases ps with|nil=>cases h0|cons y ys=>exact _nX (h y X5)
 ·show(Txt.join "" ps).length<=100;unfold Txt.join;rw[StrLaws.glued_eq_join];have:=StrLaws.join_length_le "" ps;rw[hs,hz]at this;lia
def _nZ{o z lo hi}(h:z.cps.size<=100):fSl (o,.str z) lo hi=⇑(.dp,.str (Txt.slice z lo hi)):=by
 have hl:=Txt.slice_le z lo hi;have h:z.length<=100:=h;show(if(Txt.slice z lo hi).length<=big then _ else none)=_;rw[Xb (by unfold big;lia)]
def _n0(c):Oo m__law_signs [(.no,.int c)] (λy=>∃ss,y=(.rt,sL ss)/\1<=ss.length/\ss.length<=3) noX:=by
 have m0:=Z1 c (show(8:Int)≠0 by decide);have m1:=Yl c (show(0:Int)<8 by decide);unfold m__law_signs;refine k6 ?_;simp![];refine(_nD c 9 ⋯ ⋯).use ?_;intro xs hx;have hxl:=hx.1;simp![↓_mz];have iu:fSl (Own.no,iL xs) none ⇑(1+c % 8)=⇑(.rt,iL (xs.take (1+c % 8).toNat)):=by
  rw[show iL xs=.lst (xs.map D.int)from rfl,_mq (o:=.no) ⋯,cut_to ⋯ (by rw[X4];lia),<-List.map_take]
 have hsl':fSl (Own.rt,iL xs) none ⇑(1+c % 8)=⇑(.rt,iL (xs.take (1+c % 8).toNat)):=by
  rw[show iL xs=.lst (xs.map D.int)from rfl,_mq (o:=.rt) ⋯,cut_to ⋯ (by rw[X4];lia),<-List.map_take]
 refine WQ [⇑(.dp,.str "abcdefghijklmnopqrstuvwxyz")] (λ_ y=>∃c,y.2=.str #[%[c|0]]) ?_;simp![iu,hsl'];refine#[rfl,λd hd=>?_,λys uf=>?_]
 ·obtain⟨t,ht,rfl⟩:=aE hd;obtain⟨ch,hc⟩:=_b7 "abcdefghijklmnopqrstuvwxyz" (t % 26) (Z1 t (show(26:Int)≠0 by decide)) (Yl t (show(0:Int)<26 by decide));simp![hc];exact#[#[_,rfl],ch,rfl]
 obtain⟨ps,h1,h2,h3⟩:=_nV (λd y h=>h) uf;have bu:ps.length=(1+c % 8).toNat:=by rw[h2,X4,Z4];lia
 obtain⟨z,hz,z0,z1⟩:=_nY h3 ⋯ ⋯;rw[zw,h1];simp only[back,clr,at',List.map_cons,List.map_nil,List.set_cons_zero,List.set_cons_succ];have ae:kW (.str z)=⇑(.int z.cps.size):=rfl;simp![hz,ae,mod_i (a:=c / 8) (b:=(z.cps.size:Int)) ⋯];generalize jd:c / 8 % (z.cps.size:Int)=a;obtain⟨m,em,mm0,mm1⟩:∃m,jQ (.lst [.int 1,.int 2,.int 1,.int 2,.int 2,.int 1,.int 2,.int 3]) (.int (c / 64 % 8))=⇑(.int m)/\1<=m/\m<=3:=by
  have q0:=Z1 (c / 64) (show(8:Int)≠0 by decide);have q1:=Yl (c / 64) (show(0:Int)<8 by decide);generalize c / 64 % 8=t at q0 q1;have:t=0\/t=1\/t=2\/t=3\/t=4\/t=5\/t=6\/t=7:=⋯
  rcases this with rfl|rfl|rfl|rfl|rfl|rfl|rfl|rfl<;>exact#[_,rfl,⋯,⋯]
 obtain⟨v,ev,⟨v0,_⟩,_⟩:=ixI xs _ hx.2 8 ⋯ ⋯;refine qQ (λE aa=>∃(j:Int) (ss:List Str) (l6:Option Sd) (o1 o3:Own),E=[⇑(.no,.int c),⇑(o1,.str "abcdefghijklmnopqrstuvwxyz"),⇑(.rt,iL xs),⇑(o3,.str z),⇑(.dp,.int a),⇑(.rt,sL ss),l6]/\0<=j/\j<=m/\aa=k4 j m/\(ss.length:Int)=j) ?_ ?_ ?_
 ·simp![em];exact#[0,[],_,_,_,rfl,⋯,⋯,rfl,rfl]
 ·rintro E d ds ⟨j,ss,l6,o1,o3,rfl,j0,j1,hr,hl⟩;obtain⟨hj,rfl,rfl⟩:=xz j1 hr;have u0:=Z1 v (show(24:Int)≠0 by decide);have u1:=Yl v (show(0:Int)<24 by decide);obtain⟨ch,hc⟩:=_b7 "abcdefghijklmnopqrstuvwxyz" (v % 24+j) ⋯ (show v % 24+j<26 by lia);have s1:=_nZ (o:=.no) (z:=z) (lo:=none) (hi:=⇑a) ⋯;have s2:=_nZ (o:=.no) (z:=z) (lo:=⇑(a+1)) (hi:=none) ⋯;have s1':=_nZ (o:=o3) (z:=z) (lo:=none) (hi:=⇑a) ⋯;have s2':=_nZ (o:=o3) (z:=z) (lo:=⇑(a+1)) (hi:=none) ⋯;have g1:(Txt.slice z none ⇑a).cps.size<=100:=Yd (Txt.slice_le z none ⇑a) z1;have g2:(Txt.slice z ⇑(a+1) none).cps.size<=100:=Yd (Txt.slice_le z ⇑(a+1) none) z1;generalize Txt.slice z none ⇑a=w1 at s1 s1' g1;generalize Txt.slice z ⇑(a+1) none=w2 at s2 s2' g2;have mr:((#[%[ch|0]]:Str).cps.size)=1:=rfl;simp![];refine xJ rfl ?_;simp![s1,s2,s1',s2',ev,hc,(_mR (o1:=.no) (o2:=.no) (a:=w1) (b:=#[%[ch|0]]) (by rw[mr];lia)),(_mR (o1:=.no) (o2:=.no) (a:=w1++#[%[ch|0]]) (b:=w2) (by rw[_mS,mr];lia)),(_mR (o1:=.no) (o2:=sub o1) (a:=w1) (b:=#[%[ch|0]]) (by rw[mr];lia))];refine#[_,rfl,by rw[X4];lia,?_];rw[show ∀w,ss.map D.str++[D.str w]=(ss++[w]).map D.str from λw=>by simp];exact#[j+1,ss++[_],_,_,_,rfl,⋯,⋯,rfl,by simp;lia]
 ·rintro E ⟨j,ss,l6,o1,o3,rfl,j0,j1,hr,hl⟩;have:=z9 j1 hr;subst this;simp![];exact#[ss,rfl,⋯,⋯]
def _n1{kv k v p}(h:p∈qX kv k v):p∈kv\/p=(k,v):=by
 unfold qX at h
 split at h
 ·obtain⟨q,hq,rfl⟩:=aE h
  by_cases e:q.1=k
  ·rw[Xb e];exact .inr (by rw[e])
  ·rw[Xj e];exact .inl hq
 ·rcases aA h with z|z
  ·exact .inl z
  ·exact .inr (aC z)
def _n2(h:Int->Int)(kv:List (Int×Int))(k v:Int):(qX kv k v).map (λp=>(p.1,h p.2))=qX (kv.map λp=>(p.1,h p.2)) k (h v):=by
 unfold qX;rw[List.any_map];have:(kv.any λp=>decide (p.1=k))=kv.any ((λp=>decide (p.1=k))∘λ(p:Int×Int)=>(p.1,h p.2)):=rfl;rw[<-this]
 split
 ·rw[Xi,Xi];refine Y5 λp _=>?_
  simp only[Function.comp]
  split<;>rfl
 ·rw[X7];rfl
def _n3(h:Int->Int)(k:Int):∀(kv:List (Int×Int)),jV (kv.map λp=>(p.1,h p.2)) k=(jV kv k).map h
 | []=>rfl
 | p::kv=>by
  have ih:=_n3 h k kv;unfold jV at ih ⊢;rw[List.map_cons,List.find?_cons,List.find?_cons]
  by_cases e:p.1=k
  ·simp[e]
  ·simp only[Xl e];exact ih
def _n4{kv k v}(h:jV kv k=⇑v):(k,v)∈kv:=by
 unfold jV at h;cases hf:kv.find? λp=>decide (p.1=k)with|none=>grind|some p=>grind
def _n5(N:List Int):∀(sh kv ma:List (Int×Int)),ma=kv.map (λp=>(p.1,N.getD p.2.toNat 0))->sh.foldl (λkv p=>qX kv p.2 (N.getD p.1.toNat 0)) ma=(((sh.map λp=>(p.2,p.1)).foldl (λkv p=>qX kv p.1 p.2) kv).map λp=>(p.1,N.getD p.2.toNat 0))
 |[],kv,ma,h=>h
 |p::sh,kv,ma,h=>by
  rw[List.map_cons,Yz,Yz];refine _n5 N sh _ _ ?_;rw[h];exact(_n2 (λi=>N.getD i.toNat 0) kv p.2 p.1).symm
def _n6(N:List Int)(sh:List (Int×Int))(j:Int):jV (kvN N sh) j=(jV (kvS sh) j).map λi=>N.getD i.toNat 0:=by
 unfold kvN kvS;rw[_n5 N sh [] [] rfl];exact _n3 (λi=>N.getD i.toNat 0) j _
def _n7:∀(ps kv:List (Int×Int)) {p},p∈ps.foldl (λkv p=>qX kv p.1 p.2) kv->p∈kv\/p∈ps
 | [],kv,p,h=>.inl h
 | q::ps,kv,p,h=>by
  rcases _n7 ps _ h with z|z
  ·rcases _n1 z with z|z
   ·exact .inl z
   ·exact .inr (z▸X5)
  ·exact .inr (_ad _ z)
def _n8{sh j i}(h:jV (kvS sh) j=⇑i):(i,j)∈sh:=by
 rcases _n7 _ _ (_n4 h)with z|z
 ·grind
 ·grind
def qw(own:Int)(kv:List (Int×Int))(n:Nat):Nat:=((nmF own kv n).filter λx=>decide (own<=x)).length
section
variable {own:Int}{kv:List (Int×Int)}
def Kz{n:Nat}{i}(h:jV kv n=⇑i):nmF own kv (n+1)=nmF own kv n++[i]:=by rw[_nl,h]
def KW{n:Nat}(h:jV kv n=none):nmF own kv (n+1)=nmF own kv n++[own+qw own kv n]:=by rw[_nl,h];rfl
def ZV(ho:0<=own)(hv:∀j i,jV kv j=⇑i->0<=i/\i<own):∀n,∀x∈nmF own kv n,0<=x/\x<own+qw own kv n
 | 0,x,h=>nomatch h
 | n+1,x,h=>by
  have ih:=ZV ho hv n;cases hc:jV kv n with
  | some i=>
   have hi:=hv _ _ hc;have qr:qw own kv (n+1)=qw own kv n:=by
    unfold qw;rw[Kz hc,Yi];have:decide (own<=i)=false:=Xl ⋯;simp[this]
   rw[Kz hc]at h;rw[qr];rcases aA h with z|z
   ·exact ih x z
   ·rw[aC z];lia
  | none=>
   have qr:qw own kv (n+1)=qw own kv n+1:=by
    unfold qw;rw[KW hc,Yi];have:decide (own<=own+(qw own kv n))=true:=Xg ⋯;simp[this]
   rw[KW hc]at h;rw[qr];rcases aA h with z|z
   ·have:=ih x z;lia
   ·rw[aC z];lia
def _n9(n:Nat):∀m,∃r,nmF own kv (n+m)=nmF own kv n++r
 |0=>#[[],by simp]
 |m+1=>by
  obtain⟨r,hr⟩:=_n9 n m;refine#[r++[match jV kv ((n+m:Nat):Int)with|some i=>i|none=>own+((nmF own kv (n+m)).filter λx=>decide (own<=x)).length],?_];show nmF own kv (n+m+1)=_;rw[_nl,<-Xs,<-hr]
  try rfl
def _oa{x:Int}:∀{l r:List Int},x∉l->((l++x::r).findIdx λw=>w==x)=l.length
 |[],r,_=>by simp[List.findIdx_cons]
 |y::l,r,h=>by
  have hy:(y==x)=false:=Y2 λe=>h (by rw[e];exact X5)
  rw[List.cons_append,List.findIdx_cons,hy,_oa λz=>h (_ad _ z)];rfl
def _ob(ho:0<=own)(hv:∀j i:Int,jV kv j=⇑i->0<=i/\i<own){n m:Nat}(hc:jV kv n=none)(hm:n<m):((nmF own kv m).findIdx λw=>w==own+qw own kv n)=n:=by
 obtain⟨r,hr⟩:=_n9 (own:=own) (kv:=kv) (n+1) (m - (n+1));rw[show n+1+(m - (n+1))=m by lia,KW hc,Xs]at hr;rw[hr];show((nmF own kv n++(own+(qw own kv n:Int))::r).findIdx _)=n;rw[_oa,Kk];intro z;have:=ZV ho hv n _ z;lia
end
def ren(N:List Int)(k:Int)(T:List Int)(x:Int):Int:=if x<k then N.getD x.toNat 0 else N.getD (k.toNat+T.findIdx λw=>w==x) 0
def _oc{N:List Int}(h:N.Nodup){a b:Nat}(ha:a<N.length)(hb:b<N.length)(e:N.getD a 0=N.getD b 0):a=b:=by
 rw[X2,X2,X1 ha,X1 hb]at e;have e:N[a]=N[b]:=e;rcases Nat.lt_trichotomy a b with z|z|z
 ·exact absurd e (List.pairwise_iff_getElem.mp h a b ha hb z)
 ·exact z
 ·exact absurd e.symm (List.pairwise_iff_getElem.mp h b a hb ha z)
def WY{T:List Int}{x:Int}(h:x∈T):T[T.findIdx λw=>w==x]?=⇑x:=by
 have hl:(T.findIdx λw=>w==x)<T.length:=Yw #[x,h,by simp];rw[X1 hl];have:=List.findIdx_getElem (w:=hl)
 congr 1
 simpa using this
def _od{N T:List Int}{k:Int}(hk:0<=k)(hl:k<=N.length):(kX k).map (ren N k T)=N.take k.toNat:=by
 unfold kX;rw[Xi];refine List.ext_getElem? λi=>?_
 rw[Xh]
 by_cases hi:i<k.toNat
 ·rw[List.getElem?_take_of_lt hi,List.getElem?_range hi,X1 ⋯];show ⇑(ren N k T i)=_;unfold ren;rw[Xb ⋯,X2,Xu,X1 ⋯];rfl
 ·rw[Xz (by rw[Y7];lia),Xz (by rw[Z4];lia)];rfl
def _oe{own:Int}{kv:List (Int×Int)}{j n:Nat}(h:j<n){x:Int}(hx:nmF own kv (j+1)=nmF own kv j++[x]):(nmF own kv n)[j]?=⇑x:=by
 obtain⟨r,hr⟩:=_n9 (own:=own) (kv:=kv) (j+1) (n - (j+1));rw[show j+1+(n - (j+1))=n by lia,hx,Xs]at hr;rw[hr,Y8 (by rw[Kk];lia),Kk,Nat.sub_self];rfl
def _of{N:List Int}{k:Int}{sh:List (Int×Int)}{n:Nat}(hk:0<=k)(hv:∀j i:Int,jV (kvS sh) j=⇑i->0<=i/\i<k):(nmF k (kvS sh) n).map (ren N k (nmF k (kvS sh) n))=_nR N k sh n:=by
 refine List.ext_getElem? λj=>?_
 unfold _nR;rw[Xh,Xh]
 by_cases hj:j<n
 ·rw[List.getElem?_range hj];show _=⇑((jV (kvN N sh) (j:Int)).getD (N.getD (k.toNat+j) 0));rw[_n6];cases hc:jV (kvS sh) j with
  |some i=>
   have:=hv _ _ hc;rw[_oe hj (Kz hc)];show ⇑(ren N k _ i)=⇑(N.getD i.toNat 0);unfold ren;rw[Xb this.2]
  |none=>
   rw[_oe hj (KW hc)];show ⇑(ren N k _ (k+qw k (kvS sh) j))=⇑(N.getD (k.toNat+j) 0);unfold ren;rw[Xj ⋯,_ob hk hv hc hj]
 ·rw[Xz (by rw[Kk];lia),Xz (by rw[Y7];lia)];rfl
def _og{k sh n}(hk:0<=k)(hv:∀j i,jV (kvS sh) j=⇑i->0<=i/\i<k):((qv (kX k) (nmF k (kvS sh) n)).length:Int)=k+qw k (kvS sh) n:=by
 unfold qv qw;rw[Xe,X4,Y7];have:(nmF k (kvS sh) n).filter (λm=>!(kX k).any λw=>w==m)=(nmF k (kvS sh) n).filter λx=>decide (k<=x):=by
  refine List.filter_congr λx hx=>?_
  have h0:=(ZV hk hv n x hx).1;rw[V2]
  by_cases t9:k<=x
  ·rw[Xg t9,Xl]
   ·rfl
   ·grind
  ·rw[Xl t9,Xg]
   ·rfl
   ·exact List.mem_map.mpr #[x.toNat,List.mem_range.mpr ⋯,⋯]
 rw[this];lia
def _oh{kps ss rs S z c d}(hP:Prs kps ss.length rs)(hS:qk kps S)(hz:(ss.any λw=>w==z)=true)(h:Rd kps ss rs (stn S) (z,c) d):
  Oo m__law_read [(.no,jk ss rs),(.no,stn S),(.no,.str z),(.no,.int c)] (λy=>y.2=d) noX:=by
 cases S with
 | none=>
  have hd:d=.non:=by
   rcases h with⟨_,e⟩|⟨room,ks,st,kp,gd,e,_⟩
   ·exact e
   ·cases e
  subst hd;refine k6 ?_;simp![show stn none=.non from rfl]
 | some P=>
  obtain⟨room,ks⟩:=P;obtain⟨r0,r1,hl⟩:=hS room ks rfl;rcases h with⟨e,_⟩|⟨pc,vg,st,kp,gd,e,h0,hr,hc,hl3,hd⟩
  ·cases e
  ·injection e with e;injection e with e1 e2;injection e1 with e1;injection e2 with e2 _;injection e2 with e2;have e2:ks=vg:=Ys (λ_ _ h=>by injection h)|>.mp e2
   subst e1 e2 hd;obtain⟨r,er,gd',dv,rfl,_⟩:=hP.2 room.toNat ⋯;rw[er]at hr;have ja:rs[room.toNat]?=⇑(.tup [.int ks.length,gd,.lst st]):=by
    grind
   exact _nL h0 ja hc ⋯ hz
def _oi{kps n rs}{p:Int}(hP:Prs kps n rs)(h0:-1<=p)(h1:p<kps.length):∃k g,Kpr rs p k/\Gdr rs p g/\(p=-1->k=0)/\(0<=p->k=kps.getD p.toNat 0):=by
 by_cases h:p=-1
 ·exact#[0,false,.inl #[h,rfl],.inl #[h,rfl],λ_=>rfl,λz=>by lia]
 ·obtain⟨r,er,gd,st,rfl,_⟩:=hP.2 p.toNat ⋯;exact#[_,gd,.inr #[⋯,_,_,er],.inr #[⋯,_,_,er],λz=>absurd z h,λ_=>rfl]
def _oj{kps s}(h:qk kps s):-1<=rmO s/\rmO s<kps.length:=by
 cases s with|none=>exact#[Int.le_refl _,by show(-1:Int)<_;lia]|some P=>obtain⟨a,b⟩:=P;obtain⟨h0,h1,_⟩:=h a b rfl;exact#[by show -1<=a;lia,h1]
def _ok{kps p ks}(h0:-1<=p)(h1:p<kps.length)(h2:0<=p->(ks.length:Int)=kps.getD p.toNat 0):qk kps (v6 p ks):=by
 intro room vg e;unfold v6 at e
 split at e
 ·grind
 ·injection e with e;injection e with e1 e2;subst e1 e2;exact#[⋯,h1,h2 ⋯]
#where in
def YW{p ks}(h:p=-1->ks=[]):nms (v6 p ks)=ks:=by
 unfold v6
 split
 ·rename_i e;rw[h e];rfl
 ·rfl
end B
namespace J
open Q PySem C B F
def m_is_small:Fn:=fn 1
  (jJ (Q7 (vE (cF2 (pu2 fLe) (vE (cF1 (pu1 kW) (j9 (vV 0) (C9 1)))) (C9 12))) (cF1 (pu1 _eg) (vE (cLC .rt 1 [] (itS (cH (j9 (vV 0) (C9 1)))) (.n 0) tYes (cF2 (pu2 fLe) (j9 (vV 0) (C9 0)) (C9 3)))))))
def _ol:D->Int
 |.int i=>i|_=>0
def WK:D->Sn
 |.tup [.int r,.tup ks]=>⇑(r,ks.map _ol)|_=>none
def rdF(ss:List Str)(rs:List D)(S:Sn)(z:Str)(c:Int):Sn:=match S with
 |none=>none
 |some (room,ks)=>(match rs[room.toNat]? with
  |some (.tup [_,_,.lst st])=>WK (wK ss st ks z c)
  |_=>none)
def _om{kps d}(h:Ok2 kps d):stn (WK d)=d/\qk kps (WK d):=by
 rcases h with rfl|⟨room,ks,rfl,r0,r1,hl⟩
 ·exact#[rfl,nofun]
 ·have e:WK (.tup [.int room,iT ks])=⇑(room,ks):=by
   show ⇑_=_;rw[Xi]
   congr 2
   exact List.map_id ks
  rw[e];refine#[rfl,λa b e=>?_];cases e;exact#[r0,r1,hl]
def _on{kps S}(h:qk kps S):Ok2 kps (stn S):=by
 cases S with|none=>exact .inl rfl|some x=>obtain⟨a,b,c⟩:=h x.1 x.2 rfl;exact .inr #[x.1,x.2,rfl,a,b,c]
def x8{kps ss rs}{S} z c (hP:Prs kps ss.length rs)(hk:Abk kps)(hS:qk kps S):Rd kps ss rs (stn S) (z,c) (stn (rdF ss rs S z c))/\qk kps (rdF ss rs S z c):=by
 obtain⟨s',h1,h2,_⟩:=_cA (z,c) hP hk (_on hS);obtain⟨g1,g2⟩:=_om h2;have e:rdF ss rs S z c=WK s':=by
  rcases id h1 with⟨h3,rfl⟩|⟨room,ks,st,kp,gd,h3,_,hr,_,_,h4⟩
  ·cases S with| none=>rfl| some x=>cases h3
  ·cases S with
   | none=>cases h3
   | some x=>
    injection h3 with h3;injection h3 with e1 h3;injection h3 with e2 _;injection e1 with e1;injection e2 with e2;show(match rs[x.1.toNat]? with
     |some (.tup [_,_,.lst st])=>WK _
     |_=>none)=_
    rw[e1,hr,((Ys λa b h=>by injection h).mp e2),h4]
 rw[e,g1];exact#[h1,g2]
def kpF(rs:List D)(p:Int):Int:=if p=-1 then 0 else(match rs[p.toNat]? with
 |some (.tup [.int k,_,_])=>k
 |_=>0)
def gdF(rs:List D)(p:Int):Bool:=if p=-1 then false else(match rs[p.toNat]? with
 |some (.tup [_,.bl g,_])=>g
 |_=>false)
def _oo{rs p k}(h:Kpr rs p k):kpF rs p=k:=by
 rcases h with⟨rfl,rfl⟩|⟨h0,g,st,e⟩
 ·rfl
 ·unfold kpF;rw[Xj ⋯,e]
def _op{rs p g}(h:Gdr rs p g):gdF rs p=g:=by
 rcases h with⟨rfl,rfl⟩|⟨h0,k,st,e⟩
 ·rfl
 ·unfold gdF;rw[Xj ⋯,e]
def wZ{kps n rs}{p:Int}(hP:Prs kps n rs)(hk:Abk kps)(h0:-1<=p)(h1:p<kps.length):Kpr rs p (kpF rs p)/\Gdr rs p (gdF rs p)/\0<=kpF rs p/\kpF rs p<=3/\(0<=p->kpF rs p=kps.getD p.toNat 0):=by
 obtain⟨k,g,a,b,c,d⟩:=_oi hP h0 h1;rw[_oo a,_op b];refine#[a,b,?_]
 by_cases hp:p=-1
 ·rw[c hp];exact#[⋯,⋯,λh=>by lia]
 ·have hd:=d ⋯;have hm:kps.getD p.toNat 0∈kps:=by rw[X2,X1 ⋯];exact Xn _
  rw[hd];exact#[(hk _ hm).1,(hk _ hm).2,λ_=>rfl]
def _oq:∀l,keyDs 4 (prs l)=true
 |[]=>rfl
 |p::l=>by
  show(qK 4 _&&keyDs 4 _)=true;rw[_oq l];rfl
def _or(r r') l:qZ (.tup [.int r,.int r',.tup (prs l)])=true:=by
 have:keyDs 5 [D.int r,.int r',.tup (prs l)]=true:=by
  show(qK 5 _&&(qK 5 _&&(keyDs 4 _&&true)))=true;rw[_oq];rfl
 show(keyDs 5 [D.int r,.int r',.tup _]&&true)=true;rw[this];rfl
def _os{kps S}(h:qk kps S)(e:rmO S=-1):S=none:=by
 cases S with|none=>rfl|some x=>have:=(h x.1 x.2 rfl).1;have e:x.1=-1:=e;lia
def zj{kps S}(hk:Abk kps)(h:qk kps S):(nms S).length<=3:=by
 cases S with
 |none=>exact Y1 _
 |some x=>
  obtain⟨a,b,c⟩:=h x.1 x.2 rfl;have hm:kps.getD x.1.toNat 0∈kps:=by rw[X2,X1 ⋯];exact Xn _
  have:=(hk _ hm).2;show x.2.length<=3;lia
def lat(x:Sn×Sn):D:=.tup [stn x.1,stn x.2]
section
variable {kps a9:List Int}{ss:List Str}{rs rs':List D}
def pS(rs:List D):D->Sn
 |.tup [.int p,_,_]=>_np p (kpF rs p)|_=>none
def Q1:List D->List (Int×Int)
 |[]=>[]|.tup [.int i,.int j]::r=>(i,j)::Q1 r|_::r=>Q1 r
def JY:∀l,Q1 (prs l)=l
 |[]=>rfl
 |p::l=>by
  show _::Q1 (prs l)=_;rw[JY l]
def pT(rs rs':List D):D->Sn
 |.tup [.int p,.int q,.tup sh]=>JJ q (kpF rs p) (kpF rs' q) (Q1 sh)|_=>none
def pO(rs rs':List D)(P:D):Nat:=(qv (nms (pS rs P)) (nms (pT rs rs' P))).length
def gS(rs:List D):D->Bool
 |.tup [.int p,_,_]=>gdF rs p|_=>false
def gT(rs:List D):D->Bool
 |.tup [_,.int q,_]=>gdF rs q|_=>false
def Pok(kps a9:List Int)(P:D):Prop:=∃(p q:Int) (sh:List (Int×Int)),P=.tup [.int p,.int q,.tup (prs sh)]/\-1<=p/\p<kps.length/\-1<=q/\q<a9.length/\sh.length<=3
def _ot{a b}(ha:a.length<=3)(hb:b.length<=3):(qv a b).length<=6:=by
 unfold qv
 grind
def Wj{P}(hP:Prs kps ss.length rs)(hk:Abk kps)(h:Pok kps a9 P):qk kps (pS rs P):=by
 obtain⟨p,q,sh,rfl,h0,h1,_⟩:=h;obtain⟨_,_,c,_,e⟩:=wZ hP hk h0 h1;refine _ok h0 h1 λhp=>?_
 rw[<-e hp,X4,Y7];lia
def WJ{P}(aq:Prs a9 ss.length rs')(ak:Abk a9)(h:Pok kps a9 P):qk a9 (pT rs rs' P):=by
 obtain⟨p,q,sh,rfl,_,_,h0,h1,_⟩:=h;obtain⟨_,_,c,_,e⟩:=wZ aq ak h0 h1;refine _ok h0 h1 λhp=>?_
 rw[<-e hp,Kk];lia
def _ou{P}(hP:Prs kps ss.length rs)(hk:Abk kps)(aq:Prs a9 ss.length rs')(ak:Abk a9)(h:Pok kps a9 P):
  Oo m_first_standings [(.no,jk ss rs),(.no,jk ss rs'),(.no,P)] (λy=>y=(.no,lat (pS rs P,pT rs rs' P))) noX:=by
 obtain⟨p,q,sh,rfl,h0,h1,h2,h3,h4⟩:=h;obtain⟨a,_,c,d,_⟩:=wZ hP hk h0 h1;obtain⟨a',_,c',d',_⟩:=wZ aq ak h2 h3;refine(_no a a' c ⋯ c' ⋯ ⋯).mono λy hy=>?_
 rw[hy];show _=(Own.no,D.tup [stn _,stn (JJ q _ _ _)]);rw[JY];rfl
def _ov{P}(hP:Prs kps ss.length rs)(hk:Abk kps)(aq:Prs a9 ss.length rs')(ak:Abk a9)(h:Pok kps a9 P):pO rs rs' P<=6:=_ot (zj hk (Wj hP hk h)) (zj ak (WJ aq ak h))
def _ow(t):∀k (o),(jX t k o).length<=o.length
 |_,[]=>Xd _
 |k,n::o=>by
  have:=_ow t (k+1) o;unfold jX
  split<;>simp<;>lia
def _ox{a b}(ha:qk kps a)(hb:qk a9 b)(hk:Abk kps):Pok kps a9 (v9 a b):=by
 obtain⟨a0,a1⟩:=_oj ha;obtain⟨b0,b1⟩:=_oj hb;exact#[_,_,_,rfl,a0,a1,b0,b1,Yd (_ow _ _ _) (zj hk ha)]
abbrev P0:D:=.tup [.int 0,.int 0,.tup []]
def WV:D->Int
 |.tup [.int k,_,_]=>k|_=>0
def _oy(rs:List D):Bool:=decide (rs.length<=12)&&rs.all λr=>decide (WV r<=3)
def _oz(g):∀ds:List D,bls (ds.map λd=>D.bl (g d))=⇑(ds.map g)
 |[]=>rfl
 |d::ds=>by
  rw[List.map_cons,bls,_oz g ds];rfl
def _oA g (ds:List D):_eg (.lst (ds.map λd=>D.bl (g d)))=⇑(.bl (ds.all g)):=by
 show(bls _).map _=_;rw[_oz];simp[Function.comp_def]
def small_is{d0 rs}(h:∀r∈rs,∃(own:Int) (a b:D),r=.tup [.int own,a,b]):Oo m_is_small [(.no,.tup [d0,.lst rs])] (λy=>∃o',y=(o',.bl (_oy rs))/\True) noX:=by
 have q1:∀a b,jQ (.tup [a,b]) (.int 1)=⇑b:=λ_ _=>rfl
 refine k6 ?_
 by_cases hl:rs.length<=12
 ·have e:fLe (.int rs.length) (.int 12)=⇑(.bl true):=by rw[le_ii,Xg ⋯]
  simp![q1,e];refine WQ [] (λd y=>y.2=.bl (decide (WV d<=3))) ?_;simp![q1];refine#[λd hd=>?_,λys hy=>?_]
  ·obtain⟨own,a,b,rfl⟩:=h d hd;simp![t0];exact#[#[_,rfl],rfl]
  ·rw[zw,YK (h:=λd=>.bl (decide (WV d<=3))) (λ_ _ h=>h) hy];simp![_oA (λd=>decide (WV d<=3))];exact#[_,by unfold _oy;rw[Xg hl];rfl,trivial]
 ·have e:fLe (.int rs.length) (.int 12)=⇑(.bl false):=by rw[le_ii,Xl ⋯]
  simp![q1,e];exact#[_,by unfold _oy;rw[Xl hl];rfl,trivial]
def _oB{n}(hP:Prs kps n rs):∀r∈rs,∃(own:Int) (a b:D),r=.tup [.int own,a,b]:=λr hr=>by
 obtain⟨i,hi,e⟩:=Yj hr;obtain⟨r',e',gd,st,h',_⟩:=hP.2 i (hP.1▸hi);rw[X1 hi,e]at e'
 grind
def _oC{n}(hP:Prs kps n rs)(hk:Abk kps)(o8:kps.length<=12):_oy rs=true:=by
 unfold _oy;rw[Xg (hP.1▸o8),Bool.true_and,Za];intro r hr;obtain⟨i,hi,e⟩:=Yj hr;have jt:i<kps.length:=by rw[<-hP.1];exact hi
 obtain⟨r',e',gd,st,h',_⟩:=hP.2 i jt;rw[X1 hi,e]at e';cases _aa e';rw[h'];have hm:kps.getD i 0∈kps:=by rw[X2,X1 jt];exact Xn _
 exact Xg (hk _ hm).2
end
end J
namespace Kp
open Q PySem C
def bk(E:En):back [] [] (clr [] E)=E:=rfl
end Kp
namespace U
open Q PySem C B J
def _oD{a b:Sn}(h:stn a=stn b):a=b:=by
 cases a with
 | none=>cases b with|none=>rfl|some y=>cases h
 | some x=>cases b with
  |none=>cases h
  |some y=>
   have h:(D.tup [.int x.1,iT x.2])=.tup [.int y.1,iT y.2]:=h;injection h with h;injection h with e1 h;injection h with e2 _;injection e1 with e1;injection e2 with e2;have e2:x.2=y.2:=(Ys λa b h=>by injection h).mp e2;exact congrArg some (Prod.ext e1 e2)
def _oE{kps:List Int}{ss:List Str}{rs:List D}{s a b:D}{w:Str×Int}(h:Rd kps ss rs s w a)(h':Rd kps ss rs s w b):a=b:=by
 rcases h with⟨rfl,rfl⟩|⟨room,ks,st,kp,gd,rfl,_,hr,_,_,e⟩
 ·rcases h' with⟨_,rfl⟩|⟨room,ks,st,kp,gd,h,_⟩
  ·rfl
  ·cases h
 ·rcases h' with⟨h,_⟩|⟨pc,vg,dv,kp',gd',h,_,ja,_,_,e'⟩
  ·cases h
  ·injection h with h;injection h with e1 h;injection h with e2 _;injection e1 with e1;injection e2 with e2;have e2:ks=vg:=(Ys λa b h=>by injection h).mp e2;subst e1 e2;rw[hr]at ja;injection ja with ja;injection ja with ja;injection ja with _ ja;injection ja with _ ja;injection ja with ja _;injection ja with ja;rw[e,e',ja]
section
variable {kps a9:List Int}{ss:List Str}{rs rs':List D}{f:Int->Int}
def _oF{S:Sn}{z:Str}{c:Int}(hP:Prs kps ss.length rs)(hk:Abk kps)(hS:qk kps S)(rg:∀x∈nms S,f x=f c->x=c):rdF ss rs (vK f S) z (f c)=vK f (rdF ss rs S z c)/\∀n∈nms (rdF ss rs S z c),n∈nms S\/n=c:=by
 obtain⟨s',h1,h2,h3,_⟩:=_nA (z:=z) hP hk hS rg;have hm:qk kps (vK f S):=by
  cases S with
  |none=>exact nofun
  |some x=>
   intro room ks e;cases e;obtain⟨a,b,c⟩:=hS x.1 x.2 rfl;exact#[a,b,by rw[X4];exact c]
 have e1:=_oD (_oE (x8 z c hP hk hS).1 h1);have e2:=_oD (_oE (x8 z (f c) hP hk hm).1 h2);rw[e1,e2];exact#[rfl,h3]
def _oG{l:List Int}{g:Int->Int}(h:l.Nodup)(hi:∀x∈l,∀y∈l,g x=g y->x=y):(l.map g).Nodup:=by
 induction l with
 |nil=>exact Xp
 |cons a l ih=>
  rw[Yn]at h;rw[List.map_cons,Yn];refine#[λz=>?_,ih h.2 λx hx y hy=>hi x (_ad _ hx) y (_ad _ hy)];obtain⟨b,hb,e⟩:=aE z;have:=hi b (_ad _ hb) a X5 e;exact h.1 (this▸hb)
def _oH{S:Sn}{z:Str}{c:Int}(hP:Prs kps ss.length rs)(hk:Abk kps)(hS:qk kps S)(hn:(nms S).Nodup):(nms (rdF ss rs S z c)).Nodup:=by
 have h1:=(x8 z c hP hk hS).1;generalize rdF ss rs S z c=S' at h1;rcases h1 with⟨_,e⟩|⟨room,ks,st,kp,gd,e,_,_,hc,_,e'⟩
 ·cases S' with| none=>exact Xp| some x=>cases e
 ·have hks:nms S=ks:=by
   cases S with
   | none=>cases e
   | some x=>
    have e:(D.tup [.int x.1,iT x.2])=.tup [.int room,iT ks]:=e;injection e with e;injection e with _ e;injection e with e _;injection e with e;exact(Ys λa b h=>by injection h).mp e
  rw [hks]at hn;unfold wK at e';cases hz:(ss.any λw=>w==z)with
  | false=>
   rw [hz]at e';cases S' with| none=>exact Xp| some x=>cases e'
  | true=>
   rw [hz,Xb rfl]at e';obtain⟨cs,_,_,_,g4⟩:=ZQ c hc hz;rcases g4 with g|⟨to,fs,g,_,_,hfs,hnd,_⟩
   ·rw [g]at e';cases S' with| none=>exact Xp| some x=>cases e'
   ·rw [g,show(D.tup (fs.map D.int))=iT fs from rfl,caseD_is]at e';cases S' with
    | none=>cases e'
    | some x=>
     have e':(D.tup [.int x.1,iT x.2])=.tup [.int to,iT (fs.map (C.nameAt ks c))]:=e';injection e' with e';injection e' with _ e';injection e' with e' _;injection e' with e';have e':x.2=fs.map (C.nameAt ks c):=(Ys λa b h=>by injection h).mp e';show x.2.Nodup;rw[e'];have hb:=λi hi=>hfs i hi
     refine _oG hnd λi hi j hj n6=>?_
     obtain⟨i0,i1⟩:=hfs i hi;obtain⟨j0,j1⟩:=hfs j hj;unfold vk at i1 j1;unfold C.nameAt at n6;have jc:i.toNat=j.toNat:=by
      by_cases hm:c∈ks
      ·have cj:(ks.findIdx λw=>w==c)<ks.length:=Yw #[c,hm,by simp];rw[Xj ⋯]at i1 j1;rw[X2,X2,Xr ⋯,Xr ⋯,<-X2,<-X2]at n6;exact _oc hn ⋯ ⋯ n6
      ·have nj:(ks++[c]).Nodup:=List.nodup_append.mpr #[hn,by simp,λx hx y hy e=>by rw[aC hy]at e;exact hm (e▸hx)];have:(if((ks.findIdx λw=>w==c:Nat):Int)=ks.length then(1:Int)else 0)<=1:=by split<;>lia
       exact _oc nj (by rw[Xe,Y9];lia) (by rw[Xe,Y9];lia) n6
     lia
#where in
def _oI{t:List Int}{i j:Int}:∀{o:List Int} {k:Nat},(i,j)∈jX t k o->∃m:Nat,∃x:Int,i=((k+m:Nat):Int)/\o[m]?=⇑x/\x∈t/\j=((t.findIdx λw=>w==x:Nat):Int)
 | [],k,h=>nomatch h
 | n::o,k,h=>by
  have e:jX t k (n::o)=if(t.any λw=>w==n)=true then((k:Int),((t.findIdx λw=>w==n:Nat):Int))::jX t (k+1) o else jX t (k+1) o:=rfl
  rw[e]at h;have go:(i,j)∈jX t (k+1) o->∃m:Nat,∃x:Int,i=((k+m:Nat):Int)/\(n::o)[m]?=⇑x/\x∈t/\j=((t.findIdx λw=>w==x:Nat):Int):=λh=>by
   obtain⟨m,x,h1,h2,h3,h4⟩:=_oI h;exact#[m+1,x,by rw[h1];congr 1;lia,h2,h3,h4]
  split at h
  ·rename_i ha;rcases aD h with h|h
   ·injection h with h1 h2;rw[V2]at ha;exact#[0,n,h1,rfl,Yo ha,h2]
   ·exact go h
  ·exact go h
def _oJ{t:List Int}{x:Int}:∀{o:List Int} {k m:Nat},o[m]?=⇑x->x∈t->(((k+m:Nat):Int),((t.findIdx λw=>w==x:Nat):Int))∈jX t k o
 | [],k,m,h,_=>nomatch h
 | n::o,k,m,h,hx=>by
  have e:jX t k (n::o)=if(t.any λw=>w==n)=true then((k:Int),((t.findIdx λw=>w==n:Nat):Int))::jX t (k+1) o else jX t (k+1) o:=rfl
  rw[e];cases m with
  |zero=>
   have h:n=x:= ~~~h
   subst h;rw[Xb (by rw[V2];exact Xg hx)];exact X5
  |succ m=>
   have:=_oJ (k:=k+1) (m:=m) (o:=o) (~~~h) hx;rw[show k+1+m=k+(m+1)by lia]at this
   split
   ·exact _ad _ this
   ·exact this
def _oK(kv:List (Int×Int))(k v j:Int):(jV kv j).isSome=true\/k=j->(jV (qX kv k v) j).isSome=true:=by
 intro h;unfold jV;rw [Yv,List.find?_isSome];unfold qX
 by_cases ha:(kv.any λp=>decide (p.1=k))=true
 ·rw[Xb ha];have:∃p∈kv,p.1=j:=by
   rcases h with h|rfl
   ·unfold jV at h;rw[Yv,List.find?_isSome]at h;obtain⟨p,hp,e⟩:=h;exact#[p,hp,Yo e]
   ·obtain⟨p,hp,e⟩:=List.any_eq_true.mp ha;exact#[p,hp,Yo e]
  obtain⟨p,hp,e⟩:=this;refine#[_,List.mem_map.mpr #[p,hp,rfl],Xg ?_]
  split
  ·exact e
  ·exact e
 ·rw[Xj ha];rcases h with h|rfl
  ·unfold jV at h;rw[Yv,List.find?_isSome]at h;obtain⟨p,hp,e⟩:=h;exact#[p,_ac _ hp,e]
  ·exact#[(k,v),_ab _ X5,Xg rfl]
def _oL:∀(ps kv:List (Int×Int)) (j:Int),(jV kv j).isSome=true\/(∃p∈ps,p.1=j)->(jV (ps.foldl (λkv p=>qX kv p.1 p.2) kv) j).isSome=true
 | [],kv,j,h=>by
  rcases h with h|⟨p,hp,_⟩
  ·exact h
  ·exact nomatch hp
 | p::ps,kv,j,h=>by
  rw[Yz];refine _oL ps _ j ?_;rcases h with h|⟨q,hq,e⟩
  ·exact .inl (_oK _ _ _ _ (.inl h))
  ·rcases aD hq with rfl|hq
   ·exact .inl (_oK _ _ _ _ (.inr e))
   ·exact .inr #[q,hq,e]
def _oM{sh:List (Int×Int)}{i j:Int}(h:(i,j)∈sh):(jV (kvS sh) j).isSome=true:=_oL _ _ _ (.inr #[(j,i),List.mem_map.mpr #[(i,j),h,rfl],rfl])
def _oN{own kv}(hv:∀j i,jV kv j=⇑i->0<=i/\i<own):∀n,(nmF own kv n).filter (λx=>decide (own<=x))=(List.range (qw own kv n)).map λ(c:Nat)=>own+c
 | 0=>rfl
 | n+1=>by
  have ih:=_oN hv n;cases h:jV kv n with
  | some i=>
   have:=hv _ _ h;have e:qw own kv (n+1)=qw own kv n:=by
    unfold qw;rw[Kz h,Yi,Yk (by simp;lia)];simp
   rw[e,<-ih,Kz h,Yi,Yk (by simp;lia)];simp
  | none=>
   have e:qw own kv (n+1)=qw own kv n+1:=by
    show((nmF own kv _).filter _).length=_;rw[KW h,Yi,Yg (by simp;lia),Xe];rfl
   rw[e,List.range_succ,X7,<-ih,KW h,Yi,Yg (by simp;lia)];rfl
def _oO{k sh n}(hk:0<=k)(hv:∀j i,jV (kvS sh) j=⇑i->0<=i/\i<k):qv (kX k) (nmF k (kvS sh) n)=kX ((qv (kX k) (nmF k (kvS sh) n)).length:Nat):=by
 have e:(nmF k (kvS sh) n).filter (λm=>!(kX k).any λw=>w==m)=(nmF k (kvS sh) n).filter λx=>decide (k<=x):=by
  refine List.filter_congr λx hx=>?_
  have h0:=(ZV hk hv n x hx).1;rw[V2]
  by_cases t9:k<=x
  ·rw[Xg t9,Xl]
   ·rfl
   ·grind
  ·rw[Xl t9,Xg]
   ·rfl
   ·exact List.mem_map.mpr #[x.toNat,List.mem_range.mpr ⋯,⋯]
 have e2:qv (kX k) (nmF k (kvS sh) n)=kX (k+qw k (kvS sh) n):=by
  unfold qv;rw[e,_oN hv];show(List.range k.toNat).map _++_=(List.range (k+qw k _ n).toNat).map _;rw[show(k+_).toNat=k.toNat+qw k (kvS sh) n by lia,List.range_add,X7,Xi]
  congr 1
  refine Y5 λc _=>?_
  grind
 rw[(_og (n:=n) hk hv),e2]
end
section
variable {kps a9:List Int}{ss:List Str}{rs rs':List D}
abbrev hp(rs rs':List D)(P:D):List Int:=qv (nms (pS rs P)) (nms (pT rs rs' P))
def Rl(rs rs':List D)(P:D)(a b:Sn):Prop:=∃f:Int->Int,a=vK f (pS rs P)/\b=vK f (pT rs rs' P)/\(∀x∈hp rs rs' P,∀y∈hp rs rs' P,f x=f y->x=y)/\hp rs rs' P=kX (pO rs rs' P)
def _oP{s}(hP:Prs kps ss.length rs)(hk:Abk kps)(h:qk kps s):kpF rs (rmO s)=(nms s).length:=by
 cases s with
 |none=>rfl
 |some x=>
  obtain⟨a,b,c⟩:=h x.1 x.2 rfl;obtain⟨_,_,_,_,e⟩:=wZ hP hk ⋯ b;show kpF rs x.1=(x.2.length:Int);rw[e a,c]
def _oQ{s T}(h:qk kps s) g (hg:T.map g=nms s):s=vK g (v6 (rmO s) T):=by
 cases s with
 |none=>rfl
 |some x=>
  have:=(h x.1 x.2 rfl).1;have hg:T.map g=x.2:=hg;show ⇑x=vK g (v6 x.1 T);unfold v6;rw[Xj ⋯];show ⇑x=⇑(x.1,T.map g);rw[hg]
def _oR{a b}(hP:Prs kps ss.length rs)(hk:Abk kps)(aq:Prs a9 ss.length rs')(ak:Abk a9)(ha:qk kps a)(hb:qk a9 b)(na:(nms a).Nodup)(nb:(nms b).Nodup):Rl rs rs' (v9 a b) a b:=by
 have ka:=_oP hP hk ha;have gw:Q1 (prs (jX (nms b) 0 (nms a)))=jX (nms b) 0 (nms a):=JY _;have eS:pS rs (v9 a b)=v6 (rmO a) (kX ((nms a).length:Nat)):=by
  show _np (rmO a) (kpF rs (rmO a))=_;rw [ka];rfl
 have eT:pT rs rs' (v9 a b)=v6 (rmO b) (nmF ((nms a).length:Nat) (kvS (jX (nms b) 0 (nms a))) (nms b).length):=by
  show JJ (rmO b) (kpF rs (rmO a)) (kpF rs' (rmO b)) (Q1 (prs (jX (nms b) 0 (nms a))))=_;rw [ka,(_oP aq ak hb),gw];rfl
 generalize hA:nms a=A at *;generalize hB:nms b=B' at *;have hv:∀j i,jV (kvS (jX B' 0 A)) j=⇑i->0<=i/\i<(A.length:Nat):=λj i h=>by
  obtain⟨m,x,h1,h2,_⟩:=_oI (_n8 h);have:=(aF h2).1;lia
 have k0:(0:Int)<=(A.length:Nat):=⋯
 generalize hT:nmF ((A.length:Nat):Int) (kvS (jX B' 0 A)) B'.length=T at *;have hTl:T.length=B'.length:=by rw[<-hT,Kk]
 have fa:(kX (A.length:Nat)).map (ren (A++B') (A.length:Nat) T)=A:=by
  rw [_od k0 (by rw[Xe];lia),Xu,List.take_left]
 have fb:T.map (ren (A++B') (A.length:Nat) T)=B':=by
  rw [<-hT,_of k0 hv];unfold _nR;refine List.ext_getElem? λj=>?_
  rw [Xh]
  by_cases hj:j<B'.length
  ·rw[List.getElem?_range hj,X1 hj];show ⇑((jV (kvN (A++B') (jX B' 0 A)) (j)).getD ((A++B').getD ((A.length:Int).toNat+j) 0))=_;rw[_n6];cases h:jV (kvS (jX B' 0 A)) (j)with
   | none=>
    show ⇑((A++B').getD ((A.length:Int).toNat+j) 0)=_;rw[Xu,X2,Y8 ⋯,show A.length+j - A.length=j by lia,X1 hj];rfl
   | some i=>
    show ⇑((A++B').getD i.toNat 0)=_;obtain⟨m,x,h1,h2,h3,h4⟩:=_oI (_n8 h);have hm:=(aF h2).1;have jg:=WY h3;rw[show(B'.findIdx λw=>w==x)=j by lia,X1 hj]at jg;rw[jg,show i.toNat=m by lia,X2,Xr hm,h2];rfl
  ·rw[Xz (by rw[Y7];lia),Xz ⋯];rfl
 have hnA:nms (v6 (rmO a) (kX (A.length:Nat)))=kX (A.length:Nat):=YW λe=>by
  have:=_os ha e;rw [this]at hA;rw [<-hA];rfl
 have hnB:nms (v6 (rmO b) T)=T:=YW λe=>by
  have:=_os hb e;rw [this]at hB;have:T.length=0:=by rw[hTl,<-hB];rfl
  exact List.length_eq_zero_iff.mp this
 have hhp:hp rs rs' (v9 a b)=qv (kX (A.length:Nat)) T:=by
  unfold hp;rw [eS,eT,hnA,hnB]
 have qh:hp rs rs' (v9 a b)=kX (pO rs rs' (v9 a b)):=by
  show _=kX ((hp rs rs' (v9 a b)).length:Nat);rw [hhp,<-hT];exact _oO k0 hv
 refine#[ren (A++B') (A.length:Nat) T,?_,?_,?_,qh]
 ·rw [eS];exact _oQ ha _ (by rw[fa,hA])
 ·rw [eT];exact _oQ hb _ (by rw[fb,hB])
 ·rw [hhp];have big:∀x∈T,((A.length:Nat):Int)<=x->∃j,j<B'.length/\T[j]?=⇑x/\(ren (A++B') (A.length:Nat) T x)=B'.getD j 0/\B'.getD j 0∉A:=λx hx t9=>by
   have jg:=WY hx;have hj:=(aF jg).1;have u9:ren (A++B') (A.length:Nat) T x=B'.getD (T.findIdx λw=>w==x) 0:=by
    unfold ren;rw[Xj ⋯,Xu,X2,Y8 ⋯,X2]
    congr 2
    lia
   generalize (T.findIdx λw=>w==x)=j at jg hj u9;refine#[j,⋯,jg,u9,λff=>?_];obtain⟨m,hm,em⟩:=Yj ff;have hB:B'.getD j 0∈B':=by rw[X2,X1 ⋯];exact Xn _
   have gw:=_oJ (k:=0) (t:=B') (o:=A) (m:=m) (x:=B'.getD j 0) (by rw[X1 hm,em]) hB;have n6:(B'.findIdx λw=>w==B'.getD j 0)=j:=by
    have h1:=WY hB;have h2:=(aF h1).1;refine _oc nb h2 ⋯ ?_;rw[X2,h1];rfl
   rw[n6]at gw;obtain⟨i,hi⟩:=Option.isSome_iff_exists.mp (_oM gw);have:=_oe (own:=(A.length:Nat)) (n:=B'.length) ⋯ (Kz (own:=((A.length:Nat):Int)) hi);rw[hT,jg]at this;have e:=_aa this;have:=hv _ _ hi;lia
  have sml:∀x:Int,0<=x->x<(A.length:Nat)->ren (A++B') (A.length:Nat) T x=A.getD x.toNat 0:=λx h0 h1=>by
   unfold ren;rw[Xb h1,X2,Xr ⋯,X2]
  have mA:∀x:Int,0<=x->x<(A.length:Nat)->A.getD x.toNat 0∈A:=λx h0 h1=>by
   rw[X2,X1 ⋯];exact Xn _
  have cs:∀x∈qv (kX (A.length:Nat)) T,(0<=x/\x<(A.length:Nat))\/(x∈T/\((A.length:Nat):Int)<=x):=λx hx=>by
   rcases aA hx with hx|hx
   ·obtain⟨i,hi,rfl⟩:=aE hx;have:=List.mem_range.mp hi;exact .inl ⋯
   ·have hx:=(List.mem_filter.mp hx)
    by_cases h:x<(A.length:Nat)
    ·refine .inl #[?_,h];have:=hx.1;rw[<-hT]at this;exact(ZV k0 hv _ x this).1
    ·exact .inr #[hx.1,⋯]
  intro x hx y hy e;rcases cs x hx with⟨x0,x1⟩|⟨x0,x1⟩
  ·rcases cs y hy with⟨y0,y1⟩|⟨y0,y1⟩
   ·rw[sml x x0 x1,sml y y0 y1]at e;have:=_oc na ⋯ ⋯ e;lia
   ·obtain⟨j,_,_,h1,h2⟩:=big y y0 y1;rw[sml x x0 x1,h1]at e;exact absurd (e▸mA x x0 x1) h2
  ·obtain⟨i,i1,i2,i3,i4⟩:=big x x0 x1;rcases cs y hy with⟨y0,y1⟩|⟨y0,y1⟩
   ·rw[sml y y0 y1,i3]at e;exact absurd (e▸mA y y0 y1) i4
   ·obtain⟨j,j1,j2,j3,j4⟩:=big y y0 y1;rw[i3,j3]at e;have:=_oc nb i1 j1 e;subst this;rw[i2]at j2;exact _aa j2
end
def _oS{f o t}(h:∀n∈t,∀x∈o,f x=f n->x=n):qv (o.map f) (t.map f)=(qv o t).map f:=by
 unfold qv;rw[X7,List.filter_map]
 congr 2
 refine List.filter_congr λn hn=>?_
 show(!_)=_;rw[_nt (h n hn)]
section
variable {kps a9:List Int}{ss:List Str}{rs rs':List D}
def qz(ss:List Str)(rs rs':List D)(P:D)(z:Str)(i:Int):D:=v9 (rdF ss rs (pS rs P) z i) (rdF ss rs' (pT rs rs' P) z i)
def Lk(own:Nat)(a b:Sn)(i c:Int):Prop:=(0<=i/\i<own/\(qv (nms a) (nms b))[i.toNat]?=⇑c)\/(i=own/\c∉qv (nms a) (nms b))
def _oT{P x}(h:x∈nms (pS rs P)):x∈hp rs rs' P:=_ac _ h
def _oU{P x}(h:x∈nms (pT rs rs' P)):x∈hp rs rs' P:=by
 by_cases hx:x∈nms (pS rs P)
 ·exact _ac _ hx
 ·refine _ab _ (List.mem_filter.mpr #[h,?_]);rw[V2,Xl hx];rfl
def mem_rngL{k x}:x∈kX k↔0<=x/\x<k:=by
 constructor
 ·intro h;obtain⟨i,hi,rfl⟩:=aE h;have:=List.mem_range.mp hi;lia
 ·intro h;exact List.mem_map.mpr #[x.toNat,List.mem_range.mpr ⋯,⋯]
def _oV{f g s}(h:∀x∈nms s,f x=g x):vK f s=vK g s:=by
 cases s with|none=>rfl|some x=>exact congrArg some (Prod.ext rfl (Y5 h))
def _oW{P a b f}(e1:a=vK f (pS rs P))(e2:b=vK f (pT rs rs' P))(hi:∀x∈hp rs rs' P,∀y∈hp rs rs' P,f x=f y->x=y):qv (nms a) (nms b)=(hp rs rs' P).map f:=by
 rw[e1,e2,_nq,_nq];exact _oS λn hn x hx e=>hi x (_oT hx) n (_oU hn) e
def _oX{P a b}(h:Rl rs rs' P a b):(qv (nms a) (nms b)).length=pO rs rs' P:=by
 obtain⟨f,e1,e2,hi,_⟩:=h;rw[_oW e1 e2 hi,X4];rfl
def _oY{P a b z i c}(hP:Prs kps ss.length rs)(hk:Abk kps)(aq:Prs a9 ss.length rs')(ak:Abk a9)(pe:Pok kps a9 P)(h:Rl rs rs' P a b)(hl:Lk (pO rs rs' P) a b i c):
  v9 (rdF ss rs a z c) (rdF ss rs' b z c)=qz ss rs rs' P z i:=by
 obtain⟨f,e1,e2,hi,hr⟩:=h;have hh:=_oW e1 e2 hi;have jc:∀g:Int->Int,(∀x∈hp rs rs' P,g x=f x)->g i=c->(∀x,x∈hp rs rs' P\/x=i->∀y,y∈hp rs rs' P\/y=i->g x=g y->x=y)->v9 (rdF ss rs a z c) (rdF ss rs' b z c)=qz ss rs rs' P z i:=λg hg hc hj=>by
  have a1:a=vK g (pS rs P):=by rw[e1];exact(_oV λx hx=>hg x (_oT hx)).symm
  have b1:b=vK g (pT rs rs' P):=by rw[e2];exact(_oV λx hx=>hg x (_oU hx)).symm
  obtain⟨r1,r2⟩:=_oF hP hk (Wj hP hk pe) λx hx e=>hj x (.inl (_oT hx)) i (.inr rfl) e
  obtain⟨r3,r4⟩:=_oF aq ak (WJ aq ak pe) λx hx e=>hj x (.inl (_oU hx)) i (.inr rfl) e
  rw[a1,b1,<-hc,r1,r3];refine _nw λn hn x hx e=>(hj x ?_ n ?_ e)
  ·rcases r4 x hx with q|q
   ·exact .inl (_oU q)
   ·exact .inr q
  ·rcases r2 n hn with q|q
   ·exact .inl (_oT q)
   ·exact .inr q
 rcases hl with⟨i0,i1,hc⟩|⟨rfl,hc⟩
 ·have him:i∈hp rs rs' P:=by rw[hr];exact mem_rngL.mpr #[i0,i1]
  have hci:f i=c:=by
   rw[hh,hr,Xh,Xh,List.getElem?_range ⋯]at hc
   grind
  exact jc f (λ_ _=>rfl) hci λx hx y hy e=>hi x (hx.elim id λq=>q▸him) y (hy.elim id λq=>q▸him) e
 ·have kf:((pO rs rs' P):Int)∉hp rs rs' P:=λq=>by
   rw[hr]at q;have:=mem_rngL.mp q;lia
  have bh:∀x∈hp rs rs' P,x≠((pO rs rs' P):Int):=λx hx e=>kf (e▸hx)
  have hfc:∀x∈hp rs rs' P,f x≠c:=λx hx e=>hc (by rw[hh,<-e];exact List.mem_map.mpr #[x,hx,rfl])
  refine jc (λx=>if x=_ then c else f x) (λx hx=>Xj (bh x hx)) (Xb rfl) λx hx y hy e=>?_
  rcases hx with hx|rfl
  ·grind
  ·grind
structure Two (kps a9:List Int)(S T:Sn):Prop where
 a:qk kps S
 b:qk a9 T
 na:(nms S).Nodup
 nb:(nms T).Nodup
#where in
def Two.next{a b} z c (hP:Prs kps ss.length rs)(hk:Abk kps)(aq:Prs a9 ss.length rs')(ak:Abk a9)(h:Two kps a9 a b):Two kps a9 (rdF ss rs a z c) (rdF ss rs' b z c):=
 #[(x8 z c hP hk h.a).2,(x8 z c aq ak h.b).2,_oH hP hk h.a h.na,_oH aq ak h.b h.nb]
#where in
def _oZ{P a b z i c}(hP:Prs kps ss.length rs)(hk:Abk kps)(aq:Prs a9 ss.length rs')(ak:Abk a9)(pe:Pok kps a9 P)(ht:Two kps a9 a b)(h:Rl rs rs' P a b)(hl:Lk (pO rs rs' P) a b i c):
  Rl rs rs' (qz ss rs rs' P z i) (rdF ss rs a z c) (rdF ss rs' b z c):=by
 rw[<-_oY hP hk aq ak pe h hl];have t:=ht.next z c hP hk aq ak
 exact _oR hP hk aq ak t.a t.b t.na t.nb
def _o0{P}{a b} c (h:Rl rs rs' P a b):∃i:Int,0<=i/\i<=pO rs rs' P/\Lk (pO rs rs' P) a b i c:=by
 have hl:=_oX h
 by_cases hc:c∈qv (nms a) (nms b)
 ·obtain⟨m,hm,e⟩:=Yj hc;exact#[m,⋯,⋯,.inl #[⋯,⋯,by rw[Xu,X1 hm,e]]]
 ·exact#[_,⋯,Int.le_refl _,.inr #[rfl,hc]]
#where in
def _o1{P a b}(pe:Pok kps a9 P)(h:Rl rs rs' P a b):gdF rs (rmO a)=gS rs P/\gdF rs' (rmO b)=gT rs' P:=by
 obtain⟨f,e1,e2,_⟩:=h;obtain⟨p,q,sh,rfl,_⟩:=pe;have rm:∀r ks,rmO (v6 r ks)=r:=λr ks=>by
  unfold v6
  split
  ·rename_i h;rw[h];rfl
  ·rfl
 rw[e1,e2,_nr,_nr];constructor
 ·show gdF rs (rmO (v6 p _))=gdF rs p;rw[rm]
 ·show gdF rs' (rmO (v6 q _))=gdF rs' q;rw[rm]
def run(ss:List Str)(rs:List D)(S:Sn)(w:List (Str×Int)):Sn:=w.foldl (λS x=>rdF ss rs S x.1 x.2) S
abbrev S0:Sn:=⇑(0,[])
def _o2(h0:kps[0]?=⇑0)(t6:a9[0]?=⇑0):Two kps a9 S0 S0:=by
 have mk:∀{l},l[0]?=⇑0->qk l S0:=fun {l} h room ks e=>by
  cases e;have hl:=(aF h).1;exact#[⋯,⋯,by show 0=l.getD 0 0;rw[X2,h];rfl]
 exact#[mk h0,mk t6,Xp,Xp]
end
def _o3{a b e}{E:En}{P X}:Eo (_ld a b (e::E)) P X=Eo (a (e::E)) (λE x=>Eo (b E) (λE y=>Wo (_lc x.2 y.2) E (λE d=>P E (.dp,d))) X) X:=by
 unfold _ld;rw[jY];congr 1;funext E x;rw[jY];congr 1;funext E y;rw[xX];exact vo_map
def m_steps_from:Fn:=fn 8
  (j6 (jw 3 (jx B.m_first_standings [(cV 0),(cV 1),(cV 2)]))
  (j6 (jw 4 (W5 (vE (cF2 kq (vE (cF1 (pu1 kW) (vE (jx B.m_held_by_both [(cV 3)])))) (C9 1)))))
  (j6 (jw 5 (q9 .rt []))
  (j6 (kQ (itS (cF1 ZJ (vE (cF2 kq (j9 (vV 0) (C9 0)) (j9 (vV 1) (C9 0)))))) (.n 6) (kQ (itS (cV 4)) (.n 7) (v4 v3 5 (kw .no [(cV 6),(cV 7),(jx B.m_pair_of [(jx B.m_read_by_both [(cV 0),(cV 1),(cV 3),(cV 6),(cV 7)])])]))))
  (jJ (cMv 5))))))
def m_least_beside:Fn:=fn 2
  (j6 (jw 1 (cC (.int 0)))
  (j6 (JX (tE (cF2 (pu2 J1) (vV 1) (vV 0))) (_hM (λa b=>a+b) 1 (cC (.int 1))))
  (jJ (cMv 1))))
def m_parting_row:Fn:=fn 10
  (j6 (jw 4 (jx B.m_first_standings [(cV 0),(cV 1),(cV 2)]))
  (j6 (jw 5 (q9 .rt []))
  (j6 (kQ (itS (cV 3)) (.t [6,7]) (j6 (jw 8 (jx B.m_held_by_both [(cV 4)]))
  (j6 (jw 9 (cIf (tE (cF2 (pu2 fLt) (vV 7) (vE (cF1 (pu1 kW) (vV 8))))) (cH (j9 (vV 8) (vV 7))) (jx m_least_beside [(cV 8)])))
  (j6 (v4 v3 5 (kw .no [(cV 6),(cV 9)]))
  (jw 4 (jx B.m_read_by_both [(cV 0),(cV 1),(cV 4),(cV 6),(cV 9)]))))))
  (jJ (cMv 5)))))
def m_steps_to:Fn:=fn 4
  (j6 (jw 2 (q9 .rt []))
  (j6 (jw 3 (cH (_ld (vV 0) (vV 1))))
  (j6 (JX (tE (cF2 (f2First fNotNon) (vV 3) (vE (cC .non)))) (j6 (v4 v3 2 (kw .no [(cH (j9 (vV 3) (C9 1))),(cH (j9 (vV 3) (C9 2)))]))
  (jw 3 (cH (_ld (vV 0) (j9 (vV 3) (C9 0)))))))
  (jJ (cF1 Zz (vV 2))))))
def m_searched:Fn:=fn 10
  (j6 (jw 3 (_hK (cV 2) (cC .non)))
  (j6 (jw 4 (q9 .rt [(cV 2)]))
  (j6 (jw 5 (cC (.int 0)))
  (j6 (JX (tE (cF2 (pu2 fLt) (vV 5) (vE (cF1 (pu1 kW) (vV 4))))) (j6 (jw 6 (cH (j9 (vV 4) (vV 5))))
  (j6 (sIf (tNot (tEQ (vE (jx B.m_agrees [(cV 0),(cV 1),(cV 6)])))) (jJ (kw .no [(cC (.str "apart")),(jx m_parting_row [(cV 0),(cV 1),(cV 2),(jx m_steps_to [(cV 3),(cV 6)])])])) k5)
  (j6 (kQ (itS (jx m_steps_from [(cV 0),(cV 1),(cV 6)])) (.t [7,8,9]) (sIf (tE (cF2 (pu2 V0) (vV 9) (vV 3))) (j6 (_hJ 3 (vV 9) (kw .no [(cV 6),(cV 7),(cV 8)]))
  (v4 v3 4 (cV 9))) k5))
  (_hM (λa b=>a+b) 5 (cC (.int 1)))))))
  (jJ (kw .no [(cC (.str "alike")),(cV 4)]))))))
def J7(i:Int):List (List (Int×Int)):=[[],[(i,0)],[(i,1)],[(i,2)]]
def AllS:List (List (Int×Int)):=(J7 0).flatMap λa=>(J7 1).flatMap λb=>(J7 2).map λc=>a++(b++c)
def _o4{α β:Type}{f:α->List β}{n}:∀(l:List α),(∀a∈l,(f a).length=n)->(l.flatMap f).length=l.length*n
 |[],_=>by simp
 |a::l,h=>by
  rw[List.flatMap_cons,Xe,_o4 l λb hb=>h b (_ad _ hb),h a X5,Xm,Nat.add_mul];lia
def _o5{i j}(h0:0<=j)(h1:j<3):[(i,j)]∈J7 i:=by
 rcases(show j=0\/j=1\/j=2 by lia)with rfl|rfl|rfl<;>simp[J7]
def _o6 t (ht:t.length<=3)(k:Nat) n o:∃a∈J7 k,jX t k (n::o)=a++jX t (k+1) o:=by
 have e:jX t k (n::o)=if _=true then _::jX t _ o else jX t _ o:=rfl
 rw[e]
 by_cases h:(t.any λw=>w==n)=true
 ·obtain⟨x,hx,e⟩:=List.any_eq_true.mp h;have:=Yw (p:=λw=>w==n) #[x,hx,e];rw[Xb h];exact#[_,_o5 ⋯ ⋯,rfl]
 ·rw[Xj h];exact#[[],by simp[J7],rfl]
def _o7{t o}(ht:t.length<=3)(ho:o.length<=3):jX t 0 o∈AllS:=by
 have em:∀i,[]∈J7 i:=λi=>by simp[J7]
 have mk:∀{a b c},a∈J7 0->b∈J7 1->c∈J7 2->a++_∈AllS:=λha hb hc=>List.mem_flatMap.mpr #[_,ha,List.mem_flatMap.mpr #[_,hb,List.mem_map.mpr #[_,hc,rfl]]]
 match o,ho with
 |[],_=>exact mk (em 0) (em 1) (em 2)
 |[x],_=>
  obtain⟨a,ha,e⟩:=_o6 t ht 0 x [];rw[e];exact mk ha (em 1) (em 2)
 |[x,y],_=>
  obtain⟨a,ha,e⟩:=_o6 t ht 0 x [y];obtain⟨b,hb,e2⟩:=_o6 t ht 1 y [];rw[e,e2];exact mk ha hb (em 2)
 |[x,y,z],_=>
  obtain⟨a,ha,e⟩:=_o6 t ht 0 x [y,z];obtain⟨b,hb,e2⟩:=_o6 t ht 1 y [z];obtain⟨c,hc,e3⟩:=_o6 t ht 2 z [];rw[e,e2,e3];have:=mk ha hb hc
  simpa [jX]using this
section
variable {kps a9:List Int}{ss:List Str}{rs rs':List D}
def _o8(a):∀l,(zX a l).length=l.length+1
 |[]=>rfl
 |b::l=>by
  unfold zX
  split
  ·rw[Xm,_o8 a l,Xm]
  ·rfl
def sortS_len:∀l,(x5 l).length=l.length
 |[]=>rfl|a::l=>by rw[x5,_o8,sortS_len l];rfl
#where in
def _o9:∀(l ac:List Str),(l.foldl (λl k=>if l.any (· == k)then l else l++[k]) ac).length<=ac.length+l.length
 |[],ac=>Xd _
 |a::l,ac=>by
  rw[Yz];have:=_o9 l (if ac.any (· == a)then ac else ac++[a])
  split at this
  ·rw[Xm];rename_i h;rw[Xb h];lia
  ·rename_i h;rw[Xj h];rw[Xe,Y9]at this;rw[Xm];lia
abbrev St3:=List (Str×Int×D)
abbrev stD(x:Str×Int×D):D:=.tup [.str x.1,.int x.2.1,x.2.2]
def _pa{a x}:∀{l},x=a\/x∈l->x∈zX a l
 | [],h=>by
  rcases h with rfl|h
  ·exact aB rfl
  ·grind
 | b::l,h=>by
  unfold zX
  split
  ·rcases h with rfl|h
   ·exact _ad _ (_pa (.inl rfl))
   ·rcases aD h with rfl|h
    ·exact X5
    ·exact _ad _ (_pa (.inr h))
  ·grind
def _pb{x}:∀{l},x∈l->x∈x5 l
 |[],h=>nomatch h|a::l,h=>_pa ((aD h).imp id _pb)
def _pc{x}:∀(l ac:List Str),x∈ac\/x∈l->x∈l.foldl (λl k=>if l.any (· == k)then l else l++[k]) ac
 | [],ac,h=>h.elim id nofun
 | a::l,ac,h=>by
  rw[Yz];refine _pc l _ ?_
  by_cases ha:(ac.any (· == a))=true
  ·rw[Xb ha];rcases h with h|h
   ·exact .inl h
   ·rcases aD h with rfl|h
    ·simp_all
    ·exact .inr h
  ·rw[Xj ha];rcases h with h|h
   ·exact .inl (_ac _ h)
   ·grind
end
def _pd{ks:List Int}{i}(h:(ks.any λw=>w==i)=true):(ks.filter λx=>decide (i+1<=x)).length<(ks.filter λx=>decide (i<=x)).length:=by
 induction ks with
 | nil=>cases h
 | cons a ks ih=>
  have mono:∀l:List Int,(l.filter λx=>decide (i+1<=x)).length<=(l.filter λx=>decide (i<=x)).length:=λl=>by
   induction l with
   | nil=>exact Xd _
   | cons b l ih=>
    by_cases h1:i+1<=b
    ·rw[Yg (~~~h1),Yg (by simp;omega)];simp;omega
    ·rw[Yk (~~~h1)]
     by_cases h2:i<=b
     ·rw[Yg (~~~h2)];simp;omega
     ·rw[Yk (~~~h2)];exact ih
  rw[Zj,Bool.or_eq_true]at h
  by_cases ha:a=i
  ·rw[Yk (by grind),Yg (by grind),Xm];have:=mono ks;omega
  ·have h:=ih (h.resolve_left (~~~ha))
   by_cases h1:i+1<=a
   ·rw[Yg (~~~h1),Yg (by simp;omega)];simp;omega
   ·rw[Yk (~~~h1),Yk ⋯];exact h
abbrev Kvs:=List (D×D)
abbrev wyD(p:D)(z:Str)(i:Int):D:=.tup [p,.str z,.int i]
section
variable {ss:List Str}{rs rs':List D}{P:D}
def _pe{W:Kvs}{k v x:D}:xZ (W++[(k,v)]) x=if x∈W.map (·.1)then xZ W x else if k=x then ⇑v else none:=by
 unfold xZ;rw[List.find?_append]
 by_cases h:x∈W.map (·.1)
 ·rw[Xb h];obtain⟨e,he,hx⟩:=aE h;have:(W.find? λp=>decide (p.1=x)).isSome=true:=by
   rw[List.find?_isSome];exact#[e,he,Xg hx]
  obtain⟨y,hy⟩:=Option.isSome_iff_exists.mp this;rw[hy];rfl
 ·rw[Xj h];have:(W.find? λp=>decide (p.1=x))=none:=by
   rw[List.find?_eq_none];intro e he hx;exact h (List.mem_map.mpr #[e,he,Yo hx])
  rw[this]
  by_cases hk:k=x
  ·simp[hk]
  ·simp[hk]
abbrev rwI(x:Str×Int):D:=.tup [.str x.1,.int x.2]
def _pf{o xs}(h:o≠.dp):Zz (o,.lst xs)=⇑(.rt,.lst xs.reverse):=by
 unfold Zz;dsimp only;rw[Xb (by cases o<;>simp_all [qW])]
def _pg{W:Kvs}{k v}(h:xZ W k=⇑v)(hp:D.pures (W.map (·.2))=true):D.pure v=true:=by
 obtain⟨e,he,rfl⟩:=Option.map_eq_some_iff.mp h;rw[D.pures_all,Za]at hp;exact hp _ (List.mem_map.mpr #[e,List.mem_of_find?_eq_some he,rfl])
end
section
variable {kps a9:List Int}{ss:List Str}{rs rs':List D}
def run_snoc{S w z c}:run ss rs S (w++[(z,c)])=rdF ss rs (run ss rs S w) z c:=by
 unfold run;rw[List.foldl_append];rfl
end
section
variable {kps a9:List Int}{ss:List Str}{rs rs':List D}
def _ph(hP:Prs kps ss.length rs)(hk:Abk kps):∀(w:List (Str×Int)) {S},qk kps S->Ch2 kps ss rs (stn S) w (stn (run ss rs S w))/\qk kps (run ss rs S w)
 |[],S,h=>#[rfl,h]
 |x::w,S,h=>by
  obtain⟨r1,r2⟩:=x8 x.1 x.2 hP hk h;obtain⟨i1,i2⟩:=_ph hP hk w r2;exact#[#[_,r1,i1],i2]
end
def _pi:∀l,Qq (l.map D.int)=⇑l
 |[]=>rfl
 |a::l=>by
  rw[List.map_cons,Qq,_pi l];rfl
end U
namespace Y
open Q PySem C B J U
def m__law_firsts:Fn:=fn 13
  (j6 (Kj [3,4,5] (cV 2))
  (j6 (jw 6 (W5 (vE (jx B.m__law_keepers [(cV 0),(cV 3)]))))
  (j6 (jw 7 _hN)
  (j6 (kQ (itS (cV 5)) (.t [8,9]) (_hV 7 (vV 9) (cV 8)))
  (j6 (jw 10 (q9 .rt []))
  (j6 (jw 11 (cF1 (pu1 kW) (vV 6)))
  (j6 (kQ (vZ (vE (jx B.m__law_keepers [(cV 1),(cV 4)]))) (.n 9) (j6 (v4 v3 10 (cH (_hT (vV 7) (vV 9) (vV 11))))
  (jw 11 (cF2 kq (vV 11) (vE (cF1 (pu1 K9) (vE (cF2 (pu2 _hO) (vV 9) (vV 7)))))))))
  (j6 (jw 12 (q9 .rt [(kw .no [(cV 3),(cF1 z7 (vV 6))]),(kw .no [(cV 4),(cF1 z7 (vV 10))])]))
  (jJ (cLC .rt 1 [] (itS (cV 12)) (.n 0) tYes (cH (j9 (vE (q9 .rt [(cV 0),(cC .non)])) (vE (cF1 (pu1 K9) (vE (cF2 (pu2 fEq) (j9 (vV 0) (C9 0)) (vE (cF1 (pu1 zJ) (C9 1)))))))))))))))))))
def m__law_behind_all:Fn:=fn 11
  (j6 (Kj [3,4] (jx m__law_firsts [(cV 0),(cV 1),(cV 2)]))
  (j6 (jw 5 _lz)
  (j6 (kQ (itS (q9 .rt [(cV 3),(cV 4)])) (.n 6) (sIf (tE (cF2 (f2First fNotNon) (vV 6) (vE (cC .non)))) (kQ (itS (cH (j9 (vV 6) (C9 1)))) (.n 7) (_lB 5 (vV 7) (cC (.bl true)))) k5))
  (j6 (jw 8 (q9 .rt []))
  (j6 (kQ (itS (cH (j9 (vV 0) (C9 0)))) (.n 9) (kQ (itS (cF2 kq (vE (cF1 _lC (vV 5))) (vE (q9 .rt [(cF1 (pu1 XX) (vV 5))])))) (.n 7) (j6 (jw 10 (jx B.m__law_pair [(jx B.m__law_read [(cV 0),(cV 3),(cV 9),(cV 7)]),(jx B.m__law_read [(cV 1),(cV 4),(cV 9),(cV 7)])]))
  (sIf (tE (cF2 (pu2 zZ) (vV 10) (vV 8))) (v4 v3 8 (cV 10)) k5))))
  (jJ (cMv 8)))))))
def m__law_good:Fn:=fn 2
  (jJ (Q7 (vE (cF2 (pu2 fNe) (vV 1) (vE (cF1 (pu1 zJ) (C9 1))))) (cH (j9 (j9 (j9 (vV 0) (C9 1)) (vV 1)) (C9 1)))))
def m__law_table:Fn:=fn 6
  (j6 (sIf (tNot (tEQ (vE (cF1 (pu1 (vx "list")) (vV 3))))) (jJ (cC (.bl false))) k5)
  (j6 (jw 4 _hG)
  (j6 (kQ (itS (cV 3)) (.n 5) (j6 (sIf (tOr (tNot (tEQ (vE (jx B.m__law_is_pair [(cV 5),(cV 5)])))) (tE (cF2 (pu2 V5) (vV 5) (vV 4)))) (jJ (cC (.bl false))) k5)
  (j6 (_hJ 4 (vV 5) (cC (.bl true)))
  (j6 (sIf (tOr (tNot (tE (Vj fLe fLt (vE (cF1 (pu1 zJ) (C9 1))) (j9 (vV 5) (C9 0)) (vE (cF1 (pu1 kW) (j9 (vV 0) (C9 1))))))) (tNot (tE (Vj fLe fLt (vE (cF1 (pu1 zJ) (C9 1))) (j9 (vV 5) (C9 1)) (vE (cF1 (pu1 kW) (j9 (vV 1) (C9 1)))))))) (jJ (cC (.bl false))) k5)
  (sIf (tE (cF2 (pu2 fNe) (vE (jx m__law_good [(cV 0),(cH (j9 (vV 5) (C9 0)))])) (vE (jx m__law_good [(cV 1),(cH (j9 (vV 5) (C9 1)))])))) (jJ (cC (.bl false))) k5)))))
  (j6 (kQ (itS (cV 3)) (.n 5) (sIf (tE (cF2 (pu2 fNe) (vE (cLC .rt 1 [4] (itS (jx m__law_behind_all [(cV 0),(cV 1),(cV 5)])) (.n 0) (tE (cF2 (pu2 V0) (vV 0) (vV 1))) (cV 0))) (vE (q9 .rt [])))) (jJ (cC (.bl false))) k5))
  (jJ (cF2 (pu2 V5) (vV 2) (vV 4)))))))
def m__law_most:Fn:=fn 1
  (jJ (cF1 (pu1 _lY) (vE (cLC .rt 1 [] (itS (cH (j9 (vV 0) (C9 1)))) (.n 0) tYes (cH (j9 (vV 0) (C9 0)))))))
def m__law_parts:Fn:=fn 11
  (j6 (Kj [4,5] (cV 2))
  (j6 (kQ (itS (cV 3)) (.t [6,7]) (j6 (jw 4 (jx B.m__law_read [(cV 0),(cV 4),(cV 6),(cV 7)]))
  (jw 5 (jx B.m__law_read [(cV 1),(cV 5),(cV 6),(cV 7)]))))
  (j6 (jw 8 (q9 .rt [(cF1 (pu1 zJ) (C9 1)),(cF1 (pu1 zJ) (C9 1))]))
  (j6 (kQ (_hC (q9 .rt [(cV 4),(cV 5)])) (.t [9,10]) (sIf (tE (cF2 (f2First fNotNon) (vV 10) (vE (cC .non)))) (Zx 8 (vV 9) (cH (j9 (vV 10) (C9 0)))) k5))
  (jJ (cF2 (pu2 fNe) (vE (jx m__law_good [(cV 0),(cH (j9 (vV 8) (C9 0)))])) (vE (jx m__law_good [(cV 1),(cH (j9 (vV 8) (C9 1)))]))))))))
def m__law_row_holds:Fn:=fn 7
  (j6 (sIf (tNot (tEQ (vE (cF1 (pu1 (vx "list")) (vV 3))))) (jJ (cC (.bl false))) k5)
  (j6 (kQ (itS (cV 3)) (.n 4) (j6 (sIf (tOr (tNot (tEQ (vE (cF1 (pu1 (vx "tuple")) (vV 4))))) (tOr (tE (cF2 (pu2 fNe) (vE (cF1 (pu1 kW) (vV 4))) (C9 2))) (tOr (tNot (tEQ (vE (cF1 (pu1 (vx "str")) (j9 (vV 4) (C9 0)))))) (tE (cF2 (pu2 zZ) (j9 (vV 4) (C9 0)) (j9 (vV 0) (C9 0))))))) (jJ (cC (.bl false))) k5)
  (sIf (tOr (tNot (tEQ (vE (jx B.m__law_whole [(cH (j9 (vV 4) (C9 1)))])))) (tNot (tE (Vj fLe fLe (C9 0) (j9 (vV 4) (C9 1)) (vE (cF2 kq (vE (jx m__law_most [(cV 0)])) (vE (jx m__law_most [(cV 1)])))))))) (jJ (cC (.bl false))) k5)))
  (j6 (jw 5 (jx m__law_firsts [(cV 0),(cV 1),(cV 2)]))
  (j6 (kQ (vZ (vE (cF1 (pu1 kW) (vV 3)))) (.n 6) (sIf (tEQ (vE (jx m__law_parts [(cV 0),(cV 1),(cV 5),(cSl (vV 3) none ⇑(vV 6))]))) (jJ (cC (.bl false))) k5))
  (jJ (jx m__law_parts [(cV 0),(cV 1),(cV 5),(cV 3)]))))))
def _pj{k kv}:_hO (.int k) (wq kv)=⇑(.bl (!(jV kv k).isSome)):=by
 unfold _hO;rw[_jo]
def _pk{own kv}{n:Nat}{i}(h:jV kv n=⇑i)(hi:i<own):qw own kv (n+1)=qw own kv n:=by
 unfold qw;rw[Kz h];have:decide (own<=i)=false:=Xl ⋯;simp[this]
def _pl{own kv}{n:Nat}(h:jV kv n=none):qw own kv (n+1)=qw own kv n+1:=by
 unfold qw;rw[KW h];have:decide (own<=own+(qw own kv n))=true:=Xg ⋯;simp[this]
def _pm f z:kvS (f++[z])=qX (kvS f) z.2 z.1:=by
 unfold kvS;rw[X7,List.foldl_append];rfl
def _pn:∀(f kv:List (Int×Int)),(f.foldl (λkv p=>qX kv p.1 p.2) kv).length<=kv.length+f.length
 |[],kv=>by simp
 |p::f,kv=>by
  rw[Yz,Xm];have:=_pn f (qX kv p.1 p.2);have:=_jF kv p.1 p.2;lia
def _po{k}:k4 0 k=(kX k).map D.int:=by
 unfold k4;rw[Xi,show k - 0=k by lia];refine Y5 λi _=>?_
 show D.int _=D.int i;rw[Int.zero_add]
def _pp{k sh}(h:∀p∈sh,0<=p.1/\p.1<k):∀j i,jV (kvS sh) j=⇑i->0<=i/\i<k:=λj i hv=>by
 exact h _ (_n8 hv)
def _pq{ss rs rs' p q k k' sh}(hp:Kpr rs p k)(hq:Kpr rs' q k')(hk:0<=k)(n8:k<=100)(ak:0<=k')(hk2':k'<=100)(gw:∀p∈sh,0<=p.1/\p.1<k)(iu:sh.length<=100):
  Oo m__law_firsts [(.no,jk ss rs),(.no,jk ss rs'),(.no,.tup [.int p,.int q,.tup (prs sh)])] (λy=>y=(.rt,.lst [stn (_np p k),stn (JJ q k k' sh)])) noX:=by
 have ln:(kX k).length=k.toNat:=by simp
 refine k6 ?_;simp![];refine(_nJ hp).use ?_;intro o1 _;simp![↓_mB,_po];refine qQ (λE aa=>∃(f1 f2:List _) (l8 l9:Option Sd),E=[⇑(.no,jk ss rs),⇑(.no,jk ss rs'),⇑(.no,.tup [.int p,.int q,.tup (prs sh)]),⇑(.no,.int p),⇑(.no,.int q),⇑(.no,.tup (prs sh)),⇑(.rt,iL (kX k)),⇑(.rt,wq (kvS f1)),l8,l9,none,none,none]/\sh=f1++f2/\aa=prs f2) ?_ ?_ ?_
 ·simp![];exact#[[],sh,none,none,rfl,rfl,rfl]
 ·rintro E d ds ⟨f1,f2,l8,l9,rfl,hf,hr⟩;cases f2 with
  | nil=>cases hr
  | cons z f2=>
   injection hr with e1 e2;subst e1 e2;have ae:(kvS f1).length<10000:=by
    have:=_pn (f1.map λp=>(p.2,p.1)) [];rw[X4]at this;unfold kvS
    grind
   simp![];refine _mD ?_;simp![];refine#[rfl,kvS f1,z.2,z.1,rfl,rfl,rfl,ae,f1++[z],f2,⇑(.no,.int z.1),⇑(.no,.int z.2),?_,by rw[hf];simp,rfl];rw[_pm]
 ·rintro E ⟨f1,f2,l8,l9,rfl,hf,hr⟩;have hf2:f2=[]:=by cases f2 with|nil=>rfl|cons=>cases hr
  subst hf2;rw [Xv]at hf;subst hf;simp![];refine qQ (λE aa=>∃(j:Int) (l9:Option Sd) (o11:Own),E=[⇑(.no,jk ss rs),⇑(.no,jk ss rs'),⇑(.no,.tup [.int p,.int q,.tup (prs sh)]),⇑(.no,.int p),⇑(.no,.int q),⇑(.no,.tup (prs sh)),⇑(.rt,iL (kX k)),⇑(.rt,wq (kvS sh)),l8,l9,⇑(.rt,iL (nmF k (kvS sh) j.toNat)),⇑(o11,.int (k+qw k (kvS sh) j.toNat)),none]/\0<=j/\j<=k'/\aa=k4 j k') ?_ ?_ ?_
  ·simp![ln];refine(_nJ hq).use ?_;intro o2 _;simp![];refine#[0,l9,.dp,?_,⋯,ak,rfl];rw[Y7,show(k.toNat:Int)=k+qw k (kvS sh) (0:Int).toNat by show _=k+0;lia];rfl
  ·rintro E d ds ⟨j,l9,o11,rfl,j0,j1,hr⟩;obtain⟨hj,rfl,rfl⟩:=xz j1 hr;have wf:(j+1).toNat=j.toNat+1:=⋯
   have xl:((j.toNat:Nat):Int)=j:=⋯
   have hln:(nmF k (kvS sh) j.toNat).length=j.toNat:=Kk ..;cases hvj:jV (kvS sh) j with
   | some v=>
    have ua:jV (kvS sh) ((j.toNat:Nat):Int)=⇑v:=by rw[xl];exact hvj
    simp![];refine xJ rfl ?_;simp![↓_my,_mI,_mH,hvj,Option.getD_some];refine#[_,rfl,by rw[X4,hln];lia,?_];simp![_pj,hvj,Option.isSome_some,Bool.not_true,show K9 (.bl false)=⇑(.int 0)from rfl];refine#[j+1,⇑(.no,.int j),.dp,?_,⋯,⋯,rfl];rw[wf,Kz ua,_pk ua ((_pp gw) _ _ hvj).2];simp
   | none=>
    have ua:jV (kvS sh) ((j.toNat:Nat):Int)=none:=by rw[xl];exact hvj
    simp![];refine xJ rfl ?_;simp![↓_my,_mI,_mH,hvj,Option.getD_none];refine#[_,rfl,by rw[X4,hln];lia,?_];simp![_pj,hvj,Option.isSome_none,Bool.not_false,show K9 (.bl true)=⇑(.int 1)from rfl];refine#[j+1,⇑(.no,.int j),.dp,?_,⋯,⋯,rfl];rw[wf,KW ua,_pl ua,show(((qw k (kvS sh) j.toNat+1:Nat)):Int)=qw k (kvS sh) j.toNat+1 by lia,<-Int.add_assoc];simp
  ·rintro E ⟨j,l9,o11,rfl,j0,j1,hr⟩;have:=z9 j1 hr;subst this;simp![Q.tup_l (o:=.rt) (xs:=(kX k).map D.int) ⋯,Q.tup_l (o:=.rt) (xs:=(nmF k (kvS sh) j.toNat).map D.int) ⋯];refine WQ [] (λd y=>y.2=Zv d) ?_;simp![];refine#[λd hd=>?_,λys uf=>?_]
   ·obtain⟨r,ks,rfl⟩:∃(r:Int) (ks:List Int),d=.tup [.int r,.tup (ks.map D.int)]:=by
     simp only[Yq,Y6,or_false]at hd;rcases hd with rfl|rfl
     ·exact#[_,_,rfl]
     ·exact#[_,_,rfl]
    by_cases hr1:r=-1
    ·have hb:(r == -1)=true:=by simp[hr1]
     simp![p0,B.neg1,eqi hb,show K9 (.bl true)=⇑(.int 1)from rfl,show jQ (.lst [.tup [.int r,.tup (ks.map D.int)],.non]) (.int 1)=⇑.non from rfl];refine#[#[_,rfl],?_];unfold Zv;dsimp only;rw[Xb hr1]
    ·have hb:(r == -1)=false:=Y2 hr1;simp![p0,B.neg1,eqi hb,show K9 (.bl false)=⇑(.int 0)from rfl,show jQ (.lst [.tup [.int r,.tup (ks.map D.int)],.non]) (.int 0)=⇑(.tup [.int r,.tup (ks.map D.int)])from rfl];refine#[#[_,rfl],?_];unfold Zv;dsimp only;rw[Xj hr1]
   ·rw[zw,YK (h:=Zv) (λd y h=>h) uf,List.map_cons,List.map_cons,List.map_nil,_nS,_nS];rfl
def KZ(d:D):Prop:=∃(r r':Int) (l:List (Int×Int)),d=.tup [.int r,.int r',.tup (prs l)]
section
variable {E:En}{N C:En->Prop}{R:Sd->Prop}{X:XP}{vc kc:Ex}
def _pr{i:Nat}(h:Eo (vc E) (λE1 v=>_hH E1[i]?=true/\Eo (kc E1) (λE2 k=>∃(kv:List Int) (x:Int),E2[i]?=some ⇑(.rt,xY kv)/\k.2=.int x/\v.2=.bl true/\kv.length<10000/\N (E2.set i ⇑(.rt,xY (Jq kv x)))) X) X):Po (_lB i kc vc E) N C R X:=by
 refine _mu (h.mono λE1 v hz=>#[hz.1,hz.2.mono λE2 k hz=>?_]);obtain⟨kv,x,e2,hk,hv,hl,h4⟩:=hz;refine#[_,_,e2,?_,h4];unfold _lA;rw[hk,hv];dsimp only;rw[_lH,Option.bind_some,Xb (by unfold big;lia)]
end
def _ps{E:En}{e P X}:Eo (_lz (e::E)) P X=P (e::E) (.rt,xY []):=by
 unfold _lz;rw[W8]
def _pt{o kv}:_lC (o,xY kv)=⇑(.rt,.lst (kv.map D.int)):=by
 unfold _lC;rw[_lH]
def _pu{kv}:XX (xY kv)=⇑(.int kv.length):=by
 unfold XX;rw[_lH]
def _pv:∀l m,peqs (prs l) (prs m)=decide (prs l=prs m)
 |[],[]=>by simp[peqs]|[],_::_=>by simp[peqs]|_::_,[]=>by simp[peqs]
 |p::l,q::m=>by
  have ih:=_pv l m;unfold prs at ih ⊢;show(((p.1==q.1)&&((p.2==q.2)&&true))&&peqs _ _)=_;rw[ih]
  by_cases h1:p.1=q.1<;>by_cases h2:p.2=q.2<;>simp[h1,h2]
def _pw{a b}(ha:KZ a)(hb:KZ b):peq a b=decide (a=b):=by
 obtain⟨r,r',l,rfl⟩:=ha;obtain⟨q,q',m,rfl⟩:=hb;show((r==q)&&((r'==q')&&(peqs _ _&&true)))=_;rw[_pv]
 grind
def _px:∀l,D.flats 28 (prs l)=true
 |[]=>rfl
 |p::l=>by
  have:=_px l;unfold prs at this ⊢;show(true&&D.flats 28 _)=true;rw[this];rfl
def _py{d}(h:KZ d):d.flat 30=true:=by
 obtain⟨r,r',l,rfl⟩:=h;show(true&&(true&&(D.flats 28 _&&true)))=true;rw[_px];rfl
def _pz{x}(hx:KZ x):∀{K:List D},(∀s∈K,KZ s)->(K.any λz=>peq z x)=decide (x∈K)
 |[],_=>by simp
 |k::K,h=>by
  rw[Zj,_pw (h k X5) hx,_pz hx (λs hs=>h s (_ad _ hs))]
  by_cases e1:k=x
  ·simp[e1]
  ·grind
def _pA{x K}(hx:KZ x)(hK:∀s∈K,KZ s):zZ x (.lst K)=⇑(.bl (!decide (x∈K))):=by
 have h:fIn x (.lst K)=⇑(.bl (decide (x∈K))):=by
  show(if x.flat 30&&D.flats 30 K then ⇑_ else none)=_;rw[_py hx,W1 (λk hk=>_py (hK k hk)),_pz hx hK];rfl
 show(fIn x _).bind _=_;rw[h];rfl
#where in
def _pB{ks k}(h:ks.Nodup):(Jq ks k).Nodup:=by
 unfold Jq
 split
 ·exact h
 ·rename_i hn;exact List.nodup_append.mpr #[h,by simp,λx hx y hy e=>hn (by rw[<-aC hy,<-e];exact hx)]
def _pC{ks k x}:x∈Jq ks k↔x∈ks\/x=k:=by
 unfold Jq
 split
 ·exact#[.inl,λh=>h.elim id λe=>e▸‹_›]
 ·simp
def _pD{ks k}:(Jq ks k).length<=ks.length+1:=by
 unfold Jq
 split<;>simp
def Kn(ns:List Int)(kv:List Int):Prop:=kv.Nodup/\(∀x,x∈kv↔x∈ns)/\kv.length<=ns.length
def Kn.put{ns kv}(h:Kn ns kv) x:Kn (ns++[x]) (Jq kv x):=by
 refine#[_pB h.1,λy=>?_,?_]
 ·rw[_pC,h.2.1 y,List.mem_append,List.mem_singleton]
 ·have:=h.2.2;have:=_pD (ks:=kv) (k:=x);simp;lia
def _pE{ns kv}{own:Nat}(h:Kn ns kv)(hm:∀x,x∈ns↔x∈kX own):kv.length=own/\∀c,c∈kv↔0<=c/\c<own:=by
 have hr:∀c,c∈kX own↔0<=c/\c<own:=λc=>by
  constructor
  ·intro z;obtain⟨i,hi,rfl⟩:=aE z;have:=List.mem_range.mp hi;lia
  ·rintro ⟨c0,c1⟩;exact List.mem_map.mpr #[c.toNat,List.mem_range.mpr ⋯,⋯]
 have hn:(kX own).Nodup:=List.pairwise_map.mpr (List.nodup_range.imp λh e=>h ⋯);exact#[by rw[((List.perm_ext_iff_of_nodup h.1 hn).mpr λc=>by rw[h.2.1,hm]).length_eq];simp,λc=>by rw[h.2.1,hm,hr]]
section
variable {kps a9:List Int}{ss:List Str}{rs rs':List D}
def Fnd(ss:List Str)(rs rs':List D)(P:D)(own:Nat)(F:List D):Prop:=F.Nodup/\∀d∈F,∃z∈ss,∃i:Int,0<=i/\i<=own/\d=qz ss rs rs' P z i
def _pF{P own F}(h:Fnd ss rs rs' P own F):∀d∈F,KZ d:=λd hd=>by
 obtain⟨z,_,i,_,_,rfl⟩:=h.2 d hd;exact#[_,_,_,rfl]
inductive BhA (one c9 P:D)(S T:Sn):En->List D->Prop
 |mk (ns kv:List Int) {l6 l7:Option Sd} {aa:List D} (h:Kn ns kv) (h1:(aa=[stn S,stn T]/\ns=[])\/(aa=[stn T]/\ns=nms S)\/(aa=[]/\ns=nms S++nms T)):BhA one c9 P S T [⇑(.no,one),⇑(.no,c9),⇑(.no,P),⇑(.no,stn S),⇑(.no,stn T),⇑(.rt,xY kv),l6,l7,none,none,none] aa
inductive BhB (one c9 P:D)(S T:Sn)(st:D)(ns0 ms:List Int):En->List D->Prop
 |mk (m1 m2 kv:List Int) {l7:Option Sd} {aa:List D} (h:Kn (ns0++m1) kv) (h1:ms=m1++m2) (h2:aa=m2.map D.int):BhB one c9 P S T st ns0 ms [⇑(.no,one),⇑(.no,c9),⇑(.no,P),⇑(.no,stn S),⇑(.no,stn T),⇑(.rt,xY kv),⇑(.no,st),l7,none,none,none] aa
inductive BhC (ss:List Str)(rs rs':List D)(P:D)(S T:Sn)(own:Nat)(kv:List Int):En->List D->Prop
 |mk (z1 z2:List Str) (F:List D) {l6 l7 l9 i9:Option Sd} {aa:List D} (h1:ss=z1++z2) (h2:aa=z2.map D.str) (h3:Fnd ss rs rs' P own F) (h4:F.length<=7*z1.length) (h5:∀z∈z1,∀i:Int,0<=i->i<=own->qz ss rs rs' P z i∈F):BhC ss rs rs' P S T own kv [⇑(.no,jk ss rs),⇑(.no,jk ss rs'),⇑(.no,P),⇑(.no,stn S),⇑(.no,stn T),⇑(.rt,xY kv),l6,l7,⇑(.rt,.lst F),l9,i9] aa
inductive BhD (ss:List Str)(rs rs':List D)(P:D)(S T:Sn)(own:Nat)(kv:List Int)(z1:List Str)(z:Str):En->List D->Prop
 |mk (c1 c2:List Int) (F:List D) {l6 l7 i9:Option Sd} {aa:List D} (h1:kv++[(own:Int)]=c1++c2) (h2:aa=c2.map D.int) (h3:Fnd ss rs rs' P own F) (h4:F.length<=7*z1.length+c1.length) (h5:∀z∈z1,∀i:Int,0<=i->i<=own->qz ss rs rs' P z i∈F) (h6:∀c∈c1,qz ss rs rs' P z c∈F):BhD ss rs rs' P S T own kv z1 z [⇑(.no,jk ss rs),⇑(.no,jk ss rs'),⇑(.no,P),⇑(.no,stn S),⇑(.no,stn T),⇑(.rt,xY kv),l6,l7,⇑(.rt,.lst F),⇑(.no,.str z),i9] aa
def _pG{one c9 P S T st U ns kv l7 aa}(ba:st=stn U)(hk:Kn ns kv)(hb:ns.length+(nms U).length<=100)(hn:∀ma l7',Kn (ns++nms U) ma->BhA one c9 P S T [⇑(.no,one),⇑(.no,c9),⇑(.no,P),⇑(.no,stn S),⇑(.no,stn T),⇑(.rt,xY ma),⇑(.no,st),l7',none,none,none] aa){C R}:
  Po (sIf (tE (cF2 (f2First fNotNon) (vV 6) (vE (cC .non)))) (kQ (itS (cH (j9 (vV 6) (C9 1)))) (.n 7) (_lB 5 (vV 7) (cC (.bl true)))) k5 [⇑(.no,one),⇑(.no,c9),⇑(.no,P),⇑(.no,stn S),⇑(.no,stn T),⇑(.rt,xY kv),⇑(.no,st),l7,none,none,none]) (λE2=>BhA one c9 P S T E2 aa) C R noX:=by
 cases U with
 | none=>
  subst ba;simp![];exact hn kv l7 (by rw[show nms none=[]from rfl,Xv];exact hk)
 | some x=>
  have ba:st=.tup [.int x.1,.tup _]:=ba;subst ba;have hnm:nms ⇑x=x.2:=rfl;have hnn:fNotNon (.tup [.tup (x.2.map D.int)])=⇑_:=rfl;have h1:jQ (.tup [.int x.1,.tup _]) (.int 1)=⇑(.tup (x.2.map D.int)):=rfl;simp![hnn];refine qQ (BhB one c9 P S T (.tup [.int x.1,.tup (x.2.map D.int)]) ns x.2) ?_ ?_ ?_
  ·simp![h1];exact#[[],x.2,kv,by rw[Xv];exact hk,rfl,rfl]
  ·rintro E d ds ⟨m1,m2,kv,hk,hm,hr⟩;cases m2 with
   | nil=>cases hr
   | cons c m2=>
    injection hr with e1 e2;subst e1 e2;simp![];refine _pr ?_;simp![];refine#[rfl,kv,c,rfl,rfl,?_,?_]
    ·have:=hk.2.2
     grind
    ·exact#[m1++[c],m2,Jq kv c,by rw[<-Xs];exact hk.put c,by rw[hm];simp,rfl]
  ·rintro E ⟨m1,m2,kv,hk,hm,hr⟩;have ur:m2=[]:=by cases m2 with|nil=>rfl|cons=>cases hr
   subst ur;rw[Xv]at hm;subst hm;exact hn kv _ hk
def _pH z P i:KZ (qz ss rs rs' P z i):=#[_,_,_,rfl]
def _pI {p q:Int} {sh} (hs:ss.length<=3) (hP:Prs kps ss.length rs) (hk:Abk kps) (aq:Prs a9 ss.length rs') (ak:Abk a9) (we:-1<=p) (vt:p<kps.length) (xg:-1<=q) (ug:q<a9.length) (gw:∀x∈sh,0<=x.1/\x.1<kpF rs p) (iu:sh.length<=3):
  Oo m__law_behind_all [(.no,jk ss rs),(.no,jk ss rs'),(.no,.tup [.int p,.int q,.tup (prs sh)])] (λy=>∃F,y=(.rt,.lst F)/\Fnd ss rs rs' (.tup [.int p,.int q,.tup (prs sh)]) (pO rs rs' (.tup [.int p,.int q,.tup (prs sh)])) F/\F.length<=21/\∀z∈ss,∀i:Int,0<=i->i<=pO rs rs' (.tup [.int p,.int q,.tup (prs sh)])->qz ss rs rs' (.tup [.int p,.int q,.tup (prs sh)]) z i∈F) noX:=by
 obtain ⟨a,_,c,d,_⟩:=wZ hP hk we vt;obtain ⟨a',_,c',d',_⟩:=wZ aq ak xg ug;have rf:Pok kps a9 (.tup [.int p,.int q,.tup (prs sh)]):=#[p,q,sh,rfl,we,vt,xg,ug,iu];have hS:=Wj hP hk rf;have hT:=WJ (rs:=rs) aq ak rf;have hO:=_ov hP hk aq ak rf;have lS:=zj hk hS;have lT:=zj ak hT;have hfi:Oo m__law_firsts [(.no,jk ss rs),(.no,jk ss rs'),(.no,.tup [.int p,.int q,.tup (prs sh)])] (λy=>y=(.rt,.lst [stn (pS rs (.tup [.int p,.int q,.tup (prs sh)])),stn (pT rs rs' (.tup [.int p,.int q,.tup (prs sh)]))])) noX:=by
  have:=_pq (ss:=ss) a a' c ⋯ c' ⋯ gw ⋯
  rwa [show pT rs rs' (.tup [.int p,.int q,.tup (prs sh)])=JJ q (kpF rs p) (kpF rs' q) sh by show JJ q _ _ (Q1 (prs sh))=_;rw[JY]]
 have hkn:∀x,x∈nms (pS rs (.tup [.int p,.int q,.tup (prs sh)]))++nms (pT rs rs' (.tup [.int p,.int q,.tup (prs sh)]))↔x∈kX (pO rs rs' (.tup [.int p,.int q,.tup (prs sh)])):=λx=>by
  have e1:nms (pS rs (.tup [.int p,.int q,.tup (prs sh)]))=kX (kpF rs p):=YW λh=>by
   rcases a with⟨_,e⟩|⟨e,_⟩
   ·rw [e];rfl
   ·lia
  have e2:nms (pT rs rs' (.tup [.int p,.int q,.tup (prs sh)]))=nmF (kpF rs p) (kvS sh) (kpF rs' q).toNat:=by
   show nms (JJ q _ _ (Q1 (prs sh)))=_;rw [JY];refine YW λh=>?_
   rcases a' with⟨_,e⟩|⟨e,_⟩
   ·rw [e];rfl
   ·lia
  have e3:kX (pO rs rs' (.tup [.int p,.int q,.tup (prs sh)]))=qv (kX (kpF rs p)) (nmF (kpF rs p) (kvS sh) (kpF rs' q).toNat):=by
   rw [_oO c (_pp gw)];unfold pO;rw [e1,e2]
  rw [e1,e2,e3];unfold qv;rw [List.mem_append,List.mem_append,List.mem_filter];constructor
  ·rintro (h|h)
   ·exact .inl h
   ·by_cases hx:x∈kX (kpF rs p)
    ·exact .inl hx
    ·refine .inr #[h,?_];rw [Bool.not_eq_true',List.any_eq_false]
     grind
  ·rintro (h|h)
   ·exact .inl h
   ·exact .inr h.1
 have ba:∀z i,qz ss rs rs' (.tup [.int p,.int q,.tup (prs sh)]) z i=v9 (rdF ss rs (pS rs (.tup [.int p,.int q,.tup (prs sh)])) z i) (rdF ss rs' (pT rs rs' (.tup [.int p,.int q,.tup (prs sh)])) z i):=λ_ _=>rfl
 generalize D.tup [.int p,.int q,.tup (prs sh)]=P at *;generalize pO rs rs' P=own at *;generalize pS rs P=S at *;generalize pT rs rs' P=T at *;unfold m__law_behind_all;refine k6 ?_;simp![];refine hfi.via ?_;rintro _ rfl;simp![↓_ps];refine qQ (BhA (jk ss rs) (jk ss rs') P S T) ?_ ?_ ?_
 ·simp![];exact #[[],[],#[Xp,λx=>Iff.rfl,Xd _],.inl #[rfl,rfl]]
 ·rintro E d ds ⟨ns,kv,h,⟨h1,rfl⟩|⟨h1,rfl⟩|⟨h1,_⟩⟩
  ·injection h1 with e1 e2;subst e1 e2;generalize hB:sIf _ _ _=Bd;simp![];subst hB;exact _pG (U:=S) rfl h (by simp;lia) λma l7' hk=>#[_,ma,hk,.inr (.inl #[rfl,rfl])]
  ·injection h1 with e1 e2;subst e1 e2;generalize hB:sIf _ _ _=Bd;simp![];subst hB;exact _pG (U:=T) rfl h ⋯ λma l7' hk=>#[_,ma,hk,.inr (.inr #[rfl,rfl])]
  ·cases h1
 ·rintro E ⟨ns,kv,h,⟨h1,_⟩|⟨h1,_⟩|⟨_,rfl⟩⟩
  ·cases h1
  ·cases h1
  ·obtain⟨oh,tz⟩:=_pE h hkn;have q0:∀a b,jQ (.tup [a,b]) (.int 0)=⇑a:=λ_ _=>rfl
   simp![];refine qQ (BhC ss rs rs' P S T own kv) ?_ ?_ ?_
   ·simp![q0];exact#[[],ss,[],rfl,rfl,#[Xp,nofun],Y1 _,nofun]
   ·rintro E d ds ⟨z1,z2,F,hz,hr,hF,hl,hm⟩;cases z2 with
    | nil=>cases hr
    | cons z z2=>
     rw [List.map_cons]at hr;injection hr with e1 e2;subst e1 e2;have vo:z∈ss:=by rw[hz];simp
     have hza:(ss.any λw=>w==z)=true:=List.any_eq_true.mpr #[z,vo,by simp];have hzl:z1.length<=3:=by
      grind
     have gu:kq (.no,.lst (kv.map D.int)) (.no,.lst [.int kv.length])=⇑(.rt,.lst ((kv++[(own:Int)]).map D.int)):=by
      rw [X7,oh];exact _md ⋯ ⋯ (by rw[X4];simp;lia)
     simp![];refine qQ (BhD ss rs rs' P S T own kv z1 z) ?_ ?_ ?_
     ·simp![_pt,_pu,gu];exact#[[],_,F,rfl,rfl,hF,hl,hm,nofun]
     ·rintro E d ds ⟨c1,c2,F,hc,hr,hF,hl,hm,hn⟩;cases c2 with
      | nil=>cases hr
      | cons c c2=>
       rw[List.map_cons]at hr;injection hr with e1 e2;subst e1 e2;have hcm:0<=c/\c<=own:=by
        have:c∈kv++[(own:Int)]:=by rw[hc];simp
        rcases aA this with h|h
        ·have:=(tz c).mp h;lia
        ·rw[aC h];lia
       have f7:c1.length<8:=by
        have:=congrArg List.length hc;simp at this;lia
       obtain⟨r1,r2⟩:=x8 z c hP hk hS;obtain⟨xb,r2'⟩:=x8 z c aq ak hT;have l1:=zj hk r2;have l2:=zj ak r2';simp![];refine(_oh hP hS hza r1).via ?_;rintro ⟨o1,d1⟩ e;cases(show d1=_ from e);simp![];refine(_oh aq hT hza xb).via ?_;rintro ⟨o2,d2⟩ e;cases(show d2=_ from e);simp![];refine(_nM (rdF ss rs S z c) (rdF ss rs' T z c) ⋯ ⋯).via ?_;rintro _ rfl;rw[<-ba]
       by_cases ff:qz ss rs rs' P z c∈F
       ·have sk:zZ (qz ss rs rs' P z c) (.lst F)=⇑(.bl false):=by rw[_pA (_pH z P c) (_pF hF),Xg ff];rfl
        simp![sk];refine#[c1++[c],c2,F,by rw[hc];simp,rfl,hF,by simp;lia,hm,λx hx=>?_];rcases aA hx with h|h
        ·exact hn x h
        ·rw[aC h];exact ff
       ·have sk:zZ (qz ss rs rs' P z c) (.lst F)=⇑(.bl true):=by rw[_pA (_pH z P c) (_pF hF),Xl ff];rfl
        simp![sk];refine xJ rfl ?_;simp![];refine#[_,rfl,⋯,(#[c1++[c],c2,F++[qz ss rs rs' P z c],by rw[hc];simp,rfl,#[?_,λx hx=>?_],by simp;lia,λz hz i i0 i1=>_ac _ (hm z hz i i0 i1),λx hx=>?_])]
        ·exact List.nodup_append.mpr #[hF.1,by simp,λx hx y hy e=>ff (by rw[<-aC hy,<-e];exact hx)]
        ·rcases aA hx with h|h
         ·exact hF.2 x h
         ·exact#[z,vo,c,hcm.1,hcm.2,aC h]
        ·rcases aA hx with h|h
         ·exact _ac _ (hn x h)
         ·rw[aC h];simp
     ·rintro E ⟨c1,c2,F,hc,hr,hF,hl,hm,hn⟩;have ph:c2=[]:=by cases c2 with|nil=>rfl|cons=>cases hr
      subst ph;rw[Xv]at hc;refine#[z1++[z],z2,F,by rw[hz];simp,rfl,hF,?_,λy hy i i0 i1=>?_]
      ·rw[<-hc]at hl;simp at hl ⊢;lia
      ·rcases aA hy with h|h
       ·exact hm y h i i0 i1
       ·rw[aC h];refine hn i ?_;rw[<-hc]
        by_cases hi:i<own
        ·exact _ac _ ((tz i).mpr #[i0,hi])
        ·exact _ab _ (aB ⋯)
   ·rintro E ⟨z1,z2,F,hz,hr,hF,hl,hm⟩;have hz2:z2=[]:=by cases z2 with|nil=>rfl|cons=>cases hr
    subst hz2;rw[Xv]at hz;subst hz;simp![];exact#[F,rfl,hF,⋯,hm]
end
def AllJ:List (List (Int×Int)):=AllS.filter λl=>decide (l.map (·.2)).Nodup
def rmQ:List Int:=[-1,0,1,2,3,4,5,6,7,8,9,10,11]
def AllQ:List D:=rmQ.flatMap λp=>rmQ.flatMap λq=>AllJ.map λs=>.tup [.int p,.int q,.tup (prs s)]
def _pJ:AllJ.length=34:=by decide +kernel
def _pK:AllQ.length=5746:=by
 unfold AllQ;rw[_o4 (n:=442)]
 ·rfl
 ·intro p _;rw[_o4 (n:=34)]
  ·rfl
  ·intro q _;rw[X4,_pJ]
def _pL{p}(h0:-1<=p)(h1:p<12):p∈rmQ:=by
 have:p=-1\/p=0\/p=1\/p=2\/p=3\/p=4\/p=5\/p=6\/p=7\/p=8\/p=9\/p=10\/p=11:=⋯
 simpa [rmQ]using this
#where in
def _pM{t}:∀{o k},o.Nodup->((jX t k o).map (·.2)).Nodup
 | [],k,_=>Xp
 | n::o,k,h=>by
  rw[Yn]at h;have ih:=_pM (t:=t) (k:=k+1) h.2;have e:jX t k (n::o)=if _=true then _::jX t _ o else jX t _ o:=rfl
  rw[e]
  split
  ·rename_i ha;rw[V2]at ha;rw[List.map_cons,Yn];refine#[λhm=>?_,ih];obtain⟨⟨i,j⟩,hx,ej⟩:=aE hm;obtain⟨m,x,_,h2,h3,h4⟩:=_oI hx;have g2:=WY h3;rw[show(t.findIdx λw=>w==x)=(t.findIdx λw=>w==n)by lia,(WY (Yo ha))]at g2;exact h.1 (_aa g2▸Yu h2)
  ·exact ih
def _pN{l:List Int}{f:Int->Int}(h:(l.map f).Nodup):l.Nodup:=(List.pairwise_map.mp h).imp λbh e=>bh (congrArg f e)
section
variable {kps a9:List Int}{ss:List Str}{rs rs':List D}
def Pk(rs:List D)(P:D):Prop:=∃(p q:Int) (sh:List (Int×Int)),P=.tup [.int p,.int q,.tup (prs sh)]/\∀x∈sh,0<=x.1/\x.1<kpF rs p
def _pO(t):∀o (k) x,x∈jX t k o->(k)<=x.1/\x.1<k+o.length
 | [],_,_,h=>nomatch h
 | n::o,k,x,h=>by
  have ih:=_pO t o (k+1) x;unfold jX at h;rw[Xm]
  split at h
  ·rcases aD h with rfl|h
   ·grind
   ·grind
  ·grind
structure Pin (kps a9:List Int)(rs rs':List D)(P:D):Prop where
 ok:Pok kps a9 P
 pk:Pk rs P
 two:Two kps a9 (pS rs P) (pT rs rs' P)
 rl:Rl rs rs' P (pS rs P) (pT rs rs' P)
def _pP s:vK id s=s:=by
 cases s with|none=>rfl|some x=>exact congrArg some (Prod.ext rfl (List.map_id _))
def _pQ{a b}(hP:Prs kps ss.length rs)(hk:Abk kps)(aq:Prs a9 ss.length rs')(ak:Abk a9)(t:Two kps a9 a b):Pin kps a9 rs rs' (v9 a b):=by
 have hok:=_ox t.a t.b hk;obtain⟨f,e1,e2,hi,hr⟩:=_oR hP hk aq ak t.a t.b t.na t.nb;have na:=t.na;have nb:=t.nb;rw[e1,_nq]at na;rw[e2,_nq]at nb;refine#[hok,#[_,_,_,rfl,λx hx=>?_],#[Wj hP hk hok,WJ aq ak hok,_pN na,_pN nb],id,(_pP _).symm,(_pP _).symm,λ_ _ _ _ e=>e,hr];have h:=_pO _ _ _ _ hx;have:=_oP hP hk t.a
 grind
def _pR{a b}(o8:kps.length<=12)(jp:a9.length<=12)(hk:Abk kps)(ak:Abk a9)(t:Two kps a9 a b):v9 a b∈AllQ:=by
 obtain⟨a0,a1⟩:=_oj t.a;obtain⟨b0,b1⟩:=_oj t.b;exact List.mem_flatMap.mpr #[_,_pL a0 ⋯,List.mem_flatMap.mpr #[_,_pL b0 ⋯,List.mem_map.mpr #[_,List.mem_filter.mpr #[_o7 (zj ak t.b) (zj hk t.a),Xg (_pM t.na)],rfl]]]
def V8{d}(h:Pin kps a9 rs rs' d):qZ d=true/\d.pure=true:=by
 obtain⟨p,q,sh,rfl,_⟩:=h.ok;refine#[_or _ _ _,?_];have:D.pures (prs sh)=true:=D.pures_map _ _ λx _=>rfl
 show(true&&(true&&(D.pures _&&true)))=true;rw[this];rfl
def _pS{own kv x}(hv:∀j i,jV kv j=⇑i->0<=i/\i<own):∀{n},x∈nmF own kv n->x<own->∃j,j<n/\jV kv j=⇑x
 | 0,h,_=>nomatch h
 | n+1,h,hx=>by
  cases hvn:jV kv n with
  | some i=>
   rw[Kz hvn]at h;rcases aA h with h|h
   ·obtain⟨j,hj,e⟩:=_pS hv h hx;exact#[j,⋯,e]
   ·rw[aC h];exact#[n,⋯,hvn]
  | none=>
   rw[KW hvn]at h;rcases aA h with h|h
   ·obtain⟨j,hj,e⟩:=_pS hv h hx;exact#[j,⋯,e]
   ·have:=aC h;lia
def _pT:∀{sh:List (Int×Int)} {i j j'},(sh.map (·.1)).Nodup->(i,j)∈sh->(i,j')∈sh->j=j'
 | [],_,_,_,_,m,_=>nomatch m
 | x::sh,i,j,j',h,m1,m2=>by
  rw[List.map_cons,Yn]at h;have up:∀{j},(i,j)∈sh->x.1≠i:=λm e=>h.1 (e▸List.mem_map.mpr #[_,m,rfl])
  rcases aD m1 with e1|n1
  ·grind
  ·rcases aD m2 with e2|n2
   ·exact absurd (by rw[<-e2]) (up n1)
   ·exact _pT h.2 n1 n2
def _pU{own k' sh}(ho:0<=own)(h:_nQ own k' sh):∀n,(nmF own (kvS sh) n).Nodup
 | 0=>Xp
 | n+1=>by
  have hv:=_pp λp hp=>#[(h.1 p hp).1,(h.1 p hp).2.1]
  have ih:=_pU ho h n;cases hvn:jV _ n with
  |some i=>
   rw[Kz hvn];refine List.nodup_append.mpr #[ih,by simp,λx hx y hy e=>?_];rw[aC hy]at e;subst e;obtain⟨j,hj,e⟩:=_pS hv hx (hv _ _ hvn).2;have:=_pT h.2.1 (_n8 hvn) (_n8 e);lia
  |none=>
   rw[KW hvn];refine List.nodup_append.mpr #[ih,by simp,λx hx y hy e=>?_];rw[aC hy]at e;have:=(ZV ho hv n x hx).2;lia
def _pV{p q:Int}{sh}(hP:Prs kps ss.length rs)(hk:Abk kps)(aq:Prs a9 ss.length rs')(ak:Abk a9)(we:-1<=p)(vt:p<kps.length)(xg:-1<=q)(ug:q<a9.length)(gw:_nQ (kpF rs p) (kpF rs' q) sh)(iu:sh.length<=3):Pin kps a9 rs rs' (.tup [.int p,.int q,.tup (prs sh)]):=by
 obtain⟨a,_,c,d,_⟩:=wZ hP hk we vt;obtain⟨a',_,c',d',_⟩:=wZ aq ak xg ug;have hok:Pok kps a9 _:=#[p,q,sh,rfl,we,vt,xg,ug,iu];have e1:nms (pS rs (.tup [.int p,.int q,.tup (prs sh)]))=kX _:=YW λh=>by
  rcases a with⟨_,e⟩|⟨e,_⟩
  ·rw[e];rfl
  ·lia
 have e2:nms (pT rs rs' (.tup [.int p,.int q,.tup (prs sh)]))=nmF (kpF rs p) (kvS sh) (kpF rs' q).toNat:=by
  show nms (JJ q _ _ _)=_;rw[JY];refine YW λh=>?_
  rcases a' with⟨_,e⟩|⟨e,_⟩
  ·rw[e];rfl
  ·lia
 have hr:hp rs rs' (.tup [.int p,.int q,.tup (prs sh)])=kX (pO rs rs' (.tup [.int p,.int q,.tup (prs sh)])):=by
  unfold pO hp;rw[e1,e2];exact _oO c (_pp λp hp=>#[(gw.1 p hp).1,(gw.1 p hp).2.1])
 refine#[hok,#[p,q,sh,rfl,λx hx=>#[(gw.1 x hx).1,(gw.1 x hx).2.1]],#[Wj hP hk hok,WJ aq ak hok,?_,?_],id,(_pP _).symm,(_pP _).symm,λ_ _ _ _ e=>e,hr]
 ·rw[e1];exact List.pairwise_map.mpr (List.nodup_range.imp λh e=>h ⋯)
 ·rw[e2];exact _pU c gw _
def gp(ss:List Str)(rs rs':List D)(a b:Sn)(w:List (Str×Int)):Prop:=gdF rs (rmO (run ss rs a w))=gdF rs' (rmO (run ss rs' b w))
def Dn(ss:List Str)(rs rs':List D)(K:List D)(rk:D->Nat)(p:D):Prop:=gS rs p=gT rs' p/\∀z∈ss,∀i:Int,0<=i->i<=pO rs rs' p->qz ss rs rs' p z i∈K/\rk (qz ss rs rs' p z i)<=rk p+1
#where in
def _pW{K rk n}(hP:Prs kps ss.length rs)(hk:Abk kps)(aq:Prs a9 ss.length rs')(ak:Abk a9)(hpk:∀p∈K,Pok kps a9 p)(hK:∀p∈K,rk p<n->Dn ss rs rs' K rk p):
  ∀w {P a b},(∀x∈w,x.1∈ss)->P∈K->rk P+w.length<n->Two kps a9 a b->Rl rs rs' P a b->gp ss rs rs' a b w
 |[],P,a,b,_,mh,hn,_,h=>by
  obtain⟨g1,g2⟩:=_o1 (hpk P mh) h;show gdF rs (rmO a)=gdF rs' (rmO b);rw[g1,g2,(hK P mh (~~~hn)).1]
 |x::w,P,a,b,hw,mh,hn,ht,h=>by
  rw[Xm]at hn;obtain⟨_,h3⟩:=hK P mh ⋯;obtain⟨i,i0,i1,hl⟩:=_o0 x.2 h;obtain⟨g1,g2⟩:=h3 x.1 (hw x X5) i i0 i1;exact _pW hP hk aq ak hpk hK w (λy hy=>hw y (_ad _ hy)) g1 ⋯ (ht.next x.1 x.2 hP hk aq ak) (_oZ hP hk aq ak (hpk P mh) ht h hl)
end
def _pX{a x}:∀{l},x∈zX a l->x=a\/x∈l
 | [],h=>.inl (aC h)
 | b::l,h=>by
  unfold zX at h
  split at h
  ·rcases aD h with rfl|h
   ·exact .inr X5
   ·exact(_pX h).imp id λh=>_ad _ h
  ·exact aD h
def _pY{x}:∀{l},x∈x5 l->x∈l
 |[],h=>nomatch h|a::l,h=>(_pX h).elim (λe=>e▸X5) λh=>_ad _ (_pY h)
def _pZ{x}:∀(l ac:List Str),x∈l.foldl (λl k=>if l.any (· == k)then l else l++[k]) ac->x∈ac\/x∈l
 | [],ac,h=>.inl h
 | a::l,ac,h=>by
  rw[Yz]at h;rcases _pZ l _ h with h|h
  ·split at h
   ·exact .inl h
   ·rcases aA h with h|h
    ·exact .inl h
    ·exact .inr (aC h▸X5)
  ·exact .inr (_ad _ h)
section
variable {kps a9:List Int}{ss:List Str}{rs rs':List D}
def Stp(ss:List Str)(rs rs':List D)(P:D)(L:List (Str×Int×D)):Prop:=∀x∈L,x.1∈ss/\0<=x.2.1/\x.2.1<=pO rs rs' P/\x.2.2=qz ss rs rs' P x.1 x.2.1
inductive FrA (kps a9:List Int)(ss:List Str)(rs rs':List D)(P:D)(S T:Sn)(own:Nat)(zz:List Str):En->List D->Prop
 |mk (L:St3) (zs:List Str) {o4:Own} {l6:Option Sd} {l7:Option Sd} {aa:List D} (h0:o4≠.dp) (h1:aa=zs.map D.str) (h2:zs.length<=6/\∀z∈zs,z∈ss) (h3:L.length+zs.length*7<=42) (h4:(∀x∈L,x.1∈ss/\0<=x.2.1/\x.2.1<=own/\x.2.2=qz ss rs rs' P x.1 x.2.1)) (h5:∀z∈zz,z∈zs\/∀i:Int,0<=i->i<=own->(z,i,qz ss rs rs' P z i)∈L):FrA kps a9 ss rs rs' P S T own zz [⇑(.no,jk ss rs),⇑(.no,jk ss rs'),⇑(.no,P),⇑(.no,lat (S,T)),⇑(o4,.lst (k4 0 ((own:Int)+1))),⇑(.rt,.lst (L.map stD)),l6,l7] aa
inductive FrB (kps a9:List Int)(ss:List Str)(rs rs':List D)(P:D)(S T:Sn)(own:Nat)(z:Str)(L:St3):En->List D->Prop
 |mk (L2:St3) (pre:List D) {l7:Option Sd} {aa:List D} (h0:k4 0 ((own:Int)+1)=pre++aa) (h1:L2.length=L.length+pre.length) (h2:(∀x∈L2,x.1∈ss/\0<=x.2.1/\x.2.1<=own/\x.2.2=qz ss rs rs' P x.1 x.2.1)) (h3:(∀x∈L,x∈L2)) (h4:∀c:Int,D.int c∈pre->(z,c,qz ss rs rs' P z c)∈L2):FrB kps a9 ss rs rs' P S T own z L [⇑(.no,jk ss rs),⇑(.no,jk ss rs'),⇑(.no,P),⇑(.no,lat (S,T)),⇑(.no,.lst (k4 0 ((own:Int)+1))),⇑(.rt,.lst (L2.map stD)),⇑(.no,.str z),l7] aa
def _p0{P}(hs:ss.length<=3)(hP:Prs kps ss.length rs)(hk:Abk kps)(aq:Prs a9 ss.length rs')(ak:Abk a9)(h:Pok kps a9 P):
  Oo m_steps_from [(.no,jk ss rs),(.no,jk ss rs'),(.no,P)] (λy=>∃L,y=(.rt,.lst (L.map stD))/\Stp ss rs rs' P L/\∀z∈ss,∀i:Int,0<=i->i<=pO rs rs' P->(z,i,qz ss rs rs' P z i)∈L) noX:=by
 have hS:=Wj hP hk h;have hT:=WJ (rs:=rs) aq ak h;have hO:=_ov hP hk aq ak h;have lS:=zj hk hS;have lT:=zj ak hT;have mq:((qv (nms (pS rs P)) (nms (pT rs rs' P))).length:Int)=(pO rs rs' P):=rfl;have q0:∀a b,jQ (.tup [a,b]) (.int 0)=⇑a:=λ_ _=>rfl
 refine k6 ?_;simp![];refine(_ou hP hk aq ak h).via ?_;intro y hy;subst hy;simp![];refine(_ng (pS rs P) (pT rs rs' P) ⋯ ⋯).via ?_;intro y hy;subst hy;simp![mq];have ba:∀z i,qz ss rs rs' P z i=v9 (rdF ss rs (pS rs P) z i) (rdF ss rs' (pT rs rs' P) z i):=λ_ _=>rfl
 unfold Stp;generalize pO rs rs' P=own at *;generalize pS rs P=S at *;generalize pT rs rs' P=T at *;have hss:∀o,ZJ (o,.lst (ss.map D.str++ss.map D.str))=⇑(.rt,.lst ((x5 (ddS (ss++ss))).map D.str)):=λo=>by
  rw [<-X7];unfold ZJ;dsimp only;rw [_mT];dsimp only;rw [Xb (by rw[Xe];lia)]
 have hzl:(x5 (ddS (ss++ss))).length<=6:=by
  rw [U.sortS_len];have:=_o9 (ss++ss) [];show(ddS (ss++ss)).length<=6;unfold ddS
  grind
 have hzr:∀z∈x5 (ddS (ss++ss)),z∈ss:=λz hz=>by
  have:=_pZ _ _ (_pY hz)
  simpa using this
 have vo:∀z∈ss,z∈x5 (ddS (ss++ss)):=λz hz=>_pb (_pc _ _ (.inr (_ac _ hz)))
 generalize x5 (ddS (ss++ss))=zz at hss hzl vo hzr;have gu:kq (.no,sL ss) (.no,sL ss)=⇑(.rt,.lst (ss.map D.str++ss.map D.str)):=_md ⋯ ⋯ (by rw[X4];lia);have ln:(k4 0 ((own)+1)).length=own+1:=by unfold k4;rw[X4,Y7];lia
 refine qQ (FrA kps a9 ss rs rs' P S T own zz) ?_ ?_ ?_
 ·simp![q0,gu,hss];exact .mk [] zz ⋯ rfl #[hzl,hzr] (by rw[List.length_nil];lia) (nofun) λz hz=>.inl hz
 ·rintro E d ds ⟨L,zs,ho4,be,⟨hz6,hzs⟩,hl,hL,hM⟩;cases zs with
  | nil=>cases be
  | cons z zs=>
   rw [List.map_cons]at be;injection be with e1 e2;subst e1 e2;rw [Xm]at hz6 hl;simp![];refine qQ (FrB kps a9 ss rs rs' P S T own z L) ?_ ?_ ?_
   ·simp![];exact#[L,[],rfl,rfl,hL,λ_ h=>h,nofun]
   ·rintro E d ds ⟨L2,pre,hpr,hl2,mw,hLL,hM2⟩;obtain⟨c,c0,c1,rfl⟩:=_mP (show d∈k4 0 ((own)+1)by rw[hpr];simp);have ae:=congrArg List.length hpr;rw[ln,Xe,Xm]at ae;obtain⟨r1,r2⟩:=x8 z c hP hk hS;obtain⟨xb,r2'⟩:=x8 z c aq ak hT;simp![];refine xJ rfl ?_;simp![];refine(_ne (w:=(z,c)) r1 xb).via ?_;intro y hy;subst hy;simp![];have l1:=zj hk r2;have l2:=zj ak r2';refine(_nh (rdF ss rs S z c) (rdF ss rs' T z c) ⋯ ⋯).via ?_;intro y hy;subst hy;simp![];have e5:(L2++[(z,c,v9 (rdF ss rs S z c) (rdF ss rs' T z c))]).map stD=L2.map stD++[stD (z,c,v9 (rdF ss rs S z c) (rdF ss rs' T z c))]:=by rw[X7];rfl
    refine#[_,rfl,by rw[X4];lia,?_];rw[<-e5];refine .mk (L2++[(z,c,v9 (rdF ss rs S z c) (rdF ss rs' T z c))]) (pre++[.int c]) (by rw[hpr];simp) (by simp;lia) (λx hx=>?_) (λx hx=>_ac _ (hLL x hx)) λc' jl=>?_
    ·rcases aA hx with hx|hx
     ·exact mw x hx
     ·rw[aC hx];exact#[hzs z X5,c0,by show c<=own;lia,(ba z c).symm]
    ·grind
   ·rintro E ⟨L2,pre,hpr,hl2,mw,hLL,hM2⟩;rw[Xv]at hpr;rw[<-hpr,ln]at hl2;refine#[L2,zs,⋯,rfl,#[⋯,λz hz=>hzs z (_ad _ hz)],⋯,mw,λz' iz=>?_];rcases hM z' iz with h|h
    ·rcases aD h with rfl|h
     ·refine .inr λi i0 i1=>hM2 i ?_
      rw[<-hpr];exact List.mem_map.mpr #[i.toNat,List.mem_range.mpr ⋯,by show D.int (0+(i.toNat:Int))=_;congr 1;lia]
     ·exact .inl h
    ·exact .inr λi i0 i1=>hLL _ (h i i0 i1)
 ·rintro E ⟨L,zs,ho4,be,_,hl,hL,hM⟩;cases zs with
  |cons=>cases be
  |nil=>
   simp![];exact#[L,rfl,hL,λz hz=>(hM z (vo z hz)).elim (nofun) id]
end
def _p1 ks:Oo m_least_beside [(.no,iT ks)] (λy=>∃p:Own×Int,y=(p.1,.int p.2)/\p.2∉ks/\0<=p.2/\p.2<=ks.length) noX:=by
 refine k6 ?_;simp![];refine _mm (λn E=>∃(o o1:Own) (i:Int),E=[⇑(o,iT ks),⇑(o1,.int i)]/\n=(ks.filter λx=>decide (i<=x)).length/\0<=i/\∀j,0<=j->j<i->j∈ks) ?_ _ _ #[_,_,0,rfl,rfl,⋯,λj h1 h2=>by lia];rintro n E ⟨o,o1,i,rfl,rfl,i0,hi⟩;cases h:(ks.any λw=>w==i)with
 | true=>
  have e:J1 (.int i) (iT ks)=⇑(.bl true):=by rw[Q8,h]
  have hl:=_pd h;rw[V2]at h;simp![e];refine _mE rfl ?_;simp![];refine#[_,rfl,_,hl,_,_,i+1,rfl,rfl,⋯,λj h1 h2=>?_]
  by_cases e:j=i
  ·rw[e];exact Yo h
  ·exact hi j h1 ⋯
 | false=>
  have e:J1 (.int i) (iT ks)=⇑(.bl false):=by rw[Q8,h]
  simp![e];refine#[(_,i),rfl,λhm=>?_,i0,?_]
  ·rw[V2]at h;exact of_decide_eq_false h hm
  ·have:=_mV (l:=kX i) (List.pairwise_map.mpr (List.nodup_range.imp λh e=>h ⋯)) λx hx=>by
    have:=mem_rngL.mp hx;exact hi x this.1 this.2
   simp at this;lia
section
variable {ss:List Str}{rs rs':List D}{P:D}{rk:D->Nat}
inductive Wy (ss:List Str)(rs rs':List D)(P:D)(rk:D->Nat):U.Kvs->Prop
 |one:rk P=0->Wy ss rs rs' P rk [(P,.non)]
 |more {W:U.Kvs} {k p:D} {z:Str} {i:Int}:Wy ss rs rs' P rk W->k∉W.map (·.1)->p∈W.map (·.1)->z∈ss->0<=i->i<=pO rs rs' p->k=qz ss rs rs' p z i->rk k=rk p+1->Wy ss rs rs' P rk (W++[(k,wyD p z i)])
def Wk(ss:List Str)(rs rs':List D):D->List (Str×Int)->D->Prop
 |P,[],R=>P=R|P,x::L,R=>(x.1∈ss/\0<=x.2/\x.2<=pO rs rs' P)/\Wk ss rs rs' (qz ss rs rs' P x.1 x.2) L R
def Vw(ss:List Str)(rs rs':List D)(P:D)(rk:D->Nat)(ks:List D)(k v:D):Prop:=(v=.non/\k=P/\rk k=0)\/∃p z i,v=wyD p z i/\z∈ss/\0<=i/\i<=pO rs rs' p/\k=qz ss rs rs' p z i/\p∈ks/\rk k=rk p+1
def _p2{rk' W}(h:Wy ss rs rs' P rk W):(∀x∈W.map (·.1),rk' x=rk x)->Wy ss rs rs' P rk' W:=by
 induction h with
 |one h=>exact λhx=>.one (hx P (aB rfl)▸h)
 |@more W k p z i hW hk hp hz hi hi2 ba hr ih=>
  intro hx;rw[X7]at hx;refine .more (ih λx h=>hx x (_ac _ h)) hk hp hz hi hi2 ba ?_
  rwa [hx k (_ab _ (aB rfl)),hx p (_ac _ hp)]
def _p3{W}(h:Wy ss rs rs' P rk W):∀k∈W.map (·.1),∃v,xZ W k=⇑v/\Vw ss rs rs' P rk (W.map (·.1)) k v:=by
 induction h with
 | one h=>
  intro k hk;have hk:=aC hk;subst hk;exact#[.non,by simp[xZ],.inl #[rfl,rfl,h]]
 | @more W k p z i hW hk hp hz hi hi2 ba hr ih=>
  intro x hx;rw[X7]at hx ⊢;rcases aA hx with hx|hx
  ·obtain⟨v,b,c⟩:=ih x hx;refine#[v,by rw[_pe,Xb hx,b],c.imp id ?_];rintro ⟨p',z',i',e,h0,h1,h2,h3,lx,hr⟩;exact#[p',z',i',e,h0,h1,h2,h3,_ac _ lx,hr]
  ·have hx:=aC hx;subst hx;exact#[_,by rw[_pe,Xj hk,Xb rfl],.inr #[p,z,i,rfl,hz,hi,hi2,ba,_ac _ hp,hr]]
def _p4{W}(h:Wy ss rs rs' P rk W):(∀k∈W.map (·.1),D.pure k=true)->D.pures (W.map (·.2))=true:=by
 induction h with
 |one=>intro _;rfl
 |@more W k p z i hW hk hp _ hi _ _ _ ih=>
  intro lx;rw[X7,D.pures_all,List.all_append,<-D.pures_all,(ih λx hx=>lx x (by rw[X7];exact List.mem_append.mpr (.inl hx)))];show((D.pure p&&_)&&true)=true;rw[(lx p (by rw[X7];exact List.mem_append.mpr (.inl hp)))];rfl
def _p5{W k}(hW:Wy ss rs rs' P rk W)(hu:unm W=true)(hK:∀k∈W.map (·.1),qZ k=true/\D.pure k=true)(hl:rk k<=6000)(hk:k∈W.map (·.1)):
  Oo m_steps_to [(.no,.dct W),(.no,k)] (λy=>∃L,y=(.rt,.lst (L.map rwI))/\L.length=rk k/\Wk ss rs rs' P L k) noX:=by
 have hr:=_p3 hW;have l0:=_p4 hW λk hk=>(hK k hk).2
 have jg:∀x∈W.map _,_lc (.dct W) x=xZ W x:=λx hx=>Xb #[(hK x hx).1,hu,l0]
 obtain⟨v,b,c⟩:=hr k hk;refine k6 ?_;simp![↓_o3,jg k hk,b,_pg b l0];refine _mm (λn E=>∃(v x:D) (L:List _),E=[⇑_,⇑_,⇑(.rt,.lst (L.map rwI)),⇑(.dp,v)]/\Vw ss rs rs' P rk (W.map (·.1)) x v/\n=rk x/\L.length+rk x=rk k/\Wk ss rs rs' x L.reverse k) ?_ _ _ #[v,k,[],rfl,c,rfl,by simp,rfl];rintro n E ⟨v,x,L,rfl,hv,rfl,hL,hx⟩;rcases hv with⟨rfl,rfl,h0⟩|⟨p,z,i,rfl,hz,h0,h1,h2,hp,sx⟩
 ·simp![];rw[_pf ⋯];simp![];exact#[L.reverse,by rw[List.map_reverse],by rw[List.length_reverse];omega,hx]
 ·obtain⟨v',b,c⟩:=hr p hp;simp![];refine xJ rfl ?_;simp![t1,t2];refine#[_,rfl,by rw[X4];omega,?_];simp![↓_o3,t0,jg p hp,b,_pg b l0];refine#[rk p,by omega,v',p,L++[(z,i)],by rw[X7];rfl,c,rfl,by rw[Xe,Y9];omega,?_];rw[List.reverse_append];exact#[#[hz,h0,h1],h2▸hx]
end
section
variable {kps a9:List Int}{ss:List Str}{rs rs':List D}
def mxF(kps:List Int):Int:=kps.max?.getD 0
def _p6{kps p}(h:p∈kps):p<=mxF kps:=by
 unfold mxF;cases e:kps.max? with|none=>grind|some M=>exact(List.max?_eq_some_iff.mp e).2 p h
def _p7{S}(hk:Abk kps)(h0:1<=kps.length)(h:qk kps S):((nms S).length:Int)<=mxF kps:=by
 cases S with
 |none=>
  have:=_p6 (Xn (l:=kps) (n:=0) ⋯);have:=(hk _ (Xn (n:=0) ⋯)).1;show 0<=_;lia
 |some x=>
  obtain⟨a,b,c⟩:=h x.1 x.2 rfl;have hm:kps.getD x.1.toNat 0∈kps:=by rw[X2,X1 ⋯];exact Xn _
  have:=_p6 hm;show(x.2.length:Int)<=_;lia
def Nb(kps a9:List Int)(S:Sn):Prop:=∀x∈nms S,0<=x/\x<=mxF kps+mxF a9
def Sg(kps a9:List Int)(ss:List Str)(w:List (Str×Int)):Prop:=∀x∈w,x.1∈ss/\0<=x.2/\x.2<=mxF kps+mxF a9
def _p8{a b x}(h:x∈qv a b):x∈a\/x∈b:=by
 rcases aA h with h|h
 ·exact .inl h
 ·exact .inr (List.mem_filter.mp h).1
def _p9{a b}:(qv a b).length<=a.length+b.length:=by
 unfold qv
 grind
def _qa{S z c}(hP:Prs kps ss.length rs)(hk:Abk kps)(hS:qk kps S){l l'}(h:Nb l l' S)(hc:0<=c/\c<=mxF l+mxF l'):Nb l l' (rdF ss rs S z c):=λx hx=>by
 rcases(_oF hP hk hS λ_ _ e=>e).2 x hx with h'|rfl
 ·exact h x h'
 ·exact hc
inductive RwA (kps a9:List Int)(ss:List Str)(rs rs':List D)(P:D)(L:Lw)(k:D):En->List D->Prop
 |mk (w:Lw) (L2:Lw) (Q:D) {l6:Option Sd} {l7:Option Sd} {l8:Option Sd} {l9:Option Sd} {aa:List D} (h0:aa=L2.map rwI) (h1:Two kps a9 (run ss rs (pS rs P) w) (run ss rs' (pT rs rs' P) w)) (h2:w.length+L2.length=L.length) (h3:Pok kps a9 Q) (h4:Rl rs rs' Q (run ss rs (pS rs P) w) (run ss rs' (pT rs rs' P) w)) (h5:Wk ss rs rs' Q L2 k) (h6:Sg kps a9 ss w) (h7:Nb kps a9 (run ss rs (pS rs P) w)/\Nb kps a9 (run ss rs' (pT rs rs' P) w)):RwA kps a9 ss rs rs' P L k [⇑(.no,jk ss rs),⇑(.no,jk ss rs'),⇑(.no,P),⇑(.no,.lst (L.map rwI)),⇑(.no,lat (run ss rs (pS rs P) w,run ss rs' (pT rs rs' P) w)),⇑(.rt,.lst (w.map rwI)),l6,l7,l8,l9] aa
#where in
def _qb{k P}(L)(h1:1<=kps.length)(mx:1<=a9.length)(hl:L.length<=6000)(hL:Wk ss rs rs' P L k)(hp:Pin kps a9 rs rs' P)(hP:Prs kps ss.length rs)(hk:Abk kps)(aq:Prs a9 ss.length rs')(ak:Abk a9):
  Oo m_parting_row [(.no,jk ss rs),(.no,jk ss rs'),(.no,P),(.no,.lst (L.map rwI))] (λy=>∃w,y=(.rt,.lst (w.map rwI))/\w.length=L.length/\Sg kps a9 ss w/\Rl rs rs' k (run ss rs (pS rs P) w) (run ss rs' (pT rs rs' P) w)) noX:=by
 have ms:=_p7 hk h1 hp.two.a;have mt:=_p7 ak mx hp.two.b;obtain⟨_,_,_,_,qh⟩:=hp.rl;have hhl:=_p9 (a:=nms (pS rs P)) (b:=nms (pT rs rs' P));have hpo:(U.hp rs rs' P).length=pO rs rs' P:=rfl;have ff:∀x∈U.hp rs rs' P,0<=x/\x<=mxF kps+mxF a9:=λx hx=>by
  rw [qh]at hx;have:=mem_rngL.mp hx
  grind
 refine k6 ?_;simp![];refine(_ou hP hk aq ak hp.ok).via ?_;intro y hy;subst hy;simp![];refine qQ (RwA kps a9 ss rs rs' P L k) ?_ ?_ ?_
 ·simp![];exact .mk [] L P rfl hp.two (by simp) hp.ok hp.rl hL (nofun) #[λx hx=>ff x (_oT hx),λx hx=>ff x (_oU hx)]
 ·rintro E d ds ⟨w,L2,Q,be,ht,jb,hQ,hR2,mw,lv,tm,nj⟩;cases L2 with
  | nil=>cases be
  | cons x L2=>
   injection be with e1 e2;subst e1 e2;rw [Xm]at jb;obtain⟨z,i⟩:=x;obtain⟨⟨hz,i0,i1⟩,mw⟩:=mw;have ae:=_oX hR2;have pq:∀c,run ss rs (pS rs P) (w++[(z,c)])=rdF ss rs (run ss rs (pS rs P) w) z c/\run ss rs' (pT rs rs' P) (w++[(z,c)])=rdF ss rs' (run ss rs' (pT rs rs' P) w) z c:=λc=>#[run_snoc,run_snoc]
   generalize run ss rs (pS rs P) w=S at *;generalize run ss rs' (pT rs rs' P) w=T at *;have hS:=ht.a;have hT:=ht.b;have lS:=zj hk hS;have lT:=zj ak hT;have m1:=_p7 hk h1 hS;have m2:=_p7 ak mx hT;have hhl:=_p9 (a:=nms S) (b:=nms T);generalize hR:j6 (jw 9 _) _=R;simp![];refine(_ng S T ⋯ ⋯).via ?_;intro y hy;subst hy;simp![];subst hR;refine YZ (λE=>∃(o9:Own) (c:Int),E=[⇑(.no,jk ss rs),⇑(.no,jk ss rs'),⇑(.no,P),⇑(.no,.lst (L.map rwI)),⇑(.no,lat (S,T)),⇑(.rt,.lst (w.map rwI)),⇑(.no,.str z),⇑(.no,.int i),⇑(.no,iT (qv (nms S) (nms T))),⇑(o9,.int c)]/\Lk (pO rs rs' Q) S T i c/\0<=c/\c<=mxF kps+mxF a9) ?_ ?_
   ·by_cases hi:i<(qv (nms S) (nms T)).length
    ·have hd:decide (i<((qv (nms S) (nms T)).length:Int))=true:=Xg hi;have hg:jQ (iT (qv (nms S) (nms T))) (.int i)=⇑(.int ((qv (nms S) (nms T))[i.toNat]'⋯)):=_mc i0 (by rw[Xh,X1 ⋯];rfl);simp![hd,hg];refine#[_,_,rfl,.inl #[i0,⋯,X1 ⋯],?_];rcases _p8 (Xn (l:=qv (nms S) (nms T)) (n:=i.toNat) ⋯)with h|h
     ·exact tm _ h
     ·exact nj _ h
    ·have hd:decide (i<((qv (nms S) (nms T)).length:Int))=false:=Xl hi;simp![hd];refine(_p1 _).via ?_;rintro y ⟨p,rfl,hp,pe,hp1⟩;simp![];exact#[_,_,rfl,.inr #[⋯,hp],pe,⋯]
   ·rintro E ⟨o9,c,rfl,hlk,hc⟩;obtain⟨r1,r2⟩:=x8 z c hP hk hS;obtain⟨xb,r2'⟩:=x8 z c aq ak hT;simp![];refine xJ rfl ?_;simp![];refine#[_,rfl,by rw[X4];lia,?_];simp![];refine(_ne (w:=(z,c)) r1 xb).via ?_;intro y hy;subst hy;have e7:(w++[(z,c)]).map rwI=w.map rwI++[rwI (z,c)]:=by rw[X7];rfl
    show RwA kps a9 ss rs rs' P L k [⇑(.no,jk ss rs),⇑(.no,jk ss rs'),⇑(.no,P),⇑(.no,.lst (L.map rwI)),⇑(.no,lat (rdF ss rs S z c,rdF ss rs' T z c)),⇑(.rt,.lst (w.map rwI++[rwI (z,c)])),_,_,_,_] _;rw[<-(pq c).1,<-(pq c).2,<-e7];refine .mk (w++[(z,c)]) L2 (qz ss rs rs' Q z i) rfl ?_ (by rw[Xe,Y9];lia) ?_ ?_ mw (λx hx=>?_) ?_
    ·rw[(pq c).1,(pq c).2];exact ht.next z c hP hk aq ak
    ·exact _ox (x8 z i hP hk (Wj hP hk hQ)).2 (x8 z i aq ak (WJ aq ak hQ)).2 hk
    ·rw[(pq c).1,(pq c).2];exact _oZ hP hk aq ak hQ ht hR2 hlk
    ·rcases aA hx with hx|hx
     ·exact lv x hx
     ·rw[aC hx];exact#[hz,hc]
    ·rw[(pq c).1,(pq c).2];exact#[_qa hP hk hS tm hc,_qa aq ak hT nj hc]
 ·rintro E ⟨w,L2,Q,be,ht,jb,hQ,hR2,mw,lv,hn⟩;cases L2 with
  |cons=>cases be
  |nil=>
   have mw:Q=k:=mw;subst mw;simp![];exact#[w,rfl,~~~jb,lv,hR2]
end
section
variable {kps a9:List Int}{ss:List Str}{rs rs':List D}
structure Ws (kps a9:List Int)(ss:List Str)(rs rs':List D)(P:D)(rk:D->Nat)(W:U.Kvs):Prop where
 wy:Wy ss rs rs' P rk W
 nd:(W.map (·.1)).Nodup
 pin:∀k∈W.map (·.1),Pin kps a9 rs rs' k
 all:∀k∈W.map (·.1),k∈P::AllQ
 srt:(W.map (·.1)).Pairwise λa b=>rk a<=rk b
def Ws.le{P rk W}(h:Ws kps a9 ss rs rs' P rk W):W.length<=5747:=by
 have:=_mV h.nd h.all;rw[X4,Xm,_pK]at this;exact this
def Ws.unm{P rk W}(h:Ws kps a9 ss rs rs' P rk W):unm W=true:=by
 cases W with
 |nil=>rfl
 |cons e W=>
  obtain⟨k,v⟩:=e;obtain⟨p,q,sh,rfl,_⟩:=(h.pin k X5).ok;rfl
def _qc{P rk W}(h:Wy ss rs rs' P rk W):∀k∈W.map (·.1),rk k<W.length:=by
 induction h with
 | one h=>
  intro k hk;rw[aC hk];show rk P<1;lia
 | @more W k p z i hW hk hp hz hi hi2 ba hr ih=>
  intro x hx;rw[X7]at hx;rw[Xe,Y9];rcases aA hx with hx|hx
  ·have:=ih x hx;lia
  ·have hx:=aC hx;have:=ih p hp;lia
def upd(rk:D->Nat)(k:D)(n:Nat):D->Nat:=λx=>if x=k then n else rk x
def _qd{rk k n}:upd rk k n k=n:=Xb rfl
def _qe{rk k x n}(h:x≠k):upd rk k n x=rk x:=Xj h
def Ws.more{P k p z}{i:Int}{rk W}(h:Ws kps a9 ss rs rs' P rk W)(hk:k∉W.map (·.1))(hp:p∈W.map (·.1))(hz:z∈ss)(h0:0<=i)(h1:i<=pO rs rs' p)(ba:k=qz ss rs rs' p z i)(lb:Pin kps a9 rs rs' k)(lz:k∈AllQ)(hm:∀x∈W.map (·.1),rk x<=rk p+1):Ws kps a9 ss rs rs' P (upd rk k (rk p+1)) (W++[(k,wyD p z i)]):=by
 have ho:∀x∈W.map _,upd rk k (rk p+1) x=rk x:=λx hx=>_qe λe=>hk (e▸hx)
 refine#[.more (_p2 h.wy ho) hk hp hz h0 h1 ba (by rw[_qd,ho p hp]),?_,λx hx=>?_,λx hx=>?_,?_]
 ·rw[X7];refine List.nodup_append.mpr #[h.nd,by simp,λa ha b hb e=>?_];have hb:b=k:=aC hb;rw[hb]at e;exact hk (e▸ha)
 ·rw[X7]at hx;rcases aA hx with hx|hx
  ·exact h.pin x hx
  ·rw[aC hx];exact lb
 ·rw[X7]at hx;rcases aA hx with hx|hx
  ·exact h.all x hx
  ·rw[aC hx];exact _ad _ lz
 ·rw[X7];refine List.pairwise_append.mpr #[h.srt.imp_of_mem λha hb hr=>by rw[ho _ ha,ho _ hb];exact hr,List.pairwise_singleton _ _,λa ha b hb=>?_];have hb:b=k:=aC hb;rw[hb,_qd,ho a ha];exact hm a ha
def _qf(kps a9:List Int)(ss:List Str)(rs rs':List D)(P d:D):Prop:=
 (∃w:List (Str×Int),d=.tup [.str "apart",.lst (w.map rwI)]/\w.length<=6000/\Sg kps a9 ss w/\¬gp ss rs rs' (pS rs P) (pT rs rs' P) w/\∀u:List (Str×Int),(∀x∈u,x.1∈ss)->u.length<w.length->gp ss rs rs' (pS rs P) (pT rs rs' P) u) \/
 (∃(K:List D) (rk:D->Nat),d=.tup [.str "alike",.lst K]/\K.length<=6000/\K.Nodup/\P∈K/\∀p∈K,Pin kps a9 rs rs' p/\Dn ss rs rs' K rk p)
inductive SrA (kps a9:List Int)(ss:List Str)(rs rs':List D)(P:D):Nat->En->Prop
 |mk (W:U.Kvs) (rk:D->Nat) (i:Nat) {o5:Own} {l6:Option Sd} {l7:Option Sd} {l8:Option Sd} {l9:Option Sd} {n:Nat} (h0:Ws kps a9 ss rs rs' P rk W) (h1:n=6000 - i) (h2:P∈W.map (·.1)/\rk P=0) (h3:∀p∈(W.map (·.1)).take i,Dn ss rs rs' (W.map (·.1)) rk p) (h4:∀k,(W.map (·.1))[i]?=⇑k->∀x∈W.map (·.1),rk x<=rk k+1):SrA kps a9 ss rs rs' P n [⇑(.no,jk ss rs),⇑(.no,jk ss rs'),⇑(.no,P),⇑(.rt,.dct W),⇑(.rt,.lst (W.map (·.1))),⇑(o5,.int i),l6,l7,l8,l9]
inductive SrB (kps a9:List Int)(ss:List Str)(rs rs':List D)(P:D)(W:U.Kvs)(rk:D->Nat)(i:Nat)(k:D):En->List D->Prop
 |mk (W2:U.Kvs) (kh:D->Nat) (A:St3) (L:St3) {o5:Own} {o6:Own} {l7:Option Sd} {l8:Option Sd} {l9:Option Sd} {aa:List D} (h0:Ws kps a9 ss rs rs' P kh W2) (h1:(∃V,W2=W++V)) (h2:aa=L.map stD) (h3:Stp ss rs rs' k L) (h4:(∀x∈A,x∈L\/x.2.2∈W2.map (·.1))) (h5:∀z∈ss,∀i:Int,0<=i->i<=pO rs rs' k->(z,i,qz ss rs rs' k z i)∈A) (h6:∀x∈W.map (·.1),kh x=rk x) (h7:∀x∈W2.map (·.1),kh x<=rk k+1):SrB kps a9 ss rs rs' P W rk i k [⇑(.no,jk ss rs),⇑(.no,jk ss rs'),⇑(.no,P),⇑(.rt,.dct W2),⇑(.rt,.lst (W2.map (·.1))),⇑(o5,.int i),⇑(o6,k),l7,l8,l9] aa
#where in
def _qg{P}(hs:ss.length<=3)(o8:kps.length<=12)(jp:a9.length<=12)(h1:1<=kps.length)(mx:1<=a9.length)(hP:Prs kps ss.length rs)(hk:Abk kps)(aq:Prs a9 ss.length rs')(ak:Abk a9)(h:Pin kps a9 rs rs' P):
  Oo m_searched [(.no,jk ss rs),(.no,jk ss rs'),(.no,P)] (λy=>∃d,y=(.no,d)/\_qf kps a9 ss rs rs' P d) noX:=by
 refine k6 ?_;simp![↓_mt];refine⟨(V8 h).1,?_⟩;have ba:Ws kps a9 ss rs rs' P (λ_=>0) [(P,.non)]:=⟨.one rfl,by simp,λk hk=>by rw[aC hk];exact h,λk hk=>by rw[aC hk];exact X5,List.pairwise_singleton _ _⟩;refine _mm (SrA kps a9 ss rs rs' P) ?_ 6000 _ ⟨[(P,.non)],_,0,ba,rfl,⟨aB rfl,rfl⟩,λp hp=>(nomatch hp),λ_ _ _ _=>Y1 _⟩;rintro n E ⟨W,rk,i,hW,rfl,⟨on,i5⟩,hD,hM0⟩;have hWl:=hW.le
 by_cases cj:i<W.length
 rotate_left
 ·have hd:decide ((i)<(W.length:Int))=false:=Xl ⋯;simp![hd];rw [List.take_of_length_le (by rw[X4];lia)]at hD;exact⟨_,rfl,.inr ⟨_,rk,rfl,by rw[X4];lia,hW.nd,on,λp hp=>⟨hW.pin p hp,hD p hp⟩⟩⟩
 have hd:decide ((i)<(W.length:Int))=true:=Xg ⋯;obtain⟨k,t7,jg,sg⟩:∃k∈W.map (·.1),jQ (.lst (W.map (·.1))) (.int i)=⇑k/\(W.map (·.1))[i]?=⇑k:=by
  have hl:i<(W.map (·.1)).length:=by rw[X4];exact cj
  exact⟨(W.map (·.1))[i],Xn hl,vq ⋯ (by rw[Xu];exact X1 hl),X1 hl⟩
 have n9:=hW.pin k t7;have hag:Oo B.m_agrees [(.no,jk ss rs),(.no,jk ss rs'),(.no,k)] (λy=>∃o',y=(o',.bl (gS rs k==gT rs' k))/\True) noX:=by
  obtain⟨p,q,sh,rfl,a0,a1,b0,b1,_⟩:=n9.ok;exact _nI (wZ hP hk a0 a1).2.1 (wZ aq ak b0 b1).2.1
 generalize hR:j6 (kQ _ _ _) _=R;simp![hd,jg];refine hag.via ?_;rintro y ⟨o',rfl,_⟩;cases hb:(gS rs k==gT rs' k)with
 | false=>
  have ln:=_qc hW.wy k t7;simp![];refine(_p5 hW.wy hW.unm (λx hx=>V8 (hW.pin x hx)) ⋯ t7).via ?_;rintro y ⟨L,rfl,hl,hL⟩;simp![];refine(_qb L h1 mx ⋯ hL h hP hk aq ak).via ?_;rintro y ⟨w,rfl,sy,lv,hw⟩;simp![];refine#[_,rfl,.inl #[w,rfl,⋯,lv,λe=>?_,λu hu hul=>?_]]
  ·obtain⟨g1,g2⟩:=_o1 n9.ok hw;unfold gp at e
   grind
  ·refine _pW (n:=rk k) (rk:=rk) (K:=W.map (·.1)) hP hk aq ak (λp hp=>(hW.pin p hp).ok) (λp hp cj=>hD p ?_) u hu on ⋯ h.two h.rl;obtain⟨j,hj,e⟩:=Yj hp
   by_cases hji:j<i
   ·exact List.mem_take_iff_getElem.mpr #[j,⋯,e]
   ·exfalso;obtain⟨jt,ek⟩:=aF sg
    by_cases n6:i=j
    ·subst n6;rw[e]at ek
     grind
    ·have:=List.pairwise_iff_getElem.mp hW.srt i j jt hj ⋯;rw[ek,e]at this;lia
 | true=>
  have hgk:gS rs k=gT rs' k:= ~~~hb
  simp![];subst hR;simp![];refine qQ (SrB kps a9 ss rs rs' P W rk i k) ?_ ?_ ?_
  ·simp![];refine(_p0 hs hP hk aq ak n9.ok).via ?_;rintro y ⟨L,rfl,hL,hM⟩;simp![];exact#[W,rk,L,L,hW,#[[],by simp],rfl,hL,λx hx=>.inl hx,hM,λ_ _=>rfl,(hM0 k sg)]
  ·rintro E d ds ⟨W2,kh,A,L,hW2,⟨V,rfl⟩,be,hL,hA,hM,ni,oz⟩;cases L with
   | nil=>cases be
   | cons x L=>
    rw [List.map_cons]at be;injection be with e1 e2;subst e1 e2;obtain⟨z,c,d⟩:=x;obtain⟨hz,c0,c1,hd⟩:=hL (z,c,d) X5;have hz:z∈ss:=hz;have c0:0<=c:=c0;have c1:c<=pO rs rs' k:=c1;have hd:d=qz ss rs rs' k z c:=hd;have htw:=n9.two.next (ss:=ss) (rs:=rs) (rs':=rs') z c hP hk aq ak
    have nw:Pin kps a9 rs rs' d:=hd▸_pQ hP hk aq ak htw;have hda:d∈AllQ:=hd▸_pR o8 jp hk ak htw;have hkW2:k∈(W++V).map (·.1):=by rw[X7];exact _ac _ t7
    have uo:Stp ss rs rs' k L:=λx hx=>hL x (_ad (z,c,d) hx)
    have hWl:=hW2.le;have hn:=_mw (V8 nw).1 hW2.unm
    by_cases hm:d∈(W++V).map (·.1)
    ·rw[Xg hm]at hn;simp![hn];refine#[W++V,kh,A,L,hW2,#[V,rfl],rfl,uo,λx hx=>?_,hM,ni,oz];rcases hA x hx with q|q
     ·rcases aD q with q|q
      ·exact .inr (q▸hm)
      ·exact .inl q
     ·exact .inr q
    ·rw[Xl hm]at hn;simp![hn];refine _mv ?_;simp![];refine#[#[W++V,rfl],W++V,rfl,(V8 nw).1,#[⋯,hW2.unm],?_];rw[show Qz (W++V) d (.tup [k,.str z,.int c])=(W++V)++[(d,wyD k z c)]from Xj hm];simp![];refine xJ rfl ?_;simp![];have e4:((W++V)++[(d,wyD k z c)]).map (·.1)=(W++V).map (·.1)++[d]:=by rw[X7 (l₁:=W++V)];rfl
     refine#[_,rfl,by rw[X4];lia,?_];rw[<-e4];have sx:kh k=rk k:=ni k t7;have ho:∀x∈(W++V).map (·.1),upd kh d (kh k+1) x=kh x:=λx hx=>_qe λe=>hm (e▸hx)
     refine .mk ((W++V)++[(d,wyD k z c)]) (upd kh d (kh k+1)) A L (hW2.more hm hkW2 hz c0 c1 hd nw hda (sx▸oz)) #[V++[(d,wyD k z c)],by simp] rfl uo (λx hx=>?_) hM (λx hx=>?_) λx hx=>?_
     ·rw[X7 (l₁:=W++V)];rcases hA x hx with q|q
      ·rcases aD q with q|q
       ·exact .inr (_ab _ (q▸aB rfl))
       ·exact .inl q
      ·exact .inr (_ac _ q)
     ·rw[ho x (X7▸_ac _ hx)];exact ni x hx
     ·rw[e4]at hx;rcases aA hx with hx|hx
      ·rw[ho x hx];exact oz x hx
      ·rw[aC hx,_qd,sx];exact Xd _
  ·rintro E ⟨W2,kh,A,L,hW2,⟨V,rfl⟩,be,hL,hA,hM,ni,oz⟩;cases L with
   | cons=>cases be
   | nil=>
   simp![];refine _mE rfl ?_;simp![];have eh:∀d∈W.map (·.1),d∈(W++V).map (·.1):=λd hd=>by rw[X7];exact _ac _ hd
   have sx:kh k=rk k:=ni k t7;have hki:((W++V).map (·.1))[i]?=⇑k:=by rw[X7,Xr (by rw[X4];lia)];exact sg
   refine#[_,rfl,6000 - (i+1),⋯,W++V,kh,i+1,hW2,rfl,#[eh _ on,by rw[ni P on];exact i5],λp hp=>?_,λk' ak x hx=>?_]
   ·have md:((W++V).map (·.1)).take (i+1)=(W.map (·.1)).take i++[k]:=by
     rw[X7,List.take_append_of_le_length (by rw[X4];lia),List.take_add_one,sg];rfl
    rw[md]at hp;rcases aA hp with hp|hp
    ·obtain⟨d1,d2⟩:=hD p hp;refine#[d1,λz hz j j0 j1=>?_];obtain⟨g1,g2⟩:=d2 z hz j j0 j1;exact#[eh _ g1,by rw[ni _ g1,ni p (List.mem_of_mem_take hp)];exact g2]
    ·rw[aC hp];refine#[hgk,λz hz j j0 j1=>?_];rcases hA _ (hM z hz j j0 j1)with q|q
     ·grind
     ·exact#[q,by rw[sx];exact oz _ q]
   ·obtain⟨a1,a2⟩:=aF hki;obtain⟨b1,b2⟩:=aF ak;have:=List.pairwise_iff_getElem.mp hW2.srt i (i+1) a1 b1 ⋯;rw[a2,b2]at this;have:=oz x hx;lia
def m_compared:Fn:=fn 3
  (j6 (sIf (tE (cF2 (pu2 fNe) (j9 (vV 0) (C9 0)) (j9 (vV 1) (C9 0)))) _hB k5)
  (j6 (sIf (tOr (tNot (tEQ (vE (jx J.m_is_small [(cV 0)])))) (tNot (tEQ (vE (jx J.m_is_small [(cV 1)]))))) _hB k5)
  (jJ (jx m_searched [(cV 0),(cV 1),(cIf (tE (cF2 (f2First fIsNon) (vV 2) (vE (cC .non)))) (cC (.tup [(.int 0),(.int 0),(.tup [])])) (cV 2))]))))
def _qh{P d}(hs:ss.length<=3)(o8:kps.length<=12)(jp:a9.length<=12)(h1:1<=kps.length)(mx:1<=a9.length)(hP:Prs kps ss.length rs)(hk:Abk kps)(aq:Prs a9 ss.length rs')(ak:Abk a9)(h:Pin kps a9 rs rs' P)(hd:(d=.non/\P=P0)\/d=P):
  Oo Y.m_compared [(.no,jk ss rs),(.no,jk ss rs'),(.no,d)] (λy=>∃d,y=(.no,d)/\_qf kps a9 ss rs rs' P d) noX:=by
 have q0:∀a b,jQ (.tup [a,b]) (.int 0)=⇑a:=λ_ _=>rfl
 have bh:fNe _ (sL ss)=⇑_:=_mU (W1 λd hd=>by obtain⟨w,_,rfl⟩:=aE hd;rfl);have ly:=J.small_is (d0:=sL ss) (_oB hP);have dk:=J.small_is (d0:=sL ss) (_oB aq);rw[_oC hP hk ⋯]at ly;rw[_oC aq ak ⋯]at dk;refine k6 ?_;simp![q0,bh];refine ly.any.use ?_;intro _ _;simp![];refine dk.any.use ?_;intro _ _;rcases hd with⟨rfl,rfl⟩|rfl
 ·simp![];refine(_qg hs o8 jp h1 mx hP hk aq ak h).via ?_;rintro y ⟨d,rfl,h⟩;exact#[d,rfl,h]
 ·have hsr:=_qg hs o8 jp h1 mx hP hk aq ak h;obtain⟨p,q,sh,rfl,_⟩:=h.ok;simp![];refine hsr.via ?_;rintro y ⟨d,rfl,h⟩;exact#[d,rfl,h]
end
def _qi{ss rs room g}(h:Gdr rs room g):Oo m__law_good [(.no,jk ss rs),(.no,.int room)] (λy=>∃o',y=(o',.bl g)/\True) noX:=by
 refine k6 ?_;rcases h with⟨rfl,rfl⟩|⟨h0,k,st,hr⟩
 ·simp![B.neg1,nei rfl];exact#[_,rfl,trivial]
 ·have bh:(room == -1)=false:=Y2 ⋯;simp![B.neg1,p1,nei bh,(vq h0 hr),show jQ (.tup [k,.bl g,st]) (.int 1)=⇑_ from rfl];exact#[_,rfl,trivial]
def neb(a b):fNe (.bl a) (.bl b)=⇑(.bl (a != b)):=by cases a<;>cases b<;>rfl
section
variable {kps a9:List Int}{ss:List Str}{rs rs':List D}
def _qj{S}(hP:Prs kps ss.length rs)(hk:Abk kps)(h:qk kps S):Gdr rs (rmO S) (gdF rs (rmO S)):=by
 obtain⟨a,b⟩:=_oj h;exact(wZ hP hk a b).2.1
inductive PaA (ss:List Str)(rs rs':List D)(st row:D)(a b:Sn)(w:Lw):En->List D->Prop
 |mk (w1 w2:Lw) {o4 o5:Own} {l6 l7:Option Sd} {aa:List D} (h0:aa=w2.map rwI) (h1:w=w1++w2):PaA ss rs rs' st row a b w [⇑(.no,jk ss rs),⇑(.no,jk ss rs'),⇑(.no,st),⇑(.no,row),⇑(o4,stn (run ss rs a w1)),⇑(o5,stn (run ss rs' b w1)),l6,l7,none,none,none] aa
inductive PaB (one c9 st row:D)(a b:Sn):En->List D->Prop
 |mk (r:List Int) {l4 l5 l6 l7 l9 i9:Option Sd} {aa:List D} (h:(aa=[.tup [.int 0,stn a],.tup [.int 1,stn b]]/\r=[-1,-1])\/(aa=[.tup [.int 1,stn b]]/\r=[rmO a,-1])\/(aa=[]/\r=[rmO a,rmO b])):PaB one c9 st row a b [⇑(.no,one),⇑(.no,c9),⇑(.no,st),⇑(.no,row),l4,l5,l6,l7,⇑(.rt,.lst (r.map D.int)),l9,i9] aa
def _qk{a b}{w:Lw}(hP:Prs kps ss.length rs)(hk:Abk kps)(aq:Prs a9 ss.length rs')(ak:Abk a9)(ha:qk kps a)(hb:qk a9 b)(hw:∀x∈w,x.1∈ss):
  Oo m__law_parts [(.no,jk ss rs),(.no,jk ss rs'),(.no,.lst [stn a,stn b]),(.no,.lst (w.map rwI))] (λy=>∃o',y=(o',.bl (gdF rs (rmO (run ss rs a w)) != gdF rs' (rmO (run ss rs' b w))))/\True) noX:=by
 refine k6 ?_;simp![];refine qQ (PaA ss rs rs' (.lst [stn a,stn b]) (.lst (w.map rwI)) a b w) ?_ ?_ ?_
 ·simp![];exact⟨[],w,rfl,rfl⟩
 ·rintro E d ds ⟨w1,w2,hr,hw'⟩;cases w2 with
  | nil=>cases hr
  | cons x w2=>
   injection hr with e1 e2;subst e1 e2;obtain⟨z,c⟩:=x;have hz:(ss.any λw=>w==z)=true:=List.any_eq_true.mpr #[z,hw (z,c) (by rw[hw'];simp),beq_self_eq_true _];have hS:=(_ph hP hk w1 ha).2;have hT:=(_ph aq ak w1 hb).2;simp![];refine(_oh hP hS hz ((x8 z c hP hk hS).1)).via ?_;rintro ⟨o1,d1⟩ e;cases(show d1=_ from e);simp![];refine(_oh aq hT hz ((x8 z c aq ak hT).1)).via ?_;rintro ⟨o2,d2⟩ e;cases(show d2=_ from e);rw [<-U.run_snoc,<-U.run_snoc];exact .mk (w1++[(z,c)]) w2 rfl (by rw[hw'];simp)
 ·rintro E ⟨w1,w2,hr,hw'⟩;have sw:w2=[]:=by cases w2 with|nil=>rfl|cons=>cases hr
  subst sw;rw [Xv]at hw';subst hw';have gS:=_qj hP hk ((_ph hP hk w ha).2);have gT:=_qj aq ak ((_ph aq ak w hb).2);generalize run ss rs a w=S at *;generalize run ss rs' b w=T at *;simp![B.neg1];refine qQ (PaB (jk ss rs) (jk ss rs') (.lst [stn a,stn b]) (.lst (w.map rwI)) S T) ?_ ?_ ?_
  ·simp![];exact#[[-1,-1],.inl #[rfl,rfl]]
  ·rintro E d ds ⟨r,h⟩;have jc:∀(k:Int) (U) (l4 l5 l6 l7) (r r':List Int) (aa),(U=none->r'=r)->(∀x,U=⇑x->r'=r.set k.toNat x.1)->0<=k->k<r.length->(∀l9 i9,PaB (jk ss rs) (jk ss rs') (.lst [stn a,stn b]) (.lst (w.map rwI)) S T [⇑(.no,jk ss rs),⇑(.no,jk ss rs'),⇑(.no,.lst [stn a,stn b]),⇑(.no,.lst (w.map rwI)),l4,l5,l6,l7,⇑(.rt,.lst (r'.map D.int)),l9,i9] aa)->∀{C R},Po (sIf (tE (cF2 (f2First fNotNon) (vV 10) (vE (cC .non)))) (Zx 8 (vV 9) (cH (j9 (vV 10) (C9 0)))) k5 [⇑(.no,jk ss rs),⇑(.no,jk ss rs'),⇑(.no,.lst [stn a,stn b]),⇑(.no,.lst (w.map rwI)),l4,l5,l6,l7,⇑(.rt,.lst (r.map D.int)),⇑(.no,.int k),⇑(.no,stn U)]) (λE2=>PaB (jk ss rs) (jk ss rs') (.lst [stn a,stn b]) (.lst (w.map rwI)) S T E2 aa) C R noX:=λk U l4 l5 l6 l7 r r' aa hn hs k0 k1 qy C R=>by
    cases U with
    | none=>
     rw[hn rfl]at qy;have sn:stn none=.non:=rfl;simp![sn];exact qy _ _
    | some x=>
     have e:=hs x rfl;subst e;have sn:stn ⇑x=.tup [.int x.1,iT x.2]:=rfl;simp![sn];refine _mC ?_;simp![p0];refine#[rfl,.rt,_,k,k.toNat,rfl,⋯,rfl,?_,?_]
     ·unfold Q.ixN;rw[Xb k0,Xb (by rw[X4];exact k1)]
     ·rw[<-List.map_set];exact qy _ _
   rcases h with⟨h1,rfl⟩|⟨h1,rfl⟩|⟨h1,_⟩
   ·injection h1 with e1 e2;subst e1 e2;generalize hB:sIf _ _ _=Bd;simp![];subst hB;refine jc 0 S _ _ _ _ [-1,-1] [rmO S,-1] _ (λe=>by rw[e];rfl) (λx e=>by rw[e];rfl) ⋯ ⋯ λl9 i9=>#[_,.inr (.inl #[rfl,rfl])]
   ·injection h1 with e1 e2;subst e1 e2;generalize hB:sIf _ _ _=Bd;simp![];subst hB;refine jc 1 T _ _ _ _ [rmO S,-1] [rmO S,rmO T] _ (λe=>by rw[e];rfl) (λx e=>by rw[e];rfl) ⋯ (by simp) λl9 i9=>#[_,.inr (.inr #[rfl,rfl])]
   ·cases h1
  ·rintro E ⟨r,⟨h1,_⟩|⟨h1,_⟩|⟨_,rfl⟩⟩
   ·cases h1
   ·cases h1
   ·have x0:jQ (.lst [.int (rmO S),.int (rmO T)]) (.int 0)=⇑(.int (rmO S)):=rfl;have x1:jQ (.lst [.int (rmO S),.int (rmO T)]) (.int 1)=⇑(.int (rmO T)):=rfl;simp![x0,x1];refine(_qi gS).use ?_;intro _ _;simp![x0,x1];refine(_qi gT).use ?_;intro _ _;simp![neb];exact#[_,rfl,trivial]
end
def _ql{x kvs}(h:qZ x=true)(hu:unm kvs=true):V5 x (.dct kvs)=⇑(.bl (decide (x∈kvs.map (·.1)))):=by
 unfold V5;dsimp only;rw[Xb #[h,hu]]
abbrev trD(K:List D):List (D×D):=K.map λk=>(k,.bl true)
def _qm K:(trD K).map (·.1)=K:=by rw[Xi];exact List.map_id K
section
variable {kps a9:List Int}{ss:List Str}{rs rs':List D}
def _oq(hP:Prs kps ss.length rs):rs.map WV=kps:=by
 refine List.ext_getElem (by rw[X4];exact hP.1) λi h1 h2=>?_
 obtain⟨r,e,gd,st,rfl,_⟩:=hP.2 i h2;obtain⟨_,e⟩:=aF e;rw[List.getElem_map,e,X2,X1 h2];rfl
def _qn(h1:1<=kps.length)(hP:Prs kps ss.length rs):Oo m__law_most [(.no,jk ss rs)] (λy=>∃o',y=(o',.int (mxF kps))/\True) noX:=by
 refine k6 ?_;simp![];refine WQ [] (λd y=>y.2=.int (WV d)) ?_;simp![p1];refine#[λd hd=>?_,λys hy=>?_]
 ·obtain⟨i,hi,rfl⟩:=Yj hd;obtain⟨r,e,gd,st,rfl,_⟩:=hP.2 i (by have:=hP.1;lia);obtain⟨_,e⟩:=aF e;rw[e];simp![show ∀a b c,jQ (.tup [a,b,c]) (.int 0)=⇑a from λ_ _ _=>rfl];exact#[#[_,rfl],rfl]
 ·rw[zw,YK (λ_ _ h=>h) hy];have e:(rs.map λd=>D.int (WV d))=kps.map D.int:=by rw[<-_oq hP,Xi];rfl
  have hm:_lY (.lst (kps.map D.int))=⇑(.int (mxF kps)):=by
   unfold _lY mxF;dsimp only;rw[_pi];dsimp only;cases e:kps.max? with|none=>grind|some M=>rfl
  rw[e];simp![hm];exact#[_,rfl,trivial]
def _qo{P}(hP:Prs kps ss.length rs)(hk:Abk kps)(aq:Prs a9 ss.length rs')(ak:Abk a9)(h:Pin kps a9 rs rs' P):Oo m__law_firsts [(.no,jk ss rs),(.no,jk ss rs'),(.no,P)] (λy=>y=(.rt,.lst [stn (pS rs P),stn (pT rs rs' P)])) noX:=by
 obtain⟨p',q',sh',e,hs⟩:=h.pk;obtain⟨p,q,sh,rfl,h0,h1,g0,g1,h4⟩:=h.ok;injection e with e;injection e with e1 e;injection e with e2 e;injection e with e3 _;injection e1 with e1;injection e2 with e2;injection e3 with e3;have e3:sh=sh':=by rw[<-JY sh,e3,JY]
 subst e1 e2 e3;obtain⟨a,_,c,d,_⟩:=wZ hP hk h0 h1;obtain⟨a',_,c',d',_⟩:=wZ aq ak g0 g1;have:=_pq (ss:=ss) a a' c ⋯ c' ⋯ hs ⋯;have eT:JJ q (kpF rs p) (kpF rs' q) sh=pT rs rs' (.tup [.int p,.int q,.tup (prs sh)]):=by
  show _=JJ q _ _ _;rw[JY]
 rw[eT]at this;exact this
def _qp{P}(hs:ss.length<=3)(hP:Prs kps ss.length rs)(hk:Abk kps)(aq:Prs a9 ss.length rs')(ak:Abk a9)(h:Pin kps a9 rs rs' P):Oo m__law_behind_all [(.no,jk ss rs),(.no,jk ss rs'),(.no,P)] (λy=>∃F,y=(.rt,.lst F)/\∀d∈F,∃z∈ss,∃i:Int,0<=i/\i<=pO rs rs' P/\d=qz ss rs rs' P z i) noX:=by
 obtain⟨p',q',sh',e,gw⟩:=h.pk;obtain⟨p,q,sh,rfl,h0,h1,g0,g1,h4⟩:=h.ok;injection e with e;injection e with e1 e;injection e with e2 e;injection e with e3 _;injection e1 with e1;injection e2 with e2;injection e3 with e3;have e3:sh=sh':=by rw[<-JY sh,e3,JY]
 subst e1 e2 e3;refine(_pI hs hP hk aq ak h0 h1 g0 g1 gw h4).mono ?_;rintro y ⟨F,rfl,hF,_⟩;exact#[F,rfl,hF.2]
def _qq{K}(h:∀d∈K,Pin kps a9 rs rs' d):unm (trD K)=true:=by
 cases K with
 |nil=>rfl
 |cons k K=>
  obtain⟨p,q,sh,rfl,_⟩:=(h k X5).ok;rfl
def _qr{P K rk}(hs:ss.length<=3)(hP:Prs kps ss.length rs)(hk:Abk kps)(aq:Prs a9 ss.length rs')(ak:Abk a9)(hl:K.length<=6000)(hn:K.Nodup)(mh:P∈K)(hK:∀p∈K,Pin kps a9 rs rs' p/\Dn ss rs rs' K rk p):
  Oo m__law_table [(.no,jk ss rs),(.no,jk ss rs'),(.no,P),(.no,.lst K)] (λy=>∃o',y=(o',.bl true)/\True) noX:=by
 have ln:=hP.1;have hrl':=aq.1;have t0:∀a b c,jQ (.tup [a,b,c]) (.int 0)=⇑a:=λ_ _ _=>rfl
 have t1:∀a b c,jQ (.tup [a,b,c]) (.int 1)=⇑b:=λ_ _ _=>rfl
 have hil:vx "list" (.lst K)=⇑(.bl true):=rfl;have huK:=_qq λd hd=>(hK d hd).1
 have hkK:=_qm K;unfold m__law_table;refine k6 ?_;simp![hil,↓_ms];refine qQ (λE aa=>∃(K1 K2:List D) (l5:Option Sd),E=[⇑(.no,jk ss rs),⇑(.no,jk ss rs'),⇑(.no,P),⇑(.no,.lst K),⇑(.rt,.dct (trD K1)),l5]/\K=K1++K2/\aa=K2) ?_ ?_ ?_
 ·simp![];exact#[[],K,_,rfl,rfl,rfl]
 ·rintro E d ds ⟨K1,K2,l5,rfl,hKK,rfl⟩;have hd:d∈K:=by rw[hKK];simp
  have hm:d∉K1:=λh=>by
   rw[hKK]at hn;exact(List.nodup_append.mp hn).2.2 d h d X5 rfl
  obtain⟨hp,hg,_⟩:=hK d hd;have hu:=_qq λx hx=>(hK x (hKK▸_ac _ hx)).1
  have ff:=_ql (V8 hp).1 hu;rw[_qm,Xl hm]at ff;have hK1:K1.length<10000:=by have:=congrArg List.length hKK;rw[Xe]at this;lia
  have bz:Qz (trD K1) d (.bl true)=trD (K1++[d]):=by
   rw[show Qz (trD K1) d (.bl true)=trD K1++[(d,.bl true)]from Xj (by rw[_qm];exact hm)];simp[trD]
  obtain⟨p,q,sh,rfl,h0,h1,g0,g1,h4⟩:=hp.ok;have hg:gdF rs p=gdF rs' q:=hg;have c1:decide (-1<=p)=true:=Xg h0;have c2:decide (p<(rs.length:Int))=true:=Xg ⋯;have c3:decide (-1<=q)=true:=Xg g0;have c4:decide (q<(rs'.length:Int))=true:=Xg ⋯;simp![];refine(_nP p q sh).use ?_;intro _ _;simp![ff];refine _mv ?_;simp![];refine#[#[_,rfl],_,rfl,((V8 hp).1),#[by rw[X4];exact hK1,hu],?_];rw[bz];simp![B.neg1,t0,t1,p1,le_ii,lt_ii,c1,c2,c3,c4];refine(_qi ((wZ hP hk h0 h1).2.1)).use ?_;intro _ _;simp![t1];refine(_qi ((wZ aq ak g0 g1).2.1)).use ?_;intro _ _;have hb:(gdF rs p != gdF rs' q)=false:=by rw[hg];simp
  simp![neb,hb];exact#[K1++[_],ds,_,rfl,by rw[hKK];simp,rfl]
 ·rintro E ⟨K1,K2,l5,rfl,hKK,rfl⟩;rw[Xv]at hKK;subst hKK;simp![];refine qQ (λE aa=>∃l5,E=[⇑(.no,jk ss rs),⇑(.no,jk ss rs'),⇑(.no,P),⇑(.no,.lst K),⇑(.rt,.dct (trD K)),l5]/\∀d∈aa,d∈K) ?_ ?_ ?_
  ·simp![];exact#[_,rfl,λd h=>h]
  ·rintro E d ds ⟨l5,rfl,hd⟩;obtain⟨hp,_,ba⟩:=hK d (hd d X5);simp![];refine QX (λE1 B ds ac=>E1=[⇑(.no,jk ss rs),⇑(.no,jk ss rs'),⇑(.no,P),⇑(.no,.lst K),⇑(.rt,.dct (trD K)),⇑(.no,d)]/\∃q0,B=[q0,⇑(.rt,.dct (trD K))]/\(∀x∈ds,x∈K)/\ac=[]) ?_ ?_ ?_
   ·simp![];refine(_qp hs hP hk aq ak hp).via ?_;rintro y ⟨F,rfl,hF⟩;simp![];refine#[_,rfl,λx hx=>?_,trivial];obtain⟨z,hz,i,i0,i1,rfl⟩:=hF x hx;exact(ba z hz i i0 i1).1
   ·rintro E1 B x ds ac ⟨rfl,q0,rfl,hx,rfl⟩;have hxK:=hx x X5;have sk:=_mw (V8 (hK x hxK).1).1 huK;rw[hkK,Xg hxK]at sk;simp![sk];exact#[_,rfl,λy hy=>hx y (_ad _ hy),trivial]
   ·rintro E1 B ac ⟨rfl,q0,rfl,_,rfl⟩;rw[zw];simp only[Jz,back,clr,at',List.drop,List.map_cons,List.map_nil,List.set_cons_zero,List.set_cons_succ];have bh:fNe (.lst []) (.lst [])=⇑(.bl false):=rfl;simp![bh];exact#[_,rfl,λy hy=>hd y (_ad _ hy)]
  ·rintro E ⟨l5,rfl,_⟩;have ff:=_ql (V8 (hK P mh).1).1 huK;rw[hkK,Xg mh]at ff;simp![ff];exact#[_,rfl,trivial]
def row_holds_ok{P}{w:Lw}(h1:1<=kps.length)(mx:1<=a9.length)(hP:Prs kps ss.length rs)(hk:Abk kps)(aq:Prs a9 ss.length rs')(ak:Abk a9)(h:Pin kps a9 rs rs' P)(hl:w.length<=6000)(lv:Sg kps a9 ss w)(hn:¬gp ss rs rs' (pS rs P) (pT rs rs' P) w)(hu:∀u,(∀x∈u,x.1∈ss)->u.length<w.length->gp ss rs rs' (pS rs P) (pT rs rs' P) u):
  Oo m__law_row_holds [(.no,jk ss rs),(.no,jk ss rs'),(.no,P),(.no,.lst (w.map rwI))] (λy=>∃o',y=(o',.bl true)/\True) noX:=by
 have hil:vx "list" (.lst (w.map rwI))=⇑(.bl true):=rfl;have hpt:∀u:Lw,(∀x∈u,x.1∈ss)->Oo m__law_parts [(.no,jk ss rs),(.no,jk ss rs'),(.no,.lst [stn (pS rs P),stn (pT rs rs' P)]),(.no,.lst (u.map rwI))] _ noX:=λu hu=>_qk hP hk aq ak h.two.a h.two.b hu
 unfold m__law_row_holds;refine k6 ?_;simp![hil];refine qQ (λE aa=>∃(w2:Lw) (l4:Option Sd),E=[⇑(.no,jk ss rs),⇑(.no,jk ss rs'),⇑(.no,P),⇑(.no,.lst (w.map rwI)),l4,none,none]/\(∀x∈w2,x∈w)/\aa=w2.map rwI) ?_ ?_ ?_
 ·simp![];exact#[w,_,rfl,λx hx=>hx,rfl]
 ·rintro E d ds ⟨w2,l4,rfl,sw,hr⟩;cases w2 with
  |nil=>cases hr
  |cons x w2=>
   rw[List.map_cons]at hr;injection hr with e1 e2;subst e1 e2;obtain⟨z,c⟩:=x;obtain⟨hz,c0,c1⟩:=lv _ (sw (z,c) X5);have c0:0<=c:=c0;have c1:c<=mxF kps+mxF a9:=c1;have hz:(ss.any λw=>w==z)=true:=List.any_eq_true.mpr #[z,hz,beq_self_eq_true _];have i1:vx "tuple" (rwI (z,c))=⇑(.bl true):=rfl;have i2:vx "str" (.str z)=⇑(.bl true):=rfl;have i3:fNe (.int 2) (.int 2)=⇑(.bl false):=rfl;have i4:kW (rwI (z,c))=⇑(.int 2):=rfl;have d1:decide (0<=c)=true:=Xg c0;have d2:decide (c<=mxF kps+mxF a9)=true:=Xg c1;simp![i1,i2,i3,i4,p0,p1,_mX,hz];refine(B.whole_int c).use ?_;intro _ _;simp![p1,le_ii,d1];refine(_qn h1 hP).use ?_;intro _ _;simp![d1];refine(_qn mx aq).use ?_;intro _ _;simp![le_ii,d2];exact#[w2,_,rfl,λx hx=>sw x (_ad _ hx),rfl]
 ·rintro E ⟨w2,l4,rfl,sw,hr⟩;simp![];refine(_qo hP hk aq ak h).via ?_;rintro _ rfl;simp![];refine qQ (λE aa=>∃(k:Int) (o5:Own) (l6:Option Sd),E=[⇑(.no,jk ss rs),⇑(.no,jk ss rs'),⇑(.no,P),⇑(.no,.lst (w.map rwI)),l4,⇑(o5,.lst [stn (pS rs P),stn (pT rs rs' P)]),l6]/\0<=k/\k<=w.length/\aa=k4 k w.length) ?_ ?_ ?_
  ·simp![];refine#[#[by unfold zQ;simp;lia,by unfold big;lia],0,_,_,rfl,⋯,⋯,rfl]
  ·rintro E d ds ⟨k,o5,l6,rfl,k0,k1,hr⟩;obtain⟨oh,rfl,rfl⟩:=xz k1 hr;have hc:KJ (w.map rwI) none ⇑k=(w.take k.toNat).map rwI:=by rw[C.cut_to k0 (by rw[X4];lia),List.map_take]
   have iu:=_mq (o:=.no) (xs:=w.map rwI) (lo:=none) (hi:=⇑k) ⋯;rw[hc]at iu;have hut:∀x∈w.take k.toNat,x.1∈ss:=λx hx=>(lv x (List.mem_of_mem_take hx)).1
   have hg:=hu (w.take k.toNat) hut (by rw[Z4];lia);have l0:=hpt _ hut;rw[show(gdF rs (rmO (run ss rs (pS rs P) (w.take k.toNat))) != gdF rs' (rmO (run ss rs' (pT rs rs' P) (w.take k.toNat))))=false by unfold gp at hg;rw[hg];simp]at l0;simp![iu];refine l0.use ?_;intro _ _;simp![];exact#[k+1,_,_,rfl,⋯,⋯,rfl]
  ·rintro E ⟨k,o5,l6,rfl,k0,k1,hr⟩;have l0:=hpt w λx hx=>(lv x hx).1
   rw[show(gdF rs (rmO (run ss rs (pS rs P) w)) != gdF rs' (rmO (run ss rs' (pT rs rs' P) w)))=true by simpa [gp]using hn]at l0;simp![];refine l0.use ?_;intro _ _;exact#[_,rfl,trivial]
end
end Y
namespace Nk43
open PySem Q
def m_is_small : Fn:= J.m_is_small
def m_read_by : Fn:= C.m_read_by
def m_is_good_in : Fn:= B.m_is_good_in
def m_agrees : Fn:= B.m_agrees
def m_keepers_in : Fn:= B.m_keepers_in
def m_standing_in : Fn:= B.m_standing_in
def m_first_standings : Fn:= B.m_first_standings
def m_names_of : Fn:= B.m_names_of
def m_held_by_both : Fn:= B.m_held_by_both
def m_room_of : Fn:= B.m_room_of
def m_pair_of : Fn:= B.m_pair_of
def m_read_by_both : Fn:= B.m_read_by_both
def m_steps_from : Fn:= U.m_steps_from
def m_least_beside : Fn:= U.m_least_beside
def m_parting_row : Fn:= U.m_parting_row
def m_steps_to : Fn:= U.m_steps_to
def m_searched : Fn:= U.m_searched
def m_compared:Fn:=fn 3
  (j6 (sIf (tE (cF2 (pu2 fNe) (j9 (vV 0) (C9 0)) (j9 (vV 1) (C9 0)))) _hB k5)
  (j6 (sIf (tOr (tNot (tEQ (vE (jx m_is_small [(cV 0)])))) (tNot (tEQ (vE (jx m_is_small [(cV 1)]))))) _hB k5)
  (jJ (jx m_searched [(cV 0),(cV 1),(cIf (tE (cF2 (f2First fIsNon) (vV 2) (vE (cC .non)))) (cC (.tup [(.int 0),(.int 0),(.tup [])])) (cV 2))]))))
def m__law_cell_at : Fn:= B.m__law_cell_at
def m__law_whole : Fn:= B.m__law_whole
def m__law_stream : Fn:= B.m__law_stream
def m__law_signs : Fn:= B.m__law_signs
def m__law_fills : Fn:= B.m__law_fills
def m__law_case : Fn:= B.m__law_case
def m__law_plain : Fn:= B.m__law_plain
def m__law_read : Fn:= B.m__law_read
def m__law_keepers : Fn:= B.m__law_keepers
def m__law_pair : Fn:= B.m__law_pair
def m__law_is_pair : Fn:= B.m__law_is_pair
def m__law_firsts : Fn:= Y.m__law_firsts
def m__law_behind_all : Fn:= Y.m__law_behind_all
def m__law_good : Fn:= Y.m__law_good
def m__law_table : Fn:= Y.m__law_table
def m__law_most : Fn:= Y.m__law_most
def m__law_parts : Fn:= Y.m__law_parts
def m__law_row_holds : Fn:= Y.m__law_row_holds
def YJ:Fn:=fn 3
  (j6 (sIf (tAnd (tE (cF2 (pu2 fEq) (vV 2) (C9 1))) (tE (cF2 (pu2 fLt) (vV 0) (vV 1)))) (jJ (cF2 (pu2 _d7) (vE (cF2 (pu2 _d7) (vV 1) (C9 1))) (vV 0))) k5)
  (jJ (cV 0)))
def _qs:Fn:=fn 13
  (j6 (Kj [6,7,8] (cH (j9 (j9 (vV 0) (C9 1)) (vV 1))))
  (j6 (jw 9 (cH (j9 (j9 (vV 8) (vV 4)) (vE (jx YJ [(cV 3),(cV 6),(cV 2)])))))
  (j6 (sIf (tE (cF2 (f2First fIsNon) (vV 9) (vE (cC .non)))) (jJ (cC .non)) k5)
  (j6 (jw 10 (cH (j9 (j9 (j9 (vV 0) (C9 1)) (j9 (vV 9) (C9 0))) (C9 0))))
  (j6 (jw 11 (q9 .rt []))
  (j6 (kQ (vZ (vV 10)) (.n 12) (v4 v3 11 (jx YJ [(cH (j9 (j9 (vV 9) (C9 1)) (vE (jx YJ [(cV 12),(cV 10),(cV 5)])))),(cV 6),(cV 2)])))
  (jJ (kw .no [(cF2 kq (j9 (vV 9) (C9 0)) (vE (cF2 J3 (vV 5) (vE (cF1 (pu1 kW) (j9 (vV 0) (C9 1))))))),(cF1 z7 (vV 11))]))))))))
def _qt:Fn:=fn 14
  (j6 (jw 2 (q9 .dp []))
  (j6 (jw 3 (cC (.int 0)))
  (j6 (kQ (vZ (C9 2)) (.n 4) (kQ (vZ (vE (cF1 (pu1 kW) (j9 (vV 0) (C9 1))))) (.n 5) (j6 (Kj [6,7,8] (cH (j9 (j9 (vV 0) (C9 1)) (vV 5))))
  (j6 (jw 9 (q9 .dp []))
  (j6 (kQ (vZ (vE (cF1 (pu1 kW) (j9 (vV 0) (C9 0))))) (.n 10) (j6 (jw 11 (q9 .dp []))
  (j6 (kQ (vZ (vE (cF2 kq (vV 6) (C9 1)))) (.n 12) (j6 (jw 13 (cF2 (pu2 v7) (vE (cF2 kq (vE (jx m__law_cell_at [(cV 1),(cF2 kq (C9 4) (vV 3))])) (vE (cF2 (pu2 zY) (vV 3) (C9 2))))) (C9 2)))
  (j6 (v4 v3 11 (jx _qs [(cV 0),(cV 5),(cV 4),(cV 12),(cV 10),(cV 13)]))
  (jw 3 (cF2 kq (vV 3) (C9 1))))))
  (v4 v3 9 (cMv 11)))))
  (v4 v3 2 (kw .dp [(cV 6),(cV 7),(cMv 9)])))))))
  (jJ (kw .dp [(_h1 (cF1 W9 (j9 (vV 0) (C9 0)))),(cMv 2)])))))
def J0:Fn:=fn 3
  (j6 (jw 2 (_lu m_compared [(cV 0),(cV 1)]))
  (j6 (sIf (tOr (tNot (tEQ (vE (cF1 (pu1 (vx "tuple")) (vV 2))))) (tE (cF2 (pu2 fNe) (vE (cF1 (pu1 kW) (vV 2))) (C9 2)))) (jJ (cC .non)) k5)
  (j6 (sIf (tAnd (tE (cF2 (pu2 fEq) (j9 (vV 2) (C9 0)) (vE (cC (.str "alike"))))) (tEQ (vE (jx m__law_table [(cV 0),(cV 1),(kw .no [(cC (.int 0)),(cC (.int 0)),(kw .no [])]),(cH (j9 (vV 2) (C9 1)))])))) (jJ (kw .no [(cC (.str "alike")),(cC (.int 0))])) k5)
  (j6 (sIf (tAnd (tE (cF2 (pu2 fEq) (j9 (vV 2) (C9 0)) (vE (cC (.str "apart"))))) (tEQ (vE (jx m__law_row_holds [(cV 0),(cV 1),(kw .no [(cC (.int 0)),(cC (.int 0)),(kw .no [])]),(cH (j9 (vV 2) (C9 1)))])))) (jJ (kw .no [(cC (.str "apart")),(cF1 (pu1 kW) (j9 (vV 2) (C9 1)))])) k5)
  (jJ (cC .non))))))
def m_law:Fn:=fn 10
  (j6 (jw 1 (jx m__law_signs [(jx m__law_cell_at [(cV 0),(cC (.int 0))])]))
  (j6 (jw 2 (jx m__law_plain [(jx m__law_cell_at [(cV 0),(cC (.int 1))]),(cV 1)]))
  (j6 (jw 3 (jx _qt [(cV 2),(cV 0)]))
  (j6 (jw 4 (cF2 (pu2 fEq) (vE (cF2 (pu2 v7) (vE (jx m__law_cell_at [(cV 0),(cC (.int 2))])) (C9 2))) (C9 1)))
  (j6 (sIf (tEQ (vV 4)) (j6 (jw 5 (cF2 (pu2 v7) (vE (jx m__law_cell_at [(cV 0),(cC (.int 3))])) (vE (cF1 (pu1 kW) (j9 (vV 3) (C9 1))))))
  (_l7 3 5 6 7 8)) k5)
  (j6 (jw 9 (KY J0 [(vV 2),(vV 3)]))
  (j6 (sIf (tOr (tE (cF2 (f2First fIsNon) (vV 9) (vE (cC .non)))) (tAnd (tNot (tEQ (vV 4))) (tE (cF2 (pu2 fNe) (vV 9) (vE (kw .no [(cC (.str "alike")),(cC (.int 0))])))))) (jJ (cC (.bl false))) k5)
  (j6 (sIf (tOr (tE (cF2 (pu2 fNe) (vE (KY J0 [(vV 3),(vV 2)])) (vV 9))) (tE (cF2 (pu2 fNe) (vE (jx J0 [(cV 2),(cV 2)])) (vE (kw .no [(cC (.str "alike")),(cC (.int 0))]))))) (jJ (cC (.bl false))) k5)
  (jJ (Q7 (vE (cF2 (pu2 fEq) (vE (KY J0 [(vV 3),(vV 3)])) (vE (kw .no [(cC (.str "alike")),(cC (.int 0))])))) (cF2 (pu2 fEq) (vE (KY J0 [(vV 2),(vV 3)])) (vV 9))))))))))))
end Nk43
namespace Nk43
open Q PySem C B J U Y
def bI(b:Bool):Int:=if b then 1 else 0
def tw{α:Type}(b:Bool)(l:List α):List α:=if b then l.reverse else l
def tnF(b:Bool)(own k:Int):Int:=if b=true/\k<own then own - 1 - k else k
inductive Md (n:Int)(b b2:Bool)(own:Int):D->D->Prop
 |non:Md n b b2 own .non .non
 |tup (to:Int) (fs:List Int):Md n b b2 own (.tup [.int to,iT fs]) (.tup [.int (to+bI b2*n),iT (tw b2 (fs.map (tnF b own)))])
def Mr(kps:List Int)(m:Nat)(b:Bool)(r r':D):Prop:=∃own g st dv,r=.tup [.int own,.bl g,.lst st]/\r'=.tup [.int own,.bl g,.lst dv]/\dv.length=m/\∀s:Nat,s<m->∃cs lj,st[s]?=⇑(.lst cs)/\dv[s]?=⇑(.lst lj)/\(lj.length:Int)=own+1/\∀i:Nat,i<lj.length->∃b2 z z',cs[(tnF b own i).toNat]?=⇑z/\lj[i]?=⇑z'/\Md kps.length b b2 own z z'
def Mds(kps:List Int)(m:Nat)(rs rs':List D):Prop:=rs'.length=2*rs.length/\∀p:Nat,p<rs.length->∀b,∃r r',rs[p]?=⇑r/\rs'[(p+bI b*rs.length:Int).toNat]?=⇑r'/\Mr kps m b r r'
inductive Sim (n:Int):Sn->Sn->Prop
 |non:Sim n none none
 |rm (p:Int) (ks:List Int) (c:Bool):0<=p->p<n->Sim n ⇑(p,ks) ⇑(p+bI c*n,tw c ks)
def _qu{l:List Int}{q:Int}{j:Nat}(h:l.Nodup)(e:l[j]?=⇑q):(l.findIdx λw=>w==q)=j:=by
 have hm:q∈l:=Yu e;have g:=WY hm;have hl:=(aF g).1;exact(List.getElem?_inj hl h).mp (g.trans e.symm)
def _qv{ks:List Int}(q:Int)(c:Bool)(h:ks.Nodup):tnF c ks.length ((tw c ks).findIdx λw=>w==q:Nat)=(ks.findIdx λw=>w==q:Nat):=by
 cases c with
 | false=>rfl
 | true=>
  show tnF true _ ((ks.reverse.findIdx λw=>w==q:Nat):Int)=_
  by_cases hm:q∈ks
  ·have g:=WY hm;have hl:=(aF g).1;have e:ks.reverse[ks.length - 1 - (ks.findIdx λw=>w==q)]?=⇑q:=by
    rw[List.getElem?_reverse ⋯,show ks.length - 1 - (ks.length - 1 - (ks.findIdx λw=>w==q))=(ks.findIdx λw=>w==q)by lia];exact g
   rw[_qu ((List.reverse_perm ks).nodup_iff.mpr h) e];unfold tnF;rw[Xb #[rfl,⋯]];lia
  ·have n1:(ks.findIdx λw=>w==q)=ks.length:=List.findIdx_eq_length.mpr λx hx=>Y2 λe=>hm (e▸hx)
   have n2:(ks.reverse.findIdx λw=>w==q)=ks.length:=by
    rw[<-List.length_reverse];exact List.findIdx_eq_length.mpr λx hx=>Y2 λe=>hm (e▸List.mem_reverse.mp hx)
   rw[n1,n2];unfold tnF;rw[Xj ⋯]
def _qw{ks:List Int}(q:Int)(c:Bool){f:Int}(h0:0<=f)(h1:f<=ks.length):C.nameAt (tw c ks) q (tnF c ks.length f)=C.nameAt ks q f:=by
 cases c with
 | false=>rfl
 | true=>
  show C.nameAt ks.reverse q _=_;unfold C.nameAt tnF
  by_cases hf:f<ks.length
  ·rw[Xb #[rfl,hf],X2,X2,Xr (by simp;lia),Xr ⋯,List.getElem?_reverse ⋯]
   congr 2
   lia
  ·rw[Xj ⋯,show f.toNat=ks.length by lia];simp[Y8]
section
variable {kps:List Int}{ss:List Str}{rs rs':List D}
def _qx(to:Int)(ks:List Int):WK (.tup [.int to,iT ks])=⇑(to,ks):=by
 show ⇑_=_;rw[Xi]
 congr 2
 exact List.map_id ks
def _qy{a b z}(q:Int)(hP:Prs kps ss.length rs)(hk:Abk kps)(hM:Mds kps ss.length rs rs')(hz:z∈ss)(ha:qk kps a)(na:(nms a).Nodup)(h:Sim rs.length a b):Sim rs.length (rdF ss rs a z q) (rdF ss rs' b z q):=by
 cases h with
 | non=>exact .non
 | rm p ks c p0 p1=>
  obtain⟨_,_,ae⟩:=ha p ks rfl;obtain⟨r,r',e1,e2,own,g,st,dv,rfl,rfl,hl,ba⟩:=hM.2 p.toNat ⋯ c;rw [show((p.toNat:Nat):Int)=p by lia]at e2;obtain⟨r0,e0,g0,nr,i5,mr,hs2⟩:=hP.2 p.toNat (by rw[<-hP.1];lia);rw [e1]at e0;cases _aa e0;injection i5 with i5;injection i5 with q1 i5;injection i5 with q2 i5;injection i5 with q3 _;injection q1 with q1;injection q3 with q3;subst q1 q3;rw [<-ae]at *;have hca:Cas kps ss.length ks.length st:=#[mr,hs2];have se:(ss.any λw=>w==z)=true:=List.any_eq_true.mpr #[z,hz,by simp];obtain⟨cs,g1,g2,g3,g4⟩:=ZQ q hca se;obtain⟨cs1,lj,f1,f2,f3,f4⟩:=ba _ (_m1 se);rw [g1]at f1;cases _aa f1;have gl:=_m6 (ks:=tw c ks) (p:=q);have cj:(tw c ks).length=ks.length:=by cases c<;>simp[tw]
  obtain⟨b2,z1,z1',h1,h2,hmd⟩:=f4 ((tw c ks).findIdx λw=>w==q) ⋯;have na:ks.Nodup:=na;rw [_qv q c na,Xu,g3]at h1;cases _aa h1;have jl:x4 ss dv (tw c ks) z q=z1':=by
   unfold x4;rw [f2];dsimp only;rw [X2,h2];rfl
  unfold rdF wK;dsimp only;rw [e1,e2];dsimp only;rw [se,jl];generalize x4 ss st ks z q=y at hmd g4;cases hmd with
  | non=>exact .non
  | tup to fs=>
   rcases g4 with e|⟨to',fs',e,t0,t1,hfs,_⟩
   ·cases e
   ·injection e with e;injection e with e3 e4;injection e3 with e3;injection e4 with e4 _;injection e4 with e4;subst e3;have e4:=(Ys λa b h=>by injection h).mp e4;subst e4;rw[Xb rfl,Xb rfl,caseD_is,caseD_is,_qx,_qx];have e5:(tw b2 (fs.map (tnF c ks.length))).map (C.nameAt (tw c ks) q)=tw b2 (fs.map (C.nameAt ks q)):=by
     have:(fs.map (tnF c ks.length)).map (C.nameAt (tw c ks) q)=fs.map (C.nameAt ks q):=by
      rw[Xi];refine Y5 λf hf=>?_
      have:=hfs f hf;have:=_m8 (own:=ks.length) (k:=(ks.findIdx λw=>w==q:Nat));exact _qw q c (hfs f hf).1 ⋯
     cases b2
     ·exact this
     ·show(List.reverse _).map _=List.reverse _;rw[List.map_reverse,this]
    rw[e5];rw[show(rs.length:Int)=kps.length by rw[hP.1]];exact .rm to _ b2 t0 t1
def _qz(hP:Prs kps ss.length rs)(hk:Abk kps)(hM:Mds kps ss.length rs rs'):∀(w:Lw) {a b},(∀x∈w,x.1∈ss)->qk kps a->(nms a).Nodup->Sim rs.length a b->Sim rs.length (run ss rs a w) (run ss rs' b w)
 |[],a,b,_,_,_,h=>h|x::w,a,b,hw,ha,na,h=>_qz hP hk hM w (λy hy=>hw y (_ad _ hy)) (x8 x.1 x.2 hP hk ha).2 (_oH hP hk ha na) (_qy x.2 hP hk hM (hw x X5) ha na h)
def _qA{a b}(hM:Mds kps ss.length rs rs')(h:Sim rs.length a b):gdF rs (rmO a)=gdF rs' (rmO b):=by
 cases h with
 |non=>rfl
 |rm p ks c p0 p1=>
  obtain⟨r,r',e1,e2,own,g,st,dv,rfl,rfl,_⟩:=hM.2 p.toNat ⋯ c;rw[show((p.toNat:Nat):Int)=p by lia]at e2;have:0<=bI c*(rs.length:Int):=by cases c<;>simp[bI]
  show gdF rs p=gdF rs' (p+bI c*rs.length);unfold gdF;rw[Xj ⋯,Xj ⋯,e1,e2]
def _qB(hP:Prs kps ss.length rs)(hk:Abk kps)(h0:kps[0]?=⇑0)(hM:Mds kps ss.length rs rs')(w:Lw)(hw:∀x∈w,x.1∈ss):gp ss rs rs' S0 S0 w:=by
 have t:=_o2 h0 h0;have hl:0<kps.length:=(aF h0).1;exact _qA hM (_qz hP hk hM w hw t.a t.na (by simpa [bI,tw]using Sim.rm (n:=rs.length) 0 [] false ⋯ (by rw[hP.1];lia)))
end
def _qC(c:Bool)(k own:Int):Oo YJ [(.no,.int k),(.no,.int own),(.no,.int (bI c))] (λy=>∃o',y=(o',.int (tnF c own k))/\True) noX:=by
 refine k6 ?_;cases c with
 | false=>
  have e:fEq (.int (bI false)) (.int 1)=⇑(.bl false):=rfl;simp![e];exact#[_,rfl,trivial]
 | true=>
  have e:fEq (.int (bI true)) (.int 1)=⇑(.bl true):=rfl
  by_cases h:k<own
  ·have hd:decide (k<own)=true:=Xg h;simp![e,hd];exact#[_,by unfold tnF;rw[Xb #[rfl,h]],trivial]
  ·have hd:decide (k<own)=false:=Xl h;simp![e,hd];exact#[_,by unfold tnF;rw[Xj (by simp[h])],trivial]
section
variable {kps:List Int}{ss:List Str}{rs rs':List D}
def _qD{p s:Nat}{own i:Int}{g st cs z}{c b2:Bool}(hP:Prs kps ss.length rs)(hk:Abk kps)(hr:rs[p]?=⇑(.tup [.int own,g,.lst st]))(hs:st[s]?=⇑(.lst cs))(t0:0<=tnF c own i)(hz:cs[(tnF c own i).toNat]?=⇑z)(hc:Cs kps (vk own (tnF c own i)) z)(hn:kps.length<=12):
  Oo _qs [(.no,jk ss rs),(.no,.int p),(.no,.int (bI c)),(.no,.int i),(.no,.int s),(.no,.int (bI b2))] (λy=>∃o z',y=(o,z')/\Md kps.length c b2 own z z'/\z'.pure=true) noX:=by
 have m1:jQ (jk ss rs) (.int 1)=⇑(.lst rs):=rfl;have hi:jQ (.lst rs) (.int p)=⇑(.tup [.int own,g,.lst st]):=vq ⋯ (by rw[Xu];exact hr);have hsi:jQ (.lst st) (.int s)=⇑(.lst cs):=vq ⋯ (by rw[Xu];exact hs);have hci:jQ (.lst cs) (.int (tnF c own i))=⇑z:=vq t0 hz;refine k6 ?_;simp![m1,hi,hsi];refine(_qC c i own).use ?_;intro _ _;simp![hci];rcases hc with rfl|⟨to,fs,rfl,t1,t2,hfs,hnd,hfl⟩
 ·simp![];exact#[_,_,rfl,.non,rfl]
 obtain⟨r2,e2,g2,bo,rfl,_⟩:=hP.2 to.toNat ⋯;have q0:jQ (.tup [.int to,.tup (fs.map D.int)]) (.int 0)=⇑(.int to):=rfl;have q1:jQ (.tup [.int to,.tup (fs.map D.int)]) (.int 1)=⇑(.tup (fs.map D.int)):=rfl;have hto:jQ (.lst rs) (.int to)=⇑_:=vq t1 e2;have mq:=hk (kps.getD to.toNat 0) (by rw[X2,X1 ⋯];exact Xn _);generalize kps.getD to.toNat 0=sz at *;have k0:jQ (.tup [.int sz,.bl g2,.lst bo]) (.int 0)=⇑(.int sz):=rfl;simp![m1,q0,hto,k0];generalize hL:tw b2 (fs.map (tnF c own))=L;have hll:(L.length:Int)=sz:=by rw[<-hL];cases b2<;>simp[tw,hfl]
 have hLk:∀k:Nat,k<L.length->∃f,0<=tnF b2 sz k/\fs[(tnF b2 sz k).toNat]?=⇑f/\L[k]?=⇑(tnF c own f):=λk oh=>by
  rw[<-hL];cases b2 with
  | false=>exact#[fs[k]'⋯,by show(0:Int)<=k;lia,X1 _,by simp[tw,show k<fs.length by lia]]
  | true=>
   have e:tnF true sz k=sz - 1 - k:=Xb #[rfl,⋯];rw[e];exact#[fs[(sz - 1 - k).toNat]'⋯,⋯,X1 _,by
    show(fs.map _).reverse[k]?=_;rw[List.getElem?_reverse (by simp;lia),Xh,X4,show fs.length - 1 - k=(sz - 1 - k).toNat by lia,X1 ⋯];rfl]
 refine qQ (λE aa=>∃(k:Nat) (io:Option Sd),E=[⇑(.no,jk ss rs),⇑(.no,.int p),⇑(.no,.int (bI c)),⇑(.no,.int i),⇑(.no,.int s),⇑(.no,.int (bI b2)),⇑(.no,.int own),⇑(.no,g),⇑(.no,.lst st),⇑(.no,.tup [.int to,.tup (fs.map D.int)]),⇑(.no,.int sz),⇑(.rt,iL (L.take k)),io]/\k<=L.length/\aa=k4 k sz) ?_ ?_ ?_
 ·simp![];exact#[0,none,rfl,Y1 _,rfl]
 ·rintro E d ds ⟨k,io,rfl,oh,hr⟩;obtain⟨cj,rfl,rfl⟩:=xz ⋯ hr;obtain⟨f,f0,f1,f2⟩:=hLk k ⋯;have hf:jQ (.tup (fs.map D.int)) (.int (tnF b2 sz k))=⇑(.int f):=_mc f0 (by rw[Xh,f1];rfl);simp![];refine xJ rfl ?_;simp![q1];refine(_qC b2 k sz).use ?_;intro _ _;simp![hf];refine(_qC c f own).use ?_;intro _ _;simp![];have e:iL (L.take (k+1))=.lst ((L.take k).map D.int++[.int (tnF c own f)]):=by rw[List.take_succ,f2,iL,X7];rfl
  exact#[_,rfl,by simp;lia,k+1,_,by rw[e],⋯,by rw[Int.natCast_add];rfl]
 ·rintro E ⟨k,io,rfl,oh,hr⟩;have:=z9 ⋯ hr;have n8:L.take k=L:=List.take_of_length_le ⋯;rw[n8];have ml:kW (.lst rs)=⇑(.int kps.length):=by rw[<-hP.1];rfl
  have mt:J3 (.no,.int (bI b2)) (.dp,.int kps.length)=⇑(.dp,.int (bI b2*kps.length)):=by cases b2<;>(rw[mulT_i];exact mul_l ⋯ ⋯)
  have ht:z7 (.rt,iL L)=⇑(.no,.tup (L.map D.int)):=tup_l ⋯;have l0:D.pures (L.map D.int)=true:=D.pures_map _ _ λx _=>rfl
  simp![m1,q0,ml,mt,ht];refine#[_,_,rfl,hL▸.tup to fs,?_];show(true&&(D.pures (L.map D.int)&&true))=true;rw[l0];rfl
end
def Al(P:Nat->D->Prop)(l:List D):Prop:=∀i:Nat,i<l.length->∃z,l[i]?=⇑z/\P i z
def Al.nil{P}:Al P []:=nofun
def Al.snoc{P:Nat->D->Prop}{l:List D}{y:D}(h:Al P l)(hy:P l.length y):Al P (l++[y]):=λi hi=>by
 rw[Xe,Y9]at hi
 by_cases h2:i<l.length
 ·obtain⟨z,z1,z2⟩:=h i h2;exact#[z,by rw[Xr h2];exact z1,z2]
 ·have:i=l.length:=⋯
  subst this;exact#[y,by simp,hy]
def P1(n:Int)(c:Bool)(own:Int)(cs:List D):Nat->D->Prop:=λi z'=>∃b2 z,cs[(tnF c own i).toNat]?=⇑z/\Md n c b2 own z z'
def P2(n:Int)(c:Bool)(own:Int)(st:List D):Nat->D->Prop:=λs d=>∃cs lj,st[s]?=⇑(.lst cs)/\d=.lst lj/\(lj.length:Int)=own+1/\Al (P1 n c own cs) lj
def P3(kps:List Int)(m:Nat)(rs:List D):Nat->D->Prop:=λj r'=>∀(p:Nat) b,p<rs.length->(j:Int)=p+bI b*rs.length->∃r,rs[p]?=⇑r/\Mr kps m b r r'
def _qE{xs}(h:D.pures xs=true):_h0 (.rt,.lst xs)=true:=by
 unfold _h0
 grind
def _qF{i:Nat}{c}{E:En}{xs N C R X}(h0:E[i]?=some ⇑(.dp,.lst xs))
  (h:Eo (c E) (λE1 x=>∃ys,E1[i]?=some ⇑(.dp,.lst ys)/\ys.length<10000/\wQ x=true/\N (E1.set i ⇑(.dp,.lst (ys++[x.2])))) X):Po (v4 v3 i c E) N C R X:=
 _mp h0 (h.mono λE1 x hz=>by obtain⟨ys,h1,h2,h3,h4⟩:=hz;exact#[.dp,ys,h1,⋯,h2,by rw[Xb #[rfl,h3]];exists h4])
def _qG{i:Nat}{c}{E:En}{xs N C R X}(h0:E[i]?=some ⇑(.dp,.lst xs))
  (h:Eo (c E) (λE1 x=>∃ys,E1[i]?=some ⇑(.dp,.lst ys)/\ys.length<10000/\x.1=.dp/\N (E1.set i ⇑(.dp,.lst (ys++[x.2])))) X):Po (v4 v3 i c E) N C R X:=
 _qF h0 (h.mono λE1 x hz=>by obtain⟨ys,h1,h2,h3,h4⟩:=hz;exact#[ys,h1,h2,by unfold wQ;rw[h3];rfl,h4])
section
variable {kps:List Int}{ss:List Str}{rs:List D}
inductive I3 (ns:List Int)(n:Int)(ss:List Str)(rs R:List D)(c:Bool)(p:Nat)(own:Int)(g:D)(st M:List D)(s:Nat)(cs:List D):En->List D->Prop
 |mk (C:List D) (u:Nat) {o3:Own} {io si:Option Sd} {aa} (h1:(C.length:Int)<=own+1) (h2:aa=k4 C.length (own+1)) (h3:Al (P1 n c own cs) C):I3 ns n ss rs R c p own g st M s cs [⇑(.no,jk ss rs),⇑(.no,iL ns),⇑(.dp,.lst R),⇑(o3,.int u),⇑(.no,.int (bI c)),⇑(.no,.int p),⇑(.no,.int own),⇑(.no,g),⇑(.no,.lst st),⇑(.dp,.lst M),⇑(.no,.int s),⇑(.dp,.lst C),io,si] aa
inductive I2 (ns:List Int)(n:Int)(ss:List Str)(rs R:List D)(c:Bool)(p:Nat)(own:Int)(g:D)(st:List D):En->List D->Prop
 |mk (M:List D) (u:Nat) {o3:Own} {i9 np io si:Option Sd} {aa} (h1:M.length<=ss.length) (h2:aa=k4 M.length ss.length) (h3:Al (P2 n c own st) M):I2 ns n ss rs R c p own g st [⇑(.no,jk ss rs),⇑(.no,iL ns),⇑(.dp,.lst R),⇑(o3,.int u),⇑(.no,.int (bI c)),⇑(.no,.int p),⇑(.no,.int own),⇑(.no,g),⇑(.no,.lst st),⇑(.dp,.lst M),i9,np,io,si] aa
inductive I1 (ns:List Int)(kps:List Int)(ss:List Str)(rs:List D)(c:Bool):En->List D->Prop
 |mk (R:List D) (p u:Nat) {o3:Own} {l5 l6 l7 l8 l9 i9 np io si:Option Sd} {aa} (h0:(R.length:Int)=p+bI c*rs.length) (h1:p<=rs.length) (h2:aa=k4 p rs.length) (h3:Al (P3 kps ss.length rs) R):I1 ns kps ss rs c [⇑(.no,jk ss rs),⇑(.no,iL ns),⇑(.dp,.lst R),⇑(o3,.int u),⇑(.no,.int (bI c)),l5,l6,l7,l8,l9,i9,np,io,si] aa
inductive I0 (ns:List Int)(kps:List Int)(ss:List Str)(rs:List D):En->List D->Prop
 |mk (R:List D) (k u:Nat) {o3:Own} {l4 l5 l6 l7 l8 l9 i9 np io si:Option Sd} {aa} (h0:(R.length:Int)=k*rs.length) (h1:k<=2) (h2:aa=k4 k 2) (h3:Al (P3 kps ss.length rs) R):I0 ns kps ss rs [⇑(.no,jk ss rs),⇑(.no,iL ns),⇑(.dp,.lst R),⇑(o3,.int u),l4,l5,l6,l7,l8,l9,i9,np,io,si] aa
def _qH:m__law_cell_at=B.m__law_cell_at:=rfl
def _qI(ns)(hn:ns.length<=63)(hP:Prs kps ss.length rs)(hk:Abk kps)(h6:kps.length<=6)(qo:ss.length<=3):Oo _qt [(.no,jk ss rs),(.no,iL ns)] (λy=>∃rs',y=(.dp,jk ss rs')/\Mds kps ss.length rs rs') noX:=by
 have ln:=hP.1;have cell:∀k:Nat,Oo B.m__law_cell_at [(.no,iL ns),(.no,.int k)] (λy=>∃o',y=(o',.int (xK ns k))/\True) noX:=λk=>_nC ns k ⋯
 have m1:jQ (jk ss rs) (.int 1)=⇑(.lst rs):=rfl;unfold _qt;simp only[_qH];refine k6 ?_;simp![];refine qQ (I0 ns kps ss rs) ?_ ?_ ?_
 ·simp![];exact .mk [] 0 0 (by simp) ⋯ rfl .nil
 ·rintro E d ds ⟨R,k,u,h0,h1,hr,h3⟩;obtain⟨cj,rfl,rfl⟩:=xz ⋯ hr;obtain⟨c,hc⟩:∃c,(k:Int)=bI c:=by
   rcases(show k=0\/k=1 by lia)with rfl|rfl
   ·exact#[false,rfl]
   ·exact#[true,rfl]
  rw [hc];simp![];refine qQ (I1 ns kps ss rs c) ?_ ?_ ?_
  ·simp![m1];exact .mk R 0 u (by rw[h0,hc];simp) (Y1 _) rfl h3
  ·rintro E d ds ⟨R,p,u,h0,h1,hr,h3⟩;obtain⟨hlp,rfl,rfl⟩:=xz ⋯ hr;obtain⟨r,er,g,st,rfl,iu,ba⟩:=hP.2 p ⋯;have mq:=hk (kps.getD p 0) (by rw[X2,X1 ⋯];exact Xn _);generalize kps.getD p 0=own at *;have hi:jQ (.lst rs) (.int p)=⇑(.tup [.int own,.bl g,.lst st]):=vq ⋯ (by rw[Xu];exact er);simp![m1,hi];refine qQ (I2 ns kps.length ss rs R c p own (.bl g) st) ?_ ?_ ?_
   ·simp![p0];exact .mk [] u (Y1 _) rfl .nil
   ·rintro E d ds ⟨M,u,h1,hr,hM⟩;obtain⟨hls,rfl,rfl⟩:=xz ⋯ hr;obtain⟨cs,ecs,f7,li⟩:=ba (st[M.length]'⋯) (Xn _);have hs:st[M.length]?=⇑(.lst cs):=by rw[X1 ⋯,ecs]
    simp![];refine qQ (I3 ns kps.length ss rs R c p own (.bl g) st M M.length cs) ?_ ?_ ?_
    ·simp![];exact .mk [] u (by simp;lia) rfl .nil
    ·rintro E d ds ⟨C,u,h1,hr,hC⟩;obtain⟨ue,rfl,rfl⟩:=xz ⋯ hr;have ht:0<=tnF c own C.length/\tnF c own C.length<=own:=by unfold tnF;split<;>lia
     obtain⟨z,ez,hz⟩:=li (tnF c own C.length).toNat ⋯;rw[show(((tnF c own C.length).toNat:Nat):Int)=tnF c own C.length by lia]at hz;have gb:=cell (4+u);rw[show((4+u:Nat):Int)=4+u by lia]at gb;simp![];refine gb.use ?_;intro _ _;simp![];obtain⟨b2,hb⟩:∃b2,(xK ns (4+u)+(u:Int) / 2) % 2=bI b2:=by
      rcases(show(xK ns (4+u)+(u:Int) / 2) % 2=0\/(xK ns (4+u)+(u:Int) / 2) % 2=1 by lia)with e|e
      ·exact#[false,e]
      ·exact#[true,e]
     rw[hb];refine _qF rfl ?_;simp![];refine(_qD (b2:=b2) hP hk er hs ht.1 ez hz ⋯).via ?_;rintro _ ⟨o,z',rfl,hmd,l0⟩;refine#[_,rfl,⋯,by unfold wQ;rw[l0];simp,?_];simp![];exact .mk (C++[z']) (u+1) (by simp;lia) (by simp) (hC.snoc #[b2,z,ez,hmd])
    ·rintro E ⟨C,u,h1,hr,hC⟩;have:=z9 ⋯ hr;refine _qG rfl ?_;simp![];refine#[_,rfl,⋯,I2.mk (ss:=ss) (M++[.lst C]) u ?_ ?_ (hM.snoc #[cs,C,hs,rfl,this,hC])]
     ·simp;lia
     ·simp
   ·rintro E ⟨M,u,h1,hr,hM⟩;have:=z9 ⋯ hr;refine _qG rfl ?_;simp![_mL];have hR:R.length<12/\∀(p':Nat) b',p'<rs.length->(R.length:Int)=p'+bI b'*rs.length->p'=p/\b'=c:=by
     rw[h0];cases c with|false=>exact#[by simp[bI]at h0;lia,λp' b' lx e=>by cases b'<;>simp[bI]at e ⊢<;>lia]|true=>exact#[by simp[bI]at h0;lia,λp' b' lx e=>by cases b'<;>simp[bI]at e ⊢<;>lia]
    refine#[rfl,_,rfl,⋯,.mk (R++[.tup [.int own,.bl g,.lst M]]) (p+1) u (by simp;lia) ⋯ (by simp) (h3.snoc λp' b' lx e=>?_)];obtain⟨rfl,rfl⟩:=hR.2 p' b' lx e;refine#[_,er,own,g,st,M,rfl,rfl,⋯,λs hs=>?_];obtain⟨d,e1,cs,lj,e2,rfl,e3,e4⟩:=hM s ⋯;refine#[cs,lj,e2,e1,e3,λi hi=>?_];obtain⟨z',e5,b2,z,e6,e7⟩:=e4 i hi;exact#[b2,z,z',e6,e5,e7]
  ·rintro E ⟨R,p,u,h0,h1,hr,h3⟩;have:=z9 ⋯ hr;exact .mk R (k+1) u (by rw[h0,<-hc];lia) ⋯ (by rw[<-hc];simp) h3
 ·rintro E ⟨R,k,u,h0,h1,hr,h3⟩;have:=z9 ⋯ hr;simp![p0,_mL,_mK,_mW (o:=.no) (xs:=ss.map D.str) ⋯];refine#[_qE (D.pures_map _ _ λ_ _=>rfl),rfl,R,rfl,by rw[show k=2 by lia]at h0;lia,λp hp b=>?_];have hj:(p+bI b*rs.length:Int).toNat<R.length/\0<=(p+bI b*rs.length:Int):=by
   rw[show k=2 by lia]at h0;cases b<;>simp[bI]<;>lia
  obtain⟨r',e1,e2⟩:=h3 _ hj.1;obtain⟨r,e3,e4⟩:=e2 p b hp ⋯;exact#[r,r',e3,e1,e4]
end
def _qJ:m__law_signs=B.m__law_signs:=rfl
def _qK:m__law_plain=B.m__law_plain:=rfl
def _qL:m__law_table=Y.m__law_table:=rfl
def e_holds:m__law_row_holds=Y.m__law_row_holds:=rfl
def _qM:m_compared=Y.m_compared:=rfl
def _qN{f cs e}{E:En}{P X}:Eo (_lu f cs (e::E)) P X=Eo (vX cs (e::E)) (λE xs=>Oe f (letAll (xs++[(.no,.non)])) E P X) X:=by
 unfold _lu;rw[jY]
 congr 1
 funext E xs;unfold Oe Oo;cases f _ with|none=>ac_rfl|some r=>cases r<;>ac_rfl
def _qO{i j a b c:Nat}{E:En}{d0 rs o n m k g st}{N C:En->Prop}{R:Sd->Prop}{X}(h1:E[i]?=some ⇑(.dp,.tup [d0,.lst rs]))(h2:E[j]?=some ⇑(o,.int n))(h3:ixN rs.length n=⇑m)(h4:rs[m]?=⇑(.tup [.int k,.bl g,st]))(h5:a<E.length/\b<E.length/\c<E.length)
  (h:N ((((E.set i ⇑(.dp,.tup [d0,.lst (rs.set m (.tup [.int k,.bl (!g),st]))])).set a ⇑(.dp,.int k)).set b ⇑(.dp,.bl g)).set c none)):Po (_l7 i j a b c E) N C R X:=by
 unfold _l7;have hx:∃E',_l6 i j a b c E E':=#[_,d0,rs,o,n,m,k,g,st,h1,h2,h3,h4,h5,rfl];rw[dif_pos hx,_me];obtain⟨d0',rs',o',n',m',k',g',dv,g1,g2,g3,g4,_,e⟩:=hx.choose_spec;rw[e];rw[h1]at g1;cases g1;rw[h2]at g2;cases g2;rw[h3]at g3;cases g3;rw[h4]at g4;cases g4;exact h
def Wd(ss:List Str)(rs rs':List D)(d:D):Prop:=
 (d=.tup [.str "alike",.int 0]/\∀w:Lw,(∀x∈w,x.1∈ss)->gp ss rs rs' S0 S0 w)\/(∃n:Nat,d=.tup [.str "apart",.int n]/\(∃w:Lw,(∀x∈w,x.1∈ss)/\w.length=n/\¬gp ss rs rs' S0 S0 w)/\∀u:Lw,(∀x∈u,x.1∈ss)->u.length<n->gp ss rs rs' S0 S0 u)
def Wd.symm{ss rs rs' d}(h:Wd ss rs rs' d):Wd ss rs' rs d:=by
 rcases h with⟨e,h⟩|⟨n,e,⟨w,h1,h2,h3⟩,h4⟩
 ·exact .inl #[e,λw hw=>(h w hw).symm]
 ·exact .inr #[n,e,#[w,h1,h2,λh=>h3 h.symm],λu hu hl=>(h4 u hu hl).symm]
def Wd.al{ss rs rs' d}(h:Wd ss rs rs' d)(h2:∀w:Lw,(∀x∈w,x.1∈ss)->gp ss rs rs' S0 S0 w):d=.tup [.str "alike",.int 0]:=by
 rcases h with⟨e,_⟩|⟨n,_,⟨w,h1,_,h3⟩,_⟩
 ·exact e
 ·exact absurd (h2 w h1) h3
def Wd.one{ss rs rs' d d'}(h:Wd ss rs rs' d)(h':Wd ss rs rs' d'):d=d':=by
 rcases h with⟨e,h⟩|⟨n,e,⟨w,h1,h2,h3⟩,h4⟩
 ·rw[h'.al h,e]
 ·rcases h' with⟨_,h'⟩|⟨n',e',⟨w',mx,h2',h3'⟩,h4'⟩
  ·exact absurd (h' w h1) h3
  ·have a:¬w.length<n':=λhl=>h3 (h4' w h1 hl)
   have b:¬w'.length<n:=λhl=>h3' (h4 w' mx hl)
   rw[e,e',show n=n' by lia]
section
variable {kps a9:List Int}{ss:List Str}{rs rs':List D}
def _qP(hP:Prs kps ss.length rs)(hk:Abk kps)(h0:kps[0]?=⇑0):kpF rs 0=0/\pS rs P0=S0:=by
 have hl:=(aF h0).1;have e:=(wZ hP hk (p:=0) ⋯ ⋯).2.2.2.2 ⋯;rw[X2,show(0:Int).toNat=0 from rfl,h0]at e;have e:kpF rs 0=0:=e;refine#[e,?_];show _np 0 (kpF rs 0)=_;rw[e];rfl
def pt_0(hP:Prs kps ss.length rs)(hk:Abk kps)(h0:kps[0]?=⇑0)(aq:Prs a9 ss.length rs')(ak:Abk a9)(t6:a9[0]?=⇑0):pT rs rs' P0=S0:=by
 show JJ 0 (kpF rs 0) (kpF rs' 0) []=_;rw[(_qP hP hk h0).1,(_qP aq ak t6).1];rfl
def _qQ(hs:ss.length<=3)(o8:kps.length<=12)(jp:a9.length<=12)(hP:Prs kps ss.length rs)(hk:Abk kps)(h0:kps[0]?=⇑0)(aq:Prs a9 ss.length rs')(ak:Abk a9)(t6:a9[0]?=⇑0):
  Oo J0 [(.no,jk ss rs),(.no,jk ss rs')] (λy=>∃d,y=(.no,d)/\Wd ss rs rs' d) noX:=by
 have hl:=(aF h0).1;have qc:=(aF t6).1;have lb:Pin kps a9 rs rs' P0:=_pV (sh:=[]) hP hk aq ak ⋯ ⋯ ⋯ ⋯ #[λp hp=>(nomatch hp),Xp,Xp] ⋯;have n2:fNe (.int 2) (.int 2)=⇑(.bl false):=rfl;have hcmp:=_qh hs o8 jp hl qc hP hk aq ak lb (.inl #[rfl,rfl]);unfold J0;simp only[_qM,_qL,e_holds];refine k6 ?_;simp![↓_qN];refine hcmp.via ?_;rintro _ ⟨d,rfl,ht⟩;have eS:=(_qP hP hk h0).2;have eT:=pt_0 hP hk h0 aq ak t6;rcases ht with⟨w,rfl,sy,lv,hnp,hmin⟩|⟨K,rk,rfl,hKl,hKn,mh,hK⟩
 ·have it:vx "tuple" (.tup [.str "apart",.lst (w.map rwI)])=⇑(.bl true):=rfl;have il:kW (.tup [.str "apart",.lst (w.map rwI)])=⇑(.int 2):=rfl;have e1:fEq (.str "apart") (.str "alike")=⇑(.bl false):=rfl;have e2:fEq (.str "apart") (.str "apart")=⇑(.bl true):=rfl;have e3:kW (.lst (w.map rwI))=⇑(.int w.length):=by rw[<-X4 (f:=rwI)];rfl
  simp![it,il,n2,p0,p1,e1,e2];refine(row_holds_ok hl qc hP hk aq ak lb sy lv hnp hmin).use ?_;intro _ _;simp![p1,e3];rw[eS,eT]at hnp hmin;exact#[_,rfl,.inr #[w.length,rfl,#[w,λx hx=>(lv x hx).1,rfl,hnp],hmin]]
 ·have it:vx "tuple" (.tup [.str "alike",.lst K])=⇑(.bl true):=rfl;have il:kW (.tup [.str "alike",.lst K])=⇑(.int 2):=rfl;have e1:fEq (.str "alike") (.str "alike")=⇑(.bl true):=rfl;simp![it,il,n2,p0,p1,e1];refine(_qr hs hP hk aq ak hKl hKn mh hK).use ?_;intro _ _;simp![];refine#[_,rfl,.inl #[rfl,λw hw=>?_]];have:=_pW (K:=K) (rk:=λ_=>0) (n:=w.length+1) hP hk aq ak (λp hp=>(hK p hp).1.ok) (λp hp _=>#[(hK p hp).2.1,λz hz i i0 i1=>#[((hK p hp).2.2 z hz i i0 i1).1,Y1 _]]) w hw mh ⋯ lb.two lb.rl
  rwa [eS,eT]at this
def _qR{l l':List Int}{i:Nat}(h:i<l.length):(l++l').getD i 0=l.getD i 0:=by
 rw[X2,X2,Xr h]
def _qS{b:Bool}{p:Nat}(h:p<kps.length):(kps++kps).getD (p+bI b*kps.length:Int).toNat 0=kps.getD p 0:=by
 cases b with|false=>rw[show(p+bI false*kps.length:Int).toNat=p by simp[bI]];exact _qR h|true=>rw[show(p+bI true*kps.length:Int).toNat=kps.length+p by simp[bI];lia,X2,X2,Y8 ⋯,Nat.add_sub_cancel_left]
def _qT{b b2:Bool}{own k:Int}{z z'}(ho:0<=own)(k0:0<=k)(k1:k<=own)(hk:Abk kps)(hc:Cs kps (vk own (tnF b own k)) z)(hm:Md kps.length b b2 own z z'):Cs (kps++kps) (vk own k) z':=by
 cases hm with
 | non=>exact .inl rfl
 | tup to fs=>
  rcases hc with e|⟨to',fs',e,t0,t1,hfs,hnd,hfl⟩
  ·cases e
  ·injection e with e;injection e with e3 e4;injection e3 with e3;injection e4 with e4 _;injection e4 with e4;subst e3;have e4:=(Ys λa b h=>by injection h).mp e4;subst e4;have hb:vk own (tnF b own k)=vk own k/\vk own k<=own+1:=by unfold vk tnF;grind
   have hf:∀f∈fs,0<=tnF b own f/\tnF b own f<vk own k:=λf hf=>by
    obtain⟨f0,f1⟩:=hfs f hf;rw[hb.1]at f1;unfold vk tnF at *
    grind
   have hn:(fs.map (tnF b own)).Nodup:=List.pairwise_map.mpr (hnd.imp_of_mem fun {x y} hx hy bh he=>bh (by
    have:=hfs x hx;have:=hfs y hy;unfold vk tnF at *
    grind))
   have hto:(to+bI b2*kps.length).toNat<(kps++kps).length/\0<=to+bI b2*kps.length:=by cases b2<;>simp[bI]<;>lia
   refine .inr #[_,_,rfl,hto.2,⋯,λf h=>?_,?_,?_]
   ·have:f∈fs.map (tnF b own):=by cases b2<;>simpa [tw]using h
    obtain⟨g,hg,rfl⟩:=aE this;exact hf g hg
   ·cases b2
    ·exact hn
    ·exact(List.reverse_perm _).nodup_iff.mpr hn
   ·have:=_qS (kps:=kps) (b:=b2) (p:=to.toNat) ⋯;rw[show((to.toNat:Nat):Int)=to by lia]at this;rw[this,<-hfl];cases b2<;>simp[tw]
def _qU(hP:Prs kps ss.length rs)(hk:Abk kps)(hM:Mds kps ss.length rs rs'):Prs (kps++kps) ss.length rs':=by
 have ln:=hP.1;refine#[by rw[hM.1,ln,Xe];lia,λi hi=>?_];rw[Xe]at hi;obtain⟨p,b,hp,rfl⟩:∃(p:Nat) (b:Bool),p<kps.length/\i=(p+bI b*kps.length:Int).toNat:=by
  by_cases h:i<kps.length
  ·exact#[i,false,h,by simp[bI]]
  ·exact#[i - kps.length,true,⋯,by simp[bI];lia]
 obtain⟨r,r',e1,e2,own,g,st,dv,rfl,rfl,hl,ba⟩:=hM.2 p ⋯ b;obtain⟨r0,e0,g0,nr,i5,mr,hs2⟩:=hP.2 p hp;rw[e1]at e0;injection e0 with e0;rw[<-e0]at i5;injection i5 with i5;injection i5 with q1 i5;injection i5 with q2 i5;injection i5 with q3 _;injection q1 with q1;injection q3 with q3;subst q3;rw[ln]at e2;refine#[_,e2,g,dv,by rw[_qS hp,q1],hl,λc hc=>?_];have ho:=(hk (kps.getD p 0) (by rw[X2,X1 hp];exact Xn _)).1;rw[_qS hp];rw[<-q1]at *;obtain⟨s,hs,rfl⟩:=Yj hc;obtain⟨cs,lj,f1,f2,f3,f4⟩:=ba s ⋯;obtain⟨_,f2⟩:=aF f2;refine#[lj,f2,f3,λk ak=>?_];obtain⟨b2,z,z',g1,g2,g3⟩:=f4 k ak;obtain⟨_,ec,c1,c2⟩:=hs2 _ (Yu f1);injection ec with ec;subst ec;have ht:0<=tnF b own k/\tnF b own k<=own:=by unfold tnF;grind
 obtain⟨z0,ez,hz⟩:=c2 (tnF b own k).toNat ⋯;rw[g1]at ez;cases _aa ez;rw[show(((tnF b own k).toNat:Nat):Int)=tnF b own k by lia]at hz;exact#[z',g2,_qT ho ⋯ ⋯ hk hz g3]
def _qV{m:Nat}{k g st}(hP:Prs kps ss.length rs)(h:rs[m]?=⇑(.tup [.int k,.bl g,st])):Prs kps ss.length (rs.set m (.tup [.int k,.bl (!g),st])):=by
 refine#[by rw[List.length_set];exact hP.1,λi hi=>?_];obtain⟨r,e,g0,nr,rfl,hs⟩:=hP.2 i hi
 by_cases hm:m=i
 ·subst hm;rw[h]at e;injection e with e;injection e with e;injection e with q1 e;injection e with q2 e;injection e with q3 _;injection q1 with q1;subst q3;exact#[_,List.getElem?_set_self (by have:=hP.1;lia),!g,nr,by rw[q1],hs]
 ·exact#[_,by rw[Yt hm];exact e,g0,nr,rfl,hs]
end
def _qW(ns)(hn:ns.length<=63):Oo m_law [(.no,iL ns)] (λy=>y.2=.bl true) noX:=by
 have cell:∀k:Nat,Oo B.m__law_cell_at [(.no,iL ns),(.no,.int k)] (λy=>∃o',y=(o',.int (xK ns k))/\True) noX:=λk=>_nC ns k ⋯
 unfold m_law;simp only[_qH,_qJ,_qK];refine k6 ?_;simp![];refine(cell 0).use ?_;intro o0 _;simp![];refine(_n0 _).use ?_;rintro ss ⟨mr,qo⟩;simp![];refine(cell 1).use ?_;intro o1 _;simp![];refine(_nU (xK ns 1) ss mr qo).via ?_;rintro _ ⟨rs,rfl,kps,oh,ji,ku,js,hP⟩;simp![];refine(_qI ns hn hP js ji qo).via ?_;rintro _ ⟨rs0,rfl,hM⟩;have on:=_qU hP js hM;have nk:∀p∈kps++kps,0<=p/\p<=3:=λp hp=>js p (~~~hp)
 have nv:(kps++kps)[0]?=⇑0:=by rw[Xr ⋯];exact ku
 have i5:=on.1;rw[Xe]at i5;simp![];refine(cell 2).use ?_;intro o2 _;obtain⟨lg,hbt⟩:∃b,(xK ns 2 % 2==1)=b:=#[_,rfl];generalize hR:j6 (sIf (tEQ _) _ _) _=R1;simp![eqi hbt];subst hR;refine YZ (λE=>∃(rs':List D) (l5 l6 l7 l8:Option Sd),E=[⇑(.no,iL ns),⇑(.no,sL ss),⇑(.no,jk ss rs),⇑(.dp,jk ss rs'),⇑(.dp,.bl lg),l5,l6,l7,l8,none]/\Prs (kps++kps) ss.length rs'/\(lg=false->rs'=rs0)) ?_ ?_
 ·cases lg with
  |false=>
   simp![];exact#[rs0,_,_,_,_,rfl,on,λ_=>rfl]
  |true=>
   have m0:=mod_i (a:=xK ns 3) (b:=(rs0.length:Int)) ⋯;have a0:=Z1 (xK ns 3) (show(rs0.length:Int)≠0 by lia);have a1:=Yl (xK ns 3) (show(0:Int)<(rs0.length:Int)by lia);generalize xK ns 3 % (rs0.length:Int)=ei at *;simp![];refine(cell 3).use ?_;intro _ _;simp![p1,m0];obtain⟨r,er,g,st,rfl,_⟩:=on.2 ei.toNat (by rw[Xe];lia);refine _qO rfl rfl (m:=ei.toNat) (by unfold Q.ixN;rw[Xb a0,Xb a1]) er #[by simp,by simp,by simp] ?_;exact#[_,_,_,_,_,rfl,_qV on er,nofun]
 rintro E ⟨rs',l5,l6,l7,l8,rfl,aq,hbent⟩;obtain⟨d,hd,hw1⟩:∃d,Wd ss rs rs' d/\Oo J0 [(.no,jk ss rs),(.no,jk ss rs')] (λy=>y=(.no,d)) noX:=by
  obtain⟨y,⟨d,rfl,h⟩,h2⟩:=_nB (_qQ qo ⋯ (by rw[Xe];lia) hP js ku aq nk nv);exact#[d,h,h2]
 have sw:Oo J0 [(.no,jk ss rs'),(.no,jk ss rs)] (λy=>y=(.no,d)) noX:=(_qQ qo (by rw[Xe];lia) ⋯ aq nk nv hP js ku).mono λy hy=>by
  obtain⟨d',rfl,h⟩:=hy;rw[hd.one h.symm]
 have hw3:Oo J0 [(.no,jk ss rs),(.no,jk ss rs)] (λy=>y=(.no,.tup [.str "alike",.int 0])) noX:=(_qQ qo ⋯ ⋯ hP js ku hP js ku).mono λy hy=>by
  obtain⟨d',rfl,h⟩:=hy;rw[h.al λ_ _=>rfl]
 have hw4:Oo J0 [(.no,jk ss rs'),(.no,jk ss rs')] (λy=>y=(.no,.tup [.str "alike",.int 0])) noX:=(_qQ qo (by rw[Xe];lia) (by rw[Xe];lia) aq nk nv aq nk nv).mono λy hy=>by
  obtain⟨d',rfl,h⟩:=hy;rw[h.al λ_ _=>rfl]
 have jb:lg=false->d=.tup [.str "alike",.int 0]:=λh=>hd.al λw hw=>by
  rw[hbent h];exact _qB hP js ku hM w hw
 obtain⟨xs,hdx⟩:∃xs,d=.tup xs:=by rcases hd with⟨rfl,_⟩|⟨n,rfl,_⟩<;>exact#[_,rfl]
 have hdf:d.flat 40=true:=by rcases hd with⟨rfl,_⟩|⟨n,rfl,_⟩<;>rfl
 have haf:fNe (.tup [.str "alike",.int 0]) (.tup [.str "alike",.int 0])=⇑(.bl false):=rfl;have hae:fEq (.tup [.str "alike",.int 0]) (.tup [.str "alike",.int 0])=⇑(.bl true):=rfl;simp![];refine hw1.via ?_;rintro _ rfl;have bh:fNe d d=⇑(.bl false):=_mU hdf;have oq:fEq d d=⇑(.bl true):=eq_self hdf;have nw:d.pure=true:=by rcases hd with⟨rfl,_⟩|⟨n,rfl,_⟩<;>rfl
 refine#[nw,?_];subst hdx;refine YZ (λE=>E=[⇑(.no,iL ns),⇑(.no,sL ss),⇑(.no,jk ss rs),⇑(.dp,jk ss rs'),⇑(.dp,.bl lg),l5,l6,l7,l8,⇑(.dp,.tup xs)]) ?_ ?_
 ·cases lg with
  |true=>simp![]
  |false=>
   injection jb rfl with jb;subst jb;simp![haf]
 rintro E rfl;simp![];refine sw.via ?_;rintro _ rfl;refine#[nw,?_];simp![bh];refine hw3.via ?_;rintro _ rfl;simp![haf];refine hw4.via ?_;rintro _ rfl;refine#[rfl,?_];simp![hae];refine hw1.via ?_;rintro _ rfl;refine#[nw,?_];simp![oq]
def law_true(ns:List Int)(hl:ns.length<=63)(hb:∀i∈ns,Builtin.Int.intBits i<=1048576):∃E o,m_law [(.no,.lst (ns.map D.int))]=⇑(.ok E (o,.bl true)):=by
 obtain _:=(_qW ns hl).out
 grind
end Nk43
namespace Nk43
open PySem L2 L3 Q
def top(i:Nat):Stmt:=PySem.Challenge.pw_freshrooms_k43_made_alike.main.body.getD i (.Pass #[0,0,0,0])
abbrev jz3:Stmt:=top 7
abbrev kjf:Stmt:=top 8
abbrev jw1:Stmt:=top 22
abbrev kv2:Stmt:=top 12
abbrev jw0:Stmt:=top 21
abbrev jve:Stmt:=top 18
abbrev jq0:Stmt:=top 14
abbrev jz2:Stmt:=top 20
abbrev jqy:Stmt:=top 17
abbrev kje:Stmt:=top 19
abbrev kjg:Stmt:=top 16
abbrev jqw:Stmt:=top 15
abbrev jvz:Stmt:=top 13
abbrev jqx:Stmt:=top 28
abbrev jvf:Stmt:=top 27
abbrev jz0:Stmt:=top 26
abbrev jz1:Stmt:=top 25
abbrev jz4:Stmt:=top 24
abbrev jv1:Stmt:=top 30
abbrev jw2:Stmt:=top 31
abbrev jvg:Stmt:=top 32
abbrev jw4:Stmt:=top 33
abbrev jw7:Stmt:=top 34
abbrev jx8:Stmt:=top 35
abbrev jw5:Stmt:=top 36
abbrev jx3:Stmt:=top 37
abbrev jqz:Stmt:=top 38
abbrev jx4:Stmt:=top 39
abbrev jv0:Stmt:=top 40
abbrev jvh:Stmt:=top 41
abbrev jq1:Stmt:=top 42
abbrev jx7:Stmt:=top 44
abbrev jw3:Stmt:=top 43
abbrev jx5:Stmt:=top 45
abbrev jw6:Stmt:=top 46
abbrev s__law_row_holds:Stmt:=top 47
abbrev jx2:Stmt:=top 48
abbrev jqb:Stmt:=top 49
abbrev jx6:Stmt:=top 50
abbrev jx1:Stmt:=top 51
abbrev wjv:Stmt:=top 52
def _qX:FnScope ["plain"] ["plain"] (jW jz3):=mkS
#where in
def sc_read_by:FnScope ["plain","standing","sign","name","names","cases","case","held"] ["plain","standing","sign","name"] (jW kjf):=mkS
def _qY:FnScope ["plain","room"] ["plain","room"] (jW jw1):=mkS
def _qZ:FnScope ["one","other","pair"] ["one","other","pair"] (jW kv2):=mkS
def _q0:FnScope ["plain","room"] ["plain","room"] (jW jw0):=mkS
def _q1:FnScope ["room","names"] ["room","names"] (jW jve):=mkS
def sc_first_standings:FnScope ["one","other","pair","own","shared","names","j"] ["one","other","pair"] (jW jq0):=mkS
def _q2:FnScope ["standing"] ["standing"] (jW jz2):=mkS
def sc_held_by_both:FnScope ["standings","ours"] ["standings"] (jW jqy):=mkS
def _q3:FnScope ["standing"] ["standing"] (jW kje):=mkS
def sc_pair_of:FnScope ["standings","ours","theirs","shared"] ["standings"] (jW kjg):=mkS
def _q4:FnScope ["one","other","standings","sign","name"] ["one","other","standings","sign","name"] (jW jqw):=mkS
def sc_steps_from:FnScope ["one","other","pair","standings","names","steps","sign","name"] ["one","other","pair"] (jW jvz):=mkS
def sc_least_beside:FnScope ["names","least"] ["names"] (jW jqx):=mkS
def sc_parting_row:FnScope ["one","other","first","steps","standings","row","sign","place","held","name"] ["one","other","first","steps"] (jW jvf):=mkS
def sc_steps_to:FnScope ["ways","pair","steps","way"] ["ways","pair"] (jW jz0):=mkS
def sc_searched:FnScope ["one","other","first","ways","found","done","pair","sign","name","later"] ["one","other","first"] (jW jz1):=mkS
def _q5:FnScope ["one","other","pair"] ["one","other","pair"] (jW jz4):=mkS
def _q6:FnScope ["_law_script","_law_k"] ["_law_script","_law_k"] (jW jv1):=mkS
def _q7:FnScope ["_law_found"] ["_law_found"] (jW jw2):=mkS
def sc__law_stream:FnScope ["_law_cell","_law_many","_law_found","_law_k","_law_number"] ["_law_cell","_law_many"] (jW jvg):=mkS
def sc__law_signs:FnScope ["_law_cell","_law_letters","_law_xs","_law_base","_law_at","_law_found","_law_k"] ["_law_cell"] (jW jw4):=mkS
def sc__law_fills:FnScope ["_law_number","_law_need","_law_free","_law_pool","_law_found","_law_k"] ["_law_number","_law_need","_law_free"] (jW jw7):=mkS
def sc__law_case:FnScope ["_law_number","_law_sizes","_law_free","_law_rooms","_law_to"] ["_law_number","_law_sizes","_law_free"] (jW jx8):=mkS
def sc__law_plain:FnScope ["_law_cell","_law_signs_here","_law_xs","_law_many","_law_most_here","_law_sizes","_law_rooms","_law_at","_law_room","_law_steps","_law_s","_law_cases","_law_i"] ["_law_cell","_law_signs_here"] (jW jw5):=mkS
def sc__law_read:FnScope ["_law_plain_here","_law_standing","_law_sign","_law_name","_law_room","_law_names","_law_keepers_here","_law_good_here","_law_steps","_law_at","_law_case_here"] ["_law_plain_here","_law_standing","_law_sign","_law_name"] (jW jx3):=mkS
def _q8:FnScope ["_law_plain_here","_law_room"] ["_law_plain_here","_law_room"] (jW jqz):=mkS
def sc__law_pair:FnScope ["_law_here","_law_there","_law_names","_law_rooms","_law_k","_law_standing","_law_shared"] ["_law_here","_law_there"] (jW jx4):=mkS
def sc__law_is_pair:FnScope ["_law_found","_law_due","_law_part"] ["_law_found","_law_due"] (jW jv0):=mkS
def sc__law_firsts:FnScope ["_law_one","_law_other","_law_pair_here","_law_p","_law_q","_law_shared","_law_here","_law_partner","_law_i","_law_j","_law_there","_law_free","_law_standings"] ["_law_one","_law_other","_law_pair_here"] (jW jvh):=mkS
def sc__law_behind_all:FnScope ["_law_one","_law_other","_law_pair_here","_law_here","_law_there","_law_known","_law_standing","_law_name","_law_found","_law_sign","_law_after"] ["_law_one","_law_other","_law_pair_here"] (jW jq1):=mkS
def _q9:FnScope ["_law_plain_here","_law_room"] ["_law_plain_here","_law_room"] (jW jx7):=mkS
def sc__law_table:FnScope ["_law_one","_law_other","_law_pair_here","_law_table_here","_law_known","_law_here"] ["_law_one","_law_other","_law_pair_here","_law_table_here"] (jW jw3):=mkS
def _ra:FnScope ["_law_plain_here"] ["_law_plain_here"] (jW jx5):=mkS
def sc__law_parts:FnScope ["_law_one","_law_other","_law_standings","_law_row","_law_here","_law_there","_law_sign","_law_name","_law_rooms","_law_k","_law_standing"] ["_law_one","_law_other","_law_standings","_law_row"] (jW jw6):=mkS
def sc__law_row_holds:FnScope ["_law_one","_law_other","_law_pair_here","_law_row","_law_part","_law_standings","_law_many"] ["_law_one","_law_other","_law_pair_here","_law_row"] (jW s__law_row_holds):=mkS
def _rb:FnScope ["_law_keeper","_law_keepers_here","_law_copy"] ["_law_keeper","_law_keepers_here","_law_copy"] (jW jx2):=mkS
def sc__law_made_case:FnScope ["_law_plain_here","_law_room","_law_copy","_law_i","_law_s","_law_bit","_law_keepers_here","_law_good_here","_law_steps","_law_case_here","_law_size","_law_fills_here","_law_k"] ["_law_plain_here","_law_room","_law_copy","_law_i","_law_s","_law_bit"] (jW jqb):=mkS
def sc__law_made:FnScope ["_law_plain_here","_law_script","_law_rooms","_law_used","_law_copy","_law_room","_law_keepers_here","_law_good_here","_law_steps","_law_made_here","_law_s","_law_cases","_law_i","_law_bit"] ["_law_plain_here","_law_script"] (jW jx6):=mkS
def sc__law_word:FnScope ["_law_one","_law_other","_law_found"] ["_law_one","_law_other"] (jW jx1):=mkS
def sc_law:FnScope ["_law_script","_law_signs_here","_law_one","_law_other","_law_bent","_law_at","_law_keepers_here","_law_good_here","_law_steps","_law_word_here"] ["_law_script"] (jW wjv):=mkS
structure Txt (K:Frag)(mg:Str->Option Value):Prop where
 b_all:mg "all"=none
 b_bool:mg "bool"=none
 b_dict:mg "dict"=none
 b_enumerate:mg "enumerate"=none
 b_int:mg "int"=none
 b_isinstance:mg "isinstance"=none
 b_len:mg "len"=none
 b_list:mg "list"=none
 b_max:mg "max"=none
 b_range:mg "range"=none
 b_reversed:mg "reversed"=none
 b_set:mg "set"=none
 b_sorted:mg "sorted"=none
 b_str:mg "str"=none
 b_tuple:mg "tuple"=none
 c_SMALL_ROOMS:Cst mg "SMALL_ROOMS" (V.int (12))
 c_SMALL_KEEPERS:Cst mg "SMALL_KEEPERS" (V.int (3))
 c_NOWHERE:Cst mg "NOWHERE" (V.int (-1))
 c_FIRST_PAIR:_lb K mg "FIRST_PAIR" (.tup [(.int 0),(.int 0),(.tup [])])
section
variable (P:Program)(w:PySem.World)(K:Frag)(mg:Str->Option Value)(base:Heap)
abbrev kqk:=k7 P w K mg base 1 "is_small" ["plain"] (spF K mg 1 m_is_small)
abbrev kzk:=k7 P w K mg base 1 "read_by" ["plain","standing","sign","name"] (spF K mg 4 m_read_by)
abbrev jzo:=k7 P w K mg base 1 "is_good_in" ["plain","room"] (spF K mg 2 m_is_good_in)
abbrev vxu:=k7 P w K mg base 2 "agrees" ["one","other","pair"] (spF K mg 3 m_agrees)
abbrev jzn:=k7 P w K mg base 1 "keepers_in" ["plain","room"] (spF K mg 2 m_keepers_in)
abbrev jxw:=k7 P w K mg base 1 "standing_in" ["room","names"] (spF K mg 2 m_standing_in)
abbrev jva:=k7 P w K mg base 2 "first_standings" ["one","other","pair"] (spF K mg 3 m_first_standings)
abbrev jzh:=k7 P w K mg base 1 "names_of" ["standing"] (spF K mg 1 m_names_of)
abbrev jwy:=k7 P w K mg base 2 "held_by_both" ["standings"] (spF K mg 1 m_held_by_both)
abbrev kzj:=k7 P w K mg base 1 "room_of" ["standing"] (spF K mg 1 m_room_of)
abbrev vqq:=k7 P w K mg base 2 "pair_of" ["standings"] (spF K mg 1 m_pair_of)
abbrev jww:=k7 P w K mg base 2 "read_by_both" ["one","other","standings","sign","name"] (spF K mg 5 m_read_by_both)
abbrev kzi:=k7 P w K mg base 3 "steps_from" ["one","other","pair"] (spF K mg 3 m_steps_from)
abbrev jwx:=k7 P w K mg base 1 "least_beside" ["names"] (spF K mg 1 m_least_beside)
abbrev kw9:=k7 P w K mg base 3 "parting_row" ["one","other","first","steps"] (spF K mg 4 m_parting_row)
abbrev kqj:=k7 P w K mg base 1 "steps_to" ["ways","pair"] (spF K mg 2 m_steps_to)
abbrev qwb:=k7 P w K mg base 4 "searched" ["one","other","first"] (spF K mg 3 m_searched)
abbrev kql:=_lv P w K mg base 5 "compared" ["one","other","pair"] (spF K mg 3 m_compared)
abbrev jv6:=k7 P w K mg base 1 "_law_cell_at" ["_law_script","_law_k"] (spF K mg 2 m__law_cell_at)
abbrev jwk:=k7 P w K mg base 1 "_law_whole" ["_law_found"] (spF K mg 1 m__law_whole)
abbrev jvl:=k7 P w K mg base 1 "_law_stream" ["_law_cell","_law_many"] (spF K mg 2 m__law_stream)
abbrev kzm:=k7 P w K mg base 2 "_law_signs" ["_law_cell"] (spF K mg 1 m__law_signs)
abbrev jzp:=k7 P w K mg base 1 "_law_fills" ["_law_number","_law_need","_law_free"] (spF K mg 3 m__law_fills)
abbrev qk9:=k7 P w K mg base 2 "_law_case" ["_law_number","_law_sizes","_law_free"] (spF K mg 3 m__law_case)
abbrev kzn:=k7 P w K mg base 3 "_law_plain" ["_law_cell","_law_signs_here"] (spF K mg 2 m__law_plain)
abbrev jxg:=k7 P w K mg base 1 "_law_read" ["_law_plain_here","_law_standing","_law_sign","_law_name"] (spF K mg 4 m__law_read)
abbrev jwz:=k7 P w K mg base 1 "_law_keepers" ["_law_plain_here","_law_room"] (spF K mg 2 m__law_keepers)
abbrev kkf:=k7 P w K mg base 1 "_law_pair" ["_law_here","_law_there"] (spF K mg 2 m__law_pair)
abbrev kkw:=k7 P w K mg base 2 "_law_is_pair" ["_law_found","_law_due"] (spF K mg 2 m__law_is_pair)
abbrev jxx:=k7 P w K mg base 2 "_law_firsts" ["_law_one","_law_other","_law_pair_here"] (spF K mg 3 m__law_firsts)
abbrev jzi:=k7 P w K mg base 3 "_law_behind_all" ["_law_one","_law_other","_law_pair_here"] (spF K mg 3 m__law_behind_all)
abbrev jxh:=k7 P w K mg base 1 "_law_good" ["_law_plain_here","_law_room"] (spF K mg 2 m__law_good)
abbrev kzl:=k7 P w K mg base 4 "_law_table" ["_law_one","_law_other","_law_pair_here","_law_table_here"] (spF K mg 4 m__law_table)
abbrev kkg:=k7 P w K mg base 1 "_law_most" ["_law_plain_here"] (spF K mg 1 m__law_most)
abbrev kzo:=k7 P w K mg base 2 "_law_parts" ["_law_one","_law_other","_law_standings","_law_row"] (spF K mg 4 m__law_parts)
abbrev T__law_row_holds:=k7 P w K mg base 3 "_law_row_holds" ["_law_one","_law_other","_law_pair_here","_law_row"] (spF K mg 4 m__law_row_holds)
abbrev kke:=k7 P w K mg base 1 "_law_turn" ["_law_keeper","_law_keepers_here","_law_copy"] (spF K mg 3 YJ)
abbrev jzs:=k7 P w K mg base 2 "_law_made_case" ["_law_plain_here","_law_room","_law_copy","_law_i","_law_s","_law_bit"] (spF K mg 6 _qs)
abbrev qk8:=k7 P w K mg base 3 "_law_made" ["_law_plain_here","_law_script"] (spF K mg 2 _qt)
abbrev qk7:=k7 P w K mg base 6 "_law_word" ["_law_one","_law_other"] (spF K mg 2 J0)
end
section
variable {P:Program}{w:PySem.World}{K:Frag}{mg:Str->Option Value}{base:Heap}{f:Addr}{fd:FuncData}
def _rc(T:Txt K mg):OkF P w K mg base 1 "is_small" jz3 ["plain"] 1 m_is_small:=
 okF _qX λhr=>(jK (_gE (j7 (_l5 (j7 (qL (kx (vv 0) ki) T.b_len)) (j7 (q_C (WZ T.c_SMALL_ROOMS) (λ_=>vw))))) (_gD (_hc (_dv K) _hn (j7 (qM .rt 1 [] 1 ["room"] (v8 (jz (kx (vv 0) ki))) (λ_ _ _ _ _=>(_l5 (kx (vv 0) ki) (j7 (q_C (WZ T.c_SMALL_KEEPERS) (λ_=>vw))))))) T.b_all _dz))))
def _rd(T:Txt K mg):OkF P w K mg base 1 "read_by" kjf ["plain","standing","sign","name"] 4 m_read_by:=
 okF sc_read_by λhr=>have nd:=sc_read_by.nd;(j8 (kJ (QW.pt (x3 (Q6 (vv 1) kn) (Jv (ww (_gt hr.units) _gw (vv 2) (kx (vv 0) ki) (by rfl) _ht)))) (jK kN)) (j8 (qA nd (jz (kx (vv 1) ki))) (j8 (qA nd (jz (kx (kx (kx (kx (vv 0) ki) (kx (vv 1) ki)) ki) (j7 (Zq hr.units (kx (vv 0) ki) (vv 2)))))) (j8 (qA nd (jz (kx (vv 5) (j7 (V7 (ww (_gs hr.units) _gv (vv 3) (vv 4) (by rfl) _hs) (Zq hr.units (vv 4) (vv 3)) (qL (vv 4) T.b_len)))))) (j8 (kJ (Q6 (vv 6) kn) (jK kN)) (j8 (qA nd (oA (vv 4) (j7 (kK (o:=.no) (j5 (cv 3) jq))))) (jK (kK (o:=.no) (j5 (jz (kx (vv 6) ki)) (j5 (qT (j7 (qM .rt 1 [7] 8 ["fill","held"] (v8 (jz (kx (vv 6) ki))) (λ_ _ _ _ _=>(jz (kx (vv 1) (vv 0)))))) T.b_tuple) jq))))))))))
def _re(T:Txt K mg):OkF P w K mg base 1 "is_good_in" jw1 ["plain","room"] 2 m_is_good_in:=
 okF _qY λhr=>(jK (_gE (j7 (W0 (_fG hr.units) _fI (vv 1) (j7 (q_C (WZ T.c_NOWHERE) (λ_=>vw))) (J9 _))) (_gD (jz (kx (kx (kx (vv 0) ki) (vv 1)) ki)))))
def _rf(T:Txt K mg)(bq:jzo P w K mg base):OkF P w K mg base 2 "agrees" kv2 ["one","other","pair"] 3 m_agrees:=
 okF _qZ λhr=>(jK (V9 hr (j7 (qC bq hr (j5 (cv 0) (j5 (jz (kx (vv 2) ki)) jq)))) (j7 (qC bq hr (j5 (cv 1) (j5 (jz (kx (vv 2) ki)) jq))))))
def _rg(T:Txt K mg):OkF P w K mg base 1 "keepers_in" jw0 ["plain","room"] 2 m_keepers_in:=
 okF _q0 λhr=>(jK (V7 (K5 hr (vv 1) (j7 (q_C (WZ T.c_NOWHERE) (λ_=>vw)))) kI (jz (kx (kx (kx (vv 0) ki) (vv 1)) ki))))
def _rh(T:Txt K mg):OkF P w K mg base 1 "standing_in" jve ["room","names"] 2 m_standing_in:=
 okF _q1 λhr=>(jK (V7 (K5 hr (vv 0) (j7 (q_C (WZ T.c_NOWHERE) (λ_=>vw)))) kN (kK (o:=.no) (j5 (cv 0) (j5 (qT (vv 1) T.b_tuple) jq)))))
def _ri(T:Txt K mg)(bt:jzn P w K mg base)(bi:jxw P w K mg base):OkF P w K mg base 2 "first_standings" jq0 ["one","other","pair"] 3 m_first_standings:=
 okF sc_first_standings λhr=>have nd:=sc_first_standings.nd;(j8 (qA nd (qC bt hr (j5 (cv 0) (j5 (jz (kx (vv 2) ki)) jq)))) (j8 (qA nd (Q3 (_jV K) _jU (j7 (qm .rt 2 [] 7 ["i","j"] (v8 (jz (kx (vv 2) ki))) (λhN _ _ _ _ _=>(xV (is:=[0,1]) (xw K (t:=gNs [0,1]) (n:=2) (kz (gn hN) (kz (gn hN) xq))))) (λ_ _ _ _ _=>_ha) (λ_ _ _ _ _=>(kK (o:=.no) (j5 (cv 1) (j5 (cv 0) jq)))))) T.b_dict _dF)) (j8 (qA nd zq) (j8 (qF (xv (j7 (qC bt hr (j5 (cv 1) (j5 (jz (kx (vv 2) ki)) jq)))) rfl T.b_range) (gN nd) (k8 (qP (V7 (ww (_jy hr.units) _jA (vv 6) (vv 4) (by rfl) _jC) (jz (_jD hr.units (vv 4) (vv 6) (λ_ _=>rfl))) (oA (vv 3) (j7 (qL (j7 (_g7 (o:=.rt) (k:=1) (R:=[3]) ["name","own"] (_j5 (pv 5)) (λ_ _ _ _ _=>(_fd (gn (show(["name","own"]:List Str).Nodup by decide +kernel)))) (λ_ _ _ _ _=>(_hb (ww _bi (Kq (g:=λa b=>decide (b<=a))) (vv 0) (vv 1) (J9 _) _ho))) (λ_ _ _ _ _=>(cv 0)) J4 #[_,_,rfl,rfl] ⋯ (show ∀j∈([3]:List Nat) ,j<7 by decide))) T.b_len))))))) (jK (kK (o:=.no) (j5 (qC bi hr (j5 (jz (kx (vv 2) ki)) (j5 (_hA (vv 3) T.b_range T.b_list) jq))) (j5 (_iq bi (hr.mono ⋯) J4 (K0 (kx (vv 2) ki) (K0 (vv 5) _ip))) jq))))))))
def _rj(T:Txt K mg):OkF P w K mg base 1 "names_of" jz2 ["standing"] 1 m_names_of:=
 okF _q2 λhr=>(jK (V7 (Q6 (vv 0) kn) (kK (o:=.no) jq) (jz (kx (vv 0) ki))))
def _rk(T:Txt K mg)(b8:jzh P w K mg base):OkF P w K mg base 2 "held_by_both" jqy ["standings"] 1 m_held_by_both:=
 okF sc_held_by_both λhr=>have nd:=sc_held_by_both.nd;(j8 (qA nd (qC b8 hr (j5 (jz (kx (vv 0) ki)) jq))) (jK (oA (vv 1) (j7 (qT (j7 (qm .rt 1 [1] 2 ["name","ours"] (v8 (qC b8 hr (j5 (jz (kx (vv 0) ki)) jq))) (λhN _ _ _ _ _=>(_fd (gn hN))) (λ_ _ _ _ _=>(_hb (ww (_gt hr.units) _gw (vv 0) (vv 1) (by rfl) _ht))) (λ_ _ _ _ _=>(cv 0)))) T.b_tuple)))))
def _rl(T:Txt K mg):OkF P w K mg base 1 "room_of" kje ["standing"] 1 m_room_of:=
 okF _q3 λhr=>(jK (V7 (Q6 (vv 0) kn) (q_C (WZ T.c_NOWHERE) (λ_=>vw)) (jz (kx (vv 0) ki))))
def _rm(T:Txt K mg)(b8:jzh P w K mg base)(dh:kzj P w K mg base):OkF P w K mg base 2 "pair_of" kjg ["standings"] 1 m_pair_of:=
 okF sc_pair_of λhr=>have nd:=sc_pair_of.nd;(j8 (qA nd (qC b8 hr (j5 (jz (kx (vv 0) ki)) jq))) (j8 (qA nd (qC b8 hr (j5 (jz (kx (vv 0) ki)) jq))) (j8 (_g9 (i:=3) (o:=.rt) (k:=2) (R:=[2]) ["i","name","theirs"] nd rfl (by first|exact Or.inl rfl|exact Or.inr rfl) (_j3 (cv 1) rfl T.b_enumerate) (λ_ _ _ _ _=>(xV (is:=[0,1]) (xw K (t:=gNs [0,1]) (n:=2) (kz (gn (show(["i","name","theirs"]:List Str).Nodup by decide +kernel)) (kz (gn (show(["i","name","theirs"]:List Str).Nodup by decide +kernel)) xq))))) (λ_ _ _ _ _=>(_hb (ww (_gs hr.units) _gv (vv 1) (vv 2) (by rfl) _hs))) (λ_ _ _ _ _=>(kK (o:=.no) (j5 (cv 0) (j5 (Zq hr.units (vv 2) (vv 1)) jq)))) J4 #[_,_,rfl,rfl] ⋯ (show ∀j∈([2]:List Nat) ,j<4 by decide)) (jK (kK (o:=.no) (j5 (qC dh hr (j5 (jz (kx (vv 0) ki)) jq)) (j5 (qC dh hr (j5 (jz (kx (vv 0) ki)) jq)) (j5 (qT (vv 3) T.b_tuple) jq))))))))
def _rn(T:Txt K mg)(dg:kzk P w K mg base):OkF P w K mg base 2 "read_by_both" jqw ["one","other","standings","sign","name"] 5 m_read_by_both:=
 okF _q4 λhr=>(jK (kK (o:=.no) (j5 (qC dg hr (j5 (cv 0) (j5 (jz (kx (vv 2) ki)) (j5 (cv 3) (j5 (cv 4) jq))))) (j5 (qC dg hr (j5 (cv 1) (j5 (jz (kx (vv 2) ki)) (j5 (cv 3) (j5 (cv 4) jq))))) jq))))
def _ro(T:Txt K mg)(aj:jva P w K mg base)(ax:jwy P w K mg base)(f8:vqq P w K mg base)(av:jww P w K mg base):OkF P w K mg base 3 "steps_from" jvz ["one","other","pair"] 3 m_steps_from:=
 okF sc_steps_from λhr=>have nd:=sc_steps_from.nd;(j8 (qA nd (qC aj hr (j5 (cv 0) (j5 (cv 1) (j5 (cv 2) jq))))) (j8 (qA nd (_hA (j7 (oA (j7 (qL (j7 (qC ax hr (j5 (cv 3) jq))) T.b_len)) ki)) T.b_range T.b_list)) (j8 (qA nd zq) (j8 (qF (v8 (_k5 rfl rfl (j7 (oA (kx (vv 0) ki) (kx (vv 1) ki))) T.b_sorted T.b_set)) (gN nd) (k8 (qF (v8 (cv 4)) (gN nd) (k8 (qP (kK (o:=.no) (j5 (cv 6) (j5 (cv 7) (j5 (qC f8 hr (j5 (qC av hr (j5 (cv 0) (j5 (cv 1) (j5 (cv 3) (j5 (cv 6) (j5 (cv 7) jq)))))) jq)) jq))))))))) (jK (Qj (pv 5)))))))
def _rp(T:Txt K mg):OkF P w K mg base 1 "least_beside" jqx ["names"] 1 m_least_beside:=
 okF sc_least_beside λhr=>have nd:=sc_least_beside.nd;(j8 (qA nd kI) (j8 (_e8 (_dW #[_,_,rfl,rfl]) (ww (_gs hr.units) _gv (vv 1) (vv 0) (by rfl) _hs) (k8 (_jj (i:=1) nd rfl (by first|exact Or.inl rfl|exact Or.inr rfl) _aX kI))) (jK (Qj (pv 1)))))
def _rq(T:Txt K mg)(aj:jva P w K mg base)(ax:jwy P w K mg base)(av:jww P w K mg base)(bv:jwx P w K mg base):OkF P w K mg base 3 "parting_row" jvf ["one","other","first","steps"] 4 m_parting_row:=
 okF sc_parting_row λhr=>have nd:=sc_parting_row.nd;(j8 (qA nd (qC aj hr (j5 (cv 0) (j5 (cv 1) (j5 (cv 2) jq))))) (j8 (qA nd zq) (j8 (qF (v8 (cv 3)) (xV (is:=[6,7]) (xw K (t:=gNs [6,7]) (n:=2) (kz (gn nd) (kz (gn nd) xq)))) (j8 (qA nd (qC ax hr (j5 (cv 4) jq))) (j8 (qA nd (V7 (_l4 (vv 7) (j7 (qL (vv 8) T.b_len))) (jz (kx (vv 8) (vv 7))) (qC bv hr (j5 (cv 8) jq)))) (j8 (qP (kK (o:=.no) (j5 (cv 6) (j5 (cv 9) jq)))) (k8 (qA nd (qC av hr (j5 (cv 0) (j5 (cv 1) (j5 (cv 4) (j5 (cv 6) (j5 (cv 9) jq)))))))))))) (jK (Qj (pv 5))))))
def _rr(T:Txt K mg):OkF P w K mg base 1 "steps_to" jz0 ["ways","pair"] 2 m_steps_to:=
 okF sc_steps_to λhr=>have nd:=sc_steps_to.nd;(j8 (qA nd zq) (j8 (qA nd (jz (_lt hr.units (vv 0) (vv 1) (λ_ _=>rfl)))) (j8 (_e8 (_dW #[_,_,rfl,rfl]) (_l3 (vv 3) kn) (j8 (qP (kK (o:=.no) (j5 (jz (kx (vv 3) ki)) (j5 (jz (kx (vv 3) ki)) jq)))) (k8 (qA nd (jz (_lt hr.units (vv 0) (kx (vv 3) ki) (λ_ _=>rfl))))))) (jK (_ln (vv 2) T.b_reversed T.b_list)))))
def _rs(T:Txt K mg)(cp:kzi P w K mg base)(gh:vxu P w K mg base)(ca:kw9 P w K mg base)(dz:kqj P w K mg base):OkF P w K mg base 4 "searched" jz1 ["one","other","first"] 3 m_searched:=
 okF sc_searched λhr=>have nd:=sc_searched.nd;(j8 (qA nd (_jh hr.units (cv 2) kN)) (j8 (qA nd (wX (o:=.rt) (j5 (cv 2) jq))) (j8 (qA nd kI) (j8 (_e8 (_dW #[_,_,rfl,rfl]) (_l4 (vv 5) (j7 (qL (vv 4) T.b_len))) (j8 (qA nd (jz (kx (vv 4) (vv 5)))) (j8 (kJ (vQ (vJ (j7 (qC gh hr (j5 (cv 0) (j5 (cv 1) (j5 (cv 6) jq))))))) (jK (kK (o:=.no) (j5 kS (j5 (qC ca hr (j5 (cv 0) (j5 (cv 1) (j5 (cv 2) (j5 (qC dz hr (j5 (cv 3) (j5 (cv 6) jq))) jq))))) jq))))) (j8 (qF (v8 (qC cp hr (j5 (cv 0) (j5 (cv 1) (j5 (cv 6) jq))))) (xV (is:=[7,8,9]) (xw K (t:=gNs [7,8,9]) (n:=3) (kz (gn nd) (kz (gn nd) (kz (gn nd) xq))))) (k8 (kJ (ww (_iW hr.units) _i0 (vv 9) (vv 3) (by rfl) _i2) (j8 (_je (i:=3) hr.units rfl (pv 3) (vv 9) (kK (o:=.no) (j5 (cv 6) (j5 (cv 7) (j5 (cv 8) jq))))) (k8 (qP (cv 9))))))) (k8 (_jj (i:=5) nd rfl (by first|exact Or.inl rfl|exact Or.inr rfl) _aX kI)))))) (jK (kK (o:=.no) (j5 kS (j5 (cv 4) jq))))))))
def _rt(T:Txt K mg)(ef:qwb P w K mg base)(cn:kqk P w K mg base)(F:_lo K "compared" "compared" jz4 f fd):FnOk P w K mg base (CXE P w) 5 f fd ["one","other","pair"] (spF K mg 3 m_compared):=
 _lp F _q5 (_f7 rfl) λce A outer s H vs Q E hr h=>_f9 rfl
  (j8 (kJ (Kv hr (kx (vv 0) ki) (kx (vv 1) ki)) (k8 _h2)) (j8 (kJ (QW.pt (x3 (vQ (vJ (j7 (qC cn hr (j5 (cv 0) jq))))) (Jv (vQ (vJ (j7 (qC cn hr (j5 (cv 1) jq)))))))) (k8 _h2)) (jK (qC ef hr (j5 (cv 0) (j5 (cv 1) (j5 (V7 (Q6 (vv 2) kn) (q_CD T.c_FIRST_PAIR) (cv 2)) jq))))))) h
def _ru(T:Txt K mg):OkF P w K mg base 1 "_law_cell_at" jv1 ["_law_script","_law_k"] 2 m__law_cell_at:=
 okF _q6 λhr=>(j8 (kJ (_l4 (vv 1) (j7 (qL (vv 0) T.b_len))) (jK (jz (kx (vv 0) (vv 1))))) (jK kI))
def _rv(T:Txt K mg):OkF P w K mg base 1 "_law_whole" jw2 ["_law_found"] 1 m__law_whole:=
 okF _q7 λhr=>(jK (_gE (j7 (Kw (vv 0) T.b_isinstance T.b_int _dB rfl)) (_gD (_gH (j7 (Kw (vv 0) T.b_isinstance T.b_bool _dD rfl))))))
def _rw(T:Txt K mg):OkF P w K mg base 1 "_law_stream" jvg ["_law_cell","_law_many"] 2 m__law_stream:=
 okF sc__law_stream λhr=>have nd:=sc__law_stream.nd;(j8 (qA nd zq) (j8 (kJ (K5 hr (j7 (oM (vv 0) ki)) ki) (j8 (qA nd (K8 (vv 0) ki)) (j8 (qF (xv (vv 1) rfl T.b_range) (gN nd) (j8 (qP (oM (vv 0) ki)) (k8 (qA nd (K8 (vv 0) ki))))) (jK (Qj (pv 2)))))) (j8 (qA nd (oA (j7 (oM (j7 (K8 (vv 0) ki)) ki)) ki)) (j8 (qF (xv (j7 (oA (vv 1) ki)) rfl T.b_range) (gN nd) (j8 (qA nd (oM (j7 (oA (j7 (oA (j7 (oX (vv 4) (vv 4))) (j7 (oX ki (vv 4))))) (vv 3))) ki)) (k8 (qP (oM (j7 (oA (j7 (oX (vv 4) ki)) (j7 (oX ki (vv 3))))) ki))))) (jK (_io (vv 2) (_il ki) _ik))))))
def _rx(T:Txt K mg)(b7:jvl P w K mg base):OkF P w K mg base 2 "_law_signs" jw4 ["_law_cell"] 1 m__law_signs:=
 okF sc__law_signs λhr=>have nd:=sc__law_signs.nd;(j8 (qA nd kS) (j8 (qA nd (qC b7 hr (j5 (cv 0) (j5 kI jq)))) (j8 (qA nd (_jX _ax (j7 (qM .rt 1 [1] 7 ["_law_x","_law_letters"] (v8 (_io (vv 2) _ik (_il (j7 (oA ki (j7 (oM (vv 0) ki))))))) (λ_ _ _ _ _=>(jz (kx (vv 1) (j7 (oM (vv 0) ki))))))))) (j8 (qA nd (oM (j7 (K8 (vv 0) ki)) (j7 (qL (vv 3) T.b_len)))) (j8 (qA nd zq) (j8 (qF (xv (kx (j7 (wX (o:=.rt) (j5 kI (j5 kI (j5 kI (j5 kI (j5 kI (j5 kI (j5 kI (j5 kI jq)))))))))) (j7 (oM (j7 (K8 (vv 0) ki)) ki))) rfl T.b_range) (gN nd) (k8 (qP (oA (j7 (oA (j7 (_io (vv 3) _ik (_il (vv 4)))) (kx (vv 1) (j7 (oA (j7 (oM (kx (vv 2) ki) ki)) (vv 6)))))) (j7 (_io (vv 3) (_il (j7 (oA (vv 4) ki))) _ik)))))) (jK (Qj (pv 5)))))))))
def _ry(T:Txt K mg):OkF P w K mg base 1 "_law_fills" jw7 ["_law_number","_law_need","_law_free"] 3 m__law_fills:=
 okF sc__law_fills λhr=>have nd:=sc__law_fills.nd;(j8 (qA nd (_hA (vv 2) T.b_range T.b_list)) (j8 (qA nd zq) (j8 (qF (xv (vv 1) rfl T.b_range) (gN nd) (j8 (qP (_iK (i:=3) (_dw K PySem.F.plainAttrs_list PySem.F.slot_list_pop PySem.F.type_list_pop _cq (pv 3) (wj (j7 (oM (vv 0) (j7 (qL (vv 3) T.b_len)))) wY)))) (k8 (qA nd (oA (j7 (K8 (vv 0) ki)) (j7 (oX ki (vv 5)))))))) (jK (qT (vv 4) T.b_tuple)))))
def _rz(T:Txt K mg)(cf:jzp P w K mg base):OkF P w K mg base 2 "_law_case" jx8 ["_law_number","_law_sizes","_law_free"] 3 m__law_case:=
 okF sc__law_case λhr=>have nd:=sc__law_case.nd;(j8 (kJ (K5 hr (j7 (oM (vv 0) ki)) ki) (jK kN)) (j8 (_g9 (i:=3) (o:=.rt) (k:=1) (R:=[1,2]) ["_law_to","_law_sizes","_law_free"] nd rfl (by first|exact Or.inl rfl|exact Or.inr rfl) (xv (j7 (qL (vv 1) T.b_len)) rfl T.b_range) (λ_ _ _ _ _=>(_fd (gn (show(["_law_to","_law_sizes","_law_free"]:List Str).Nodup by decide +kernel)))) (λ_ _ _ _ _=>(_hb (ww XW (Kq (g:=λa b=>decide (a<=b))) (kx (vv 1) (vv 0)) (vv 2) (J9 _) _ho))) (λ_ _ _ _ _=>(cv 0)) J4 #[_,_,rfl,rfl] ⋯ (show ∀j∈([1,2]:List Nat) ,j<5 by decide)) (j8 (qA nd (jz (kx (vv 3) (j7 (oM (j7 (K8 (vv 0) ki)) (j7 (qL (vv 3) T.b_len))))))) (jK (kK (o:=.no) (j5 (cv 4) (j5 (qC cf hr (j5 (K8 (vv 0) ki) (j5 (jz (kx (vv 1) (vv 4))) (j5 (cv 2) jq)))) jq)))))))
def _rA(T:Txt K mg)(b7:jvl P w K mg base)(d8:qk9 P w K mg base):OkF P w K mg base 3 "_law_plain" jw5 ["_law_cell","_law_signs_here"] 2 m__law_plain:=
 okF sc__law_plain λhr=>have nd:=sc__law_plain.nd;(j8 (qA nd (qC b7 hr (j5 (cv 0) (j5 kI jq)))) (j8 (qA nd (jz (kx (j7 (wX (o:=.rt) (j5 kI (j5 kI (j5 kI (j5 kI (j5 kI (j5 kI (j5 kI (j5 kI jq)))))))))) (j7 (oM (kx (vv 2) ki) ki))))) (j8 (qA nd kI) (j8 (kJ (QW.pt (_e1 (K5 hr (vv 3) ki) (_e0 (K5 hr (j7 (oM (kx (vv 2) ki) ki)) ki)))) (k8 (qA nd kI))) (j8 (qA nd (oA (j7 (wX (o:=.rt) (j5 kI jq))) (j7 (qM .rt 1 [2,4] 13 ["_law_k","_law_xs","_law_most_here"] (xv (j7 (Vq _bd _eP (vv 3) ki)) rfl T.b_range) (λ_ _ _ _ _=>(oM (j7 (K8 (kx (vv 1) (j7 (oA ki (vv 0)))) ki)) (j7 (oA (vv 2) ki)))))))) (j8 (qA nd zq) (j8 (qA nd kI) (j8 (qF (xv (vv 3) rfl T.b_range) (gN nd) (j8 (qA nd zq) (j8 (qF (xv (j7 (qL (vv 1) T.b_len)) rfl T.b_range) (gN nd) (j8 (qA nd zq) (j8 (qF (xv (j7 (oA (kx (vv 5) (vv 8)) ki)) rfl T.b_range) (gN nd) (j8 (qP (qC d8 hr (j5 (jz (kx (vv 2) (vv 7))) (j5 (cv 5) (j5 (oA (kx (vv 5) (vv 8)) (j7 (Q3 _dM _hh (j7 (V9 hr (vv 12) (kx (vv 5) (vv 8)))) T.b_int _dB))) jq))))) (k8 (qA nd (oA (vv 7) ki))))) (k8 (qP (cv 11)))))) (j8 (qP (kK (o:=.no) (j5 (jz (kx (vv 5) (vv 8))) (j5 (V9 hr (j7 (oM (kx (vv 2) (vv 7)) ki)) ki) (j5 (cv 9) jq))))) (k8 (qA nd (oA (vv 7) ki))))))) (jK (kK (o:=.no) (j5 (Q3 (_dJ K) _hi (vv 1) T.b_list QK) (j5 (cv 6) jq))))))))))))
def _rB(T:Txt K mg):OkF P w K mg base 1 "_law_read" jx3 ["_law_plain_here","_law_standing","_law_sign","_law_name"] 4 m__law_read:=
 okF sc__law_read λhr=>have nd:=sc__law_read.nd;(j8 (kJ (Q6 (vv 1) kn) (jK kN)) (j8 (Vx (cv 1) (xV (is:=[4,5]) (xw K (t:=gNs [4,5]) (n:=2) (kz (gn nd) (kz (gn nd) xq))))) (j8 (Vx (jz (kx (kx (vv 0) ki) (vv 4))) (xV (is:=[6,7,8]) (xw K (t:=gNs [6,7,8]) (n:=3) (kz (gn nd) (kz (gn nd) (kz (gn nd) xq)))))) (j8 (qA nd (cv 6)) (j8 (kJ (ww (_gs hr.units) _gv (vv 3) (vv 5) (by rfl) _hs) (k8 (qA nd (Zq hr.units (vv 5) (vv 3))))) (j8 (qA nd (jz (kx (kx (vv 8) (j7 (Zq hr.units (kx (vv 0) ki) (vv 2)))) (vv 9)))) (j8 (kJ (Q6 (vv 10) kn) (jK kN)) (jK (kK (o:=.no) (j5 (jz (kx (vv 10) ki)) (j5 (qT (j7 (qM .rt 1 [5,3] 11 ["_law_fill","_law_names","_law_name"] (v8 (jz (kx (vv 10) ki))) (λ_ _ _ _ _=>(jz (kx (j7 (oA (j7 (Q3 (_dJ K) _hi (vv 1) T.b_list QK)) (j7 (wX (o:=.rt) (j5 (cv 2) jq))))) (vv 0)))))) T.b_tuple) jq)))))))))))
def _rC(T:Txt K mg):OkF P w K mg base 1 "_law_keepers" jqz ["_law_plain_here","_law_room"] 2 m__law_keepers:=
 okF _q8 λhr=>(j8 (kJ (K5 hr (vv 1) (j7 Qw)) (jK kI)) (jK (jz (kx (kx (kx (vv 0) ki) (vv 1)) ki))))
def _rD(T:Txt K mg):OkF P w K mg base 1 "_law_pair" jx4 ["_law_here","_law_there"] 2 m__law_pair:=
 okF sc__law_pair λhr=>have nd:=sc__law_pair.nd;(j8 (qA nd (wX (o:=.rt) (j5 (kK (o:=.no) jq) (j5 (kK (o:=.no) jq) jq)))) (j8 (qA nd (wX (o:=.rt) (j5 Qw (j5 Qw jq)))) (j8 (qF (_iI (wX (o:=.rt) (j5 (cv 0) (j5 (cv 1) jq))) rfl T.b_enumerate) (xV (is:=[4,5]) (xw K (t:=gNs [4,5]) (n:=2) (kz (gn nd) (kz (gn nd) xq)))) (k8 (kJ (_l3 (vv 5) kn) (j8 (_ji (i:=3) (pv 3) (vv 4) (jz (kx (vv 5) ki))) (k8 (_ji (i:=2) (pv 2) (vv 4) (jz (kx (vv 5) ki)))))))) (j8 (_g9 (i:=6) (o:=.rt) (k:=2) (R:=[2]) ["_law_i","_law_name","_law_names"] nd rfl (by first|exact Or.inl rfl|exact Or.inr rfl) (_j3 (jz (kx (vv 2) ki)) rfl T.b_enumerate) (λ_ _ _ _ _=>(xV (is:=[0,1]) (xw K (t:=gNs [0,1]) (n:=2) (kz (gn (show(["_law_i","_law_name","_law_names"]:List Str).Nodup by decide +kernel)) (kz (gn (show(["_law_i","_law_name","_law_names"]:List Str).Nodup by decide +kernel)) xq))))) (λ_ _ _ _ _=>(_hb (ww (_gs hr.units) _gv (vv 1) (kx (vv 2) ki) (by rfl) _hs))) (λ_ _ _ _ _=>(kK (o:=.no) (j5 (cv 0) (j5 (Zq hr.units (kx (vv 2) ki) (vv 1)) jq)))) J4 #[_,_,rfl,rfl] ⋯ (show ∀j∈([2]:List Nat) ,j<7 by decide)) (jK (kK (o:=.no) (j5 (jz (kx (vv 3) ki)) (j5 (jz (kx (vv 3) ki)) (j5 (qT (vv 6) T.b_tuple) jq)))))))))
def _rE(T:Txt K mg)(am:jwk P w K mg base):OkF P w K mg base 2 "_law_is_pair" jv0 ["_law_found","_law_due"] 2 m__law_is_pair:=
 okF sc__law_is_pair λhr=>have nd:=sc__law_is_pair.nd;(j8 (kJ (QW.pt (x3 (vQ (vJ (j7 (Kw (vv 0) T.b_isinstance T.b_tuple _dE rfl)))) (x3 (Kv hr (j7 (qL (vv 0) T.b_len)) ki) (Jv (vQ (vJ (j7 (Kw (kx (vv 0) ki) T.b_isinstance T.b_tuple _dE rfl)))))))) (jK xQ)) (j8 (kJ (QW.pt (x3 (vQ (vJ (j7 (qC am hr (j5 (jz (kx (vv 0) ki)) jq))))) (Jv (vQ (vJ (j7 (qC am hr (j5 (jz (kx (vv 0) ki)) jq)))))))) (jK xQ)) (j8 (qF (v8 (jz (kx (vv 0) ki))) (gN nd) (k8 (kJ (QW.pt (x3 (vQ (vJ (j7 (Kw (vv 2) T.b_isinstance T.b_tuple _dE rfl)))) (x3 (Kv hr (j7 (qL (vv 2) T.b_len)) ki) (x3 (vQ (vJ (j7 (qC am hr (j5 (jz (kx (vv 2) ki)) jq))))) (Jv (vQ (vJ (j7 (qC am hr (j5 (jz (kx (vv 2) ki)) jq)))))))))) (jK xQ)))) (jK (V9 hr (vv 0) (vv 1))))))
def _rF(T:Txt K mg)(bb:jwz P w K mg base):OkF P w K mg base 2 "_law_firsts" jvh ["_law_one","_law_other","_law_pair_here"] 3 m__law_firsts:=
 okF sc__law_firsts λhr=>have nd:=sc__law_firsts.nd;(j8 (Vx (cv 2) (xV (is:=[3,4,5]) (xw K (t:=gNs [3,4,5]) (n:=3) (kz (gn nd) (kz (gn nd) (kz (gn nd) xq)))))) (j8 (qA nd (_hA (j7 (qC bb hr (j5 (cv 0) (j5 (cv 3) jq)))) T.b_range T.b_list)) (j8 (qA nd _jE) (j8 (qF (v8 (cv 5)) (xV (is:=[8,9]) (xw K (t:=gNs [8,9]) (n:=2) (kz (gn nd) (kz (gn nd) xq)))) (k8 (_jG (i:=7) hr.units (pv 7) (vv 9) (cv 8)))) (j8 (qA nd zq) (j8 (qA nd (qL (vv 6) T.b_len)) (j8 (qF (xv (j7 (qC bb hr (j5 (cv 1) (j5 (cv 4) jq)))) rfl T.b_range) (gN nd) (j8 (qP (jz (_jH hr.units (vv 7) (vv 9) (vv 11)))) (k8 (qA nd (oA (vv 11) (j7 (Q3 _dM _hh (j7 (W0 (_jz hr.units) _jB (vv 9) (vv 7) (by rfl))) T.b_int _dB))))))) (j8 (qA nd (wX (o:=.rt) (j5 (kK (o:=.no) (j5 (cv 3) (j5 (qT (vv 6) T.b_tuple) jq))) (j5 (kK (o:=.no) (j5 (cv 4) (j5 (qT (vv 10) T.b_tuple) jq))) jq)))) (jK (qM .rt 1 [] 13 ["_law_standing"] (v8 (cv 12)) (λ_ _ _ _ _=>(jz (kx (j7 (wX (o:=.rt) (j5 (cv 0) (j5 kN jq)))) (j7 (Q3 _dM _hh (j7 (V9 hr (kx (vv 0) ki) (j7 Qw))) T.b_int _dB)))))))))))))))
def _rG(T:Txt K mg)(b6:jxx P w K mg base)(cu:kkf P w K mg base)(b5:jxg P w K mg base):OkF P w K mg base 3 "_law_behind_all" jq1 ["_law_one","_law_other","_law_pair_here"] 3 m__law_behind_all:=
 okF sc__law_behind_all λhr=>have nd:=sc__law_behind_all.nd;(j8 (Vx (qC b6 hr (j5 (cv 0) (j5 (cv 1) (j5 (cv 2) jq)))) (xV (is:=[3,4]) (xw K (t:=gNs [3,4]) (n:=2) (kz (gn nd) (kz (gn nd) xq))))) (j8 (qA nd _lP) (j8 (qF (v8 (wX (o:=.rt) (j5 (cv 3) (j5 (cv 4) jq)))) (gN nd) (k8 (kJ (_l3 (vv 6) kn) (k8 (qF (v8 (jz (kx (vv 6) ki))) (gN nd) (k8 (_lQ (i:=5) hr.units (pv 5) (vv 7) xQ))))))) (j8 (qA nd zq) (j8 (qF (v8 (jz (kx (vv 0) ki))) (gN nd) (k8 (qF (v8 (oA (j7 (Q3 (_lT K rfl) _lU (vv 5) T.b_list QK)) (j7 (wX (o:=.rt) (j5 (_hc _lW _lX (vv 5) T.b_len _dx) jq))))) (gN nd) (j8 (qA nd (qC cu hr (j5 (qC b5 hr (j5 (cv 0) (j5 (cv 3) (j5 (cv 9) (j5 (cv 7) jq))))) (j5 (qC b5 hr (j5 (cv 1) (j5 (cv 4) (j5 (cv 9) (j5 (cv 7) jq))))) jq)))) (k8 (kJ (ww (_gt hr.units) _gw (vv 10) (vv 8) (by rfl) _ht) (k8 (qP (cv 10))))))))) (jK (Qj (pv 8))))))))
def _rH(T:Txt K mg):OkF P w K mg base 1 "_law_good" jx7 ["_law_plain_here","_law_room"] 2 m__law_good:=
 okF _q9 λhr=>(jK (_gE (j7 (W0 (_fG hr.units) _fI (vv 1) (j7 Qw) (J9 _))) (_gD (jz (kx (kx (kx (vv 0) ki) (vv 1)) ki)))))
def _rI(T:Txt K mg)(az:jxh P w K mg base)(bw:kkw P w K mg base)(bc:jzi P w K mg base):OkF P w K mg base 4 "_law_table" jw3 ["_law_one","_law_other","_law_pair_here","_law_table_here"] 4 m__law_table:=
 okF sc__law_table λhr=>have nd:=sc__law_table.nd;(j8 (kJ (vQ (vJ (j7 (Kw (vv 3) T.b_isinstance T.b_list QK rfl)))) (jK xQ)) (j8 (qA nd _i6) (j8 (qF (v8 (cv 3)) (gN nd) (j8 (kJ (QW.pt (x3 (vQ (vJ (j7 (qC bw hr (j5 (cv 5) (j5 (cv 5) jq)))))) (Jv (ww (_iV hr.units) _iZ (vv 5) (vv 4) (by rfl) _i1)))) (jK xQ)) (j8 (_je (i:=4) hr.units rfl (pv 4) (vv 5) xQ) (j8 (kJ (QW.pt (x3 (vQ (_iN XW (Kq (g:=λa b=>decide (a<=b))) _bh (Kq (g:=λa b=>decide (a<b))) (j7 Qw) (kx (vv 5) ki) (j7 (qL (kx (vv 0) ki) T.b_len)) _ho)) (Jv (vQ (_iN XW (Kq (g:=λa b=>decide (a<=b))) _bh (Kq (g:=λa b=>decide (a<b))) (j7 Qw) (kx (vv 5) ki) (j7 (qL (kx (vv 1) ki) T.b_len)) _ho))))) (jK xQ)) (k8 (kJ (Kv hr (j7 (qC az hr (j5 (cv 0) (j5 (jz (kx (vv 5) ki)) jq)))) (j7 (qC az hr (j5 (cv 1) (j5 (jz (kx (vv 5) ki)) jq))))) (jK xQ))))))) (j8 (qF (v8 (cv 3)) (gN nd) (k8 (kJ (Kv hr (j7 (qm .rt 1 [4] 6 ["_law_after","_law_known"] (v8 (qC bc hr (j5 (cv 0) (j5 (cv 1) (j5 (cv 5) jq))))) (λhN _ _ _ _ _=>(_fd (gn hN))) (λ_ _ _ _ _=>(_hb (ww (_iW hr.units) _i0 (vv 0) (vv 1) (by rfl) _i2))) (λ_ _ _ _ _=>(cv 0)))) (j7 zq)) (jK xQ)))) (jK (W0 (_iV hr.units) _iZ (vv 2) (vv 4) (by rfl)))))))
def _rJ(T:Txt K mg):OkF P w K mg base 1 "_law_most" jx5 ["_law_plain_here"] 1 m__law_most:=
 okF _ra λhr=>(jK (_hc (_l1 K) _l2 (j7 (qM .rt 1 [] 1 ["_law_room"] (v8 (jz (kx (vv 0) ki))) (λ_ _ _ _ _=>(jz (kx (vv 0) ki))))) T.b_max _dA))
def _rK(T:Txt K mg)(b5:jxg P w K mg base)(az:jxh P w K mg base):OkF P w K mg base 2 "_law_parts" jw6 ["_law_one","_law_other","_law_standings","_law_row"] 4 m__law_parts:=
 okF sc__law_parts λhr=>have nd:=sc__law_parts.nd;(j8 (Vx (cv 2) (xV (is:=[4,5]) (xw K (t:=gNs [4,5]) (n:=2) (kz (gn nd) (kz (gn nd) xq))))) (j8 (qF (v8 (cv 3)) (xV (is:=[6,7]) (xw K (t:=gNs [6,7]) (n:=2) (kz (gn nd) (kz (gn nd) xq)))) (j8 (qA nd (qC b5 hr (j5 (cv 0) (j5 (cv 4) (j5 (cv 6) (j5 (cv 7) jq)))))) (k8 (qA nd (qC b5 hr (j5 (cv 1) (j5 (cv 5) (j5 (cv 6) (j5 (cv 7) jq))))))))) (j8 (qA nd (wX (o:=.rt) (j5 Qw (j5 Qw jq)))) (j8 (qF (_iI (wX (o:=.rt) (j5 (cv 4) (j5 (cv 5) jq))) rfl T.b_enumerate) (xV (is:=[9,10]) (xw K (t:=gNs [9,10]) (n:=2) (kz (gn nd) (kz (gn nd) xq)))) (k8 (kJ (_l3 (vv 10) kn) (k8 (_ji (i:=8) (pv 8) (vv 9) (jz (kx (vv 10) ki))))))) (jK (W0 (_fG hr.units) _fI (j7 (qC az hr (j5 (cv 0) (j5 (jz (kx (vv 8) ki)) jq)))) (j7 (qC az hr (j5 (cv 1) (j5 (jz (kx (vv 8) ki)) jq)))) (J9 _)))))))
def ok__law_row_holds(T:Txt K mg)(b6:jxx P w K mg base)(br:kzo P w K mg base)(am:jwk P w K mg base)(c8:kkg P w K mg base):OkF P w K mg base 3 "_law_row_holds" s__law_row_holds ["_law_one","_law_other","_law_pair_here","_law_row"] 4 m__law_row_holds:=
 okF sc__law_row_holds λhr=>have nd:=sc__law_row_holds.nd;(j8 (kJ (vQ (vJ (j7 (Kw (vv 3) T.b_isinstance T.b_list QK rfl)))) (jK xQ)) (j8 (qF (v8 (cv 3)) (gN nd) (j8 (kJ (QW.pt (x3 (vQ (vJ (j7 (Kw (vv 4) T.b_isinstance T.b_tuple _dE rfl)))) (x3 (Kv hr (j7 (qL (vv 4) T.b_len)) ki) (x3 (vQ (vJ (j7 (Kw (kx (vv 4) ki) T.b_isinstance T.b_str _dC rfl)))) (Jv (ww (_gt hr.units) _gw (kx (vv 4) ki) (kx (vv 0) ki) (by rfl) _ht)))))) (jK xQ)) (k8 (kJ (QW.pt (x3 (vQ (vJ (j7 (qC am hr (j5 (jz (kx (vv 4) ki)) jq))))) (Jv (vQ (_iN XW (Kq (g:=λa b=>decide (a<=b))) XW (Kq (g:=λa b=>decide (a<=b))) ki (kx (vv 4) ki) (j7 (oA (j7 (qC c8 hr (j5 (cv 0) jq))) (j7 (qC c8 hr (j5 (cv 1) jq))))) _ho))))) (jK xQ))))) (j8 (qA nd (qC b6 hr (j5 (cv 0) (j5 (cv 1) (j5 (cv 2) jq))))) (j8 (qF (xv (j7 (qL (vv 3) T.b_len)) rfl T.b_range) (gN nd) (k8 (kJ (vJ (j7 (qC br hr (j5 (cv 0) (j5 (cv 1) (j5 (cv 5) (j5 (_io (vv 3) _ik (_il (vv 6))) jq))))))) (jK xQ)))) (jK (qC br hr (j5 (cv 0) (j5 (cv 1) (j5 (cv 5) (j5 (cv 3) jq))))))))))
def _rL(T:Txt K mg):OkF P w K mg base 1 "_law_turn" jx2 ["_law_keeper","_law_keepers_here","_law_copy"] 3 YJ:=
 okF _rb λhr=>(j8 (kJ (QW.pt (_e1 (K5 hr (vv 2) ki) (_e0 (_l4 (vv 0) (vv 1))))) (jK (Vq _bd _eP (j7 (Vq _bd _eP (vv 1) ki)) (vv 0)))) (jK (cv 0)))
def _rM(T:Txt K mg)(bj:kke P w K mg base):OkF P w K mg base 2 "_law_made_case" jqb ["_law_plain_here","_law_room","_law_copy","_law_i","_law_s","_law_bit"] 6 _qs:=
 okF sc__law_made_case λhr=>have nd:=sc__law_made_case.nd;(j8 (Vx (jz (kx (kx (vv 0) ki) (vv 1))) (xV (is:=[6,7,8]) (xw K (t:=gNs [6,7,8]) (n:=3) (kz (gn nd) (kz (gn nd) (kz (gn nd) xq)))))) (j8 (qA nd (jz (kx (kx (vv 8) (vv 4)) (j7 (qC bj hr (j5 (cv 3) (j5 (cv 6) (j5 (cv 2) jq)))))))) (j8 (kJ (Q6 (vv 9) kn) (jK kN)) (j8 (qA nd (jz (kx (kx (kx (vv 0) ki) (kx (vv 9) ki)) ki))) (j8 (qA nd zq) (j8 (qF (xv (vv 10) rfl T.b_range) (gN nd) (k8 (qP (qC bj hr (j5 (jz (kx (kx (vv 9) ki) (j7 (qC bj hr (j5 (cv 12) (j5 (cv 10) (j5 (cv 5) jq))))))) (j5 (cv 6) (j5 (cv 2) jq))))))) (jK (kK (o:=.no) (j5 (oA (kx (vv 9) ki) (j7 (oX (vv 5) (j7 (qL (kx (vv 0) ki) T.b_len))))) (j5 (qT (vv 11) T.b_tuple) jq))))))))))
def _rN(T:Txt K mg)(bf:jzs P w K mg base)(ah:jv6 P w K mg base):OkF P w K mg base 3 "_law_made" jx6 ["_law_plain_here","_law_script"] 2 _qt:=
 okF sc__law_made λhr=>have nd:=sc__law_made.nd;(j8 (qA nd (wX (o:=.dp) jq)) (j8 (qA nd kI) (j8 (qF (xv ki rfl T.b_range) (gN nd) (k8 (qF (xv (j7 (qL (kx (vv 0) ki) T.b_len)) rfl T.b_range) (gN nd) (j8 (Vx (jz (kx (kx (vv 0) ki) (vv 5))) (xV (is:=[6,7,8]) (xw K (t:=gNs [6,7,8]) (n:=3) (kz (gn nd) (kz (gn nd) (kz (gn nd) xq)))))) (j8 (qA nd (wX (o:=.dp) jq)) (j8 (qF (xv (j7 (qL (kx (vv 0) ki) T.b_len)) rfl T.b_range) (gN nd) (j8 (qA nd (wX (o:=.dp) jq)) (j8 (qF (xv (j7 (oA (vv 6) ki)) rfl T.b_range) (gN nd) (j8 (qA nd (oM (j7 (oA (j7 (qC ah hr (j5 (cv 1) (j5 (oA ki (vv 3)) jq)))) (j7 (K8 (vv 3) ki)))) ki)) (j8 (qP (qC bf hr (j5 (cv 0) (j5 (cv 5) (j5 (cv 4) (j5 (cv 12) (j5 (cv 10) (j5 (cv 13) jq)))))))) (k8 (qA nd (oA (vv 3) ki)))))) (k8 (qP (Qj (pv 11))))))) (k8 (qP (kK (o:=.dp) (q:=false) (j5 (QE.weak (cv 6)) (j5 (QE.weak (cv 7)) (j5 (Qj (pv 9)) _jW)))))))))))) (jK (kK (o:=.dp) (q:=false) (j5 (QE.weak (_kc (Q3 (_dJ K) _hi (kx (vv 0) ki) T.b_list QK))) (j5 (Qj (pv 2)) _jW)))))))
def _rO(T:Txt K mg)(dy:kql P w K mg base)(cm:kzl P w K mg base)(bg:T__law_row_holds P w K mg base):OkF P w K mg base 6 "_law_word" jx1 ["_law_one","_law_other"] 2 J0:=
 okF sc__law_word λhr=>have nd:=sc__law_word.nd;(j8 (qA nd (_lx dy (hr.mono ⋯) J4 (j5 (cv 0) (j5 (cv 1) jq)))) (j8 (kJ (QW.pt (x3 (vQ (vJ (j7 (Kw (vv 2) T.b_isinstance T.b_tuple _dE rfl)))) (Jv (Kv hr (j7 (qL (vv 2) T.b_len)) ki)))) (jK kN)) (j8 (kJ (QW.pt (_e1 (K5 hr (kx (vv 2) ki) ks) (_e0 (vJ (j7 (qC cm hr (j5 (cv 0) (j5 (cv 1) (j5 (kK (o:=.no) (j5 kI (j5 kI (j5 (kK (o:=.no) jq) jq)))) (j5 (jz (kx (vv 2) ki)) jq)))))))))) (jK (kK (o:=.no) (j5 kS (j5 kI jq))))) (j8 (kJ (QW.pt (_e1 (K5 hr (kx (vv 2) ki) ks) (_e0 (vJ (j7 (qC bg hr (j5 (cv 0) (j5 (cv 1) (j5 (kK (o:=.no) (j5 kI (j5 kI (j5 (kK (o:=.no) jq) jq)))) (j5 (jz (kx (vv 2) ki)) jq)))))))))) (jK (kK (o:=.no) (j5 kS (j5 (qL (kx (vv 2) ki) T.b_len) jq))))) (jK kN)))))
def _rP(T:Txt K mg)(cg:kzm P w K mg base)(ci:kzn P w K mg base)(de:qk8 P w K mg base)(b9:qk7 P w K mg base)(ah:jv6 P w K mg base)(F:Fun K "law" "law" wjv f fd):FnOk P w K mg base (CXE P w) 7 f fd ["_law_script"] (spF K mg 1 m_law):=
 _d0 F sc_law (_f7 rfl) λce A outer s H vs Q E hr h=>have nd:=sc_law.nd;_f9 rfl
  (j8 (qA nd (qC cg hr (j5 (qC ah hr (j5 (cv 0) (j5 kI jq))) jq))) (j8 (qA nd (qC ci hr (j5 (qC ah hr (j5 (cv 0) (j5 kI jq))) (j5 (cv 1) jq)))) (j8 (qA nd (qC de hr (j5 (cv 2) (j5 (cv 0) jq)))) (j8 (qA nd (V9 hr (j7 (oM (j7 (qC ah hr (j5 (cv 0) (j5 kI jq)))) ki)) ki)) (j8 (kJ (vJ (vv 4)) (j8 (qA nd (oM (j7 (qC ah hr (j5 (cv 0) (j5 kI jq)))) (j7 (qL (kx (vv 3) ki) T.b_len)))) (_l9 (_aU (_b3 _b8 (_j9 1 (_j8 K (pv 3)) (λ_ _=>rfl)) (pv 5) (λ_ _=>rfl)) (_aS rfl (kz (gn nd) (kz (gn nd) (kz (gn nd) xq))))) (_aU (_bz (wj (pv 6) (wj (_aI (pv 7)) (wj (pv 8) wY)))) (_aT (_j9 1 (_j8 K (pv 3)) (λ_ _=>rfl)) (pv 5) _cb))))) (j8 (qA nd (_iq b9 (hr.mono ⋯) J4 (K0 (vv 2) (K0 (vv 3) _ip)))) (j8 (kJ (QW.pt (x3 (Q6 (vv 9) kn) (Jv (QW.pt (_e1 (vQ (vJ (vv 4))) (_e0 (Kv hr (vv 9) (j7 (kK (o:=.no) (j5 kS (j5 kI jq))))))))))) (jK xQ)) (j8 (kJ (QW.pt (x3 (Kv hr (j7 (_iq b9 (hr.mono ⋯) J4 (K0 (vv 3) (K0 (vv 2) _ip)))) (vv 9)) (Jv (Kv hr (j7 (qC b9 hr (j5 (cv 2) (j5 (cv 2) jq)))) (j7 (kK (o:=.no) (j5 kS (j5 kI jq)))))))) (jK xQ)) (jK (_gE (j7 (V9 hr (j7 (_iq b9 (hr.mono ⋯) J4 (K0 (vv 3) (K0 (vv 3) _ip)))) (j7 (kK (o:=.no) (j5 kS (j5 kI jq)))))) (_gD (V9 hr (j7 (_iq b9 (hr.mono ⋯) J4 (K0 (vv 2) (K0 (vv 3) _ip)))) (vv 9))))))))))))) h
end
def all_mk{l:PySem.W.OpenLaw}{w:PySem.World}{K:Frag}{h:Heap}{mg:Str->Option Value}{fa:Addr}(X:K.In h)(G:h.Ns mainGlobals mg)(hfa:mg "law"=⇑(.ref fa)){dq cq gy:Value}{ck da:Addr}{en d9:Obj}
  (g0:Gf K "is_small" jz3)
  (g1:Gf K "read_by" kjf)
  (g2:Gf K "is_good_in" jw1)
  (g3:Gf K "agrees" kv2)
  (g4:Gf K "keepers_in" jw0)
  (g5:Gf K "standing_in" jve)
  (g6:Gf K "first_standings" jq0)
  (g7:Gf K "names_of" jz2)
  (g8:Gf K "held_by_both" jqy)
  (g9:Gf K "room_of" kje)
  (g10:Gf K "pair_of" kjg)
  (g11:Gf K "read_by_both" jqw)
  (g12:Gf K "steps_from" jvz)
  (g13:Gf K "least_beside" jqx)
  (g14:Gf K "parting_row" jvf)
  (g15:Gf K "steps_to" jz0)
  (g16:Gf K "searched" jz1)
  (g17:GfD K "compared" jz4)
  (g18:Gf K "_law_cell_at" jv1)
  (g19:Gf K "_law_whole" jw2)
  (g20:Gf K "_law_stream" jvg)
  (g21:Gf K "_law_signs" jw4)
  (g22:Gf K "_law_fills" jw7)
  (g23:Gf K "_law_case" jx8)
  (g24:Gf K "_law_plain" jw5)
  (g25:Gf K "_law_read" jx3)
  (g26:Gf K "_law_keepers" jqz)
  (g27:Gf K "_law_pair" jx4)
  (g28:Gf K "_law_is_pair" jv0)
  (g29:Gf K "_law_firsts" jvh)
  (g30:Gf K "_law_behind_all" jq1)
  (g31:Gf K "_law_good" jx7)
  (g32:Gf K "_law_table" jw3)
  (g33:Gf K "_law_most" jx5)
  (g34:Gf K "_law_parts" jw6)
  (g35:Gf K "_law_row_holds" s__law_row_holds)
  (g36:Gf K "_law_turn" jx2)
  (g37:Gf K "_law_made_case" jqb)
  (g38:Gf K "_law_made" jx6)
  (g39:Gf K "_law_word" jx1)
  (g40:Gf K "law" wjv)
  (gr:nsIn K mainGlobals "SMALL_ROOMS"=some ⇑dq) (gj:RelV (V.int (12)) dq)
  (fe:nsIn K mainGlobals "SMALL_KEEPERS"=some ⇑cq) (fj:RelV (V.int (3)) cq)
  (kt:nsIn K mainGlobals "NOWHERE"=some ⇑gy) (lf:RelV (V.int (-1)) gy)
  (i7:nsIn K mainGlobals "FIRST_PAIR"=some ⇑(.ref ck))
  (ig:K.lookup ck=⇑en)
  (ij:_k6 en [(V.int 0),(V.int 0),.ref da])
  (gi:K.lookup da=⇑d9)
  (ft:_k6 d9 [])
  (xm:nsIn K mainGlobals "all"=⇑none)
  (qp:nsIn K mainGlobals "bool"=⇑none)
  (rq:nsIn K mainGlobals "dict"=⇑none)
  (ip:nsIn K mainGlobals "enumerate"=⇑none)
  (vf:nsIn K mainGlobals "int"=⇑none)
  (ib:nsIn K mainGlobals "isinstance"=⇑none)
  (vb:nsIn K mainGlobals "len"=⇑none)
  (qu:nsIn K mainGlobals "list"=⇑none)
  (vm:nsIn K mainGlobals "max"=⇑none)
  (ny:nsIn K mainGlobals "range"=⇑none)
  (jh:nsIn K mainGlobals "reversed"=⇑none)
  (wa:nsIn K mainGlobals "set"=⇑none)
  (m6:nsIn K mainGlobals "sorted"=⇑none)
  (wm:nsIn K mainGlobals "str"=⇑none)
  (oi:nsIn K mainGlobals "tuple"=⇑none)
  : ∃fd:FuncData,(∀(s:Shared) (v:Value),BindsTo s fd #[[v],[]] [("_law_script",v)])/\∀base:Heap,K.In base->base.Ns mainGlobals mg->FnOk l.prog w K mg base (CXE l.prog w) 7 fa fd ["_law_script"] (spF K mg 1 m_law):=by
 have T:Txt K mg:=#[Xw X G xm,Xw X G qp,Xw X G rq,Xw X G ip,Xw X G vf,Xw X G ib,Xw X G vb,Xw X G qu,Xw X G vm,Xw X G ny,Xw X G jh,Xw X G wa,Xw X G m6,Xw X G wm,Xw X G oi,#[_,PySem.W.mg_of X G gr,gj],#[_,PySem.W.mg_of X G fe,fj],#[_,PySem.W.mg_of X G kt,lf],#[_,#[_,PySem.W.mg_of X G i7,(show RelV (.ref ck) _ from rfl)],λH=>(_la (_k7 ig ij) (_k9 vw (_k9 vw (_k9 (_la (_k7 gi ft) _k8) _k8))))]];refine g40.law X G hfa fun {base _ _} F=>?_
 have cn:kqk l.prog w K mg base:=g0.d X G (_rc T  _ _);have dg:kzk l.prog w K mg base:=g1.d X G (_rd T  _ _);have bq:jzo l.prog w K mg base:=g2.d X G (_re T  _ _);have gh:=g3.d X G (_rf T bq _ _);have bt:jzn l.prog w K mg base:=g4.d X G (_rg T  _ _);have bi:jxw l.prog w K mg base:=g5.d X G (_rh T  _ _);have aj:=g6.d X G (_ri T bt bi _ _);have b8:jzh l.prog w K mg base:=g7.d X G (_rj T  _ _);have ax:=g8.d X G (_rk T b8 _ _);have dh:kzj l.prog w K mg base:=g9.d X G (_rl T  _ _);have f8:=g10.d X G (_rm T b8 dh _ _);have av:=g11.d X G (_rn T dg _ _);have cp:=g12.d X G (_ro T aj ax f8 av _ _);have bv:jwx l.prog w K mg base:=g13.d X G (_rp T  _ _);have ca:=g14.d X G (_rq T aj ax av bv _ _);have dz:kqj l.prog w K mg base:=g15.d X G (_rr T  _ _);have ef:=g16.d X G (_rs T cp gh ca dz _ _);have dy:kql l.prog w K mg base:=g17.n X G (_rt T ef cn);have ah:jv6 l.prog w K mg base:=g18.d X G (_ru T  _ _);have am:jwk l.prog w K mg base:=g19.d X G (_rv T  _ _);have b7:jvl l.prog w K mg base:=g20.d X G (_rw T  _ _);have cg:=g21.d X G (_rx T b7 _ _);have cf:jzp l.prog w K mg base:=g22.d X G (_ry T  _ _);have d8:=g23.d X G (_rz T cf _ _);have ci:=g24.d X G (_rA T b7 d8 _ _);have b5:jxg l.prog w K mg base:=g25.d X G (_rB T  _ _);have bb:jwz l.prog w K mg base:=g26.d X G (_rC T  _ _);have cu:kkf l.prog w K mg base:=g27.d X G (_rD T  _ _);have bw:=g28.d X G (_rE T am _ _);have b6:=g29.d X G (_rF T bb _ _);have bc:=g30.d X G (_rG T b6 cu b5 _ _);have az:jxh l.prog w K mg base:=g31.d X G (_rH T  _ _);have cm:=g32.d X G (_rI T az bw bc _ _);have c8:kkg l.prog w K mg base:=g33.d X G (_rJ T  _ _);have br:=g34.d X G (_rK T b5 az _ _);have bg:=g35.d X G (ok__law_row_holds T b6 br am c8 _ _);have bj:kke l.prog w K mg base:=g36.d X G (_rL T  _ _);have bf:=g37.d X G (_rM T bj _ _);have de:=g38.d X G (_rN T bf ah _ _);have b9:=g39.d X G (_rO T dy cm bg _ _);exact _rP T cg ci de b9 ah F
end Nk43
namespace PySem.W.Fast
def tw6040672595872546072:True:=#[]
def tw9681324169959227069:True:=#[]
def tw3476678408470737207:True:=#[]
def tw3824497068288579029:True:=#[]
def tw16598308618675557596:True:=#[]
def tw4329670764906294622:True:=#[]
def tw13423429132165685332:True:=#[]
def tw9334028913038049324:True:=#[]
def tw16151824649866143180:True:=#[]
def tw15259693539774428493:True:=#[]
def tw12724748000139176093:True:=#[]
def tw15249859892101186281:True:=#[]
def tw1979062967366124106:True:=#[]
def tw2331443790704730061:True:=#[]
def tw15754398746006277263:True:=#[]
def tw5559615242069858906:True:=#[]
def tw5257799246793623600:True:=#[]
def tw14929924903633914612:True:=#[]
def tw11343603745967612769:True:=#[]
def tw3446162501170526000:True:=#[]
def tw7812585794458125892:True:=#[]
def tw13198394628522702035:True:=#[]
def tw10388303596685140885:True:=#[]
def tw5100405079055094363:True:=#[]
def tw5453497977689728614:True:=#[]
def tw3363583791388393555:True:=#[]
def tw14410150520572330982:True:=#[]
def tw11966618386651068224:True:=#[]
def tw4456089005811291167:True:=#[]
def tw9344500370496512831:True:=#[]
def tw1253327474267375800:True:=#[]
def tw13300414069840408338:True:=#[]
def tw8850225242719118356:True:=#[]
def tw12100957147288037360:True:=#[]
def tw4573686656420752737:True:=#[]
def tw10481223197890264886:True:=#[]
def tw11456705393022630054:True:=#[]
def tw12877544066545576057:True:=#[]
def tw6883638803350419758:True:=#[]
def tw15962862096103915370:True:=#[]
def tw16516078295074077432:True:=#[]
def tw5881876839141485497:True:=#[]
def tw4809197640485707619:True:=#[]
def tw14966300543095577398:True:=#[]
def tw13370556457487155150:True:=#[]
def tw12947333310226069391:True:=#[]
def tw17963456003593703199:True:=#[]
def tw3793770839104891859:True:=#[]
def tw7032941705832847411:True:=#[]
def tw17663360885226341214:True:=#[]
def tw2418813999241697489:True:=#[]
def tw8260120351362299381:True:=#[]
def tw15003373708008534540:True:=#[]
def tw896306898989393654:True:=#[]
def tw1247886027025753258:True:=#[]
def tw8388959893559584787:True:=#[]
def tw9050119231180467738:True:=#[]
def tw16922723676990481977:True:=#[]
def tw2015946932240269777:True:=#[]
def tw5272677260599533709:True:=#[]
def tw13044597115665510137:True:=#[]
def tw12845261606750411280:True:=#[]
def tw16870417890859937524:True:=#[]
def tw16482647454296916647:True:=#[]
def tw4267666486406038730:True:=#[]
def tw10362583388232097437:True:=#[]
def tw10518751238863674750:True:=#[]
def tw11518077158636019814:True:=#[]
def tw6954458234777997244:True:=#[]
def tw11582927894993546456:True:=#[]
def tw9234143588495292838:True:=#[]
def tw10795910333819545752:True:=#[]
def tw14993891338372677663:True:=#[]
def tw11195377526660859870:True:=#[]
def tw5521597202910110442:True:=#[]
def tw7262793568379340558:True:=#[]
def tw2411487663312891245:True:=#[]
def tw18007056390070888946:True:=#[]
def tw17562307529004613835:True:=#[]
def tw11308971490026811447:True:=#[]
def tw11170150188375943034:True:=#[]
def tw14542972234654771326:True:=#[]
def tw12546180250062475937:True:=#[]
def tw3815877727032870096:True:=#[]
def tw11644888929073427116:True:=#[]
def tw14486645179520258787:True:=#[]
def tw12579562808267035352:True:=#[]
def tw7868780007920795951:True:=#[]
def tw15876574814630855357:True:=#[]
def tw10214872393087102528:True:=#[]
def tw2050580642003420295:True:=#[]
def tw13978456068203009830:True:=#[]
def tw12009142209068827333:True:=#[]
def tw12317376268022739785:True:=#[]
def tw15959383638219640623:True:=#[]
def tw17492055788175399117:True:=#[]
def tw15192966864223132296:True:=#[]
def tw9367988998411616955:True:=#[]
def tw218047053141946110:True:=#[]
def tw10738068597446384154:True:=#[]
def tw15842711627979420915:True:=#[]
def tw15464141179368985780:True:=#[]
def tw4708727646122842401:True:=#[]
def tw9445338460779928489:True:=#[]
def tw13335338242265700499:True:=#[]
def tw2256727431049459382:True:=#[]
def tw4525406530048152635:True:=#[]
def tw6475377165679054329:True:=#[]
def tw17638700326244503937:True:=#[]
def tw3243048302954967182:True:=#[]
def tw6504336846161079331:True:=#[]
def tw5516102534822019452:True:=#[]
def tw16159216799694223717:True:=#[]
def tw8855935939426622457:True:=#[]
def tw14446346798942648086:True:=#[]
def tw3334577047758703254:True:=#[]
def tw3253618894427957219:True:=#[]
def tw12799792830784890249:True:=#[]
def tw10923192676902230469:True:=#[]
def tw15823947611797822801:True:=#[]
def tw11491403465371117774:True:=#[]
def tw9364559309310426619:True:=#[]
def tw2679586049582260439:True:=#[]
def tw16031425138837869663:True:=#[]
def tw230050144764466939:True:=#[]
end PySem.W.Fast
open PySem PySem.W PyProof.Rows
set_option maxRecDepth 100000 in
set_option maxHeartbeats 0 in
#where in
theorem PySem.Challenge.cw_freshrooms_k43_made_alike_holds : PySem.Challenge.rw_freshrooms_k43_made_alike.Holds := by
 w_on;o_law;k_head;(case hw=>w_witness2)
 k_fill
 refine Q.walkQ (l:=PySem.Challenge.rw_freshrooms_k43_made_alike) (n:=63) (k:=7) (x:="_law_script") (f:=Nk43.m_law) rfl ⋯ rfl #[rfl,⋯,⋯,rfl] (fun w h Y=>PySem.W.kIn_of Y) ?F Nk43.law_true
 case F =>
  intro w mg fa h KX G hmg
  refine' Nk43.all_mk KX G hmg ?_ ?_ ?_ ?_ ?_ ?_ ?_ ?_ ?_ ?_ ?_ ?_ ?_ ?_ ?_ ?_ ?_ ?_ ?_ ?_ ?_ ?_ ?_ ?_ ?_ ?_ ?_ ?_ ?_ ?_ ?_ ?_ ?_ ?_ ?_ ?_ ?_ ?_ ?_ ?_ ?_ ?y0 ?y1 ?y2 ?y3 ?y4 ?y5 ?y6 ?y7 ?y8 ?y9 ?y10 ?y11 ?y12 ?y13 ?y14 ?y15 ?y16 ?y17 ?y18 ?y19 ?y20 ?y21 ?y22 ?y23 ?y24 ?y25
  all_goals try (refine' Q.Gf.mk ?a ?b ?c ?d;(case a=>k_is);(case b=>k_is);(case c=>k_is);(case d=>k_is))
  all_goals try (refine' Q.GfD.mk ?a ?b ?c ?d ?e ?f;(case a=>k_is);(case b=>k_is);(case c=>k_is);(case d=>k_is);(case e=>k_is);(case f=>rfl))
  case y0 | y2 | y4 | y6 | y11 | y12 | y13 | y14 | y15 | y16 | y17 | y18 | y19 | y20 | y21 | y22 | y23 | y24 | y25=>k_is
  case y1 | y3 | y5=>exact #[_,rfl]
  case y7=>k_is
  case y8=>exact #[rfl,rfl,_,_,rfl,⋯,(.cons #[_,rfl] (.cons #[_,rfl] (.cons rfl .nil)))]
  case y9=>k_is
  case y10=>exact #[rfl,rfl,_,_,rfl,⋯,.nil]
