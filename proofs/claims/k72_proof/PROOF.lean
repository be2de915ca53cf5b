import PyProof.Rows.All
import Wide.All
import OpenK.AllK
import Wide.FinOn
import Lean
import PySem.Challenge.RW_freshrooms_k72_tables_refused
open PySem.W(Frag kitOne nsIn findIn)
set_option Elab.async false
set_option linter.all false
set_option bootstrap.genMatcherCode false
set_option compiler.extract_closed false
set_option maxRecDepth 100000
local macro_rules|`(⋯)=>`(by first|decide|lia)
local macro_rules|`(tactic|ac_rfl)=>`(tactic|with_unfolding_all rfl)
local macro_rules|`(tactic|exists$e)=>`(tactic|with_unfolding_all exact$e)
abbrev VP9:=PySem.Value->PySem.Shared->Prop
abbrev LA9:=List (PySem.Addr×PySem.Obj)
abbrev Kq9(k:List Int):=∀p∈k,0<=p/\p<=3
theorem aA{α}{a:α}{s t:List α}:a∈s++t->a∈s∨a∈t:=List.mem_append.mp
theorem aB{α}{a b:α}:a=b->a∈[b]:=List.mem_singleton.mpr
theorem aC{α}{a b:α}:a∈[b]->a=b:=List.mem_singleton.mp
theorem aD{α}{a b:α}{l:List α}:a∈b::l->a=b∨a∈l:=List.mem_cons.mp
theorem aE{α β}{f:α->β}{l:List α}{b:β}:b∈l.map f->∃a,a∈l∧f a=b:=List.mem_map.mp
local macro_rules|`(tactic|trivial)=>`(tactic|first|exact Or.inl rfl|exact Or.inr rfl)
def Ŕq(_:True:=by rfl):True:=trivial
def Ŕq.z:True:=trivial
open Ŕq renaming _auto_1→Ŕ
def ŕq(_:True:=by decide):True:=trivial
def ŕq.z:True:=trivial
open ŕq renaming _auto_1→ŕ
def Ŗq(_:True:=by intro _;rfl):True:=trivial
def Ŗq.z:True:=trivial
open Ŗq renaming _auto_1→Ŗ
def ŗq(_:True:=by decide +kernel):True:=trivial
def ŗq.z:True:=trivial
open ŗq renaming _auto_1→ŗ
def Řq(_:True:=by first|exact .inl rfl|exact .inr rfl|assumption):True:=trivial
def Řq.z:True:=trivial
open Řq renaming _auto_1→Ř
def řq(_:True:=by first|exact Or.inl rfl|exact Or.inr (Or.inl rfl)|exact Or.inr (Or.inr rfl)):True:=trivial
def řq.z:True:=trivial
open řq renaming _auto_1→ř
def Śq(_:True:=by trivial):True:=trivial
def Śq.z:True:=trivial
open Śq renaming _auto_1→Ś
def śq(_:True:=by first|exact .inl rfl|exact .inr rfl):True:=trivial
def śq.z:True:=trivial
open śq renaming _auto_1→ś
theorem oq9{α : Type _}{a b : α}(h:some a=some b):a=b:=Option.some.inj h
theorem lr9{α : Type _}{a : α}{b : List α}(c : List α)(h:a ∈ b):a ∈ c ++ b:=List.mem_append_right c h
theorem ll9{α : Type _}{a : α}{b : List α}(c : List α)(h:a ∈ b):a ∈ b ++ c:=List.mem_append_left c h
theorem lc9{α : Type _}{a : α}{l : List α}(b : α)(h:a ∈ l):a ∈ b::l:=List.mem_cons_of_mem b h
section
open PySem PySem.Spec PyProof.Rows
theorem X0:type_of% @wpAny_bind:=@wpAny_bind
theorem X1:type_of% @wpAny_pure:=@wpAny_pure
theorem X2:type_of% @Heap.get?_push_of_some:=@Heap.get?_push_of_some
theorem X3:type_of% @List.length_map:=@List.length_map
theorem X4:type_of% @Array.length_toList:=@Array.length_toList
theorem X5:type_of% @List.getElem?_eq_getElem:=@List.getElem?_eq_getElem
theorem X6:type_of% @List.mem_cons_self:=@List.mem_cons_self
theorem X7:type_of% @if_pos:=@if_pos
theorem X8:type_of% @List.size_toArray:=@List.size_toArray
theorem X9:type_of% @if_neg:=@if_neg
theorem Xa:type_of% @Nat.le_refl:=@Nat.le_refl
theorem Xb:type_of% @Heap.get?_push_size:=@Heap.get?_push_size
theorem Xd:type_of% @Heap.lt_size:=@Heap.lt_size
theorem Xe:type_of% @decide_eq_true:=@decide_eq_true
theorem Xf:type_of% @List.length_cons:=@List.length_cons
theorem Xg:type_of% @Array.getElem?_eq_getElem:=@Array.getElem?_eq_getElem
theorem Xh:type_of% @List.map_map:=@List.map_map
theorem Xi:type_of% @Nat.ne_of_lt:=@Nat.ne_of_lt
theorem Xj:type_of% @List.map_append:=@List.map_append
theorem Xk:type_of% @List.nodup_append:=@List.nodup_append
theorem Xl:type_of% @decide_eq_false:=@decide_eq_false
theorem Xm:type_of% @Nat.lt_of_lt_of_le:=@Nat.lt_of_lt_of_le
theorem Xn:type_of% @Int.emod_lt_of_pos:=@Int.emod_lt_of_pos
theorem Xp:type_of% @List.getElem?_map:=@List.getElem?_map
def Xq:type_of% @Array.getElem?_toList:=@Array.getElem?_toList
theorem Xr:type_of% @List.mem_map_of_mem:=@List.mem_map_of_mem
theorem Xs:type_of% @List.append_nil:=@List.append_nil
theorem Xu:type_of% @Int.emod_nonneg:=@Int.emod_nonneg
theorem Xv:type_of% @List.length_append:=@List.length_append
theorem Xw:type_of% @wpAny_holding:=@wpAny_holding
theorem Xx:type_of% @List.length_take:=@List.length_take
theorem Xy:type_of% @wpAny_newObj_type:=@wpAny_newObj_type
theorem Xz:type_of% @List.mem_of_getElem?:=@List.mem_of_getElem?
theorem Y0:type_of% @PyProof.Rows.callWith_type1:=@PyProof.Rows.callWith_type1
theorem Y1:type_of% @List.length_range:=@List.length_range
theorem Y2:type_of% @List.getElem_mem:=@List.getElem_mem
theorem Y3:type_of% @List.mem_cons:=@List.mem_cons
theorem Y4:type_of% @List.nodup_nil:=@List.nodup_nil
theorem Y5:type_of% @Around.under_plainId:=@Around.under_plainId
theorem Y6:type_of% @List.not_mem_nil:=@List.not_mem_nil
theorem Y7:type_of% @PySem.W.kia_one:=@PySem.W.kia_one
theorem Y8:type_of% @Heap.get?_update_self:=@Heap.get?_update_self
theorem Y9:type_of% @wpAny_call_entry:=@wpAny_call_entry
theorem Ya:type_of% @List.all_eq_true:=@List.all_eq_true
theorem Yb:type_of% @List.append_assoc:=@List.append_assoc
theorem Yc:type_of% @wpAny_setState_of:=@wpAny_setState_of
theorem Yd:type_of% @Int.toNat_natCast:=@Int.toNat_natCast
theorem Ye:type_of% @PySem.W.mg_none_of:=@PySem.W.mg_none_of
theorem Yf:type_of% @Heap.SameBut.update:=@Heap.SameBut.update
theorem Yg:type_of% @codeAny_builtin:=@codeAny_builtin
theorem Yh:type_of% @Nat.zero_le:=@Nat.zero_le
theorem Yi:type_of% @List.getElem?_append_left:=@List.getElem?_append_left
theorem Yj:type_of% @wpAny_Call_Name_kw:=@wpAny_Call_Name_kw
theorem Yk:type_of% @List.find?_cons:=@List.find?_cons
theorem Yl:type_of% @List.map_congr_left:=@List.map_congr_left
theorem Ym:type_of% @List.getElem?_eq_none:=@List.getElem?_eq_none
theorem Yn:type_of% @Nat.le_trans:=@Nat.le_trans
theorem Yo:type_of% @Array.getD_eq_getD_getElem?:=@Array.getD_eq_getD_getElem?
theorem Yp:type_of% @wpAny_callSpecial?_slot:=@wpAny_callSpecial?_slot
def Yq:type_of% @List.getElem?_set_ne:=@List.getElem?_set_ne
theorem Yr:type_of% @sizeLine_eq:=@sizeLine_eq
theorem Ys:type_of% @List.length_drop:=@List.length_drop
theorem Yt:type_of% @F.plain_set_update_loop:=@F.plain_set_update_loop
theorem Yu:type_of% @Int.eq_ofNat_of_zero_le:=@Int.eq_ofNat_of_zero_le
theorem Yv:type_of% @Nat.lt_irrefl:=@Nat.lt_irrefl
theorem Yw:type_of% @List.flatMap_cons:=@List.flatMap_cons
theorem Yx:type_of% @List.getD_eq_getElem?_getD:=@List.getD_eq_getElem?_getD
theorem Yy:type_of% @List.pairwise_map:=@List.pairwise_map
theorem Yz:type_of% @PySem.mem_of_lookup:=@PySem.mem_of_lookup
theorem Z0:type_of% @wpAny_specialOf:=@wpAny_specialOf
theorem Z1:type_of% @PyProof.Rows.slot_tuple_getitem:=@PyProof.Rows.slot_tuple_getitem
theorem Z2:type_of% @List.length_replicate:=@List.length_replicate
theorem Z3:type_of% @wpAny_setField:=@wpAny_setField
theorem Z4:type_of% @Nat.lt_succ_of_lt:=@Nat.lt_succ_of_lt
theorem Z5:type_of% @List.foldl_cons:=@List.foldl_cons
theorem Z6:type_of% @Heap.get?_update_ne:=@Heap.get?_update_ne
theorem Z7:type_of% @List.getElem?_set_self:=@List.getElem?_set_self
theorem Z8:type_of% @wpAny_typeOf:=@wpAny_typeOf
theorem Z9:type_of% @Heap.get?_update_other:=@Heap.get?_update_other
theorem Za:type_of% @PySem.W.mg_of:=@PySem.W.mg_of
theorem Zb:type_of% @List.lookup_cons:=@List.lookup_cons
theorem Zc:type_of% @List.length_singleton:=@List.length_singleton
theorem Zd:type_of% @List.length_set:=@List.length_set
theorem Ze:type_of% @List.flatten_cons:=@List.flatten_cons
theorem Zf:type_of% @wpAny_pyIter_list:=@wpAny_pyIter_list
theorem Zg:type_of% @List.Sublist.refl:=@List.Sublist.refl
theorem Zh:type_of% @List.foldl_append:=@List.foldl_append
theorem Zi:type_of% @of_decide_eq_true:=@of_decide_eq_true
theorem Zj:type_of% @wpAny_mono:=@wpAny_mono
theorem Zk:type_of% @wpAny_rule:=@wpAny_rule
theorem Zl:type_of% @plainId_quiet:=@plainId_quiet
theorem Zm:type_of% @wpAny_askSetting:=@wpAny_askSetting
theorem Zn:type_of% @wpAny_field:=@wpAny_field
theorem Zo:type_of% @True.intro:=@True.intro
theorem Zp:type_of% @codeAny_mono:=@codeAny_mono
end
noncomputable section
namespace L2
open PySem PySem.Spec PyProof.Rows
abbrev Key:=Sum Int Str
def VJ:Key->Value->Bool
 |.inl k,v=>Value.isInt k v|.inr x,v=>Value.isStrOf x v
def keyH(w:World):Key->Int
 |.inl k=>hashInt k|.inr x=>hashStr w x
theorem JX:∀{k:Key} {v:Value},VJ k v=true->(∃i t,k=Sum.inl i/\v=Value.int i t)\/(∃x t,k=Sum.inr x/\v=Value.str x t)
 |.inl i,v,h=>by
  obtain⟨t,e⟩:=Value.isInt_shape (k:=i) (v:=v) h;exact .inl ⟨i,t,rfl,e⟩
 |.inr x,v,h=>by
  obtain⟨t,e⟩:=Value.isStrOf_shape (x:=x) (v:=v) h;exact .inr ⟨x,t,rfl,e⟩
theorem qv8(i:Int)(t:Tok):VJ (.inl i) (.int i t)=true:=by simp[VJ,Value.isInt]
theorem qv7(x:Str)(t:Tok):VJ (.inr x) (.str x t)=true:=by simp[VJ,Value.isStrOf]
theorem wjv(a b:Int):decide ((Sum.inl a:Key)=Sum.inl b)=(a==b):=by
 by_cases e:a=b
 ·subst e;simp
 ·have h:¬(Sum.inl a:Key)=Sum.inl b:=λq=>e (Sum.inl.inj q)
  rw[Xl h];exact(beq_eq_false_iff_ne.mpr e).symm
theorem wjs(a b:Str):decide ((Sum.inr a:Key)=Sum.inr b)=decide (a=b):=by
 by_cases e:a=b
 ·subst e;simp
 ·have h:¬(Sum.inr a:Key)=Sum.inr b:=λq=>e (Sum.inr.inj q)
  rw[Xl h,Xl e]
theorem wju(a:Int)(b:Str):decide ((Sum.inl a:Key)=Sum.inr b)=false:=Xl (λq=>nomatch q)
theorem wjt(a:Str)(b:Int):decide ((Sum.inr a:Key)=Sum.inl b)=false:=Xl (λq=>nomatch q)
noncomputable def x5(prog:Program)(w:World):PySem.KeyKind prog w Key where
 is:=VJ
 hash:=keyH w
 inj:=λv a b ha hb=>by
  rcases JX ha with⟨i,t,rfl,rfl⟩|⟨x,t,rfl,rfl⟩
  ·rcases JX hb with⟨j,u,rfl,e⟩|⟨y,u,rfl,e⟩
   ·injection e with e1 _;rw[e1]
   ·exact nomatch e
  ·rcases JX hb with⟨j,u,rfl,e⟩|⟨y,u,rfl,e⟩
   ·exact nomatch e
   ·injection e with e1 _;rw[e1]
 byValue:=λk v h=>by
  rcases JX h with⟨i,t,rfl,rfl⟩|⟨x,t,rfl,rfl⟩<;>rfl
 pyHash:=λhv h=>by
  rcases JX hv with⟨i,t,rfl,rfl⟩|⟨x,t,rfl,rfl⟩
  ·exact wpAny_pyHash_int h
  ·exact wpAny_pyHash_str h
 eqBool:=λhu hv h=>by
  rcases JX hu with⟨i,t,rfl,rfl⟩|⟨x,t,rfl,rfl⟩
  ·rcases JX hv with⟨j,u,rfl,rfl⟩|⟨y,u,rfl,rfl⟩
   ·rw[wjv]at h;exact wpAny_eqBool_int h
   ·rw[wju]at h;exact SeqAt.EqAt.int_str i t y u _ _ _ _ h
  ·rcases JX hv with⟨j,u,rfl,rfl⟩|⟨y,u,rfl,rfl⟩
   ·rw[wjt]at h;exact SeqAt.EqAt.str_int x t j u _ _ _ _ h
   ·rw[wjs]at h;exact wpAny_eqBool_str h
 «strs»:=λk x t v h=>by
  rcases JX h with⟨i,u,rfl,e⟩|⟨y,u,rfl,e⟩
  ·exact nomatch e
  ·injection e with e1 _;subst e1;cases v<;>rfl
theorem kw5(prog:Program)(w:World)(i:Int)(t:Tok):(x5 prog w).is (.inl i) (.int i t)=true:=qv8 i t
theorem kw4(prog:Program)(w:World)(x:Str)(t:Tok):(x5 prog w).is (.inr x) (.str x t)=true:=qv7 x t
inductive V where
 |non|bl (b:Bool)|int (i:Int)|str (x:Str)|byt (b:Array UInt8)|flt (b:UInt64)|ref (a:Addr)|ty (n:String)
 deriving DecidableEq
def RelV:V->Value->Prop
 |.non,u=>u=Value.none|.bl b,u=>u=Value.bool b|.int i,u=>∃t,u=Value.int i t|.str x,u=>∃t,u=Value.str x t|.byt b,u=>∃t,u=Value.bytes b t|.flt b,u=>∃t,u=Value.float b t|.ref a,u=>u=Value.ref a|.ty n,u=>u=Value.type n
abbrev Vals:List V->List Value->Prop:=Paired RelV
theorem Vals.length{xs:List V}{us:List Value}(r:Vals xs us):xs.length=us.length:=Paired.length r
theorem Vals.get:∀{xs:List V} {us:List Value} {i:Nat} {x:V},Vals xs us->xs[i]?=some x->∃u,us[i]?=some u/\RelV x u
 |_,_,_,_,.nil,e=>by simp at e|_,_,0,_,.cons r _,e=>by simp at e;subst e;exact⟨_,rfl,r⟩
 |_,_,i+1,x,.cons _ t,e=>by
  obtain⟨u,h1,h2⟩:=Vals.get (i:=i) (x:=x) t (by simpa using e);exact⟨u,by simpa using h1,h2⟩
theorem Vals.set{x:V}{u:Value}(r:RelV x u):∀{xs:List V} {us:List Value} (i:Nat),Vals xs us->Vals (xs.set i x) (us.set i u)
 |_,_,_,.nil=>.nil|_,_,0,.cons _ t=>.cons r t|_,_,i+1,.cons q t=>.cons q (Vals.set r i t)
theorem Vals.append:∀{xs ys:List V} {us ws:List Value},Vals xs us->Vals ys ws->Vals (xs++ys) (us++ws)
 |_,_,_,_,.nil,s=>s|_,_,_,_,.cons r t,s=>.cons r (Vals.append t s)
theorem Vals.take:∀{xs:List V} {us:List Value} (n:Nat),Vals xs us->Vals (xs.take n) (us.take n)
 |_,_,0,_=>.nil|_,_,_+1,.nil=>.nil|_,_,n+1,.cons r t=>.cons r (Vals.take n t)
theorem Vals.drop:∀{xs:List V} {us:List Value} (n:Nat),Vals xs us->Vals (xs.drop n) (us.drop n)
 |_,_,0,r=>r|_,_,_+1,.nil=>.nil|_,_,n+1,.cons _ t=>Vals.drop n t
def RelO:Option V->Option Value->Prop
 |some v,some u=>RelV v u|none,none=>True|_,_=>False
def KV{κ:Type}:List (κ×V)->List (κ×Value)->Prop:=Paired λ(p:κ×V) (q:κ×Value)=>p.1=q.1/\RelV p.2 q.2
def kV:Key->V
 |.inl i=>.int i|.inr x=>.str x
inductive HO where
 |lst (xs:List V)
 |tup (xs:List V)
 |dK (aa:List (Key×V))|dT (aa:List (List Key×V))
 |set (S:Int->Bool) (n:Nat)
 |ins (C dx:Addr) (fs:List (Str×V))
 |own (x:Addr)
 |xd (fs:List (Str×V))
 |met (f x:Addr)
 |rng (lo hi:Int)
 |frz (o:Obj) (u:HO)
 |tbl (ps:Array Value)
 |ext (φ:World->Heap->Prop)
abbrev Hp:=Addr->Option HO
def IsTupD(h:Heap)(a:Addr)(items:Array Value):Prop:=∃o,h.get? a=some o/\o.cls=.type "tuple"/\o.dict=none/\∃n,o.data=.seq items n
theorem IsTupD.tup{h:Heap}{a:Addr}{items:Array Value}(p:IsTupD h a items):IsTup h a items:=by
 obtain⟨o,e,c,_,n,d⟩:=p;exact⟨o,e,c,n,d⟩
theorem IsTupD.new(h:Heap)(xs:Array Value):IsTupD (h.push { cls:=.type "tuple",data:=.seq xs }) h.objs.size xs:=⟨_,Xb _ rfl,rfl,rfl,0,rfl⟩
def upd(H:Hp)(a:Addr)(o:HO):Hp:=λb=>if b=a then some o else H b
theorem v6{H:Hp}{a:Addr}{o:HO}:upd H a o a=some o:=by unfold upd;rw[X7 rfl]
theorem jX{H:Hp}{a b:Addr}{o:HO}(h:b≠a):upd H a o b=H b:=by unfold upd;rw[X9 h]
theorem ww7{H:Hp}{a b:Addr}{o u:HO}(h:H a=some o)(h':H b=some u)(d:o≠u):a≠b:=by
 intro e;subst e;rw[h]at h';exact d (oq9 h')
theorem v9{H:Hp}{a b:Addr}{o:HO}(h:H a=some o)(h':H b=none):a≠b:=by
 intro e;subst e;rw[h]at h';cases h'
section
variable (P:Program)(w:World)
noncomputable def ObjOk(H : Hp)(h : Heap)(a : Addr): HO -> Prop
  |.lst xs=>xs.length<=sizeLine /\ ∃(ac : List Value) (n : Nat), Vals xs ac /\ h.get? a = some { cls:= .type "list", data:= .seq ac.toArray n }|.tup xs=>xs.length<=sizeLine /\ ∃ac : List Value, Vals xs ac /\ IsTupD h a ac.toArray|.dK aa=>aa.length<=sizeLine /\ (a==sysModules) = false /\ ∃vs, KV aa vs /\ h.DictOf (x5 P w) a vs
  |.dT aa=>aa.length<=sizeLine /\ (a==sysModules) = false /\ ∃xs : List (List Key × Addr × Value),
      Paired (λ(p : List Key × V) (q : List Key × Addr × Value)=>p.1 = q.1 /\ H q.2.1 = some (.tup (p.1.map kV)) /\ RelV p.2 q.2.2) aa xs /\
      ∃o es ep, h.get? a = some o /\ o.ExactDict /\ o.data = .dict es ep /\ es.toList = xs.map (entryOfKey (tupleKind (x5 P w))) /\ (xs.map (·.1)).Nodup
  |.set S n=>h.SetOf (intKind P w) a S n
  |.ins C dx fs=>H dx = some (.own a) /\ fs.length<=1000 /\ dx≠a /\ h.get? a = some (PySem.W.instObj C dx) /\
      ∃mA, h.Ns1 dx mA /\ (∀f, RelO (fs.lookup f) (mA f)) /\ PySem.Within mA (fs.map (·.1))
  |.own _=> ∃o, h.get? a = some o|.xd fs=> ∃mA, h.Ns1 a mA /\ ∀f, RelO (fs.lookup f) (mA f)|.rng lo hi=> ∃t u v, h.get? a = some { cls:= .type "range", data:= .fields #[.int lo t, .int hi u, .int 1 v] }|.frz o u=>h.get? a = some o /\ ObjOk H h a u|.tbl ps=>h.get? a = some { cls:= .none, data:= .fields ps }|.met f x=>h.get? a = some (PySem.W.methodObj (.ref f) (.ref x))|.ext φ=>φ w h /\ (∃o, h.get? a = some o) /\ ∀h1 h2 : Heap, φ w h1 -> (∀o, h1.get? a = some o -> h2.get? a = some o) -> φ w h2
def HOk(H:Hp)(h:Heap):Prop:=∀a o,H a=some o->ObjOk P w H h a o
end
section
variable {P:Program}{w:World}{H H':Hp}{h h':Heap}{a:Addr}{o:HO}
theorem ObjOk.lt(x:ObjOk P w H h a o):a<h.objs.size:=by
 cases o with|lst xs=>obtain⟨_,_,_,_,e⟩:=x;exact Xd e|tup xs=>obtain⟨_,_,_,p⟩:=x;exact p.tup.lt|dK aa=>obtain⟨_,_,_,_,o,_,_,e,_⟩:=x;exact Xd e|dT aa=>obtain⟨_,_,_,_,o,_,_,e,_⟩:=x;exact Xd e|set S n=>obtain⟨o,_,_,_,e,_⟩:=x;exact Xd e|ins C dx fs=>obtain⟨_,_,_,e,_⟩:=x;exact Xd e|own y=>obtain⟨_,e⟩:=x;exact Xd e|xd fs=>obtain⟨_,⟨_,_,_,e,_⟩,_⟩:=x;exact Xd e|rng lo hi=>obtain⟨_,_,_,e⟩:=x;exact Xd e|frz ob u=>obtain⟨e,_⟩:=x;exact Xd e|tbl ps=>exact Xd (show h.get? a=some _ from x)|met f y=>exact Xd (show h.get? a=some _ from x)|ext φ=>obtain⟨_,⟨_,e⟩,_⟩:=x;exact Xd e
theorem Paired.mapP{α β:Type}{F G:α->β->Prop}:∀{l₁:List α} {l₂:List β},Paired F l₁ l₂->(∀a b,F a b->G a b)->Paired G l₁ l₂
 |_,_,.nil,_=>.nil|_,_,.cons r t,f=>.cons (f _ _ r) (Paired.mapP t f)
theorem ObjOk.stay(x:ObjOk P w H h a o)(k:∀b u,(b=a\/H b=some (.own a))->h.get? b=some u->h'.get? b=some u)
  (ho:∀b,H b=some (.own a)->H' b=some (.own a)) (ht:∀b xs,H b=some (.tup xs)->H' b=some (.tup xs)):ObjOk P w H' h' a o:=by
 induction o with
 |lst xs=>obtain⟨z,ac,n,r,e⟩:=x;exact⟨z,ac,n,r,k _ _ (.inl rfl) e⟩|tup xs=>obtain⟨z,ac,r,ob,e,c⟩:=x;exact⟨z,ac,r,ob,k _ _ (.inl rfl) e,c⟩|dK aa=>obtain⟨z,y,vs,r,ob,es,ep,e,c⟩:=x;exact⟨z,y,vs,r,ob,es,ep,k _ _ (.inl rfl) e,c⟩
 |dT aa=>
  obtain⟨z,y,xs,r,ob,es,ep,e,c⟩:=x;exact⟨z,y,xs,Paired.mapP r λp q z=>⟨z.1,ht _ _ z.2.1,z.2.2⟩,ob,es,ep,k _ _ (.inl rfl) e,c⟩
 |set S n=>obtain⟨ob,es,ep,t,e,c⟩:=x;exact⟨ob,es,ep,t,k _ _ (.inl rfl) e,c⟩
 |ins C dx fs=>
  obtain⟨d,z,ne,e,mA,⟨od,es,ep,e2,c⟩,r⟩:=x;exact⟨ho _ d,z,ne,k _ _ (.inl rfl) e,mA,⟨od,es,ep,k _ _ (.inr d) e2,c⟩,r⟩
 |own y=>obtain⟨ob,e⟩:=x;exact⟨ob,k _ _ (.inl rfl) e⟩|xd fs=>obtain⟨mA,⟨od,es,ep,e,c⟩,r⟩:=x;exact⟨mA,⟨od,es,ep,k _ _ (.inl rfl) e,c⟩,r⟩|rng lo hi=>obtain⟨t,u,v,e⟩:=x;exact⟨t,u,v,k _ _ (.inl rfl) e⟩|frz ob u ih=>obtain⟨e,q⟩:=x;exact⟨k _ _ (.inl rfl) e,ih q⟩
 |tbl ps=>
  have e:h.get? a=some { cls:=.none,data:=.fields ps }:=x;show h'.get? a=some { cls:=.none,data:=.fields ps };exact k a _ (.inl rfl) e
 |met f y=>
  have e:h.get? a=some (PySem.W.methodObj (.ref f) (.ref y)):=x;show h'.get? a=some (PySem.W.methodObj (.ref f) (.ref y));exact k a _ (.inl rfl) e
 |ext φ=>obtain⟨p,⟨o,e⟩,st⟩:=x;exact⟨st _ _ p λo q=>k _ _ (.inl rfl) q,⟨o,k _ _ (.inl rfl) e⟩,st⟩
theorem HOk.lt(x:HOk P w H h)(e:H a=some o):a<h.objs.size:=(x a o e).lt
theorem HOk.fresh(x:HOk P w H h)(e:h.objs.size<=a):H a=none:=by
 cases q:H a with|none=>rfl|some u=>exact absurd (Xm (x.lt q) e) (Yv _)
theorem HOk.kept(x:HOk P w H h)(k:∀b u,h.get? b=some u->h'.get? b=some u):HOk P w H h':=λa o e=>
 (x a o e).stay (λb u _ q=>k b u q) (λ_ q=>q) λ_ _ q=>q
theorem HOk.laid(x:HOk P w H h)(k:∀b u,h.get? b=some u->h'.get? b=some u)(hp:h.objs.size<=a)(new:ObjOk P w (upd H a o) h' a o):HOk P w (upd H a o) h':=λb u e=>by
 have hn:=x.fresh hp
 by_cases hb:b=a
 ·subst hb;rw[v6]at e;cases e;exact new
 ·rw[jX hb]at e;exact(x b u e).stay (λc v _ q=>k c v q) (λc q=>by rw[jX (v9 q hn)];exact q) λc xs q=>by rw[jX (v9 q hn)];exact q
end
def Rd(H:Hp)(a:Addr)(u:HO):Prop:=H a=some u\/∃o,H a=some (.frz o u)
theorem Rd.ok{P:Program}{w:World}{H:Hp}{h:Heap}{a:Addr}{u:HO}(r:Rd H a u)(x:HOk P w H h):ObjOk P w H h a u:=by
 rcases r with r|⟨o,r⟩
 ·exact x a u r
 ·obtain⟨_,q⟩:=x a _ r;exact q
def Mut:Option HO->Prop
 |some (.lst _)=>True|some (.dK _)=>True|some (.dT _)=>True|some (.set _ _)=>True|some (.ins _ _ _)=>True|some (.ext _)=>True|_=>False
section
variable {P:Program}{w:World}{H:Hp}{h h':Heap}{x e:Addr}{o':HO}
theorem HOk.write(ok:HOk P w H h)(mu:Mut (H x))(he:e=x\/H e=some (.own x))(k:∀b u,b≠e->h.get? b=some u->h'.get? b=some u)(nj:∃u,h'.get? e=some u)
  (new:ObjOk P w (upd H x o') h' x o'):HOk P w (upd H x o') h':=λb u q=>by
 have ou:∀c y,H c=some (.own y)->c≠x:=λc y r z=>by subst z;rw[r]at mu;exact mu
 have ntup:∀c xs,H c=some (.tup xs)->c≠x:=λc xs r z=>by subst z;rw[r]at mu;exact mu
 by_cases hb:b=x
 ·subst hb;rw[v6]at q;cases q;exact new
 ·rw[jX hb]at q
  by_cases hbe:b=e
  ·have q':H b=some (.own x):=by
    rcases he with z|z
    ·exact absurd (hbe.trans z) hb
    ·rw[hbe];exact z
   rw[q]at q';cases q';obtain⟨v,hv⟩:=nj;exact⟨v,by rw[hbe];exact hv⟩
  ·refine(ok b u q).stay (λc v hc r=>k c v ?_ r) (λc r=>by rw[jX (ou c b r)];exact r) λc xs r=>by rw[jX (ntup c xs r)];exact r
   rcases hc with rfl|hc
   ·exact hbe
   ·rintro rfl;rcases he with z|z
    ·exact ou c b hc z
    ·rw[hc]at z;cases z;exact hb rfl
end
structure Un (fs ex:List Addr)(H H':Hp)(h h':Heap):Prop where
 keep:∀b o,h.get? b=some o->H b=none->b∉fs->b∉ex->h'.get? b=some o
 slot:∀b o,h.get? b=some o->H b=none->b∈fs->b∉ex->∃sl,h'.get? b=some { o with slots:=sl }
 free:∀b o,h.get? b=some o->H b=none->b∉ex->H' b=none
 there:∀b o,h.get? b=some o->b∉ex->∃o',h'.get? b=some o'
 tups:∀b xs,H b=some (.tup xs)->H' b=some (.tup xs)
 frzs:∀b o u,H b=some (.frz o u)->H' b=some (.frz o u)
 tbls:∀b ps,H b=some (.tbl ps)->∃more,H' b=some (.tbl (ps++more))
section
variable {fs fs' ex ex':List Addr}{H H1 H2:Hp}{h h1 h2 h':Heap}{a x e:Addr}{o:HO}
theorem Un.any(u:Un fs ex H H1 h h1){b:Addr}{ob:Obj}(q:h.get? b=some ob)(n:H b=none)(hx:b∉ex):∃sl,h1.get? b=some { ob with slots:=sl }:=by
 by_cases hb:b∈fs
 ·exact u.slot b ob q n hb hx
 ·exact⟨ob.slots,u.keep b ob q n hb hx⟩
theorem Un.kept(k:∀b u,h.get? b=some u->h'.get? b=some u):Un fs ex H H h h':=
 ⟨λb ob q _ _ _=>k b ob q,λb ob q _ _ _=>⟨ob.slots,k b ob q⟩,λ_ _ _ n _=>n,λb ob q _=>⟨ob,k b ob q⟩,λ_ _ q=>q,λ_ _ _ q=>q,λ_ ps q=>⟨#[],by rw[q];simp⟩⟩
theorem Un.refl:Un fs ex H H h h:=Un.kept λ_ _ q=>q
theorem Un.laid(k:∀b u,h.get? b=some u->h'.get? b=some u)(hp:h.objs.size<=a)(hn:H a=none):Un fs ex H (upd H a o) h h' where
 keep:=λb u q _ _ _=>k b u q
 slot:=λb u q _ _ _=>⟨u.slots,k b u q⟩
 free:=λb u q n _=>by rw[jX (Xi (Xm (Xd q) hp))];exact n
 there:=λb u q _=>⟨u,k b u q⟩
 tups:=λb xs q=>by rw[jX (v9 q hn)];exact q
 frzs:=λb u xs q=>by rw[jX (v9 q hn)];exact q
 tbls:=λb ps q=>⟨#[],by rw[jX (v9 q hn),q];simp⟩
theorem Un.write(mu:Mut (H x))(he:e=x\/H e=some (.own x))(k:∀b u,b≠e->h.get? b=some u->h'.get? b=some u)(nj:∃u,h'.get? e=some u):Un fs ex H (upd H x o) h h':=by
 have hx:∀b,H b=none->b≠x:=λb n z=>by subst z;rw[n]at mu;exact mu
 have hb:∀b,H b=none->b≠e:=λb n z=>by
  subst z;rcases he with r|r
  ·exact hx b n r
  ·rw[n]at r;cases r
 have hm:∀b u,H b=some u->¬Mut (some u)->b≠x:=λb u q nm z=>by subst z;rw[q]at mu;exact nm mu
 refine⟨λb u q n _ _=>k b u (hb b n) q,λb u q n _ _=>⟨u.slots,k b u (hb b n) q⟩,λb u q n _=>by rw[jX (hx b n)];exact n,λb u q _=>?_,
  λb xs q=>by rw[jX (hm b _ q λz=>z)];exact q,λb u xs q=>by rw[jX (hm b _ q λz=>z)];exact q,λb ps q=>⟨#[],by rw[jX (hm b _ q λz=>z),q];simp⟩⟩
 by_cases hbe:b=e
 ·subst hbe;exact nj
 ·exact⟨u,k b u hbe q⟩
end
def trk(h:Heap)(H:Hp):List Addr:=(List.range h.objs.size).filter λa=>(H a).isSome
def JV(h:Heap)(H:Hp):Heap:=PySem.W.hideAll h (trk h H)
theorem qvj(h:Heap)(H:Hp):(JV h H).objs.size=h.objs.size:=PySem.W.hideAll_size _ _
theorem qzf{h:Heap}{H:Hp}{b:Addr}{o:Obj}(e:h.get? b=some o)(n:H b=none):(JV h H).get? b=some o:=
 PySem.W.hideAll_get _ e λhm=>by
  have q:(H b).isSome=true:=(List.mem_filter.mp hm).2;rw[n]at q;simp at q
theorem vqv{h:Heap}{H:Hp}{b:Addr}{o:Obj}(e:(JV h H).get? b=some o):h.get? b=some o/\H b=none:=by
 have e':h.get? b=some o:=PySem.W.of_hideAll (trk h H) e;refine⟨e',?_⟩;cases q:H b with
 |none=>rfl
 |some x=>
  have hm:b∈trk h H:=List.mem_filter.mpr ⟨List.mem_range.mpr (Xd e'),by simp[q]⟩;have z:(JV h H).get? b=none:=PySem.W.hideAll_none (trk h H) hm;rw[z]at e;cases e
structure Mod (K:Frag)(mg:Str->Option Value)(base:Heap):Prop where
 kin:K.In base
 glob:base.Ns mainGlobals mg
 blt:∃mb,base.Ns builtinsNs mb/\∀x:Str,x≠"__name__"->mb x=bootBuiltins x
 nolimit:base.NoLimit
structure Cx where
 prog:Program
 w:World
 K:Frag
 mg:Str->Option Value
 base:Heap
 A:Around
 N:List Str
 s₀:Shared
 H₀:Hp
 env:Env
 outer:List Env
 stack:List Env
 ex:List Addr
 fn:Str->Bool
 calm:Bool
 pn:LA9
 xe:VP9
def frs(l:List Env):List Addr:=l.filterMap (·.frame)
abbrev Cx.fs(X:Cx):List Addr:=frs X.outer
def Vis(sc:Scope)(x:Str):Prop:=sc.names.lookup x=some .local\/sc.names.lookup x=some .cell\/sc.names.lookup x=some .free
def Loc(sc:Scope)(x:Str):Prop:=sc.names.lookup x=some .local\/sc.names.lookup x=some .cell
def wz4(env:Env)(h:Heap)(m:Str->Option Value)(x:Str)(u:Value):Prop:=
 (env.kindOf x=some .local/\m x=some u)\/((env.kindOf x=some .cell\/env.kindOf x=some .free)/\∃c,env.cells.lookup x=some c/\h.IsCell c (some u))
structure Cx.Ok (X:Cx):Prop where
 mod:Mod X.K X.mg X.base
 kind:X.env.scope.kind=.function
 glob:X.env.globals=mainGlobals
 blt:X.env.builtins=builtinsNs
 above:X.s₀.heap.objs.size<=X.env.locals
 inj:∀x y c,X.env.cells.lookup x=some c->X.env.cells.lookup y=some c->x=y
 has:∀x,(X.env.kindOf x=some .cell\/X.env.kindOf x=some .free)->∃c,X.env.cells.lookup x=some c
 cab:∀x c,X.fn x=true->X.env.cells.lookup x=some c->X.s₀.heap.objs.size<=c
 hd:X.calm=true->X.A.handled=none
 frames:X.A.frames=some X.stack
 stk:X.stack=X.outer\/(X.stack=X.env::X.outer/\X.env.frame=some X.env.locals)
 exf:∀b∈X.ex,b≠X.env.locals/\∀x c,X.env.cells.lookup x=some c->c≠b
 bs:∀b o,X.base.get? b=some o->X.s₀.heap.get? b=some o/\X.H₀ b=none
 bsz:X.base.objs.size<=X.s₀.heap.objs.size
 noex:∀b o,X.base.get? b=some o->b∉X.ex
 exfs:∀b∈X.ex,b∉X.fs
 funs:X.s₀.heap.FunFrames X.base X.outer
 frf:∀b∈X.fs,X.H₀ b=none
structure Inv (X:Cx)(pins:LA9)(σ:List (Option V))(H:Hp)(s:Shared):Prop where
 ok:X.Ok
 os:s.os=X.s₀.os
 bare:AllBare s.gens
 base:Un X.fs X.ex X.H₀ H X.s₀.heap s.heap
 loc:∃m,s.heap.Ns X.env.locals m/\∀(i:Nat) (x:Str) (v:V),X.N[i]?=some x->σ[i]?=some (some v)->Vis X.env.scope x->∃u,RelV v u/\wz4 X.env s.heap m x u
 cell:∀x c,X.env.cells.lookup x=some c->∃v,s.heap.IsCell c v
 free:H X.env.locals=none
 freeC:∀x c,X.env.cells.lookup x=some c->H c=none
 pin:∀p∈X.pn++pins,s.heap.get? p.1=some p.2/\H p.1=none/\p.1≠X.env.locals/\p.1∉X.fs/\∀v,p.2.data≠.cell v
 hok:HOk X.prog X.w H s.heap
 len:σ.length=X.N.length
section
variable {X:Cx}{pins:LA9}{σ:List (Option V)}{H H':Hp}{s:Shared}{h':Heap}
theorem Cx.Ok.nofr(ok:X.Ok){b:Addr}{o:Obj}(e:X.base.get? b=some o):b∉X.fs:=λhb=>by
 have:=(ok.funs.mem hb).1;rw[e]at this;cases this
theorem Inv.bs(I:Inv X pins σ H s):∀b o,X.base.get? b=some o->s.heap.get? b=some o/\H b=none:=λb o e=>
 ⟨I.base.keep b o (I.ok.bs b o e).1 (I.ok.bs b o e).2 (I.ok.nofr e) (I.ok.noex b o e),I.base.free b o (I.ok.bs b o e).1 (I.ok.bs b o e).2 (I.ok.noex b o e)⟩
theorem Inv.bk(I:Inv X pins σ H s):∀b o,X.base.get? b=some o->s.heap.get? b=some o:=λb o e=>(I.bs b o e).1
theorem Inv.mod(I:Inv X pins σ H s):Mod X.K X.mg X.base:=I.ok.mod
theorem Inv.kIn(I:Inv X pins σ H s):X.K.In s.heap:=I.ok.mod.kin.keeps I.bk
theorem Inv.lt(I:Inv X pins σ H s):X.env.locals<s.heap.objs.size:=let ⟨_,hn,_⟩:=I.loc;hn.lt
theorem Inv.sz(I:Inv X pins σ H s):X.s₀.heap.objs.size<=s.heap.objs.size:=Yn I.ok.above (Nat.le_of_lt I.lt)
theorem Inv.nofs(I:Inv X pins σ H s){a:Addr}(h:s.heap.objs.size<=a):a∉X.fs:=λhb=>by
 obtain⟨_,o,ho,_⟩:=I.ok.funs.mem hb;exact absurd (Xm (Xd ho) (Yn I.sz h)) (Yv _)
theorem Inv.cne(I:Inv X pins σ H s):∀x c,X.env.cells.lookup x=some c->c≠X.env.locals:=λx c e z=>by
 obtain⟨v,o,ho,hd⟩:=I.cell x c e;obtain⟨m,⟨o',es,ep,gb,kd,_⟩,_⟩:=I.loc;rw[z,gb]at ho;cases ho;rw[kd]at hd;cases hd
theorem Inv.funs(I:Inv X pins σ H s):s.heap.FunFrames X.base X.outer:=by
 have all:∀(l:List Env),(∀b∈frs l,b∈X.fs)->X.s₀.heap.FunFrames X.base l->s.heap.FunFrames X.base l:=by
  intro l
  induction l with
  |nil=>intro _ _;trivial
  |cons env r ih=>
   intro hs hl;obtain⟨hk,⟨L,o,hf,hn,ho,hd⟩,hr⟩:=hl;have hL:L∈X.fs:=hs L (by unfold frs;rw[List.filterMap_cons,hf];exact X6);obtain⟨sl,e⟩:=I.base.slot L o ho (I.ok.frf L hL) hL λz=>I.ok.exfs L z hL
   exact⟨hk,⟨L,_,hf,hn,e,hd⟩,ih (λb hb=>hs b (by unfold frs;rw[List.filterMap_cons,hf];exact lc9 _ hb)) hr⟩
 exact all X.outer (λ_ hb=>hb) I.ok.funs
theorem Inv.stack(I:Inv X pins σ H s):s.heap.FunFrames X.base X.stack:=by
 rcases I.ok.stk with e|⟨e,hf⟩
 ·rw[e];exact I.funs
 ·rw[e];obtain⟨m,hn,_⟩:=I.loc;refine .cons (by rw[I.ok.kind];decide) hf hn ?_ I.funs;exact Heap.get?_none_of_le (Yn I.ok.bsz I.ok.above)
theorem Inv.stkSub(I:Inv X pins σ H s):∀b∈frs X.stack,b∈X.env.locals::X.fs:=λb hb=>by
 rcases I.ok.stk with e|⟨e,hf⟩
 ·rw[e]at hb;exact lc9 _ hb
 ·rw[e]at hb;unfold frs at hb;rw[List.filterMap_cons,hf]at hb;exact hb
theorem Inv.stkFree(I:Inv X pins σ H s):∀b∈frs X.stack,H b=none:=λb hb=>by
 rcases aD (I.stkSub b hb)with e|hb
 ·rw[e];exact I.free
 ·obtain⟨_,o,ho,_⟩:=I.ok.funs.mem hb;exact I.base.free b o ho (I.ok.frf b hb) λz=>I.ok.exfs b z hb
theorem Inv.step{g':Array GenState}{t':Nat}{d':Drawn}{ch:List Addr}(I:Inv X pins σ H s)
  (f9:∀b∈ch,(b∈X.ex\/X.s₀.heap.objs.size<=b)/\b≠X.env.locals/\(∀x c,X.env.cells.lookup x=some c->c≠b)/\∀p∈X.pn++pins,p.1≠b)
  (keep:∀b o,b≠X.env.locals->b∉X.fs->b∉ch->s.heap.get? b=some o->H b=none->h'.get? b=some o)
  (slot:∀b o,b≠X.env.locals->b∈X.fs->b∉ch->s.heap.get? b=some o->H b=none->∃sl,h'.get? b=some { o with slots:=sl }) (free:∀b o,b∉ch->s.heap.get? b=some o->H b=none->H' b=none)
  (there:∀b o,b∉ch->s.heap.get? b=some o->∃o',h'.get? b=some o')
  (tups:∀b xs,H b=some (.tup xs)->H' b=some (.tup xs)) (frzs:∀b o u,H b=some (.frz o u)->H' b=some (.frz o u)) (tbls:∀b ps,H b=some (.tbl ps)->∃more,H' b=some (.tbl (ps++more)))
  (ns:∀m,s.heap.Ns X.env.locals m->h'.Ns X.env.locals m) (hok:HOk X.prog X.w H' h') (hg:AllBare g'):
  Inv X pins σ H' { s with heap:=h',gens:=g',drawn:=d',toks:=t' }:=by
 have rl:∀b o,X.s₀.heap.get? b=some o->b≠X.env.locals:=λb o e=>Xi (Xm (Xd e) I.ok.above)
 have ko:∀b o,X.s₀.heap.get? b=some o->b∉X.ex->b∉ch:=λb o e hx hb=>by
  rcases(f9 b hb).1 with z|z
  ·exact hx z
  ·exact absurd (Xm (Xd e) z) (Yv _)
 have fw:∀x c,X.env.cells.lookup x=some c->∀v,s.heap.IsCell c v->h'.IsCell c v:=λx c e v ⟨o,ho,hd⟩=>by
  have ir:c∉ch:=λz=>(f9 c z).2.2.1 x c e rfl
  by_cases hc:c∈X.fs
  ·obtain⟨sl,q⟩:=slot c o (I.cne x c e) hc ir ho (I.freeC x c e);exact⟨_,q,hd⟩
  ·exact⟨o,keep c o (I.cne x c e) hc ir ho (I.freeC x c e),hd⟩
 refine⟨I.ok,I.os,hg,⟨λb o e n hb hx=>?_,λb o e n hb hx=>?_,λb o e n hx=>?_,λb o e hx=>?_,λb xs e=>tups b xs (I.base.tups b xs e),λb o xs e=>frzs b o xs (I.base.frzs b o xs e),λb ps e=>?_⟩,?_,λx c e=>?_,?_,λx c e=>?_,λp hp=>?_,hok,I.len⟩
 ·exact keep b o (rl b o e) hb (ko b o e hx) (I.base.keep b o e n hb hx) (I.base.free b o e n hx)
 ·obtain⟨sl,e1⟩:=I.base.slot b o e n hb hx;obtain⟨sl',e2⟩:=slot b _ (rl b o e) hb (ko b o e hx) e1 (I.base.free b o e n hx);exact⟨sl',e2⟩
 ·obtain⟨o',e1⟩:=I.base.there b o e hx;exact free b o' (ko b o e hx) e1 (I.base.free b o e n hx)
 ·obtain⟨o',e1⟩:=I.base.there b o e hx;exact there b o' (ko b o e hx) e1
 ·obtain⟨m1,e1⟩:=I.base.tbls b ps e;obtain⟨m2,e2⟩:=tbls b _ e1;exact⟨m1++m2,by rw[e2,Array.append_assoc]⟩
 ·obtain⟨m,hn,hl⟩:=I.loc;refine⟨m,ns m hn,λi x v e1 e2 e3=>?_⟩;obtain⟨u,r,l⟩:=hl i x v e1 e2 e3;refine⟨u,r,?_⟩;rcases l with l|⟨k,c,e,z⟩
  ·exact .inl l
  ·exact .inr ⟨k,c,e,fw x c e _ z⟩
 ·obtain⟨v,z⟩:=I.cell x c e;exact⟨v,fw x c e v z⟩
 ·obtain⟨m,⟨o,_,_,ho,_⟩,_⟩:=I.loc;exact free _ o (λz=>(f9 _ z).2.1 rfl) ho I.free
 ·obtain⟨v,o,ho,hd⟩:=I.cell x c e;exact free c o (λz=>(f9 c z).2.2.1 x c e rfl) ho (I.freeC x c e)
 ·obtain⟨e,n,ne,nf,d⟩:=I.pin p hp;have ir:p.1∉ch:=λz=>(f9 p.1 z).2.2.2 p hp rfl
  exact⟨keep p.1 p.2 ne nf ir e n,free p.1 p.2 ir e n,ne,nf,d⟩
theorem Inv.un{t':Nat}(I:Inv X pins σ H s)(u:Un X.fs [] H H' s.heap h')(hok:HOk X.prog X.w H' h'):Inv X pins σ H' { s with heap:=h',toks:=t' }:=by
 obtain⟨m,⟨o,es,ep,ho,r⟩,_⟩:=id I.loc;obtain⟨sl,hL⟩:=u.any ho I.free (by simp);exact I.step (g':=s.gens) (d':=s.drawn) (ch:=[]) (λ_ z=>nomatch z) (λb o _ hb _ e n=>u.keep b o e n hb (by simp)) (λb o _ hb _ e n=>u.slot b o e n hb (by simp)) (λb o _ e n=>u.free b o e n (by simp)) (λb o _ e=>u.there b o e (by simp)) u.tups u.frzs u.tbls (λm' hm=>by
  obtain⟨o',es',pc,gb,r'⟩:=hm;rw[ho]at gb;cases gb;exact⟨_,es',pc,hL,r'⟩) hok I.bare
theorem Inv.call{g':Array GenState}{t':Nat}{d':Drawn}{ch:List Addr}(I:Inv X pins σ H s)(u:Un (frs X.stack) ch H H' s.heap h')(hok:HOk X.prog X.w H' h')(hg:AllBare g')
  (f9:∀b∈ch,(b∈X.ex\/X.s₀.heap.objs.size<=b)/\b≠X.env.locals/\(∀x c,X.env.cells.lookup x=some c->c≠b)/\∀p∈X.pn++pins,p.1≠b):
  Inv X pins σ H' { s with heap:=h',gens:=g',drawn:=d',toks:=t' }:=by
 obtain⟨m,⟨o,es,ep,ho,r⟩,_⟩:=id I.loc;obtain⟨sl,hL⟩:=u.any ho I.free λz=>(f9 _ z).2.1 rfl
 exact I.step (ch:=ch) f9 (λb o hL hb hc e n=>u.keep b o e n (λz=>(aD (I.stkSub b z)).elim hL hb) hc) (λb o _ _ hc e n=>u.any e n hc) (λb o hc e n=>u.free b o e n hc) (λb o hc e=>u.there b o e hc) u.tups u.frzs u.tbls (λm' hm=>by
  obtain⟨o',es',pc,gb,r'⟩:=hm;rw[ho]at gb;cases gb;exact⟨_,es',pc,hL,r'⟩) hok hg
theorem Inv.turned{t':Nat}{it:Addr}(I:Inv X pins σ H s)(k:∀b o,b≠it->s.heap.get? b=some o->h'.get? b=some o)(hn:H it=none)(hL:it≠X.env.locals)
  (h1:it∈X.ex\/X.s₀.heap.objs.size<=it) (h2:∀x c,X.env.cells.lookup x=some c->c≠it) (h3:∀p∈X.pn++pins,p.1≠it):Inv X pins σ H { s with heap:=h',toks:=t' }:=by
 have rz:∀b u,H b=some u->b≠it:=λb u e z=>by rw[z,hn]at e;cases e
 refine I.step (g':=s.gens) (d':=s.drawn) (ch:=[it]) (λb hb=>?_) (λb o _ _ hc e _=>k b o (λz=>hc (by simp[z])) e) (λb o _ _ hc e _=>⟨o.slots,k b o (λz=>hc (by simp[z])) e⟩) (λ_ _ _ _ n=>n)
  (λb o hc e=>⟨o,k b o (λz=>hc (by simp[z])) e⟩) (λ_ _ e=>e) (λ_ _ _ e=>e) (λb ps e=>⟨#[],by rw[e];simp⟩) (λm hm=>?_) (λb u e=>?_) I.bare
 ·have e:b=it:=by simpa using hb
  subst e;exact⟨h1,hL,h2,h3⟩
 ·obtain⟨o,es,ep,ho,r⟩:=hm;exact⟨o,es,ep,k _ o (Ne.symm hL) ho,r⟩
 ·refine(I.hok b u e).stay (λc v hc q=>k c v ?_ q) (λ_ q=>q) λ_ _ q=>q
  rcases hc with z|z
  ·rw[z];exact rz b u e
  ·exact rz c _ z
theorem Inv.tok(I:Inv X pins σ H s)(t:Nat):Inv X pins σ H { s with toks:=t }:=I.un (h':=s.heap) (t':=t) Un.refl I.hok
theorem Inv.kept{t':Nat}(I:Inv X pins σ H s)(k:∀b u,s.heap.get? b=some u->h'.get? b=some u):Inv X pins σ H { s with heap:=h',toks:=t' }:=I.un (Un.kept k) (I.hok.kept k)
theorem Inv.laid{a:Addr}{o:HO}{t':Nat}(I:Inv X pins σ H s)(k:∀b u,s.heap.get? b=some u->h'.get? b=some u)(hp:s.heap.objs.size<=a)(new:ObjOk X.prog X.w (upd H a o) h' a o):
  Inv X pins σ (upd H a o) { s with heap:=h',toks:=t' }:=I.un (Un.laid k hp (I.hok.fresh hp)) (I.hok.laid k hp new)
theorem Inv.write{x e:Addr}{o:HO}{t':Nat}(I:Inv X pins σ H s)(mu:Mut (H x))(he:e=x\/H e=some (.own x))(k:∀b u,b≠e->s.heap.get? b=some u->h'.get? b=some u)(nj:∃u,h'.get? e=some u)
  (new:ObjOk X.prog X.w (upd H x o) h' x o):Inv X pins σ (upd H x o) { s with heap:=h',toks:=t' }:=I.un (Un.write mu he k nj) (I.hok.write mu he k nj new)
theorem Inv.pins_of{bw:LA9}(I:Inv X pins σ H s)(h:∀p∈bw,s.heap.get? p.1=some p.2/\H p.1=none/\p.1≠X.env.locals/\p.1∉X.fs/\∀v,p.2.data≠.cell v):Inv X bw σ H s:=
 ⟨I.ok,I.os,I.bare,I.base,I.loc,I.cell,I.free,I.freeC,λp hp=>(aA hp).elim (λz=>I.pin p (ll9 _ z)) (h p),I.hok,I.len⟩
theorem kkc{N:List Str}(hN:N.Nodup){i j:Nat}{x:Str}(a:N[i]?=some x)(b:N[j]?=some x):i=j:=by
 obtain⟨h1,e1⟩:=List.getElem?_eq_some_iff.mp a;obtain⟨h2,e2⟩:=List.getElem?_eq_some_iff.mp b;exact(List.getElem_inj hN).mp (e1.trans e2.symm)
theorem qk3{M:Model}{A:Around}{E:VP9}{i:Nat}{x:Str}{v:V}{u:Value}{Q:Unit->Shared->Prop}(I:Inv X pins σ H s)(hN:X.N.Nodup)(hi:X.N[i]?=some x)(hx:Loc X.env.scope x)(r:RelV v u)
  (h:∀s',Inv X pins (σ.set i (some v)) H s'->(∃a,Heap.SameBut a s.heap s'.heap/\(a=X.env.locals\/X.env.cells.lookup x=some a))->Q () s') (hf:autoParam (X.fn x=true\/X.env.scope.names.lookup x=some .local) Ř):wpAny M A (storeName X.env x u) Q E s:=by
 obtain⟨m,hn,hl⟩:=id I.loc;have me:(X.env.scope.kind == .class||(X.env.scope.kind == .module&&X.env.locals != X.env.globals))=false:=by rw[I.ok.kind];rfl
 have pd:i < σ.length:=by rw[I.len];exact(List.getElem?_eq_some_iff.mp hi).1
 have cne:=I.cne;have gw:∀{a:Addr} {h':Heap},(∃o,s.heap.get? a=some o/\H a=none)->Heap.SameBut a s.heap h'->HOk X.prog X.w H h':=fun {a h'} ha hs b ob e=>by
  obtain⟨_,_,b8⟩:=ha;refine(I.hok b ob e).stay (λc w' hc q=>(hs.2 c ?_).trans q) (λ_ q=>q) λ_ _ q=>q
  rintro rfl;rcases hc with rfl|hc
  ·rw[b8]at e;cases e
  ·rw[b8]at hc;cases hc
 rcases hx with hk|hk
 ·refine wpAny_storeName_local hk hn (λh' o7 hs=>?_) me;obtain⟨oL,_,_,p9,_⟩:=id hn;refine h _ ⟨I.ok,I.os,I.bare,⟨λb o e n hb hx=>?_,λb o e n hb hx=>?_,I.base.free,λb o e hx=>?_,I.base.tups,I.base.frzs,I.base.tbls⟩,⟨_,o7,λj y v' e1 e2 e3=>?_⟩,λy c e=>?_,I.free,I.freeC,λp hp=>?_,gw ⟨oL,p9,I.free⟩ hs,by simpa using I.len⟩ ⟨_,hs,.inl rfl⟩
  ·exact(hs.2 b (Xi (Xm (Xd e) I.ok.above))).trans (I.base.keep b o e n hb hx)
  ·obtain⟨sl,e1⟩:=I.base.slot b o e n hb hx;exact⟨sl,(hs.2 b (Xi (Xm (Xd e) I.ok.above))).trans e1⟩
  ·obtain⟨o',e1⟩:=I.base.there b o e hx;exact⟨o',(hs.2 b (Xi (Xm (Xd e) I.ok.above))).trans e1⟩
  ·by_cases hj:j=i
   ·subst hj;rw[hi]at e1;cases e1;rw[Z7 pd]at e2;cases e2;exact⟨u,r,.inl ⟨hk,by simp⟩⟩
   ·rw[Yq (Ne.symm hj)]at e2;obtain⟨u',r',q⟩:=hl j y v' e1 e2 e3;refine⟨u',r',?_⟩;rcases q with⟨k,e⟩|⟨k,c,e,z⟩
    ·refine .inl ⟨k,?_⟩;have:y≠x:=λe=>hj (kkc hN e1 (e▸hi))
     simp[this,e]
    ·exact .inr ⟨k,c,e,z.sameBut hs (cne y c e)⟩
  ·obtain⟨w',z⟩:=I.cell y c e;exact⟨w',z.sameBut hs (cne y c e)⟩
  ·obtain⟨e,n,ne,nf,d⟩:=I.pin p hp;exact⟨(hs.2 p.1 ne).trans e,n,ne,nf,d⟩
 ·have hfn:X.fn x=true:=by
   rcases hf with z|z
   ·exact z
   ·rw[z]at hk;cases hk
  obtain⟨c,hc⟩:=I.ok.has x (.inl hk);obtain⟨w',z⟩:=I.cell x c hc;refine wpAny_storeName_cell I.ok.kind hk hc z (λh' il hs=>?_);obtain⟨oc,hoc,hocd⟩:=id z;refine h { s with heap:=h' } ⟨I.ok,I.os,I.bare,⟨λb o e n hb hx=>?_,λb o e n hb hx=>?_,I.base.free,λb o e hx=>?_,I.base.tups,I.base.frzs,I.base.tbls⟩,⟨m,hn.sameBut hs (Ne.symm (cne x c hc)),λj y v' e1 e2 e3=>?_⟩,λy c' e=>?_,I.free,I.freeC,λp hp=>?_,gw ⟨oc,hoc,I.freeC x c hc⟩ hs,by simpa using I.len⟩ ⟨c,hs,.inr hc⟩
  ·exact(hs.2 b (Xi (Xm (Xd e) (I.ok.cab x c hfn hc)))).trans (I.base.keep b o e n hb hx)
  ·obtain⟨sl,e1⟩:=I.base.slot b o e n hb hx;exact⟨sl,(hs.2 b (Xi (Xm (Xd e) (I.ok.cab x c hfn hc)))).trans e1⟩
  ·obtain⟨o',e1⟩:=I.base.there b o e hx;exact⟨o',(hs.2 b (Xi (Xm (Xd e) (I.ok.cab x c hfn hc)))).trans e1⟩
  ·by_cases hj:j=i
   ·subst hj;rw[hi]at e1;cases e1;rw[Z7 pd]at e2;cases e2;exact⟨u,r,.inr ⟨.inl hk,c,hc,il⟩⟩
   ·rw[Yq (Ne.symm hj)]at e2;obtain⟨u',r',q⟩:=hl j y v' e1 e2 e3;refine⟨u',r',?_⟩;rcases q with q|⟨k,c',e,z'⟩
    ·exact .inl q
    ·refine .inr ⟨k,c',e,z'.sameBut hs ?_⟩;rintro rfl;exact hj (kkc hN e1 (I.ok.inj _ _ _ e hc▸hi))
  ·by_cases ff:c'=c
   ·subst ff;exact⟨_,il⟩
   ·obtain⟨w2,z2⟩:=I.cell y c' e;exact⟨w2,z2.sameBut hs ff⟩
  ·obtain⟨e,n,ne,nf,d⟩:=I.pin p hp;refine⟨(hs.2 p.1 ?_).trans e,n,ne,nf,d⟩;intro q;rw[q,hoc]at e;have q':oc=p.2:=oq9 e;exact d w' (by rw[<-q'];exact hocd)
theorem VW{M:Model}{A:Around}{E:VP9}{i:Nat}{x:Str}{v:V}{u:Value}{Q:Unit->Shared->Prop}(I:Inv X pins σ H s)(hN:X.N.Nodup)(hi:X.N[i]?=some x)(hx:Loc X.env.scope x)(r:RelV v u)
  (h:∀s',Inv X pins (σ.set i (some v)) H s'->Q () s') (hf:autoParam (X.fn x=true\/X.env.scope.names.lookup x=some .local) Ř):wpAny M A (storeName X.env x u) Q E s:=
 qk3 I hN hi hx r (λs' I' _=>h s' I') hf
theorem Inv.call'{s':Shared}{ch:List Addr}(I:Inv X pins σ H s)(ho:s'.os=s.os)(u:Un (frs X.stack) ch H H' s.heap s'.heap)(hok:HOk X.prog X.w H' s'.heap)(hg:AllBare s'.gens)
  (f9:∀b∈ch,(b∈X.ex\/X.s₀.heap.objs.size<=b)/\b≠X.env.locals/\(∀x c,X.env.cells.lookup x=some c->c≠b)/\∀p∈X.pn++pins,p.1≠b):Inv X pins σ H' s':=by
 obtain⟨h',g',d',t',o'⟩:=s';have e:o'=s.os:=ho;subst e;exact I.call (g':=g') (t':=t') (d':=d') u hok hg f9
end
abbrev XK:=Value->Option Addr->Hp->Prop
abbrev St:=List (Option V)
abbrev VK:=V->Hp->Prop
abbrev TE:=St->Hp->VK->Prop
abbrev TT:=St->Hp->(Bool->Hp->Prop)->Prop
abbrev TA:=St->Hp->(List V->Hp->Prop)->Prop
structure Ends where
 nx:St->Hp->Prop
 rt:VK
 bk:St->Hp->Prop:=λ_ _=>False
 ct:St->Hp->Prop:=λ_ _=>False
abbrev TS:=Ends->St->Hp->Prop
def EP(X:Cx)(pins:LA9)(σ:St)(Q:VK)(u:Value)(s':Shared):Prop:=∃v H',Inv X pins σ H' s'/\RelV v u/\Q v H'
def TP(X:Cx)(pins:LA9)(σ:St)(Q:Bool->Hp->Prop)(b:Bool)(s':Shared):Prop:=∃H',Inv X pins σ H' s'/\Q b H'
def AP(X:Cx)(pins:LA9)(σ:St)(Q:List V->Hp->Prop)(us:List Value)(s':Shared):Prop:=∃vs H',Inv X pins σ H' s'/\Vals vs us/\Q vs H'
noncomputable def SP(X:Cx)(pins:LA9)(D:Ends)(f:Flow)(s':Shared):Prop:=
 match f with
 |.next=>∃ σ' H',Inv X pins σ' H' s'/\D.nx σ' H'|.brk=>∃ σ' H',Inv X pins σ' H' s'/\D.bk σ' H'|.cont=>∃ σ' H',Inv X pins σ' H' s'/\D.ct σ' H'|.ret u=>∃v σ' H',Inv X pins σ' H' s'/\RelV v u/\D.rt v H'
def PE(X:Cx)(e:Expr)(t:TE):Prop:=
 ∀(pins:LA9) (s:Shared) (σ:St) (H:Hp) (Q:VK),Inv X pins σ H s->t σ H Q->wpAny (model X.prog X.w) X.A (eval e X.env) (EP X pins σ Q) X.xe s
def PT(X:Cx)(e:Expr)(t:TT):Prop:=
 ∀(pins:LA9) (s:Shared) (σ:St) (H:Hp) (Q:Bool->Hp->Prop),Inv X pins σ H s->t σ H Q->wpAny (model X.prog X.w) X.A (isTrue e X.env (eval e X.env)) (TP X pins σ Q) X.xe s
def PW(X:Cx)(e:Expr)(t:TT):Prop:=
 ∀(en:Sem Value) (pins:LA9) (s:Shared) (σ:St) (H:Hp) (Q:Bool->Hp->Prop),Inv X pins σ H s->t σ H Q->wpAny (model X.prog X.w) X.A (isTrue e X.env en) (TP X pins σ Q) X.xe s
theorem PW.pt{X:Cx}{e:Expr}{t:TT}(h:PW X e t):PT X e t:=h _
def PA(X:Cx)(es:List Expr)(t:TA):Prop:=
 ∀(pos:Pos) (pins:LA9) (s:Shared) (σ:St) (H:Hp) (Q:List V->Hp->Prop),Inv X pins σ H s->t σ H Q->wpAny (model X.prog X.w) X.A (spliced (backTo pos (starEach es X.env))) (AP X pins σ Q) X.xe s
def PS(X:Cx)(st:Stmt)(t:TS):Prop:=
 ∀(pins:LA9) (s:Shared) (σ:St) (H:Hp) (D:Ends),Inv X pins σ H s->t D σ H->wpAny (model X.prog X.w) X.A (exec st X.env) (SP X pins D) X.xe s
def PSs(X:Cx)(st:List Stmt)(t:TS):Prop:=
 ∀(pins:LA9) (s:Shared) (σ:St) (H:Hp) (D:Ends),Inv X pins σ H s->t D σ H->wpAny (model X.prog X.w) X.A (execs st X.env) (SP X pins D) X.xe s
theorem thn{α:Type}{t:Sem α}{Q Q':α->Shared->Prop}{M:Model}{A:Around}{E:VP9}{s:Shared}(h:wpAny M A t Q E s)(hQ:∀a s,Q a s->Q' a s):wpAny M A t Q' E s:=Zj h hQ λ_ _ x=>x
section
variable {X:Cx}
abbrev Jx(i:Nat):TE:=fun σ H Q=>∃v,σ[i]?=some (some v)/\Q v H
abbrev tC(v:V):TE:=λ_ H Q=>Q v H
theorem vzo{i:Nat}{x:Str}{pos:Pos}(hN:X.N[i]?=some x)(hv:Vis X.env.scope x)(hd:autoParam ((x==("__debug__":Str))=false) ŕ)(gc:autoParam ((x==("__classdict__":Str))=false) ŕ):PE X (.Name x pos) (Jx i):=by
 intro pins s σ H Q I h;obtain⟨v,e,h⟩:=h;obtain⟨m,hn,hl⟩:=I.loc;obtain⟨u,r,l⟩:=hl i x v hN e hv;have fin:EP X pins σ Q u s:=⟨v,H,I,r,h⟩;rcases l with⟨hk,hm⟩|⟨hk,c,hc,hcell⟩
 ·exact wpAny_Name (wpAny_loadName_local I.ok.kind hk hn hm fin) hd
 ·rcases hk with hk|hk
  ·exact wpAny_Name (wpAny_loadName_cell I.ok.kind hk hc hcell fin) hd
  ·exact wpAny_Name (wpAny_loadName_free I.ok.kind hk hc hcell fin gc) hd
theorem vzv{i j pos}:PE X (.Constant (.int i) j pos) (tC (.int i)):=λ_ _ _ H _ I h=>wpAny_Constant_int ⟨.int i,H,I.tok _,⟨_,rfl⟩,h⟩
theorem vY{b j pos}:PE X (.Constant (.bool b) j pos) (tC (.bl b)):=λ_ _ _ H _ I h=>Constant_bool ⟨.bl b,H,I,rfl,h⟩
theorem vzs{j pos}:PE X (.Constant .none j pos) (tC .non):=λ_ _ _ H _ I h=>Constant_none ⟨.non,H,I,rfl,h⟩
theorem kxe{x j pos}:PE X (.Constant (.str x) j pos) (tC (.str x)):=λ_ _ _ H _ I h=>Calls.Constant_str ⟨.str x,H,I.tok _,⟨_,rfl⟩,h⟩
def Gl(X:Cx)(x:Str):Prop:=X.env.kindOf x=some .globalImplicit
theorem ZX{E:VP9}{pins:LA9}{s:Shared}{σ:St}{H:Hp}{x:Str}{u:Value}{pos:Pos}{Q:VP9}(I:Inv X pins σ H s)(hg:Gl X x)(hm:X.mg x=some u)(h:Q u s)
  (hd:autoParam ((x==("__debug__":Str))=false) ŕ):wpAny (model X.prog X.w) X.A (eval (.Name x pos) X.env) Q E s:=
 Calls.Name_function_global I.ok.kind hg (Calls.loadGlobal_global (by rw[I.ok.glob];exact I.mod.glob.keeps I.bk) hm h) hd
theorem xQ{E:VP9}{pins:LA9}{s:Shared}{σ:St}{H:Hp}{x:Str}{u:Value}{pos:Pos}{Q:VP9}(I:Inv X pins σ H s)(hg:Gl X x)(hm:X.mg x=none)(hv:bootBuiltins x=some u)(h:Q u s)
  (hn:autoParam (x≠"__name__") ŕ) (hd:autoParam ((x==("__debug__":Str))=false) ŕ):wpAny (model X.prog X.w) X.A (eval (.Name x pos) X.env) Q E s:=by
 obtain⟨mb,h1,h2⟩:=I.mod.blt;exact Calls.Name_function_global I.ok.kind hg (Calls.loadGlobal_builtin (by rw[I.ok.glob];exact I.mod.glob.keeps I.bk) hm (by rw[I.ok.blt];exact h1.keeps I.bk) ((h2 x hn).trans hv) h) hd
theorem qq9{x:Str}{v:V}{u:Value}{pos:Pos}(hg:Gl X x)(hm:X.mg x=some u)(r:RelV v u)(hd:autoParam ((x==("__debug__":Str))=false) ŕ):PE X (.Name x pos) (tC v):=
 λ_ _ _ H _ I h=>ZX I hg hm ⟨v,H,I,r,h⟩ hd
theorem qqb{x:Str}{v:V}{u:Value}{pos:Pos}(hg:Gl X x)(hm:X.mg x=none)(hv:bootBuiltins x=some u)(r:RelV v u)(hn:autoParam (x≠"__name__") ŕ)(hd:autoParam ((x==("__debug__":Str))=false) ŕ):PE X (.Name x pos) (tC v):=
 λ_ _ _ H _ I h=>xQ I hg hm hv ⟨v,H,I,r,h⟩ hn hd
variable {a b:Expr}{ta tb:TE}{pos:Pos}
variable {tA tB':TT}{ai:List Expr}
abbrev tAnd(t u:TT):TT:=fun σ H Q=>t σ H λc H1=>if c=true then u σ H1 Q else Q false H1
abbrev tOr(t u:TT):TT:=fun σ H Q=>t σ H λc H1=>if c=true then Q true H1 else u σ H1 Q
abbrev tNot(t:TT):TT:=fun σ H Q=>t σ H λc H1=>Q (!c) H1
theorem vq4(ha:PT X a tA):PW X (.BoolOp .And [a] pos) tA:=by
 intro wh pins s σ H Q I h;refine isTrue_and (thn (ha pins s σ H Q I h) λc s1 e=>?_);cases c with|true=>exact isTrue_and_nil e|false=>exact e
theorem vz7(ha:PT X a tA):PW X (.BoolOp .Or [a] pos) tA:=by
 intro wh pins s σ H Q I h;refine isTrue_or (thn (ha pins s σ H Q I h) λc s1 e=>?_);cases c with|false=>exact isTrue_or_nil e|true=>exact e
theorem vz8(ha:PT X a tA)(hb:PW X (.BoolOp .And (b::ai) pos) tB'):PW X (.BoolOp .And (a::b::ai) pos) (tAnd tA tB'):=by
 intro wh pins s σ H Q I h;refine isTrue_and (thn (ha pins s σ H _ I h) λc s1 ⟨H1,I1,q1⟩=>?_);cases c with|true=>exact hb wh pins s1 σ H1 Q I1 q1|false=>exact⟨H1,I1,q1⟩
theorem wvu(ha:PT X a tA)(hb:PW X (.BoolOp .Or (b::ai) pos) tB'):PW X (.BoolOp .Or (a::b::ai) pos) (tOr tA tB'):=by
 intro wh pins s σ H Q I h;refine isTrue_or (thn (ha pins s σ H _ I h) λc s1 ⟨H1,I1,q1⟩=>?_);cases c with|true=>exact⟨H1,I1,q1⟩|false=>exact hb wh pins s1 σ H1 Q I1 q1
theorem vzb(ha:PT X a tA):PT X (.UnaryOp .Not a pos) (tNot tA):=by
 intro pins s σ H Q I h;exact isTrue_not (ha pins s σ H (λc H1=>Q (!c) H1) I h)
abbrev wv7(ta tb:TE):TE:=fun σ H Q=>ta σ H λx H1=>∃c,x=.bl c/\if c=true then tb σ H1 Q else Q (.bl false) H1
theorem vzr{op}{t:TE}(h:PE X a t):PE X (.BoolOp op [a] pos) t:=λpins s σ H Q I hw=>BoolOp_one (h pins s σ H Q I hw)
theorem vzz(ha:PE X a ta)(hb:PE X (.BoolOp .And (b::ai) pos) tb):PE X (.BoolOp .And (a::b::ai) pos) (wv7 ta tb):=by
 intro pins s σ H Q I h;refine BoolOp_and (thn (ha pins s σ H _ I h) λv s1 ⟨x,H1,I1,r1,q1⟩=>?_);obtain⟨c,rfl,q1⟩:=q1;cases r1;refine wpAny_truthy_bool ?_;cases c with|true=>exact hb pins s1 σ H1 Q I1 q1|false=>exact⟨.bl false,H1,I1,rfl,q1⟩
end
def SqL(K:Frag)(H:Hp)(a:Addr)(xs:List V):Prop:=
 Rd H a (.lst xs) \/
  ∃(o:Obj) (ac:Array Value) (n:Nat),K.lookup a=some o/\o.cls=.type "list"/\o.dict=none/\o.data=.seq ac n/\ac.size<=sizeLine/\Vals xs ac.toList
def SqT(K:Frag)(H:Hp)(a:Addr)(xs:List V):Prop:=
 Rd H a (.tup xs) \/
  ∃(o:Obj) (ac:Array Value) (n:Nat),K.lookup a=some o/\o.cls=.type "tuple"/\o.dict=none/\o.data=.seq ac n/\ac.size<=sizeLine/\Vals xs ac.toList
def absV:Value->Option V
 |.none=>some .non|.bool b=>some (.bl b)|.int i _=>some (.int i)|.str x _=>some (.str x)|.bytes b _=>some (.byt b)|.float b _=>some (.flt b)|.ref a=>some (.ref a)|.type n=>some (.ty n)|_=>none
theorem RelV.abs{x:V}{u:Value}(r:RelV x u):absV u=some x:=by
 cases x with|non=>cases r;rfl|bl _=>cases r;rfl|int _=>obtain⟨t,rfl⟩:=r;rfl|str _=>obtain⟨t,rfl⟩:=r;rfl|byt _=>obtain⟨t,rfl⟩:=r;rfl|flt _=>obtain⟨t,rfl⟩:=r;rfl|ref _=>cases r;rfl|ty _=>cases r;rfl
theorem RelV.inj{x y:V}{u:Value}(r:RelV x u)(q:RelV y u):x=y:=oq9 (r.abs.symm.trans q.abs)
theorem Vals.inj:∀{xs ys:List V} {us:List Value},Vals xs us->Vals ys us->xs=ys
 |_,_,_,.nil,.nil=>rfl|_,_,_,.cons r t,.cons r' t'=>by rw[r.inj r',Vals.inj t t']
section
variable {X:Cx}{pins:LA9}{σ:St}{H:Hp}{s:Shared}{a:Addr}{xs ys:List V}
theorem SqL.of{K:Frag}(h:H a=some (.lst xs)):SqL K H a xs:=.inl (.inl h)
theorem SqT.of{K:Frag}(h:H a=some (.tup xs)):SqT K H a xs:=.inl (.inl h)
theorem Inv.list(I:Inv X pins σ H s)(h:SqL X.K H a xs):∃ac:List Value,Vals xs ac/\PlainL s.heap a ac.toArray/\xs.length<=sizeLine:=by
 rcases h with h|⟨o,ac,n,hk,hc,hd,hs,hz,r⟩
 ·obtain⟨z,ac,n,r,e⟩:=h.ok I.hok;exact⟨ac,r,⟨_,n,e,rfl,rfl,rfl⟩,z⟩
 ·refine⟨ac.toList,r,⟨o,n,I.kIn a o hk,hc,hd,by simpa using hs⟩,?_⟩;have e:=r.length;simp only[X4]at e;lia
theorem Inv.tuple(I:Inv X pins σ H s)(h:SqT X.K H a xs):∃ac:List Value,Vals xs ac/\IsTup s.heap a ac.toArray/\xs.length<=sizeLine:=by
 rcases h with h|⟨o,ac,n,hk,hc,_,hs,hz,r⟩
 ·obtain⟨z,ac,r,p⟩:=h.ok I.hok;exact⟨ac,r,p.tup,z⟩
 ·refine⟨ac.toList,r,⟨o,I.kIn a o hk,hc,n,by simpa using hs⟩,?_⟩;have e:=r.length;simp only[X4]at e;lia
theorem Inv.list_inj(I:Inv X pins σ H s)(h:SqL X.K H a xs)(h':SqL X.K H a ys):xs=ys:=by
 obtain⟨ac,r,⟨o,n,e,_,_,d⟩,_⟩:=I.list h;obtain⟨its',r',⟨o',n',e',_,_,d'⟩,_⟩:=I.list h';rw[e]at e';cases e';rw[d]at d';injection d' with d1 _;have:ac=its':=by simpa using congrArg Array.toList d1
 subst this;exact r.inj r'
theorem Inv.tuple_inj(I:Inv X pins σ H s)(h:SqT X.K H a xs)(h':SqT X.K H a ys):xs=ys:=by
 obtain⟨ac,r,⟨o,e,_,n,d⟩,_⟩:=I.tuple h;obtain⟨its',r',⟨o',e',_,n',d'⟩,_⟩:=I.tuple h';rw[e]at e';cases e';rw[d]at d';injection d' with d1 _;have:ac=its':=by simpa using congrArg Array.toList d1
 subst this;exact r.inj r'
end
abbrev Cx.wish(X:Cx)(E:VP9):Cx:={ X with xe:=E }
abbrev Cx.nox(X:Cx):Cx:=X.wish λ_ _=>False
theorem Cx.Ok.wish{X:Cx}(ok:X.Ok)(E:VP9):(X.wish E).Ok:=
 ⟨ok.mod,ok.kind,ok.glob,ok.blt,ok.above,ok.inj,ok.has,ok.cab,ok.hd,ok.frames,ok.stk,ok.exf,ok.bs,ok.bsz,ok.noex,ok.exfs,ok.funs,ok.frf⟩
theorem Cx.Ok.unwish{X:Cx}{E:VP9}(ok:(X.wish E).Ok):X.Ok:=
 ⟨ok.mod,ok.kind,ok.glob,ok.blt,ok.above,ok.inj,ok.has,ok.cab,ok.hd,ok.frames,ok.stk,ok.exf,ok.bs,ok.bsz,ok.noex,ok.exfs,ok.funs,ok.frf⟩
section
variable {X:Cx}{pins:LA9}{σ:St}{H:Hp}{s:Shared}{E:VP9}
theorem Inv.wish(I:Inv X pins σ H s)(E:VP9):Inv (X.wish E) pins σ H s:=⟨I.ok.wish E,I.os,I.bare,I.base,I.loc,I.cell,I.free,I.freeC,I.pin,I.hok,I.len⟩
theorem Inv.unwish(I:Inv (X.wish E) pins σ H s):Inv X pins σ H s:=⟨I.ok.unwish,I.os,I.bare,I.base,I.loc,I.cell,I.free,I.freeC,I.pin,I.hok,I.len⟩
theorem SP.unwish{D:Ends}{f:Flow}{s':Shared}(h:SP (X.wish E) pins D f s'):SP X pins D f s':=by
 cases f with|next=>obtain⟨σ',H',I,q⟩:=h;exact⟨σ',H',I.unwish,q⟩|brk=>obtain⟨σ',H',I,q⟩:=h;exact⟨σ',H',I.unwish,q⟩|cont=>obtain⟨σ',H',I,q⟩:=h;exact⟨σ',H',I.unwish,q⟩|ret u=>obtain⟨v,σ',H',I,r,q⟩:=h;exact⟨v,σ',H',I.unwish,r,q⟩
end
section
variable {X:Cx}{st:Stmt}{ai:List Stmt}{t u:TS}{e:Expr}{te:TE}{pos:Pos}
abbrev wv3:TS:=λD σ H=>D.nx σ H
abbrev tSeq(t u:TS):TS:=λD σ H=>t { D with nx:=u D } σ H
theorem vqc:PSs X [] wv3:=λ_ _ σ H _ I h=>wpAny_execs_nil ⟨σ,H,I,h⟩
theorem qxw(h1:PS X st t)(h2:PSs X ai u):PSs X (st::ai) (tSeq t u):=by
 intro pins s σ H D I h;refine wpAny_execs_cons (thn (h1 pins s σ H { D with nx:=u D } I h) λf s1 q=>?_);cases f with
 |next=>
  obtain⟨σ',H',I',q⟩:=q;exact h2 pins s1 σ' H' D I' q
 |ret v=>exact q|brk=>exact q|cont=>exact q
theorem vqb(h1:PS X st t):PSs X [st] t:=by
 intro pins s σ H D I h;refine wpAny_execs_cons (thn (h1 pins s σ H D I h) λf s1 q=>?_);cases f with|next=>exact wpAny_execs_nil q|ret v=>exact q|brk=>exact q|cont=>exact q
theorem Inv.quiet{pins:LA9}{σ:St}{H:Hp}{s:Shared}(I:Inv X pins σ H s):interactive X.env=false:=by simp[interactive,I.ok.kind]
abbrev wv4(te:TE):TS:=λD σ H=>te σ H λ_ H1=>D.nx σ H1
theorem qq3(he:PE X e te)(hs:autoParam (swapsWith e none pos.line X.env=pure false) Ŕ):PS X (.Expr e pos) (wv4 te):=by
 intro pins s σ H D I h;exact wpAny_Expr_any (thn (he pins s σ H _ I h) λv s1 ⟨x,H1,I1,r1,q1⟩=>⟨σ,H1,I1,q1⟩) I.quiet hs
abbrev tRet(te:TE):TS:=λD σ H=>te σ H D.rt
theorem vzd(he:PE X e te):PS X (.Return (some e) pos) (tRet te):=by
 intro pins s σ H D I h;exact wpAny_Return_some (thn (he pins s σ H _ I h) λv s1 ⟨x,H1,I1,r1,q1⟩=>⟨x,σ,H1,I1,r1,q1⟩)
abbrev tIfS(c:TT)(t u:TS):TS:=λD σ H=>c σ H λb H1=>if b=true then t D σ H1 else u D σ H1
theorem wvv{c:Expr}{a b:List Stmt}{tc:TT}(hc:PT X c tc)(ha:PSs X a t)(hb:PSs X b u):PS X (.If c a b pos) (tIfS tc t u):=by
 intro pins s σ H D I h;refine wpAny_If (thn (hc pins s σ H _ I h) λd s1 ⟨H1,I1,q1⟩=>?_);cases d with|true=>exact ha pins s1 σ H1 D I1 q1|false=>exact hb pins s1 σ H1 D I1 q1
end
abbrev TG:=V->St->Hp->(St->Hp->Prop)->Prop
abbrev TGs:=List V->St->Hp->(St->Hp->Prop)->Prop
def PG(X:Cx)(de:Expr)(t:TG):Prop:=
 ∀(pins:LA9) (s:Shared) (σ:St) (H:Hp) (v:V) (u:Value) (Q:St->Hp->Prop),Inv X pins σ H s->RelV v u->t v σ H Q ->
  wpAny (model X.prog X.w) X.A (assign de X.env u) (λ_ s'=>∃ σ' H',Inv X pins σ' H' s'/\Q σ' H') X.xe s
noncomputable def PGs(X:Cx)(ts:List Expr)(t:TGs):Prop:=
 ∀(pins:LA9) (s:Shared) (σ:St) (H:Hp) (vs:List V) (us:List Value) (Q:St->Hp->Prop),Inv X pins σ H s->Vals vs us->t vs σ H Q ->
  wpAny (model X.prog X.w) X.A (assignInOrder ((assignEach ts X.env).map (·.2)) us) (λ_ s'=>∃ σ' H',Inv X pins σ' H' s'/\Q σ' H') X.xe s
abbrev wx6:=V->V->V->Hp->(Hp->Prop)->Prop
noncomputable def wz2(X:Cx)(t:wx6):Prop:=
 ∀(pins:LA9) (s:Shared) (σ:St) (H:Hp) (o i v:V) (ov iv u:Value) (Q:Hp->Prop),Inv X pins σ H s->RelV o ov->RelV i iv->RelV v u->t o i v H Q ->
  wpAny (model X.prog X.w) X.A (setItem ov iv u) (λ_ s'=>∃H',Inv X pins σ H' s'/\Q H') X.xe s
section
variable {X:Cx}{pos:Pos}
abbrev V8(i:Nat):TG:=λv σ H Q=>Q (σ.set i (some v)) H
theorem wW{i:Nat}{x:Str}(hN:X.N.Nodup)(hi:X.N[i]?=some x)(hx:Loc X.env.scope x)(hf:autoParam (X.fn x=true\/X.env.scope.names.lookup x=some .local) Ř):PG X (.Name x pos) (V8 i):=by
 intro pins s σ H v u Q I r h;exact wpAny_assign_Name (VW I hN hi hx r (λs' I'=>⟨_,H,I',h⟩) hf)
abbrev wxy:TGs:=λvs σ H Q=>vs=[]/\Q σ H
abbrev wk8(t:TG)(u:TGs):TGs:=λvs σ H Q=>∃v r,vs=v::r/\t v σ H fun σ' H'=>u r σ' H' Q
theorem Ww:PGs X [] wxy:=by
 intro pins s σ H vs us Q I r h;obtain⟨e,h⟩:=h;subst e;cases r;exact assignInOrder_nil ⟨σ,H,I,h⟩
theorem zY{e:Expr}{es:List Expr}{t:TG}{u:TGs}(h1:PG X e t)(h2:PGs X es u)
  (hs:autoParam ((assignEach (e::es) X.env).map (·.2)=assign e X.env::(assignEach es X.env).map (·.2)) Ŕ):PGs X (e::es) (wk8 t u):=by
 intro pins s σ H vs us Q I r h;obtain⟨v,vr,e1,h⟩:=h;subst e1;cases r with
 |cons r rr=>
  rw[hs];refine assignInOrder_cons (thn (h1 pins s σ H _ _ _ I r h) λ_ s1 ⟨σ1,H1,I1,q1⟩=>?_);exact h2 pins s1 σ1 H1 _ _ Q I1 rr q1
abbrev gSub(to ti:TE)(t:wx6):TG:=λv σ H Q=>to σ H λo H1=>ti σ H1 λi H2=>t o i v H2 λH3=>Q σ H3
theorem vzm{o i:Expr}{to ti:TE}{t:wx6}(ho:PE X o to)(hi:PE X i ti)(hs:wz2 X t)
  (ha:autoParam (∀v,assign (.Subscript o i pos) X.env v=(do
   let ov <-holding [v] (eval o X.env)
   let iv <-holding [v,ov] (eval i X.env)
   standAt pos
   holding [v,ov,iv] (setItem ov iv v)
   release [v,ov,iv] [])) Ŗ):PG X (.Subscript o i pos) (gSub to ti t):=by
 intro pins s σ H v u Q I r h;rw[ha];refine X0 (Xw (thn (ho pins s σ H _ I h) λov s1 ⟨x,H1,I1,r1,q1⟩=>?_));refine X0 (Xw (thn (hi pins s1 σ H1 _ I1 q1) λiv s2 ⟨y,H2,I2,r2,q2⟩=>?_));refine X0 (wpAny_standAt (X0 (Xw (thn (hs pins s2 σ H2 x y v ov iv u _ I2 r1 r2 r q2) λ_ s3 ⟨H3,I3,q3⟩=>?_))));exact wpAny_release ⟨σ,H3,I3,q3⟩
abbrev wv6(te:TE)(g:TG):TS:=λD σ H=>te σ H λx H1=>g x σ H1 D.nx
theorem vzf{tg e:Expr}{te:TE}{g:TG}(he:PE X e te)(hg:PG X tg g)(hs:autoParam (swapsWithSole [tg] e pos.line X.env=pure false) Ŕ)(hw:autoParam (swappedStores [tg] e X.env=pure none) Ŕ)
  (h1:autoParam ((assignEach [tg] X.env).map (·.2)=[assign tg X.env]) Ŕ):PS X (.Assign [tg] e pos) (wv6 te g):=by
 intro pins s σ H D I h;refine wpAny_Assign_stores (thn (he pins s σ H _ I h) λv s1 ⟨x,H1,I1,r1,q1⟩=>?_) hs hw;rw[h1];exact thn (hg pins s1 σ H1 x v _ I1 r1 q1) λ_ s2 q=>q
theorem vzc{i:Nat}{x:Str}{e:Expr}{te:TE}{az:Pos}(hN:X.N.Nodup)(hi:X.N[i]?=some x)(hx:Loc X.env.scope x)(he:PE X e te)(hs:autoParam (swapsWith e (some (.Name x az)) pos.line X.env=pure false) Ŕ)(hf:autoParam (X.fn x=true\/X.env.scope.names.lookup x=some .local) Ř):
  PS X (.Assign [.Name x az] e pos) (wv6 te (V8 i)):=by
 intro pins s σ H D I h;refine wpAny_Assign_Name (thn (he pins s σ H _ I h) λv s1 ⟨y,H1,I1,r1,q1⟩=>?_) hs;exact VW I1 hN hi hx r1 (λs2 I2=>⟨_,H1,I2,q1⟩) hf
end
structure It where
 go:Nat->Hp->Prop
 yld:Nat->Hp->V->Hp->Prop
 stop:Nat->Hp->Prop
def qw(X:Cx)(pins:LA9)(H:Hp)(b:Addr):Prop:=
 H b=none/\b≠X.env.locals/\b∉X.fs/\(b∈X.ex\/X.s₀.heap.objs.size<=b)/\(∀x c,X.env.cells.lookup x=some c->c≠b)/\∀p∈X.pn++pins,p.1≠b
theorem Inv.fpOk{X:Cx}{pins:LA9}{σ:St}{H H':Hp}{s:Shared}{b:Addr}(I:Inv X pins σ H s)(hb:s.heap.objs.size<=b)(hn:H' b=none):qw X pins H' b:=by
 refine⟨hn,Nat.ne_of_gt (Xm I.lt hb),I.nofs hb,.inr (Yn I.sz hb),λx c e z=>?_,λp hp z=>?_⟩
 ·obtain⟨v,q⟩:=I.cell x c e;exact absurd (Xm q.lt (by rw[z];exact hb)) (Yv _)
 ·exact absurd (Xm (Xd (I.pin p hp).1) (by rw[z];exact hb)) (Yv _)
structure Turn (P:Program)(w:World)(K:Frag)(tg:Expr)(J:It)(fp:List Addr)(it:Addr)(tn:Nat->Heap->Prop):Prop where
 mem:it∈fp
 obj:∀i h,tn i h->∀b∈fp,∃o,h.get? b=some o/\∀v,o.data≠.cell v
 keep:∀i h h',tn i h->(∀b∈fp,∀o,h.get? b=some o->h'.get? b=some o)->tn i h'
 item:∀(X:Cx),X.prog=P->X.w=w->X.K=K->X.calm=true->∀(i:Nat) (pins:LA9) (s:Shared) (σ:St) (H:Hp) (E:VP9),Inv X pins σ H s->(∀b∈fp,qw X pins H b)->tn i s.heap->J.go i H ->
  wpAny (model P w) X.A (pyNext (.ref it)) (λr s1=>∃u,r=some u /\
   wpAny (model P w) X.A (letOwnedTupleGo tg (.ref it) u) (λ_ s2=>∃x H',Inv X pins σ H' s2/\RelV x u/\J.yld i H x H'/\tn (i+1) s2.heap/\∀b∈fp,H' b=none) E s1) E s
 done:∀(X:Cx),X.prog=P->X.w=w->X.K=K->X.calm=true->∀(i:Nat) (pins:LA9) (s:Shared) (σ:St) (H:Hp) (E:VP9),Inv X pins σ H s->(∀b∈fp,qw X pins H b)->tn i s.heap->J.stop i H ->
  wpAny (model P w) X.A (pyNext (.ref it)) (λr s1=>r=none/\Inv X pins σ H s1) E s
 self:∀(A:Around) (i:Nat) (s:Shared) (Q:VP9) (E:VP9),tn i s.heap->Q (.ref it) s->wpAny (model P w) A (pyIter (.ref it)) Q E s
abbrev TI:=St->Hp->(It->Hp->Prop)->Prop
noncomputable def PIE(X:Cx)(pins:LA9)(σ:St)(tg:Expr)(R:It->Hp->Prop)(itv:Value)(s2:Shared):Prop:=
 ∃(it:Addr) (fp:List Addr) (tn:Nat->Heap->Prop) (J:It) (H':Hp),itv=.ref it/\Inv X pins σ H' s2/\Turn X.prog X.w X.K tg J fp it tn/\tn 0 s2.heap/\(∀b∈fp,qw X pins H' b)/\R J H'
noncomputable def PI(X:Cx)(tg ao:Expr)(wi:TI):Prop:=
 ∀(pins:LA9) (s:Shared) (σ:St) (H:Hp) (R:It->Hp->Prop),Inv X pins σ H s->wi σ H R ->
  wpAny (model X.prog X.w) X.A (eval ao X.env) (λv s1=>wpAny (model X.prog X.w) X.A (pyIter v) (PIE X pins σ tg R) X.xe s1) X.xe s
theorem qzh {M : Model} {A : Around} {E : Value -> Shared -> Prop} {s : Shared} {tg : Expr} {it : Addr} {u : Value} {o : Obj} {n : String} {vs : Array Value} {Q : Unit -> Shared -> Prop} (ho : s.heap.get? it = some o) (hc : o.cls = .type n) (hd : o.data = .fields vs)
    (hn : ["enumerate", "zip", "dict_itemiterator", "dict_reverseitemiterator", "odict_iterator", "itertools.zip_longest", "itertools.pairwise"].contains n = false) (hQ : Q () s): wpAny M A (letOwnedTupleGo tg (.ref it) u) Q E s:= by
  unfold letOwnedTupleGo;cases tg <;> first
    |exact X1 hQ
    |(cases u <;> first
        |exact X1 hQ
        | (refine X0 (wpAny_load ho ?_)
           rw[hc, hd];show wpAny M A (if(["enumerate", "zip", "dict_itemiterator", "dict_reverseitemiterator", "odict_iterator", "itertools.zip_longest", "itertools.pairwise"].contains n&&vs[0]? == some (rawInt _)) = true then _ else _) Q E s;rw[X9 (by intro h; rw[hn, Bool.false_and]at h; cases h)];exact X1 hQ))
def Itl(K:Frag)(a:Addr):It:=
 ⟨λi H=>∃xs x,SqL K H a xs/\xs[i]?=some x,λi H x H'=>H'=H/\∀xs,SqL K H a xs->xs[i]?=some x,λi H=>∃xs,SqL K H a xs/\xs.length<=i⟩
def Itt(K:Frag)(a:Addr):It:=
 ⟨λi H=>∃xs x,SqT K H a xs/\xs[i]?=some x,λi H x H'=>H'=H/\∀xs,SqT K H a xs->xs[i]?=some x,λi H=>∃xs,SqT K H a xs/\xs.length<=i⟩
def Itr(lo:Int)(n:Nat):It:=⟨λi _=>i<n,λi H x H'=>H'=H/\x=.int (lo+i),λi _=>n<=i⟩
theorem qjv{P:Program}{w:World}{K:Frag}{tg:Expr}(a it:Addr):Turn P w K tg (Itl K a) [it] it (λi h=>h.IsListIter it a i) where
 mem:=by simp
 obj:=λi h st b hb=>by
  have e:b=it:=by simpa using hb
  subst e;obtain⟨o,e,c,d⟩:=st;exact⟨o,e,λv z=>by rw[d]at z;cases z⟩
 keep:=λi h h' st k=>st.at λo e=>k it (by simp) o e
 item:=by
  intro X hP hw hK hc i pins s σ H E I hf st hg;subst hP hw hK;obtain⟨xs,x,hq,hx⟩:=hg;obtain⟨ac,rv,p,hz⟩:=I.list hq;obtain⟨u,hu,ru⟩:=rv.get hx;obtain⟨f0,f1,f2,f3,f4,f5⟩:=hf it (by simp);refine wpAny_pyNext_list_item st p.isList (x:=u) (by simpa using hu) λh' cu sb=>?_
  have I1:Inv X pins σ H { s with heap:=h' }:=I.turned (t':=s.toks) (λb o hb e=>(sb.2 b hb).trans e) f0 f1 f3 f4 f5;obtain⟨o,e,c,d⟩:=id cu;exact⟨u,rfl,qzh (s:={ s with heap:=h' }) e c d ⋯ ⟨x,H,I1,ru,⟨rfl,λys hy=>by rw[I.list_inj hy hq];exact hx⟩,cu,λb hb=>(hf b hb).1⟩⟩
 done:=by
  intro X hP hw hK hc i pins s σ H E I hf st hg;subst hP hw hK;obtain⟨xs,hq,hx⟩:=hg;obtain⟨ac,rv,p,hz⟩:=I.list hq;obtain⟨f0,f1,f2,f3,f4,f5⟩:=hf it (by simp);have hl:=rv.length;exact wpAny_pyNext_list_end (I.ok.hd hc) st p.isList (by simp;lia) λh' eb=>⟨rfl,I.turned (t':=s.toks) (λb o hb e=>eb b o hb e) f0 f1 f3 f4 f5⟩
 self:=λ_ _ _ _ _ st h=>wpAny_pyIter_listiter st h
theorem kzi{P:Program}{w:World}{K:Frag}{tg:Expr}(a it:Addr):Turn P w K tg (Itt K a) [it] it (λi h=>h.IsTupleIter it a i) where
 mem:=by simp
 obj:=λi h st b hb=>by
  have e:b=it:=by simpa using hb
  subst e;obtain⟨o,e,c,d⟩:=st;exact⟨o,e,λv z=>by rw[d]at z;cases z⟩
 keep:=λi h h' st k=>st.at λo e=>k it (by simp) o e
 item:=by
  intro X hP hw hK hc i pins s σ H E I hf st hg;subst hP hw hK;obtain⟨xs,x,hq,hx⟩:=hg;obtain⟨ac,rv,p,hz⟩:=I.tuple hq;obtain⟨u,hu,ru⟩:=rv.get hx;obtain⟨f0,f1,f2,f3,f4,f5⟩:=hf it (by simp);refine wpAny_pyNext_tuple_item st (show s.heap.IsTuple a ac.toArray from p) (x:=u) (by simpa using hu) λh' cu sb=>?_
  have I1:Inv X pins σ H { s with heap:=h' }:=I.turned (t':=s.toks) (λb o hb e=>(sb.2 b hb).trans e) f0 f1 f3 f4 f5;obtain⟨o,e,c,d⟩:=id cu;exact⟨u,rfl,qzh (s:={ s with heap:=h' }) e c d ⋯ ⟨x,H,I1,ru,⟨rfl,λys hy=>by rw[I.tuple_inj hy hq];exact hx⟩,cu,λb hb=>(hf b hb).1⟩⟩
 done:=by
  intro X hP hw hK hc i pins s σ H E I hf st hg;subst hP hw hK;obtain⟨xs,hq,hx⟩:=hg;obtain⟨ac,rv,p,hz⟩:=I.tuple hq;obtain⟨f0,f1,f2,f3,f4,f5⟩:=hf it (by simp);have hl:=rv.length;exact wpAny_pyNext_tuple_end (I.ok.hd hc) st (show s.heap.IsTuple a ac.toArray from p) (by simp;lia) λh' eb=>⟨rfl,I.turned (t':=s.toks) (λb o hb e=>eb b o hb e) f0 f1 f3 f4 f5⟩
 self:=λ_ _ _ _ _ st h=>wpAny_pyIter_tupleiter st h
theorem kzj{P:Program}{w:World}{K:Frag}{tg:Expr}(it:Addr)(lo:Int)(n:Nat):Turn P w K tg (Itr lo n) [it] it (λi h=>IsRangeIter h it (lo+(i:Nat)*1) ((n:Int) - (i:Nat)) 1) where
 mem:=by simp
 obj:=λi h st b hb=>by
  have e:b=it:=by simpa using hb
  subst e;exact⟨_,st,λv z=>by
   have z':Data.fields _=Data.cell v:=z;cases z'⟩
 keep:=λi h h' st k=>k it (by simp) _ st
 item:=by
  intro X hP hw hK hc i pins s σ H E I hf st hg;subst hP hw hK;obtain⟨f0,f1,f2,f3,f4,f5⟩:=hf it (by simp);have W:=Walks.range (prog:=X.prog) (w:=X.w) (I.ok.hd hc) it lo 1 n;refine W.item i s _ _ hg st λv h' tk hv cu kk=>?_
  obtain⟨t,rfl⟩:=hv;have I1:Inv X pins σ H { s with heap:=h',toks:=tk }:=I.turned (λb o hb e=>kk b o (by simpa using hb) e) f0 f1 f3 f4 f5;refine⟨_,rfl,qzh (s:={ s with heap:=h',toks:=tk }) (n:="range_iterator") cu rfl rfl ⋯ ⟨.int (lo+i),H,I1,⟨t,?_⟩,⟨rfl,rfl⟩,cu,λb hb=>(hf b hb).1⟩⟩;rw[Int.mul_one]
 done:=by
  intro X hP hw hK hc i pins s σ H E I hf st hg;subst hP hw hK;obtain⟨f0,f1,f2,f3,f4,f5⟩:=hf it (by simp);exact wpAny_pyNext_range_end (I.ok.hd hc) st (by have:n<=i:=hg;lia) λh' eb=>⟨rfl,I.turned (t':=s.toks) (λb o hb e=>eb b o hb e) f0 f1 f3 f4 f5⟩
 self:=λ_ _ _ _ _ st h=>wpAny_pyIter_rangeiter st h
section
variable {X:Cx}{tg:Expr}
theorem qxr{pins:LA9}{σ:St}{H:Hp}{s:Shared}{R:It->Hp->Prop}{E:VP9}{lo hi:Int}{t u v:Tok}{tk:Nat}(I:Inv X pins σ H s)(h1:-(2 ^ 62)<=lo)(h2:lo<2 ^ 62)(h3:-(2 ^ 62)<=hi)(h4:hi<2 ^ 62)
  (q:R (Itr lo (hi - lo).toNat) H):wpAny (model X.prog X.w) X.A (pyIter (.ref s.heap.objs.size)) (PIE X pins σ tg R) E { s with heap:=s.heap.push { cls:=.type "range",data:=.fields #[.int lo t,.int hi u,.int 1 v] },toks:=tk }:=by
 refine wpAny_pyIter_range (IsRange.new ..) (small_one h1 h2 h3 h4) ?_;have I1:Inv X pins σ H { s with heap:=s.heap.push { cls:=.type "range",data:=.fields #[.int lo t,.int hi u,.int 1 v] },toks:=tk }:=I.kept λb o e=>X2 _ e
 refine⟨(s.heap.push { cls:=.type "range",data:=.fields #[.int lo t,.int hi u,.int 1 v] }).objs.size,[(s.heap.push { cls:=.type "range",data:=.fields #[.int lo t,.int hi u,.int 1 v] }).objs.size],_,_,H,rfl,
  I1.kept (t':=tk) λb o e=>X2 _ e,kzj _ lo (hi - lo).toNat,?_,λb hb=>?_,q⟩
 ·have e1:lo+((0:Nat):Int)*1=lo:=by simp
  have e2:(((hi - lo).toNat:Nat):Int) - ((0:Nat):Int)=Builtin.Range.rangeSize lo hi 1:=by rw[rangeSize_one];split<;>lia
  show IsRangeIter _ _ (lo+((0:Nat):Int)*1) ((((hi - lo).toNat:Nat):Int) - ((0:Nat):Int)) 1;rw[e1,e2];exact Xb _ rfl
 ·have e:b=(s.heap.push { cls:=.type "range",data:=.fields #[.int lo t,.int hi u,.int 1 v] }).objs.size:=by simpa using hb
  subst e;exact I1.fpOk (Xa _) (I1.hok.fresh (Xa _))
abbrev wwg(ta:TA):TI:=fun σ H R=>ta σ H λvs H1=>∃j:Int,vs=[.int j]/\-(2 ^ 62)<=j/\j<2 ^ 62/\R (Itr 0 j.toNat) H1
theorem qq6{a:Expr}{ta:TA}{p pos:Pos}(hg:Gl X "range")(hm:X.mg "range"=none)(ha:PA X [a] ta)(hs:autoParam (starEach [a] X.env=[(false,eval a X.env)]) Ŕ):PI X tg (.Call (.Name "range" p) [a] [] pos) (wwg ta):=by
 intro pins s σ H R I h;refine Call_ (xQ I hg hm boot_range (Y0 (thn (ha pos pins s σ H _ I h) λus s1 ⟨vs,H1,I1,r1,q1⟩=>?_) hs rfl));obtain⟨j,e,q1,q2,q⟩:=q1;subst e;cases r1 with
 |cons r rr=>
  cases rr;obtain⟨t,rfl⟩:=r;exact call_range_1 (qxr I1 ⋯ ⋯ q1 q2 (by simpa using q))
abbrev tFor(wi:TI)(g:TG)(tb:TS):TS:=λD σ H=>wi σ H λJ H1=>∃W:Nat->Nat->St->Hp->Prop,(∃m,W 0 m σ H1)/\∀i m σ H,W i m σ H ->
 (J.stop i H/\D.nx σ H)\/(J.go i H/\∃N:St->Hp->Prop,(∀ σ' H',N σ' H'->∃m',m'<m/\W (i+1) m' σ' H')/\∀x H',J.yld i H x H'->g x σ H' fun σ2 H2=>tb { D with nx:=N,ct:=N,bk:=D.nx } σ2 H2)
def J8(fp:List Addr)(h:Heap):LA9:=fp.filterMap λb=>(h.get? b).map λo=>(b,o)
theorem jx1{fp:List Addr}{h:Heap}{b:Addr}{o:Obj}(hb:b∈fp)(e:h.get? b=some o):(b,o)∈J8 fp h:=List.mem_filterMap.mpr ⟨b,hb,by rw[e];rfl⟩
theorem kqf{fp:List Addr}{h:Heap}{p:Addr×Obj}(hp:p∈J8 fp h):p.1∈fp/\h.get? p.1=some p.2:=by
 obtain⟨b,hb,e⟩:=List.mem_filterMap.mp hp;cases q:h.get? b with
 |none=>rw[q]at e;cases e
 |some o=>
  rw[q]at e;have e':(b,o)=p:=oq9 e;subst e';exact⟨hb,q⟩
theorem Inv.pinned{pins:LA9}{σ:St}{H:Hp}{s:Shared}{fp:List Addr}(I:Inv X pins σ H s)(hf:∀b∈fp,qw X pins H b)(ho:∀b∈fp,∃o,s.heap.get? b=some o/\∀v,o.data≠.cell v):Inv X (pins++J8 fp s.heap) σ H s:=
 I.pins_of λp hp=>(aA hp).elim (λz=>I.pin p (lr9 _ z)) λz=>by
  obtain⟨hb,e⟩:=kqf z;obtain⟨f0,f1,f2,_⟩:=hf p.1 hb;obtain⟨o,e',d⟩:=ho p.1 hb;rw[e]at e';cases e';exact⟨e,f0,f1,f2,d⟩
theorem Inv.unpinned{pins pl:LA9}{σ:St}{H:Hp}{s:Shared}(I:Inv X (pins++pl) σ H s):Inv X pins σ H s:=I.pins_of λp hp=>I.pin p (lr9 _ (ll9 _ hp))
theorem vze{ao:Expr}{body:List Stmt}{wi:TI}{g:TG}{tb:TS}{pos:Pos}(hp:PassesOwn (model X.prog X.w) X.A X.env X.xe)(hc:X.calm=true)(hi:PI X tg ao wi)(hg:PG X tg g)(hb:PSs X body tb)
  (hs:autoParam (∀x,foldedSetIterable ao X.env x=pure x) Ŗ):PS X (.For tg ao body [] pos) (tFor wi g tb):=by
 intro pins s σ H D I h;refine wpAny_For (thn (hi pins s σ H _ I h) λv s1 h1=>thn h1 λitv s2 h2=>?_) hs;obtain⟨it,fp,tn,J,H2,e,I2,T,bn,f2,W,⟨m0,w0⟩,fj⟩:=h2;subst e;have gr:∀{H':Hp},(∀b∈fp,H' b=none)->∀b∈fp,qw X pins H' b:=λhn b hb=>⟨hn b hb,(f2 b hb).2⟩
 refine codeAny_forLoop_any (λn s'=>∃i σ' H',Inv X pins σ' H' s'/\tn i s'.heap/\(∀b∈fp,H' b=none)/\W i n σ' H') ?_ m0 ⟨0,σ,H2,I2,bn,λb hb=>(f2 b hb).1,w0⟩;rintro n s3 ⟨i,σ3,H3,I3,cx,fr3,w3⟩;rcases fj i n σ3 H3 w3 with⟨stop,qn⟩|⟨go,N,hN,step⟩
 ·refine wpAny_passesOwn hp (thn (T.done X rfl rfl rfl hc i pins s3 σ3 H3 X.xe I3 (gr fr3) cx stop) λr s4 ⟨hr,I4⟩=>?_);subst hr;exact wpAny_execs_nil ⟨σ3,H3,I4,qn⟩
 ·refine wpAny_passesOwn hp (thn (T.item X rfl rfl rfl hc i pins s3 σ3 H3 X.xe I3 (gr fr3) cx go) λr s4 ⟨u,hr,h4⟩=>?_);subst hr;refine wpAny_passesOwn hp (thn h4 λ_ s5 ⟨x,H5,I5,r5,y5,jt,fr5⟩=>?_);have I5':=I5.pinned (gr fr5) (T.obj _ _ jt);refine wpAny_passesOwn hp (thn (hg _ s5 σ3 H5 x u _ I5' r5 (step x H5 y5)) λ_ s6 ⟨σ6,H6,I6,q6⟩=>?_);refine wpAny_passesOwn hp (thn (hb _ s6 σ6 H6 _ I6 q6) λf s7 q7=>?_);have again:∀{σ7:St} {H7:Hp},Inv X (pins++J8 fp s5.heap) σ7 H7 s7->N σ7 H7->∃m,m<n/\∃i σ' H',Inv X pins σ' H' s7/\tn i s7.heap/\(∀b∈fp,H' b=none)/\W i m σ' H':=fun {σ7 H7} I7 n7=>by
   obtain⟨m',hm,w7⟩:=hN σ7 H7 n7;refine⟨m',hm,i+1,σ7,H7,I7.unpinned,T.keep _ _ _ jt λb hb o e=>(I7.pin (b,o) (lr9 _ (lr9 _ (jx1 hb e)))).1,λb hb=>?_,w7⟩;obtain⟨o,e,d⟩:=T.obj _ _ jt b hb;exact(I7.pin (b,o) (lr9 _ (lr9 _ (jx1 hb e)))).2.1
  cases f with|next=>obtain⟨σ7,H7,I7,n7⟩:=q7;exact again I7 n7|cont=>obtain⟨σ7,H7,I7,n7⟩:=q7;exact again I7 n7|brk=>obtain⟨σ7,H7,I7,q7⟩:=q7;exact⟨σ7,H7,I7.unpinned,q7⟩|ret v=>obtain⟨x7,σ7,H7,I7,r7,q7⟩:=q7;exact⟨x7,σ7,H7,I7.unpinned,r7,q7⟩
end
abbrev R2:=V->V->Hp->VK->Prop
def OpR(X:Cx)(f:Value->Value->Sem Value)(r:R2):Prop:=
 ∀(pins:LA9) (s:Shared) (σ:St) (H:Hp) (x y:V) (v u:Value) (Q:VK),Inv X pins σ H s->RelV x v->RelV y u->r x y H Q ->
  wpAny (model X.prog X.w) X.A (f v u) (EP X pins σ Q) X.xe s
def UnR(X:Cx)(f:Value->Sem Value)(r:V->Hp->VK->Prop):Prop:=
 ∀(pins:LA9) (s:Shared) (σ:St) (H:Hp) (x:V) (v:Value) (Q:VK),Inv X pins σ H s->RelV x v->r x H Q ->
  wpAny (model X.prog X.w) X.A (f v) (EP X pins σ Q) X.xe s
def CallR(X:Cx)(f:Value)(r:List V->Hp->VK->Prop):Prop:=
 ∀(pins:LA9) (s:Shared) (σ:St) (H:Hp) (xs:List V) (us:List Value) (Q:VK),Inv X pins σ H s->Vals xs us->r xs H Q ->
  wpAny (model X.prog X.w) X.A (call f us) (EP X pins σ Q) X.xe s
def TruR(X:Cx)(r:V->Hp->(Bool->Hp->Prop)->Prop):Prop:=
 ∀(pins:LA9) (s:Shared) (σ:St) (H:Hp) (x:V) (v:Value) (Q:Bool->Hp->Prop),Inv X pins σ H s->RelV x v->r x H Q ->
  wpAny (model X.prog X.w) X.A (truthy v) (TP X pins σ Q) X.xe s
abbrev tOp(r:R2)(ta tb:TE):TE:=fun σ H Q=>ta σ H λx H1=>tb σ H1 λy H2=>r x y H2 Q
abbrev tUn(r:V->Hp->VK->Prop)(ta:TE):TE:=fun σ H Q=>ta σ H λx H1=>r x H1 Q
def rI(C:Int->Int->Prop)(g:Int->Int->V):R2:=λx y H Q=>∃i j,x=.int i/\y=.int j/\C i j/\Q (g i j) H
def rI0(g:Int->Int->V):R2:=λx y H Q=>∃i j,x=.int i/\y=.int j/\Q (g i j) H
def rU(g:Int->V):V->Hp->VK->Prop:=λx H Q=>∃i,x=.int i/\Q (g i) H
section
variable {X:Cx}{a b c:Expr}{ta tb tc:TE}{pos:Pos}
theorem wx2(ha:PE X a ta)(hb:PE X b tb){pins:LA9}{s:Shared}{σ:St}{H:Hp}{R:V->V->Hp->Prop}(I:Inv X pins σ H s)
  (h:ta σ H λx H1=>tb σ H1 λy H2=>R x y H2) {Q:VP9} {f:Value->Value->Sem Value}
  (hf:∀v u s2 x y H2,Inv X pins σ H2 s2->RelV x v->RelV y u->R x y H2->wpAny (model X.prog X.w) X.A (f v u) Q X.xe s2):
  wpAny (model X.prog X.w) X.A (eval a X.env) (λv s₁=>wpAny (model X.prog X.w) X.A (eval b X.env) (λu s₂=>wpAny (model X.prog X.w) X.A (f v u) Q X.xe s₂) X.xe s₁) X.xe s:=by
 refine thn (ha pins s σ H _ I h) λv s1 ⟨x,H1,I1,r1,q1⟩=>?_
 refine thn (hb pins s1 σ H1 _ I1 q1) λu s2 ⟨y,H2,I2,r2,q2⟩=>?_
 exact hf v u s2 x y H2 I2 r1 r2 q2
theorem wvx{op:Operator}{r:R2}(ho:OpR X (binaryOp op) r)(ha:PE X a ta)(hb:PE X b tb):PE X (.BinOp a op b pos) (tOp r ta tb):=by
 intro pins s σ H Q I h;exact wpAny_BinOp (wx2 ha hb I h λv u s2 x y H2 I2 rx ry q=>ho pins s2 σ H2 x y v u Q I2 rx ry q)
theorem wvw{op:UnaryOp}{r:V->Hp->VK->Prop}(ho:UnR X (unaryOp op) r)(ha:PE X a ta):PE X (.UnaryOp op a pos) (tUn r ta):=by
 intro pins s σ H Q I h;exact UnaryOp_ (thn (ha pins s σ H _ I h) λv s1 ⟨x,H1,I1,r1,q1⟩=>ho pins s1 σ H1 x v Q I1 r1 q1)
theorem opI{f:Value->Value->Sem Value}{C:Int->Int->Prop}{g:Int->Int->Int}
  (rule:∀(i j:Int) (t u:Tok) (s:Shared) (Q:VP9) (E:VP9),C i j->Q (.int (g i j) s.toks) { s with toks:=s.toks+1 }->wpAny (model X.prog X.w) X.A (f (.int i t) (.int j u)) Q E s):
  OpR X f (rI C λi j=>.int (g i j)):=by
 intro pins s σ H x y v u Q I rx ry h;obtain⟨i,j,rfl,rfl,hc,q⟩:=h;obtain⟨t,rfl⟩:=rx;obtain⟨t',rfl⟩:=ry;exact rule i j t t' s _ _ hc ⟨.int (g i j),H,I.tok _,⟨_,rfl⟩,q⟩
theorem wxp{f:Value->Value->Sem Value}{g:Int->Int->Int}
  (rule:∀(i j:Int) (t u:Tok) (s:Shared) (Q:VP9) (E:VP9),Q (.int (g i j) s.toks) { s with toks:=s.toks+1 }->wpAny (model X.prog X.w) X.A (f (.int i t) (.int j u)) Q E s):
  OpR X f (rI0 λi j=>.int (g i j)):=by
 intro pins s σ H x y v u Q I rx ry h;obtain⟨i,j,rfl,rfl,q⟩:=h;obtain⟨t,rfl⟩:=rx;obtain⟨t',rfl⟩:=ry;exact rule i j t t' s _ _ ⟨.int (g i j),H,I.tok _,⟨_,rfl⟩,q⟩
theorem wxq{f:Value->Value->Sem Value}{g:Int->Int->Bool}
  (rule:∀(i j:Int) (t u:Tok) (s:Shared) (Q:VP9) (E:VP9),Q (.bool (g i j)) s->wpAny (model X.prog X.w) X.A (f (.int i t) (.int j u)) Q E s):
  OpR X f (rI0 λi j=>.bl (g i j)):=by
 intro pins s σ H x y v u Q I rx ry h;obtain⟨i,j,rfl,rfl,q⟩:=h;obtain⟨t,rfl⟩:=rx;obtain⟨t',rfl⟩:=ry;exact rule i j t t' s _ _ ⟨.bl (g i j),H,I,rfl,q⟩
def wqu(i j:Int):Prop:=0<=j/\j<=1000000/\i.natAbs<2 ^ 64
theorem op_add:OpR X (binaryOp .Add) (rI0 λi j=>.int (i+j)):=wxp λ_ _ _ _ _ _ _ q=>add_int q
theorem kxi:OpR X (binaryOp .Sub) (rI0 λi j=>.int (i - j)):=wxp λ_ _ _ _ _ _ _ q=>sub_int q
theorem wj3:OpR X (binaryOp .Mod) (rI (λ_ j=>0<j) λi j=>.int (i % j)):=opI λi j _ _ _ _ _ hc q=>by
 have h1:(0:Int)<j:=hc;exact mod_int' ⋯ (by rw[Int.fmod_eq_emod_of_nonneg i ⋯];exact q)
theorem VY:OpR X (binaryOp .Pow) (rI wqu λi j=>.int (i ^ j.toNat)):=opI λ_ _ _ _ _ _ _ hc q=>pow_int_small hc.1 hc.2.1 hc.2.2 q
theorem wj2:OpR X (binaryOp .LShift) (rI wqu λi j=>.int (i*2 ^ j.toNat)):=opI λ_ _ _ _ _ _ _ hc q=>lshift_int_small hc.1 hc.2.1 hc.2.2 q
theorem unI{f:Value->Sem Value}{g:Int->Int}
  (rule:∀(i:Int) (t:Tok) (s:Shared) (Q:VP9) (E:VP9),Q (.int (g i) s.toks) { s with toks:=s.toks+1 }->wpAny (model X.prog X.w) X.A (f (.int i t)) Q E s):
  UnR X f (rU λi=>.int (g i)):=by
 intro pins s σ H x v Q I rx h;obtain⟨i,rfl,q⟩:=h;obtain⟨t,rfl⟩:=rx;exact rule i t s _ _ ⟨.int (g i),H,I.tok _,⟨_,rfl⟩,q⟩
theorem vjc:UnR X (unaryOp .USub) (rU λi=>.int (-i)):=unI λ_ _ _ _ _ q=>neg_int q
end
section
variable {X:Cx}{a b c:Expr}{ta tb tc:TE}{pos:Pos}
theorem wkb{pins:LA9}{σ:St}{H:Hp}{s:Shared}{Q:VK}{k k':Bool}(I:Inv X pins σ H s)(q:Q (.bl k) H)(e:k=k'):EP X pins σ Q (.bool k') s:=by
 subst e;exact⟨.bl k,H,I,rfl,q⟩
theorem ww3:OpR X (compareOp .Lt) (rI0 λi j=>.bl (decide (i<j))):=wxq λ_ _ _ _ _ _ _ q=>lt_int q
theorem wj4:OpR X (compareOp .LtE) (rI0 λi j=>.bl (decide (i<=j))):=wxq λ_ _ _ _ _ _ _ q=>le_int q
theorem qqd:OpR X (compareOp .In) (λx y H Q=>∃i j,x=.str i/\y=.str j/\Q (.bl (!(Builtin.Str.occurrences j i 0 j.length 1).isEmpty)) H):=by
 intro pins s σ H x y v u Q I rx ry h;obtain⟨i,j,rfl,rfl,q⟩:=h;obtain⟨t,rfl⟩:=rx;obtain⟨t',rfl⟩:=ry;exact in_str (wkb I q rfl)
theorem OpR.or{f:Value->Value->Sem Value}{r r':R2}(h:OpR X f r)(h':OpR X f r'):OpR X f (λx y H Q=>r x y H Q\/r' x y H Q):=by
 intro pins s σ H x y v u Q I rx ry q;rcases q with q|q
 ·exact h pins s σ H x y v u Q I rx ry q
 ·exact h' pins s σ H x y v u Q I rx ry q
theorem wX(b:Expr){op:CmpOp}(h:autoParam (op≠.In) ŕ)(h2:autoParam (op≠.NotIn) ŕ):behindInMarks op b=false:=by
 have e1:(op==CmpOp.In)=false:=by cases op<;>first|rfl|exact absurd rfl h
 have e2:(op==CmpOp.NotIn)=false:=by cases op<;>first|rfl|exact absurd rfl h2
 cases b<;>simp[behindInMarks,e1,e2]
theorem vql{op:CmpOp}{r:R2}(ho:OpR X (compareOp op) r)(ha:PE X a ta)(hb:PE X b tb)(hm:behindInMarks op b=false):PE X (.Compare a [op] [b] pos) (tOp r ta tb):=by
 intro pins s σ H Q I h;exact wpAny_Compare1 (wx2 ha hb I h λv u s2 x y H2 I2 rx ry q=>ho pins s2 σ H2 x y v u Q I2 rx ry q) hm
abbrev wv1(t:TE):TT:=fun σ H Q=>t σ H λx H'=>∃k,x=.bl k/\Q k H'
theorem vq9{op:CmpOp}{r:R2}(ho:OpR X (compareOp op) r)(ha:PE X a ta)(hb:PE X b tb)(hm:behindInMarks op b=false):PT X (.Compare a [op] [b] pos) (wv1 (tOp r ta tb)):=by
 intro pins s σ H Q I h;refine wpAny_isTrue_Compare1 (thn (ha pins s σ H _ I h) λv s1 ⟨x,H1,I1,r1,q1⟩=>thn (hb pins s1 σ H1 _ I1 q1) λu s2 ⟨y,H2,I2,r2,q2⟩=>
  thn (ho pins s2 σ H2 x y v u _ I2 r1 r2 q2) λc s3 ⟨z,H3,I3,r3,k,e,q3⟩=>?_) hm
 subst e;cases r3;exact wpAny_truthy_bool ⟨H3,I3,q3⟩
noncomputable def wx5(K:Frag)(x:V)(H:Hp)(k:Bool):Prop:=
 match x with
 |.non=>k=false|.bl b=>k=b|.int i=>k=(i != 0)|.str y=>y.length<=sizeLine/\k=((y.length:Int) != 0)|.byt y=>y.size<=sizeLine/\k=((y.size:Int) != 0)|.ref p=>(∃xs,SqL K H p xs/\k=!xs.isEmpty)\/(∃xs,SqT K H p xs/\k=!xs.isEmpty)\/∃aa,H p=some (.dK aa)/\k=!aa.isEmpty|_=>False
theorem qj4{κ:Type}{aa:List (κ×V)}{vs:List (κ×Value)}(r:KV aa vs):(!vs.isEmpty)=!aa.isEmpty:=by
 cases r<;>rfl
theorem kjf{xs:List V}{ac:List Value}(r:Vals xs ac):(!ac.toArray.isEmpty)=!xs.isEmpty:=by
 cases r<;>simp
theorem KJ:(sizeLine:Nat)<2 ^ 63:=by rw[Yr];decide
theorem vwu:TruR X (λx H Q=>∃k,wx5 X.K x H k/\Q k H):=by
 intro pins s σ H x v Q I rx h;obtain⟨k,e,q⟩:=h;have hl:=KJ;have hs:sizeLine=16777216:=Yr;cases x with
 | non=>
  cases rx;have e':k=false:=e;subst e';exact truthy_none ⟨H,I,q⟩
 | bl b=>
  cases rx;have e':k=b:=e;subst e';exact wpAny_truthy_bool ⟨H,I,q⟩
 | int i=>
  obtain⟨t,rfl⟩:=rx;have e':k=(i != 0):=e;subst e';exact PySem.P.truthy_int ⟨H,I,q⟩
 | str y=>
  obtain⟨t,rfl⟩:=rx;obtain⟨hy,e'⟩:y.length<=sizeLine/\k=((y.length:Int) != 0):=e;subst e';exact PySem.P.truthy_str ⋯ ⟨H,I.tok _,q⟩
 | byt y=>
  obtain⟨t,rfl⟩:=rx;obtain⟨hy,e'⟩:y.size<=sizeLine/\k=((y.size:Int) != 0):=e;subst e';exact PySem.W.truthy_bytes ⋯ ⟨H,I.tok _,q⟩
 | ref p=>
  cases rx;have e':(∃xs,SqL X.K H p xs/\k=!xs.isEmpty)\/(∃xs,SqT X.K H p xs/\k=!xs.isEmpty)\/∃aa,H p=some (.dK aa)/\k=!aa.isEmpty:=e;rcases e' with⟨xs,hx,e'⟩|⟨xs,hx,e'⟩|⟨aa,hx,e'⟩
  ·subst e';obtain⟨ac,r,pl,hz⟩:=I.list hx;have ah:=r.length;exact wpAny_truthy_list pl.isList (by simp only[X8];lia) ⟨H,I.tok _,by rw[kjf r];exact q⟩
  ·subst e';obtain⟨ac,r,pl,hz⟩:=I.tuple hx;have ah:=r.length;exact truthy_tuple pl (by simp only[X8];lia) ⟨H,I.tok _,by rw[kjf r];exact q⟩
  ·subst e';obtain⟨hz,hS,vs,r,m⟩:aa.length<=sizeLine/\(p==sysModules)=false/\∃vs,KV aa vs/\s.heap.DictOf (x5 X.prog X.w) p vs:=I.hok p _ hx;have ah:aa.length=vs.length:=Paired.length r;exact wpAny_truthy_dict hS m ⋯ ⟨H,I.tok _,by rw[qj4 r];exact q⟩
 |_=>exact(show False from e).elim
theorem qxv(ha:PE X a ta)(he:∀en,isTrue a X.env en=(do let v <-en;standAt a.pos;holding [v] (truthy v))):
  PT X a (fun σ H Q=>ta σ H λx H'=>∃k,wx5 X.K x H' k/\Q k H'):=by
 intro pins s σ H Q I h;exact isTrue_plain (thn (ha pins s σ H _ I h) λv s1 ⟨x,H1,I1,r1,q1⟩=>vwu pins s1 σ H1 x v Q I1 r1 q1) (he _)
theorem op_add_str:OpR X (binaryOp .Add) (λx y H Q=>∃i j,x=.str i/\y=.str j/\i.length+j.length<=sizeLine/\Q (.str (i++j)) H):=by
 intro pins s σ H x y v u Q I rx ry h;obtain⟨i,j,rfl,rfl,hz,q⟩:=h;obtain⟨t,rfl⟩:=rx;obtain⟨t',rfl⟩:=ry;exact add_str (λt' tk=>⟨.str (i++j),H,I.tok _,⟨_,rfl⟩,q⟩) hz
theorem wY{x:V}{us:List Value}(r:Vals [x] us):∃u,us=[u]/\RelV x u:=by
 cases r with|cons r1 r2=>cases r2;exact⟨_,rfl,r1⟩
theorem YW{x y:V}{us:List Value}(r:Vals [x,y] us):∃u w',us=[u,w']/\RelV x u/\RelV y w':=by
 cases r with
 |cons r1 r2=>
  cases r2 with|cons r3 r4=>cases r4;exact⟨_,_,rfl,r1,r3⟩
end
structure ObjM (h:Heap)(x dx C:Addr)(mA:Str->Option Value):Prop where
 obj:h.get? x=some (PySem.W.instObj C dx)
 ns:h.Ns1 dx mA
 ne:dx≠x
theorem qqw{h:Heap}{dx:Addr}{mA:Str->Option Value}(n:h.Ns1 dx mA):∃od,h.get? dx=some od/\∀name,PySem.W.lookIn name od=some (mA name):=by
 obtain⟨o,es,ep,ho,hd,hk,_,hm⟩:=n;refine⟨o,ho,λname=>?_⟩;have e:=hm name;unfold nsFind findBy at e;rw[<-Array.find?_toList]at e;unfold PySem.W.lookIn;rw[hd];dsimp only
 split
 ·rename_i y q;rw[q]at e;exact congrArg some e
 ·rename_i q;rw[q]at e;have a:es.toList.any (·.refKey)=false:=by
   rw[List.any_eq_false];intro y hy;obtain⟨z,t,ig⟩:=hk y (Array.mem_toList_iff.mp hy);simp[DictEntry.refKey,ig]
  have a':¬es.toList.any (·.refKey)=true:=by rw[a];exact Bool.false_ne_true
  rw[X9 a'];exact congrArg some e
theorem ObjM.look{h:Heap}{x dx C:Addr}{mA:Str->Option Value}(I:ObjM h x dx C mA):∃od,PySem.W.InstAt h x (PySem.W.instObj C dx) C (some od)/\∀name,PySem.W.lookIn name od=some (mA name):=
 let ⟨od,ho,hl⟩:=qqw I.ns
 ⟨od,⟨I.obj,rfl,rfl,ho⟩,hl⟩
theorem RelO.some_of{v:V}{o:Option Value}(r:RelO (some v) o):∃u,o=some u/\RelV v u:=by
 cases o with|none=>exact(show False from r).elim|some u=>exact⟨u,rfl,r⟩
section
variable {P:Program}{w:World}{H H':Hp}{h h':Heap}{a C dx:Addr}{fs fs':List (Str×V)}
theorem vvj(hok:HOk P w H h)(e:H a=some (.ins C dx fs)):∃mA,ObjM h a dx C mA/\(∀f,RelO (fs.lookup f) (mA f))/\PySem.Within mA (fs.map (·.1))/\fs.length<=1000/\H dx=some (.own a):=by
 obtain⟨d,z,ne,ob,mA,n,r,q⟩:=(show ObjOk P w H h a (.ins C dx fs)from hok a _ e);exact⟨mA,⟨ob,n,ne⟩,r,q,z,d⟩
end
structure Cls (K:Frag)(C:Addr):Prop where
 pg:PySem.W.plainGet K C Str.empty=true
 hd:PySem.W.hasDictIn K C=true
 po:PySem.W.plainOver K C=true
 sa:findIn K (.ref C) "__setattr__"=some (some (.builtin "object.__setattr__"))
theorem Cls.get{K:Frag}{C:Addr}(c:Cls K C)(f:Str):PySem.W.plainGet K C f=true:=c.pg
section
variable {X:Cx}{pins:LA9}{σ:St}{H:Hp}{s:Shared}{A:Around}{E:VP9}{Q:VP9}{c:Value}{b:Bool}
inductive TyOf (K:Frag)(H:Hp):V->Value->Prop where
 | non:TyOf K H .non (.type "NoneType")
 | bl (x:Bool):TyOf K H (.bl x) (.type "bool")
 | int (i:Int):TyOf K H (.int i) (.type "int")
 | str (x:Str):TyOf K H (.str x) (.type "str")
 | flt (x:UInt64):TyOf K H (.flt x) (.type "float")
 | lst {a:Addr} {xs:List V} (e:H a=some (.lst xs)):TyOf K H (.ref a) (.type "list")
 | frz {a:Addr} {o:Obj} {xs:List V} (e:H a=some (.frz o (.lst xs))):TyOf K H (.ref a) (.type "list")
 | tup {a:Addr} {xs:List V} (e:H a=some (.tup xs)):TyOf K H (.ref a) (.type "tuple")
 | dK {a:Addr} {aa:List (Key×V)} (e:H a=some (.dK aa)):TyOf K H (.ref a) (.type "dict")
 | dT {a:Addr} {aa:List (List Key×V)} (e:H a=some (.dT aa)):TyOf K H (.ref a) (.type "dict")
 | ins {a C dx:Addr} {fs:List (Str×V)} (e:H a=some (.ins C dx fs)) (cl:Cls K C) (ha:findIn K (.ref C) "__class__"=some (some (.builtin "object.__class__")))
   (hn:PySem.W.specialIn K (.builtin "object.__class__") "__get__"=some (some (.builtin "getset_descriptor.__get__"))) (htk:PySem.W.takesIn K (.builtin "object.__class__")=some true)
   (hm:PySem.W.mroIn K C (.type "object")=some true):TyOf K H (.ref a) (.ref C)
theorem qvb{x:V}{u t:Value}(I:Inv X pins σ H s)(rx:RelV x u)(ty:TyOf X.K H x t)(e:kitOne X.K t c=some b)(h:∀tk,Q (.bool b) { s with toks:=tk }):
  wpAny (model X.prog X.w) A (call (.builtin "isinstance") [u,c]) Q E s:=by
 cases ty with
 |non=>cases(show u=Value.none from rx);exact Y7 PySem.W.kitx_none I.kIn Zo e (λz=>nomatch z) h|bl y=>cases(show u=Value.bool y from rx);exact Y7 PySem.W.kitx_bool I.kIn Zo e (λz=>nomatch z) h|int i=>obtain⟨t,q⟩:=(show ∃t,u=Value.int i t from rx);cases q;exact Y7 PySem.W.kitx_int I.kIn Zo e (λz=>nomatch z) h|str y=>obtain⟨t,q⟩:=(show ∃t,u=Value.str y t from rx);cases q;exact Y7 PySem.W.kitx_str I.kIn Zo e (λz=>nomatch z) h|flt y=>obtain⟨t,q⟩:=(show ∃t,u=Value.float y t from rx);cases q;exact Y7 PySem.W.kitx_float I.kIn Zo e (λz=>nomatch z) h
 |@lst a xs ea=>
  cases(show u=Value.ref a from rx);obtain⟨_,_,n,_,h1⟩:=(show ObjOk X.prog X.w H s.heap a (.lst xs)from I.hok a _ ea);exact Y7 PySem.W.kitx_list I.kIn ⟨_,h1,rfl⟩ e (λz=>nomatch z) h
 |@frz a ob xs ea=>
  cases(show u=Value.ref a from rx);obtain⟨_,_,_,n,_,h1⟩:=(show ObjOk X.prog X.w H s.heap a (.frz ob (.lst xs))from I.hok a _ ea);exact Y7 PySem.W.kitx_list I.kIn ⟨_,h1,rfl⟩ e (λz=>nomatch z) h
 |@tup a xs ea=>
  cases(show u=Value.ref a from rx);obtain⟨_,_,_,p⟩:=(show ObjOk X.prog X.w H s.heap a (.tup xs)from I.hok a _ ea);obtain⟨o,h1,h2,_⟩:=p;exact Y7 PySem.W.kitx_tuple I.kIn ⟨o,h1,h2⟩ e (λz=>nomatch z) h
 |@dK a aa ea=>
  cases(show u=Value.ref a from rx);obtain⟨_,_,vs,_,p⟩:=(show ObjOk X.prog X.w H s.heap a (.dK aa)from I.hok a _ ea);obtain⟨o,es,ep,h1,h2,_⟩:=p;exact Y7 PySem.W.kitx_dict I.kIn ⟨o,h1,h2.1⟩ e (λz=>nomatch z) h
 |@dT a aa ea=>
  cases(show u=Value.ref a from rx);obtain⟨_,_,xs,_,o,es,ep,h1,h2,_⟩:=(show ObjOk X.prog X.w H s.heap a (.dT aa)from I.hok a _ ea);exact Y7 PySem.W.kitx_dict I.kIn ⟨o,h1,h2.1⟩ e (λz=>nomatch z) h
 |@ins a C dx fs ea cl ha hn htk hm=>
  cases(show u=Value.ref a from rx);obtain⟨mA,O,_⟩:=vvj I.hok ea;obtain⟨od,J,_⟩:=O.look;exact Y7 (PySem.W.kitx_own (cl.get _) cl.hd ha hn htk hm) I.kIn J e (λz=>nomatch z) h
end
structure Room (k:Nat)(A:Around):Prop where
 hd:A.handled=none
 dp:A.depth+3*k+5<recursionLimit
 un:A.units+16*k+200<cLine
 gd:A.guards=some []
theorem Room.mono{j k:Nat}{A:Around}(r:Room k A)(h:j<=k):Room j A:=⟨r.hd,by have:=r.dp;lia,by have:=r.un;lia,r.gd⟩
theorem Room.deeper{k:Nat}{A:Around}(r:Room (k+1) A)(env:Env):Room k (A.deeper env):=
 ⟨r.hd,by have:=r.dp;show A.depth+1+3*k+5<_;lia,by have:=r.un;show A.units+3+16*k+200<_;lia,r.gd⟩
theorem Room.depth{k:Nat}{A:Around}(r:Room k A):A.depth<recursionLimit:=by have:=r.dp;lia
theorem Room.units{k:Nat}{A:Around}(r:Room k A):A.units+64<cLine:=by have:=r.un;lia
abbrev wv2:TA:=λ_ H Q=>Q [] H
abbrev vkl(ta:TE)(tr:TA):TA:=fun σ H Q=>ta σ H λx H1=>tr σ H1 λxs H2=>Q (x::xs) H2
section
variable {X:Cx}{e:Expr}{es:List Expr}{te:TE}{t:TA}{pos:Pos}
theorem v3:PA X [] wv2:=λ_ _ _ _ H Q I h=>Calls.spliced_nil ⟨[],H,I,.nil,h⟩
theorem qq(ha:PE X e te)(hr:PA X es t)(hs:autoParam (starEach (e::es) X.env=(false,eval e X.env)::starEach es X.env) Ŕ):PA X (e::es) (vkl te t):=by
 intro pos pins s σ H Q I h;rw[hs];show wpAny _ _ (spliced ((false,eval e X.env)::backTo pos (starEach es X.env))) _ _ s;refine Calls.spliced_cons (thn (ha pins s σ H _ I h) λu s1 ⟨x,H1,I1,r1,q1⟩=>?_);exact thn (hr pos pins s1 σ H1 _ I1 q1) λus s2 ⟨xs,H2,I2,r2,q2⟩=>⟨x::xs,H2,I2,.cons r1 r2,q2⟩
abbrev tTup(t:TA):TE:=fun σ H Q=>t σ H λxs H1=>xs.length<=sizeLine/\∀p,H1 p=none->Q (.ref p) (upd H1 p (.tup xs))
abbrev tLst(t:TA):TE:=fun σ H Q=>t σ H λxs H1=>xs.length<=sizeLine/\∀p,H1 p=none->Q (.ref p) (upd H1 p (.lst xs))
theorem vzp{x1}(h:PA X es t):PE X (.Tuple es x1 pos) (tTup t):=by
 intro pins s σ H Q I hq;refine wpAny_Tuple_spliced (thn (h pos pins s σ H _ I hq) λus s1 ⟨xs,H1,I1,r,z,q⟩=>⟨by rw[<-r.length];exact z,?_⟩);have hf:H1 s1.heap.objs.size=none:=I1.hok.fresh (Xa _);refine⟨.ref s1.heap.objs.size,upd H1 s1.heap.objs.size (.tup xs),I1.laid (t':=s1.toks) (λb u e=>X2 _ e) (Xa _) ?_,rfl,q _ hf⟩;exact⟨z,us,r,⟨_,Xb _ rfl,rfl,rfl,_,rfl⟩⟩
theorem vzt(h:PA X es t):PE X (.List es pos) (tLst t):=by
 intro pins s σ H Q I hq;refine wpAny_List_spliced (thn (h pos pins s σ H _ I hq) λus s1 ⟨xs,H1,I1,r,z,q⟩=>⟨by rw[<-r.length];exact z,?_⟩);have hf:H1 s1.heap.objs.size=none:=I1.hok.fresh (Xa _);refine⟨.ref s1.heap.objs.size,upd H1 s1.heap.objs.size (.lst xs),I1.laid (t':=s1.toks) (λb u e=>X2 _ e) (Xa _) ?_,rfl,q _ hf⟩;exact⟨z,us,0,r,Xb _ rfl⟩
end
abbrev Sp:=List V->Hp->VK->XK->Prop
abbrev CXT:=List Env->Hp->Shared->XK->Value->Shared->Prop
structure Env0 (P:Program)(w:World)(K:Frag)(mg:Str->Option Value)(base:Heap)(A:Around)(outer:List Env)(s:Shared)(H:Hp):Prop where
 frames:A.frames=some outer
 mod:Mod K mg base
 bs:∀b o,base.get? b=some o->s.heap.get? b=some o/\H b=none
 bsz:base.objs.size<=s.heap.objs.size
 funs:s.heap.FunFrames base outer
 frf:∀b∈frs outer,H b=none
 hok:HOk P w H s.heap
 bare:AllBare s.gens
def CE(outer:List Env)(P:Program)(w:World)(H:Hp)(s:Shared)(Q:VK)(u:Value)(s':Shared):Prop:=
 ∃v H',s'.os=s.os/\AllBare s'.gens/\Un (frs outer) [] H H' s.heap s'.heap/\HOk P w H' s'.heap/\RelV v u/\Q v H'
def CR(CX:CXT)(outer:List Env)(P:Program)(w:World)(H:Hp)(s:Shared)(Q:VK)(E:XK)(r:Result)(s':Shared):Prop:=
 match r with
 |.ok (.ret u)=>CE outer P w H s Q u s'|.ok _=>False|.error e=>CX outer H s E e s'
structure FnOk (P:Program)(w:World)(K:Frag)(mg:Str->Option Value)(base:Heap)(CX:CXT)(k:Nat)(f:Addr)(fd:FuncData)(ps:List Str)(sp:Sp):Prop where
 len:∀vs H Q E,sp vs H Q E->vs.length=ps.length
 run:∀(A:Around) (outer:List Env) (s:Shared) (H:Hp) (args:Args) (us:List Value) (vs:List V) (Q:VK) (E:XK),Room k A->Env0 P w K mg base A outer s H->BindsTo s fd args (ps.zip us)->Vals vs us->sp vs H Q E ->
  codeAny (model P w) A (.call (.ref f) args) (CR CX outer P w H s Q E) s
section
variable {X:Cx}{pins:LA9}{σ:St}{H:Hp}{s s':Shared}
theorem Inv.env0(I:Inv X pins σ H s):Env0 X.prog X.w X.K X.mg X.base X.A X.stack s H:=
 ⟨I.ok.frames,I.ok.mod,I.bs,Yn I.ok.bsz I.sz,I.stack,I.stkFree,I.hok,I.bare⟩
theorem Inv.after{Q:VK}{u:Value}(I:Inv X pins σ H s)(h:CE X.stack X.prog X.w H s Q u s'):EP X pins σ Q u s':=by
 obtain⟨v,H',os,bare,un,hok,r,q⟩:=h;obtain⟨hh,g,d,t,n9⟩:=s';obtain rfl:n9=s.os:=os;exact⟨v,H',I.call (h':=hh) (g':=g) (d':=d) (t':=t) (ch:=[]) un hok bare (λb z=>absurd z (by simp)),r,q⟩
end
abbrev vkm(sp:Sp)(lf:List V)(E:XK)(t:TA):TE:=fun σ H Q=>t σ H λvs H1=>sp (vs++lf) H1 Q E
def Binds(K:Frag)(fd:FuncData)(ps:List Str)(ds:List Value):Prop:=
 ∀(s:Shared) (us:List Value),K.In s.heap->(us++ds).length=ps.length->BindsTo s fd ⟨us,[]⟩ (ps.zip (us++ds))
theorem Binds.all{K:Frag}{fd:FuncData}{ps:List Str}(h:∀us:List Value,us.length=ps.length->bindArgs fd ⟨us,[]⟩=pure (ps.zip us)):Binds K fd ps []:=λs us _ hl=>by
 rw[Xs]at hl ⊢;exact .of_eq (h us hl)
def qwx(CX:CXT)(X:Cx)(E:XK):Prop:=∀(pins:LA9) (σ:St) (H:Hp) (s:Shared) (e:Value) (s':Shared),Inv X pins σ H s->CX X.stack H s E e s'->X.xe e s'
section
variable {X:Cx}{CX:CXT}{k:Nat}{f C:Addr}{fd:FuncData}{ps:List Str}{sp:Sp}{lf:List V}{ds:List Value}{E:XK}{x m:Str}{p pos aw:Pos}{e o:Expr}{es:List Expr}{ta:TE}{t:TA}
theorem vxa{pins:LA9}{σ:St}{H:Hp}{s:Shared}{Q:VK}{us:List Value}{vs:List V}(F:FnOk X.prog X.w X.K X.mg X.base CX k f fd ps sp)(hr:Room k X.A)(hb:Binds X.K fd ps ds)(hd:Vals lf ds)(hx:qwx CX X E)
  (I:Inv X pins σ H s) (r:Vals vs us) (h:sp (vs++lf) H Q E):wpAny (model X.prog X.w) X.A (call (.ref f) us) (EP X pins σ Q) X.xe s:=by
 have r2:Vals (vs++lf) (us++ds):=r.append hd;have hl:(us++ds).length=ps.length:=by rw[<-r2.length];exact F.len _ _ _ _ h
 refine wpAny_call (Zp (F.run X.A X.stack s H ⟨us,[]⟩ (us++ds) (vs++lf) Q E hr I.env0 (hb s us I.kIn hl) r2 h) λr s' hq=>?_);cases r with
 |error e=>exact hx pins σ H s e s' I hq
 |ok fl=>
  cases fl with|ret u=>exact I.after hq|next=>exact False.elim hq|brk=>exact False.elim hq|cont=>exact False.elim hq
theorem vqm(F:FnOk X.prog X.w X.K X.mg X.base CX k f fd ps sp)(hr:Room k X.A)(hg:Gl X x)(hm:X.mg x=some (.ref f))(hk:PySem.W.keepIn X.K (.ref f)=true)(hb:Binds X.K fd ps ds)(hd:Vals lf ds)(hx:qwx CX X E)
  (ha:PA X (e::es) t) (d8:autoParam ((x==("__debug__":Str))=false) ŕ) (he:autoParam (starEach (e::es) X.env=(false,eval e X.env)::starEach es X.env) Ŕ) (b9:autoParam ((backTo pos (starEach es X.env)).any (·.1)=false) Ŕ):
  PE X (.Call (.Name x p) (e::es) [] pos) (vkm sp lf E t):=by
 intro pins s σ H Q I h;refine Yj (ZX I hg hm ?_ d8);refine PySem.W.callWith_K (h₀:=X.base) I.ok.mod.kin hk (thn (ha pos pins s σ H _ I h) λus s1 ⟨vs,H1,I1,r,q⟩=>⟨I1.kIn,?_⟩) he b9;exact vxa F hr hb hd hx I1 r q
end
structure FnScope (N P:List Str)(sc:Scope):Prop where
 kind:sc.kind=.function
 co:sc.isCoroutine=false
 gen:sc.isGenerator=false
 nd:N.Nodup
 pre:N.take P.length=P
 par:∀x∈P,sc.names.lookup x=some .local\/sc.names.lookup x=some .cell
 nofree:∀y∈sc.names,y.2≠.free
theorem kv8{kindOf : Str -> Option NameKind}{x : Str}: ∀{binds : List (Str × Value)} {m : Str -> Option Value}, (∀v, (x, v)∉binds) -> bindL kindOf binds m x = m x
  | [], _, _=>rfl
  | (n, v)::r, m, h=>by
    unfold bindL;rw[kv8 λw hw=>h w (lc9 _ hw)]
    split
    · have : x≠n:= by rintro rfl; exact h v X6
      simp[this]
    · rfl
theorem kva{kindOf : Str -> Option NameKind}{x : Str}: ∀{binds : List (Str × Value)} {m : Str -> Option Value}, (∀v, (x, v)∉binds) -> bindC kindOf binds m x = m x
  | [], _, _=>rfl
  | (n, v)::r, m, h=>by
    unfold bindC;rw[kva λw hw=>h w (lc9 _ hw)]
    split
    · rfl
    · have : x≠n:= by rintro rfl; exact h v X6
      simp[this]
theorem kv9{kindOf:Str->Option NameKind}{x:Str}{v:Value}:∀{P:List Str} {vs:List Value} {i:Nat} {m:Str->Option Value},P.Nodup->P[i]?=some x->vs[i]?=some v->kindOf x=some .local ->
  bindL kindOf (P.zip vs) m x=some v
 |[],_,_,_,_,h,_,_=>by simp at h|_::_,[],_,_,_,_,h,_=>by simp at h
 |p::P,w::vs,0,m,nd,h1,h2,hk=>by
  simp at h1 h2;subst h1;subst h2;show bindL kindOf ((p,w)::P.zip vs) m p=_;unfold bindL;rw[kv8 λv hv=>(List.nodup_cons.mp nd).1 (List.of_mem_zip hv).1,X7 hk];simp
 |p::P,w::vs,i+1,m,nd,h1,h2,hk=>by
  show bindL kindOf ((p,w)::P.zip vs) m x=_;unfold bindL;exact kv9 (i:=i) (List.nodup_cons.mp nd).2 (by simpa using h1) (by simpa using h2) hk
theorem kvb{kindOf:Str->Option NameKind}{x:Str}{v:Value}:∀{P:List Str} {vs:List Value} {i:Nat} {m:Str->Option Value},P.Nodup->P[i]?=some x->vs[i]?=some v->kindOf x≠some .local ->
  bindC kindOf (P.zip vs) m x=some v
 |[],_,_,_,_,h,_,_=>by simp at h|_::_,[],_,_,_,_,h,_=>by simp at h
 |p::P,w::vs,0,m,nd,h1,h2,hk=>by
  simp at h1 h2;subst h1;subst h2;show bindC kindOf ((p,w)::P.zip vs) m p=_;unfold bindC;rw[kva λv hv=>(List.nodup_cons.mp nd).1 (List.of_mem_zip hv).1,X9 hk];simp
 |p::P,w::vs,i+1,m,nd,h1,h2,hk=>by
  show bindC kindOf ((p,w)::P.zip vs) m x=_;unfold bindC;exact kvb (i:=i) (List.nodup_cons.mp nd).2 (by simpa using h1) (by simpa using h2) hk
def start(N:List Str)(vs:List V):St:=vs.map some++List.replicate (N.length - vs.length) none
noncomputable def zx(CX:CXT)(P:Program)(w:World)(K:Frag)(mg:Str->Option Value)(base:Heap)(N:List Str)(qual:Str)(scope:Scope)(f:Addr)(cd:Value)(A:Around)(outer:List Env)(s:Shared)(H:Hp)(E:XK):Cx where
 prog:=P
 w:=w
 K:=K
 mg:=mg
 base:=base
 A:=A.deeper (envOfC qual scope s.heap.objs.size f cd)
 N:=N
 s₀:=s
 H₀:=H
 env:=envOfC qual scope s.heap.objs.size f cd
 outer:=outer
 stack:=envOfC qual scope s.heap.objs.size f cd::outer
 ex:=[]
 calm:=true
 fn:=λ_=>true
 pn:=[]
 xe:=λe s'=>wpAny (model P w) (A.deeper (envOfC qual scope s.heap.objs.size f cd)) (leaving (envOfC qual scope s.heap.objs.size f cd) e) (λ_ i9=>CX outer H s E e i9) (λe' i9=>CX outer H s E e' i9) s'
theorem kz9{sc:Scope}{n:Nat}{x:Str}(h:sc.names.lookup x=some .cell):∃c,(cellsFrom n sc.names []).lookup x=some c:=by
 have q:=PySem.W.cellsFrom_some sc.names n [] (.inl h);exact Option.isSome_iff_exists.mp q
theorem qvc{CX:CXT}{P:Program}{w:World}{K:Frag}{mg:Str->Option Value}{base:Heap}{N ps:List Str}{qual:Str}{scope:Scope}{f:Addr}{cd:Value}{A:Around}{outer:List Env}{s s1:Shared}{H:Hp}{E:XK}{us:List Value}{vs:List V}
  (S:FnScope N ps scope) (hd:A.handled=none) (e0:Env0 P w K mg base A outer s H) (hl:vs.length=ps.length) (r:Vals vs us)
  (x:InCallC s s.heap.objs.size (bindL (envOfC qual scope s.heap.objs.size f cd).kindOf (ps.zip us) λ_=>none) (cellsFrom (s.heap.objs.size+1) scope.names []) (bindC (envOfC qual scope s.heap.objs.size f cd).kindOf (ps.zip us) λ_=>none) s1):
  Inv (zx CX P w K mg base N qual scope f cd A outer s H E) [] (start N vs) H s1:=by
 have b9:ps.length<=N.length:=by have:=congrArg List.length S.pre;rw[Xx]at this;lia
 obtain⟨h1,tk,rfl,hk⟩:=x.done;have ph:∀b:Addr,b∉(zx CX P w K mg base N qual scope f cd A outer s H E).ex:=λb z=>absurd (show b∈([]:List Addr)from z) (by simp)
 refine⟨⟨e0.mod,S.kind,rfl,rfl,Xa _,λy z c h1 h2=>?_,λy hy=>?_,λy c _ h=>?_,λ_=>hd,Around.frames_deeper e0.frames,.inr ⟨rfl,rfl⟩,λb z=>absurd z (ph b),e0.bs,e0.bsz,λb _ _=>ph b,λb z=>absurd z (ph b),e0.funs,e0.frf⟩,
  rfl,e0.bare,Un.kept hk,⟨_,x.toInCall.ns,λi y v h1 h2 h3=>?_⟩,λy c h=>⟨_,x.cell y c h⟩,e0.hok.fresh (Xa _),λy c h=>?_,λp hp=>absurd (show p∈([]:LA9)from hp) (by simp),e0.hok.kept hk,?_⟩
 ·exact name_of_addr x.apart (Yz h1) (Yz h2)
 ·have hy:scope.names.lookup y=some .cell\/scope.names.lookup y=some .free:=hy;rcases hy with hy|hy
  ·exact kz9 hy
  ·exact absurd rfl (S.nofree _ (Yz hy))
 ·exact Nat.le_of_lt (x.above y c (Yz h))
 ·have hi:i<vs.length:=by
   unfold start at h2
   by_cases hi:i<vs.length
   ·exact hi
   ·rw[List.getElem?_append_right (by simpa using hi)]at h2;rw[List.getElem?_replicate]at h2
    split at h2<;>cases h2
  have ha:vs[i]?=some v:=by
   unfold start at h2;rw[Yi (by simpa using hi),Xp]at h2;cases e:vs[i]? with|none=>rw[e]at h2;cases h2|some a=>rw[e]at h2;cases h2;rfl
  obtain⟨u,hu,rv⟩:=r.get ha;have hp:ps[i]?=some y:=by
   rw[<-S.pre,List.getElem?_take_of_lt ⋯];exact h1
  have ndP:ps.Nodup:=by rw[<-S.pre];exact S.nd.sublist (List.take_sublist _ _)
  refine⟨u,rv,?_⟩;rcases S.par y (Xz hp)with k|k
  ·exact .inl ⟨k,kv9 ndP hp hu k⟩
  ·obtain⟨c,e⟩:=kz9 (n:=s.heap.objs.size+1) k;refine .inr ⟨.inl k,c,e,?_⟩;have q:=x.cell y c e;rw[kvb ndP hp hu (by show scope.names.lookup y≠_;rw[k];decide)]at q;exact q
 ·exact e0.hok.fresh (Nat.le_of_lt (x.above y c (Yz h)))
 ·unfold start;show _=N.length;rw[Xv,X3,Z2];lia
theorem wwl{CX:CXT}{P:Program}{w:World}{K:Frag}{mg:Str->Option Value}{base:Heap}{k:Nat}{f:Addr}{name qual:Str}{params:Arguments}{body:List Stmt}{scope:Scope}{dV kV fq pm bi ct oc:Value}{an od:Option Addr}
  {lh:Array (Option Value)} {N ps:List Str} {sp:Sp} (lk:K.lookup f=some ⟨oc,od,.func (PySem.W.fnOf name qual params body scope dV kV fq pm an bi ct),lh⟩) (gc:PySem.W.codeIn K bi qual=true) (S:FnScope N ps scope)
  (len:∀vs H Q E,sp vs H Q E->vs.length=ps.length)
  (jh:∀(A:Around) (outer:List Env) (s:Shared) (H:Hp) (vs:List V) (Q:VK) (E:XK),Room k (A.deeper (envOfC qual scope s.heap.objs.size f bi))->sp vs H Q E ->
   ∃t,PSs (zx CX P w K mg base N qual scope f bi A outer s H E) body t/\t { nx:=λ_ H'=>Q .non H',rt:=Q } (start N vs) H):
  FnOk P w K mg base CX (k+1) f (PySem.W.fnOf name qual params body scope dV kV fq pm an bi ct) ps sp:=by
 refine⟨len,λA outer s H args us vs Q E hr e0 hb r jr=>?_⟩;have hl:=len _ _ _ _ jr;have KX:K.In s.heap:=e0.mod.kin.keeps λb o e=>(e0.bs b o e).1
 have lim:s.heap.NoLimit:=e0.mod.nolimit.keeps λb o e=>(e0.bs b o e).1
 have ql:∀y∈ps.zip us,scope.names.lookup y.1=some .local\/(scope.names.lookup y.1=some .cell/\((cellsFrom (s.heap.objs.size+1) scope.names []).lookup y.1).isSome=true):=λ⟨n,v⟩ hy=>by
  rcases S.par n (List.of_mem_zip hy).1 with q|q
  ·exact .inl q
  ·exact .inr ⟨q,PySem.W.cellsFrom_some _ _ _ (.inl q)⟩
 refine codeAny_call_function hr.depth (KX _ _ lk) rfl S.co S.gen rfl (PySem.W.codeRec_of KX gc) (hb _ _ _ _ ?_);refine wpAny_newFunctionEnv_cells S.kind ql λenv he s1 x=>?_
 subst he;refine⟨lim.keeps x.toInCall.keep,codeAny_func ?_⟩;obtain⟨t,ht,hq⟩:=jh A outer s H vs Q E (hr.deeper _) jr;have I:Inv (zx CX P w K mg base N qual scope f bi A outer s H E) [] (start N vs) H s1:=qvc S hr.hd e0 hl r x;refine Zj (ht [] s1 (start N vs) H _ I hq) (λfl s' hs=>?_) λe s' hs=>hs
 have fin:∀{σ':St} {H':Hp} {v:V} {u:Value},Inv (zx CX P w K mg base N qual scope f bi A outer s H E) [] σ' H' s'->RelV v u->Q v H'->CE outer P w H s Q u s':=
  fun {σ' H' v u} J rv q=>⟨v,H',J.os,J.bare,J.base,J.hok,rv,q⟩
 cases fl with
 |ret u=>
  obtain⟨v,σ',H',J,rv,q⟩:=hs;exact fin J rv q
 |next=>
  obtain⟨σ',H',J,q⟩:=hs;exact fin (v:=V.non) (u:=Value.none) J rfl q
 |brk=>
  obtain⟨_,_,_,q⟩:=hs;exact False.elim q
 |cont=>
  obtain⟨_,_,_,q⟩:=hs;exact False.elim q
section
variable {X:Cx}{x:Str}{p pos:Pos}{e:Expr}{es:List Expr}{t:TA}{id T:String}{r:List V->Hp->VK->Prop}
abbrev tCB(r:List V->Hp->VK->Prop)(t:TA):TE:=fun σ H Q=>t σ H λvs H1=>r vs H1 Q
theorem kk6(hc:CallR X (.builtin id) r)(hg:Gl X x)(hm:X.mg x=none)(hv:bootBuiltins x=some (.builtin id))(ha:PA X (e::es) t)(hn:autoParam (x≠"__name__") ŕ)(d8:autoParam ((x==("__debug__":Str))=false) ŕ)
  (he:autoParam (starEach (e::es) X.env=(false,eval e X.env)::starEach es X.env) Ŕ) (b9:autoParam ((backTo pos (starEach es X.env)).any (·.1)=false) Ŕ):PE X (.Call (.Name x p) (e::es) [] pos) (tCB r t):=by
 intro pins s σ H Q I h;refine Yj (xQ I hg hm hv ?_ hn d8);exact PyProof.Rows.callWith_builtin1 (thn (ha pos pins s σ H _ I h) λus s1 ⟨vs,H1,I1,r1,q1⟩=>hc pins s1 σ H1 vs us Q I1 r1 q1) he b9
theorem qqa(hc:CallR X (.type T) r)(hg:Gl X x)(hm:X.mg x=none)(hv:bootBuiltins x=some (.type T))(ha:PA X (e::es) t)(hn:autoParam (x≠"__name__") ŕ)(d8:autoParam ((x==("__debug__":Str))=false) ŕ)
  (he:autoParam (starEach (e::es) X.env=(false,eval e X.env)::starEach es X.env) Ŕ) (b9:autoParam ((backTo pos (starEach es X.env)).any (·.1)=false) Ŕ):PE X (.Call (.Name x p) (e::es) [] pos) (tCB r t):=by
 intro pins s σ H Q I h;refine Yj (xQ I hg hm hv ?_ hn d8);exact Y0 (thn (ha pos pins s σ H _ I h) λus s1 ⟨vs,H1,I1,r1,q1⟩=>hc pins s1 σ H1 vs us Q I1 r1 q1) he b9
end
end L2
namespace HT
open PySem PyProof.Rows
section
variable {prog:Program}{w:World}{A:Around}{E:VP9}{s:Shared}
theorem cat_tup{t b:Addr}{vs ws:List Value}{Q:VP9}(ht:IsTup s.heap t vs.toArray)(hb:IsTup s.heap b ws.toArray)(hv:vs≠[])
  (h1:ws=[]->Q (.ref t) s) (h2:ws≠[]->Q (.ref s.heap.objs.size) { s with heap:=s.heap.push { cls:=.type "tuple",data:=.seq (vs++ws).toArray } })
  (hsz:vs.length+ws.length<=sizeLine):wpAny (model prog w) A (binaryOp .Add (.ref t) (.ref b)) Q E s:=by
 obtain⟨⟨cls,dd,data,sl⟩,ho,hc,n,hd⟩:=id ht;obtain⟨⟨cls2,dd2,data2,nr⟩,ho2,ly,n2,gm⟩:=id hb;simp only at hc hd ly gm;subst hc hd ly gm;have e:vs.toArray++ws.toArray=(vs++ws).toArray:=by simp
 by_cases hw:ws=[]
 ·exact concat_meets ⟨_,ho,rfl⟩ ⟨_,ho2,rfl⟩ noFill_tuple_add seq_tuple_add PySem.F.slot_tuple_add PySem.F.entry_tuple_add (PySem.F.args_tuple_add_2 _ _)
   (tuple_addW1 t b vs.toArray ws.toArray n n2 dd dd2 sl nr (by simpa using hv) (by simp[hw])) ⟨ho,ho2,h1 hw⟩
 ·refine concat_meets ⟨_,ho,rfl⟩ ⟨_,ho2,rfl⟩ noFill_tuple_add seq_tuple_add PySem.F.slot_tuple_add PySem.F.entry_tuple_add (PySem.F.args_tuple_add_2 _ _)
   (tuple_addW2 t b vs.toArray ws.toArray n n2 dd dd2 sl nr (by simpa using hv) (by simpa using hw) (by rw[X8,X8];exact hsz)) ⟨ho,ho2,?_⟩
  rw[e];exact h2 hw
def sIx(n d:Nat):Option Int->Nat
 |none=>d|some v=>if v<0 then(v+(n:Int)).toNat else min v.toNat n
theorem vx9(n d:Nat)(hd:d<=n)(o:Option Int):sIx n d o<=n:=by
 cases o with
 |none=>exact hd
 |some v=>
  show(if v<0 then(v+(n:Int)).toNat else min v.toNat n)<=n
  by_cases hv:v<0
  ·rw[X7 hv];lia
  ·rw[X9 hv];exact Nat.min_le_right _ _
theorem qwa(v:Int)(n d:Nat):(if v<0 then max (v+(n:Int)) 0 else min v (n:Int))=((sIx n d (some v):Nat):Int):=by
 show(if v<0 then max (v+(n:Int)) 0 else min v (n:Int))=(((if v<0 then(v+(n:Int)).toNat else min v.toNat n):Nat):Int)
 by_cases hv:v<0
 ·simp only[X7 hv];lia
 ·simp only[X9 hv];lia
theorem qjf(lo hi:Option Int)(n:Nat):Builtin.Slice.sliceAdjust lo hi 1 (n:Int)=(((sIx n 0 lo:Nat):Int),((sIx n n hi:Nat):Int)):=by
 have h1:¬((1:Int)<0):=⋯
 unfold Builtin.Slice.sliceAdjust;simp only[h1,if_false];refine Prod.ext ?_ ?_
 ·cases lo with|none=>rfl|some v=>exact qwa v n 0
 ·cases hi with|none=>rfl|some v=>exact qwa v n n
theorem kzs(i j:Nat):Builtin.Slice.slicePlaces (i:Int) (j:Int) 1=j - i:=by
 unfold Builtin.Slice.slicePlaces;have h1:(1:Int)>0:=⋯
 simp only[h1,if_true,Int.ediv_one]
 split<;>lia
theorem kj6{v:Value}{o:Option Int}{Q:Option Int->Shared->Prop}(p:IsPart v o)(h:Q o s):wpAny (model prog w) A (Builtin.Slice.slicePartIndex v) Q E s:=by
 cases p with|none=>exact slicePart_none h|int i t=>exact slicePart_int h
theorem jqx{sl:Addr}{vl vu:Value}{lo hi:Option Int}{n:Nat}{Q:Int×Int×Nat->Shared->Prop}(hs:s.heap.IsSliceOf sl vl vu .none)(pl:IsPart vl lo)(pu:IsPart vu hi)
  (h:Q (((sIx n 0 lo:Nat):Int),1,sIx n n hi - sIx n 0 lo) s):wpAny (model prog w) A (Builtin.Slice.sliceApplied (.ref sl) (pure (n:Int))) Q E s:=by
 obtain⟨os,gq,hcs,ba⟩:=id hs;unfold Builtin.Slice.sliceApplied Builtin.Slice.sliceFields;refine X0 (X0 (Zn gq ba (x:=vl) rfl (X0 (Zn gq ba (x:=vu) rfl (X0 (Zn gq ba (x:=.none) rfl (X1 ?_)))))));refine X0 (slicePart_none ?_);show wpAny _ _ (if((1:Int)==0)=true then _ else _) _ _ s;rw[X9 ⋯];refine X0 (kj6 pl (X0 (kj6 pu (X0 (X1 ?_)))));show wpAny _ _ (match Builtin.Slice.sliceAdjust lo hi 1 (n:Int)with|(lo,hi)=>pure (lo,(1:Int),Builtin.Slice.slicePlaces lo hi 1)) _ _ s;rw[qjf lo hi n];show wpAny _ _ (pure (((sIx n 0 lo:Nat):Int),(1:Int),Builtin.Slice.slicePlaces ((sIx n 0 lo:Nat):Int) ((sIx n n hi:Nat):Int) 1)) _ _ s;rw[kzs];exact X1 h
theorem qxy(xs:Array Value)(i k:Nat):((List.range k).filterMap λ(m:Nat)=>xs[((i:Int)+(m:Int)*1).toNat]?).toArray=((xs.toList.drop i).take k).toArray:=by
 have e:(λ(m:Nat)=>xs[((i:Int)+(m:Int)*1).toNat]?)=λm=>xs[i+m]?:=by
  funext m;have:((i:Int)+(m:Int)*1).toNat=i+m:=⋯
  rw[this]
 rw[e];have:=pick_run xs i k;rw[List.filterMap_map]at this;have e2:((λx=>xs[x]?)∘λx=>i+x)=λm=>xs[i+m]?:=rfl
 rw[e2]at this;rw[this]
theorem getItem_tuple_cut{t sl:Addr}{items:Array Value}{vl vu:Value}{lo hi:Option Int}{Q:VP9}(ht:IsTup s.heap t items)(hs:s.heap.IsSliceOf sl vl vu .none)(pl:IsPart vl lo)(pu:IsPart vu hi)
  (hw:¬(sIx items.size 0 lo=0/\sIx items.size items.size hi=items.size))
  (h:Q (.ref s.heap.objs.size) { s with heap:=s.heap.push { cls:=.type "tuple",data:=.seq ((items.toList.drop (sIx items.size 0 lo)).take (sIx items.size items.size hi - sIx items.size 0 lo)).toArray } })
  (hsz:items.size<=sizeLine):wpAny (model prog w) A (getItem (.ref t) (.ref sl)) Q E s:=by
 have i8:sizeOk (.seq ((items.toList.drop (sIx items.size 0 lo)).take (sIx items.size items.size hi - sIx items.size 0 lo)).toArray):=by
  show((items.toList.drop (sIx items.size 0 lo)).take (sIx items.size items.size hi - sIx items.size 0 lo)).toArray.size<=sizeLine;rw[X8,Xx,Ys,X4];lia
 have hj:sIx items.size items.size hi<=items.size:=vx9 _ _ (Xa _) hi;obtain⟨os,gq,hcs,ba⟩:=id hs;have hTs:s.TypeIs (.ref sl) "slice":=⟨os,gq,hcs⟩;unfold getItem
 try with_reducible refine Xw ?_
 first|refine X0 (X1 ?_)|skip
 refine X0 (wpAny_sequenceKey ht.typeIs ⋯ ?_);refine X0 (Yp (name:=Str.ofString "__getitem__") ht.typeIs Z1
  (Y9 Z1 ht.typeIs entry_tuple_getitem ?_ (args_tuple_getitem _ _)))
 show wpAny _ _ (Builtin.Tuple.tupleItemsOf (.ref t) >>= _) _ _ s;refine X0 (tupleItemsOf_ ht ?_);refine X0 (Z8 hTs ?_);rw[X7 ⋯];refine X0 (jqx hs pl pu ?_);have fy:¬((((sIx items.size 0 lo:Nat):Int)==0&&(1:Int)==1&&(sIx items.size items.size hi - sIx items.size 0 lo)==items.size)=true):=by
  intro q;rw[Bool.and_eq_true,Bool.and_eq_true]at q;have q1:((sIx items.size 0 lo:Nat):Int)=0:=eq_of_beq q.1.1;have q2:sIx items.size items.size hi - sIx items.size 0 lo=items.size:=eq_of_beq q.2;exact hw ⟨⋯,⋯⟩
 show wpAny _ _ (if(((sIx items.size 0 lo:Nat):Int)==0&&(1:Int)==1&&(sIx items.size items.size hi - sIx items.size 0 lo)==items.size)=true then _ else _) _ _ s;rw[X9 fy,qxy]
 first
  |exact X0 (m:=Builtin.Tuple.tupleExact _) (Xy (X1 ⟨_,rfl,X1 h⟩) i8)
  |exact X0 (m:=Builtin.Tuple.tupleExact _) (Xy (X0 (X1 (X1 ⟨_,rfl,X1 h⟩))) i8)
  |exact X0 (X0 (m:=Builtin.Tuple.tupleExact _) (Xy (X1 (X1 ⟨_,rfl,X1 h⟩)) i8))
  |exact X0 (X0 (m:=Builtin.Tuple.tupleExact _) (Xy (X1 ⟨_,rfl,X1 h⟩) i8))
end
end HT
namespace L2
open PySem PySem.Spec PyProof.Rows
abbrev TO:=St->Hp->(Option Int->Hp->Prop)->Prop
def PO(X:Cx)(e:Option Expr)(t:TO):Prop:=
 ∀(pins:LA9) (s:Shared) (σ:St) (H:Hp) (Q:Option Int->Hp->Prop),Inv X pins σ H s->t σ H Q ->
  wpAny (model X.prog X.w) X.A (evalPart e X.env) (λu s'=>∃o H',Inv X pins σ H' s'/\IsPart u o/\Q o H') X.xe s
abbrev qjz:TO:=λ_ H Q=>Q none H
abbrev vwx(t:TE):TO:=fun σ H Q=>t σ H λx H1=>∃i,x=.int i/\Q (some i) H1
theorem kjg{ns:List Int}:∀{us:List Value},Vals (ns.map V.int) us->IntsAre us ns:=by
 induction ns with
 | nil=>intro us r;rw[List.map_nil]at r;cases r;exact .nil
 | cons n ns ih=>
  intro us r;rw[List.map_cons]at r;cases r with
  |cons r1 r2=>
   obtain⟨t,e⟩:=r1;subst e;exact .cons n t (ih r2)
section
variable {X:Cx}{e:Expr}{te:TE}{lo hi:Option Expr}{tl th:TO}{pos p2:Pos}
theorem vqh:PO X none qjz:=by
 intro pins s σ H Q I h;rw[evalPart_none];exact X1 ⟨none,H,I,.none,h⟩
theorem vqf(h:PE X e te):PO X (some e) (vwx te):=by
 intro pins s σ H Q I hw;rw[evalPart_some];refine thn (h pins s σ H _ I hw) λu s1 ⟨x,H1,I1,r1,q1⟩=>?_
 obtain⟨i,rfl,q⟩:=q1;obtain⟨t,rfl⟩:=r1;exact⟨some i,H1,I1,.int i t,q⟩
noncomputable def SlR(X:Cx)(r:V->Option Int->Option Int->Hp->VK->Prop):Prop:=
 ∀(pins:LA9) (s:Shared) (σ:St) (H:Hp) (x:V) (v vl vu:Value) (lo hi:Option Int) (sl:Addr) (Q:VK),Inv X pins σ H s->RelV x v->s.heap.IsSliceOf sl vl vu .none->IsPart vl lo->IsPart vu hi->r x lo hi H Q ->
  ∃T id,typeLookup (.type T) "__getitem__"=pure (some (.builtin id))/\s.TypeIs v T/\wpAny (model X.prog X.w) X.A (getItem v (.ref sl)) (EP X pins σ Q) X.xe s
theorem SlR.or{r r':V->Option Int->Option Int->Hp->VK->Prop}(h:SlR X r)(h':SlR X r'):SlR X (λx lo hi H Q=>r x lo hi H Q\/r' x lo hi H Q):=by
 intro pins s σ H x v vl vu lo hi sl Q I rx hs pl pu q;rcases q with q|q
 ·exact h pins s σ H x v vl vu lo hi sl Q I rx hs pl pu q
 ·exact h' pins s σ H x v vl vu lo hi sl Q I rx hs pl pu q
abbrev tSl(r:V->Option Int->Option Int->Hp->VK->Prop)(te:TE)(tl th:TO):TE:=fun σ H Q=>te σ H λx H1=>tl σ H1 λl H2=>th σ H2 λu H3=>r x l u H3 Q
theorem kxf{r:V->Option Int->Option Int->Hp->VK->Prop}(hr:SlR X r)(he:PE X e te)(hl:PO X lo tl)(hu:PO X hi th):PE X (.Subscript e (.Slice lo hi none p2) pos) (tSl r te tl th):=by
 intro pins s σ H Q I h;refine Subscript_ (thn (he pins s σ H _ I h) λv s1 ⟨x,H1,I1,r1,q1⟩=>?_);refine wpAny_Slice (thn (hl pins s1 σ H1 _ I1 q1) λvl s2 ⟨l,H2,I2,pl,q2⟩=>thn (hu pins s2 σ H2 _ I2 q2) λvu s3 ⟨u,H3,I3,pu,q3⟩=>?_);rw[evalPart_none];refine X1 ?_;have I4:Inv X pins σ H3 { s3 with heap:=s3.heap.push { cls:=.type "slice",data:=.fields #[vl,vu,.none] } }:=I3.kept (t':=s3.toks) λb ob q=>X2 _ q
 obtain⟨T,id,hT,ht,hg⟩:=hr pins { s3 with heap:=s3.heap.push { cls:=.type "slice",data:=.fields #[vl,vu,.none] } } σ H3 x v vl vu l u s3.heap.objs.size Q I4 r1 (Heap.IsSliceOf.new ..) pl pu q3;show wpAny (model X.prog X.w) X.A (subscriptTail e (.Slice lo hi none p2) v (.ref s3.heap.objs.size)) (EP X pins σ Q) X.xe { s3 with heap:=s3.heap.push { cls:=.type "slice",data:=.fields #[vl,vu,.none] } };exact tail_any (ops:=[.ref s3.heap.objs.size,v]) ht hT hg (by ac_rfl)
def Kx(xs:List V)(lo hi:Option Int):List V:=(xs.drop (HT.sIx xs.length 0 lo)).take (HT.sIx xs.length xs.length hi - HT.sIx xs.length 0 lo)
theorem jzp(xs:List V)(lo hi:Option Int):(Kx xs lo hi).length<=xs.length:=by
 unfold Kx;rw[Xx,Ys];lia
def wxb(K:Frag):V->Option Int->Option Int->Hp->VK->Prop:=λx lo hi H Q=>∃a xs,x=.ref a/\SqT K H a xs /\
 ¬(HT.sIx xs.length 0 lo=0/\HT.sIx xs.length xs.length hi=xs.length)/\∀p,H p=none->Q (.ref p) (upd H p (.tup (Kx xs lo hi)))
theorem sl_tup:SlR X (wxb X.K):=by
 intro pins s σ H x v vl vu lo hi sl Q I rx hs pl pu h;obtain⟨a,xs,rfl,hx,hw,q⟩:=h;cases rx;obtain⟨ac,r,ht,hz⟩:=I.tuple hx;have ah:ac.toArray.size=xs.length:=by rw[X8];exact r.length.symm
 refine⟨"tuple",_,PyProof.Rows.slot_tuple_getitem.lookup,ht.typeIs,?_⟩;refine HT.getItem_tuple_cut ht hs pl pu (by rw[ah];exact hw) ?_ (by rw[ah];exact hz);rw[ah];refine⟨.ref s.heap.objs.size,_,I.laid (t':=s.toks) (o:=.tup (Kx xs lo hi)) (λb ob q=>X2 _ q) (Xa _) ?_,rfl,q _ (I.hok.fresh (Xa _))⟩;exact⟨Yn (jzp xs lo hi) hz,_,(r.drop (HT.sIx xs.length 0 lo)).take (HT.sIx xs.length xs.length hi - HT.sIx xs.length 0 lo),IsTupD.new _ _⟩
def vxm(K:Frag):R2:=λx y H Q=>∃a b xs ys,x=.ref a/\y=.ref b/\SqT K H a xs/\SqT K H b ys/\xs≠[]/\xs.length+ys.length<=sizeLine /\
 (ys=[]->Q (.ref a) H)/\(ys≠[]->∀p,H p=none->Q (.ref p) (upd H p (.tup (xs++ys))))
theorem Vals.nil_iff{xs:List V}{us:List Value}(r:Vals xs us):us=[]↔xs=[]:=by
 cases r with|nil=>simp|cons _ _=>simp
theorem vqr:OpR X (binaryOp .Add) (vxm X.K):=by
 intro pins s σ H x y v u Q I rx ry h;obtain⟨a,b,xs,ys,rfl,rfl,ha,hb,hx,hz,q1,q2⟩:=h;cases rx;cases ry;obtain⟨ac,r1,p1,_⟩:=I.tuple ha;obtain⟨fc,r2,p2,_⟩:=I.tuple hb;refine HT.cat_tup p1 p2 (λz=>hx (r1.nil_iff.mp z)) (λz=>⟨.ref a,H,I,rfl,q1 (r2.nil_iff.mp z)⟩) (λz=>?_) (by rw[<-r1.length,<-r2.length];exact hz);refine⟨.ref s.heap.objs.size,_,I.laid (t':=s.toks) (o:=.tup (xs++ys)) (λb ob q=>X2 _ q) (Xa _) ?_,rfl,q2 (λw=>z (r2.nil_iff.mpr w)) _ (I.hok.fresh (Xa _))⟩;exact⟨by rw[Xv];exact hz,_,r1.append r2,IsTupD.new _ _⟩
end
def ixN(n:Nat)(i:Int):Option Nat:=if 0<=i then(if i<n then some i.toNat else none)else if -(n:Int)<=i then some (i+n).toNat else none
def atI{α:Type}(xs:List α)(i:Int):Option α:=(ixN xs.length i).bind λj=>xs[j]?
theorem qv9{n:Nat}{i:Int}{j:Nat}(h:ixN n i=some j):seqIndex? i n=some j/\j<n/\-(n:Int)<=i/\i<n:=by
 unfold ixN at h
 by_cases h0:0<=i
 ·rw[X7 h0]at h
  by_cases h1:i<n
  ·rw[X7 h1]at h;have e:i.toNat=j:=oq9 h;exact⟨by rw[seqIndex_of h0 h1,e],⋯,⋯,h1⟩
  ·rw[X9 h1]at h;cases h
 ·rw[X9 h0]at h
  by_cases h1:-(n:Int)<=i
  ·rw[X7 h1]at h;have e:(i+n).toNat=j:=oq9 h;exact⟨by rw[seqIndex_neg ⋯ h1,e],⋯,h1,⋯⟩
  ·rw[X9 h1]at h;cases h
theorem kwl{α:Type}{xs:List α}{i:Int}{v:α}(h:atI xs i=some v):∃j,seqIndex? i xs.length=some j/\xs[j]?=some v/\j<xs.length/\-(xs.length:Int)<=i/\i<xs.length:=by
 unfold atI at h;cases e:ixN xs.length i with
 |none=>rw[e]at h;cases h
 |some j=>
  rw[e]at h;obtain⟨h1,h2,h3,h4⟩:=qv9 e;exact⟨j,h1,h,h2,h3,h4⟩
def kwn(b:Expr):Prop:=∀o i,subscripted b false o i=operate [o,i] (getItem o i)
noncomputable def IxR(X:Cx)(r:R2):Prop:=
 ∀(value slice:Expr) (pins:LA9) (s:Shared) (σ:St) (H:Hp) (x y:V) (v u:Value) (Q:VK),Inv X pins σ H s->RelV x v->RelV y u->r x y H Q ->
  subscripted slice false v u=operate [v,u] (getItem v u)->wpAny (model X.prog X.w) X.A (subscriptTail value slice v u) (EP X pins σ Q) X.xe s
noncomputable def MtR(X:Cx)(id:String)(r:V->List V->Hp->VK->Prop):Prop:=
 ∀(pins:LA9) (s:Shared) (σ:St) (H:Hp) (x:V) (xs:List V) (v:Value) (us:List Value) (Q:VK),Inv X pins σ H s->RelV x v->Vals xs us->r x xs H Q ->
  wpAny (model X.prog X.w) X.A (call (.builtin id) (v::us)) (EP X pins σ Q) X.xe s
section
variable {X:Cx}{a b:Expr}{ta tb:TE}{pos:Pos}
theorem IxR.or{r r':R2}(h:IxR X r)(h':IxR X r'):IxR X (λx y H Q=>r x y H Q\/r' x y H Q):=by
 intro value slice pins s σ H x y v u Q I rx ry q hs;rcases q with q|q
 ·exact h value slice pins s σ H x y v u Q I rx ry q hs
 ·exact h' value slice pins s σ H x y v u Q I rx ry q hs
theorem wvy{r:R2}(hr:IxR X r)(ha:PE X a ta)(hb:PE X b tb)(hs:kwn b):PE X (.Subscript a b pos) (tOp r ta tb):=by
 intro pins s σ H Q I h;exact Subscript_ (wx2 ha hb I h λv u s2 x y H2 I2 rx ry q=>hr a b pins s2 σ H2 x y v u Q I2 rx ry q (hs _ _))
def wxh(K:Frag):R2:=λx y H Q=>∃p xs i v,x=.ref p/\y=.int i/\SqL K H p xs/\atI xs i=some v/\Q v H
def wxf(K:Frag):R2:=λx y H Q=>∃p xs i v,x=.ref p/\y=.int i/\SqT K H p xs/\atI xs i=some v/\Q v H
def wxg:R2:=λx y H Q=>∃z i c,x=.str z/\y=.int i/\z.length<=sizeLine/\atI z.cps.toList i=some c/\Q (.str ⟨#[c]⟩) H
theorem ix_list:IxR X (wxh X.K):=by
 intro value slice pins s σ H x y v u Q I rx ry h hs;obtain⟨p,xs,i,z,rfl,rfl,hq,he,q⟩:=h;cases rx;obtain⟨t,rfl⟩:=ry;obtain⟨ac,r,pl,hz⟩:=I.list hq;obtain⟨j,h1,h2,h3,h4,h5⟩:=kwl he;obtain⟨w,ew,iy⟩:=r.get h2;have hl:=r.length;have hn:=KJ;have fin:EP X pins σ Q w s:=⟨z,H,I,iy,q⟩
 by_cases h0:0<=i
 ·have hj:i.toNat=j:=by
   rw[seqIndex_of h0 h5]at h1;exact oq9 h1
  exact item_listR pl.isList h0 ⋯ (by rw[hj];simpa using ew) fin hs
 ·have hj:(i+(ac.toArray.size:Int)).toNat=j:=by
   rw[seqIndex_neg ⋯ h4]at h1;rw[X8,<-hl];exact oq9 h1
  exact subscriptTail_builtinR (x:=w) pl.isList.typeIs slot_list_getitem.lookup
   (wpAny_getItem_list_neg (Q:=λr s'=>r=w/\EP X pins σ Q r s') pl.isList ⋯ (by rw[X8]<;>lia) ⋯ (by rw[hj];simpa using ew) ⟨rfl,fin⟩) hs
theorem ix_tup:IxR X (wxf X.K):=by
 intro value slice pins s σ H x y v u Q I rx ry h hs;obtain⟨p,xs,i,z,rfl,rfl,hq,he,q⟩:=h;cases rx;obtain⟨t,rfl⟩:=ry;obtain⟨ac,r,pl,hz⟩:=I.tuple hq;obtain⟨j,h1,h2,h3,h4,h5⟩:=kwl he;obtain⟨w,ew,iy⟩:=r.get h2;have hl:=r.length;have hn:=KJ;have fin:EP X pins σ Q w s:=⟨z,H,I,iy,q⟩;exact subscriptTail_builtinR (x:=w) pl.typeIs slot_tuple_getitem.lookup
  (getItem_tuple (j:=j) (Q:=λr s'=>r=w/\EP X pins σ Q r s') pl ⋯ ⋯ (by rw[X8,<-hl];exact h1) (by simpa using ew) ⟨rfl,fin⟩) hs
theorem wjx:IxR X wxg:=by
 intro value slice pins s σ H x y v u Q I rx ry h hs;obtain⟨z,i,c,rfl,rfl,hz,he,q⟩:=h;obtain⟨t,rfl⟩:=rx;obtain⟨t',rfl⟩:=ry;obtain⟨j,h1,h2,h3,h4,h5⟩:=kwl he;have hl:z.cps.toList.length=z.length:=by simp[Str.length]
 rw[hl]at h1 h4 h5;have hn:=KJ;exact tail_any (typeIs_str s z t) slot_str_getitem.lookup (getItem_str (c:=c) (by
  have e1:decide (i < -(2 ^ 63:Int))=false:=Xl ⋯;have e2:decide (i>=2 ^ 63)=false:=Xl ⋯;rw[e1,e2,Bool.or_false]) (by rw[h1];simpa using h2) ⟨.str ⟨#[c]⟩,H,I.tok _,⟨_,rfl⟩,q⟩) hs
def rIx(K:Frag):R2:=λx y H Q=>wxh K x y H Q\/wxf K x y H Q\/wxg x y H Q
theorem wjy:IxR X (rIx X.K):=ix_list.or (ix_tup.or wjx)
theorem qj1(ac:List Value)(n j:Nat)(u:Value):Obj.mapSeq (·.setIfInBounds j u) { cls:=.type "list",data:=.seq ac.toArray n }={ cls:=.type "list",data:=.seq (ac.set j u).toArray n }:=by
 simp[Obj.mapSeq]
theorem Inv.lst{pins:LA9}{σ:St}{H:Hp}{s:Shared}{p:Addr}{xs:List V}(I:Inv X pins σ H s)(h:H p=some (.lst xs)):
  ∃(ac:List Value) (n:Nat),Vals xs ac/\s.heap.get? p=some { cls:=.type "list",data:=.seq ac.toArray n }/\xs.length<=sizeLine:=by
 obtain⟨z,ac,n,r,e⟩:=I.hok p _ h;exact⟨ac,n,r,e,z⟩
theorem Inv.lstUpd{pins:LA9}{σ:St}{H:Hp}{s:Shared}{p:Addr}{xs ys:List V}{ac its':List Value}{n n':Nat}{f:Obj->Obj}(I:Inv X pins σ H s)(h:H p=some (.lst xs))
  (ho:s.heap.get? p=some { cls:=.type "list",data:=.seq ac.toArray n }) (hf:f { cls:=.type "list",data:=.seq ac.toArray n }={ cls:=.type "list",data:=.seq its'.toArray n' }) (r:Vals ys its') (hz:ys.length<=sizeLine) (t:Nat):
  Inv X pins σ (upd H p (.lst ys)) { s with heap:=s.heap.update p f,toks:=t }:=by
 have e:(s.heap.update p f).get? p=some { cls:=.type "list",data:=.seq its'.toArray n' }:=by
  rw[Y8 f ho (by rw[hf]<;>rfl),hf]
 refine I.write (x:=p) (e:=p) (by rw[h];trivial) (.inl rfl) (λb u hb q=>(Z9 _ _ (Ne.symm hb)).trans q) ⟨_,e⟩ ?_;exact⟨hz,its',n',r,e⟩
def wve:V->V->V->Hp->(Hp->Prop)->Prop:=λo i v H Q=>∃p xs k j,o=.ref p/\i=.int k/\H p=some (.lst xs)/\ixN xs.length k=some j/\Q (upd H p (.lst (xs.set j v)))
theorem qxm:wz2 X wve:=by
 intro pins s σ H o i v ov iv u Q I ro ri rv h;obtain⟨p,xs,k,j,rfl,rfl,hp,hj,q⟩:=h;cases ro;obtain⟨t,rfl⟩:=ri;obtain⟨ac,n,r,ho,hz⟩:=I.lst hp;obtain⟨h1,h2,h3,h4⟩:=qv9 hj;have hl:=r.length;have hn:=KJ;have I':Inv X pins σ (upd H p (.lst (xs.set j v))) { s with heap:=s.heap.update p (Obj.mapSeq (·.setIfInBounds j u)) }:=
  I.lstUpd hp ho (qj1 ac n j u) (r.set rv j) (by rw[Zd];exact hz) s.toks
 by_cases h0:0<=k
 ·have hk:k.toNat=j:=by
   rw[seqIndex_of h0 h4]at h1;exact oq9 h1
  exact PySem.W.ki_setAt ho h0 ⋯ (by rw[X8,<-hl];exact h4) (by rw[hk];exact⟨_,I',q⟩)
 ·have hk:(k+(ac.toArray.size:Int)).toNat=j:=by
   rw[seqIndex_neg ⋯ h3]at h1;rw[X8,<-hl];exact oq9 h1
  exact PySem.W.ki_setBack ho ⋯ (by rw[X8,<-hl];exact h3) ⋯ (by rw[hk];exact⟨_,I',q⟩)
theorem kq3(lo hi:Option Int)(n:Nat):(sliceBounds lo hi none n).1=((HT.sIx n 0 lo:Nat):Int)/\(sliceBounds lo hi none n).2.1=((HT.sIx n n hi:Nat):Int)/\(sliceBounds lo hi none n).2.2=1:=by
 refine⟨?_,?_,rfl⟩
 ·cases lo with
  |none=>simp[sliceBounds,HT.sIx]
  |some i=>
   simp only[sliceBounds,HT.sIx,Option.getD_none,show(1:Int)>0 by decide,if_true]
   by_cases h:i<0
   ·simp only[h,if_true]<;>lia
   ·simp only[h,if_false]<;>lia
 ·cases hi with
  |none=>simp[sliceBounds,HT.sIx]
  |some i=>
   simp only[sliceBounds,HT.sIx,Option.getD_none,show(1:Int)>0 by decide,if_true]
   by_cases h:i<0
   ·simp only[h,if_true]<;>lia
   ·simp only[h,if_false]<;>lia
theorem kjy(ac:List Value)(lo hi:Option Int):slicePick ac.toArray lo hi none=((ac.drop (HT.sIx ac.length 0 lo)).take (HT.sIx ac.length ac.length hi - HT.sIx ac.length 0 lo)).toArray:=by
 obtain⟨h1,h2,h3⟩:=kq3 lo hi ac.toArray.size;unfold slicePick;rw[h1,h2,h3];simp only[sliceRange_one,pick_run,X8]<;>rfl
def wxd(K:Frag):V->Option Int->Option Int->Hp->VK->Prop:=λx lo hi H Q=>∃a xs,x=.ref a/\SqL K H a xs/\∀p,H p=none->Q (.ref p) (upd H p (.lst (Kx xs lo hi)))
theorem sl_list:SlR X (wxd X.K):=by
 intro pins s σ H x v vl vu lo hi sl Q I rx hs pl pu h;obtain⟨a,xs,rfl,hx,q⟩:=h;cases rx;obtain⟨ac,r,ht,hz⟩:=I.list hx;have ah:=r.length;refine⟨"list",_,slot_list_getitem.lookup,ht.isList.typeIs,?_⟩;refine wpAny_getItem_list_slice ht.isList hs pl pu .none (by simp) ?_ (by rw[X8]<;>lia);rw[kjy,<-ah];refine⟨.ref s.heap.objs.size,_,I.laid (t':=s.toks) (o:=.lst (Kx xs lo hi)) (λb ob q=>X2 _ q) (Xa _) ?_,rfl,q _ (I.hok.fresh (Xa _))⟩;exact⟨Yn (jzp xs lo hi) hz,_,0,(r.drop (HT.sIx xs.length 0 lo)).take (HT.sIx xs.length xs.length hi - HT.sIx xs.length 0 lo),Xb _ rfl⟩
theorem kqc:OpR X (compareOp .NotIn) (λx y H Q=>∃i j,x=.str i/\y=.str j/\Q (.bl (!(!(Builtin.Str.occurrences j i 0 j.length 1).isEmpty))) H):=by
 intro pins s σ H x y v u Q I rx ry h;obtain⟨i,j,rfl,rfl,q⟩:=h;obtain⟨t,rfl⟩:=rx;obtain⟨t',rfl⟩:=ry;exact notIn_str ⟨.bl _,H,I,rfl,q⟩
theorem call_len_seq:CallR X (.builtin "len") (λxs H Q=>∃p ys,xs=[.ref p]/\(SqL X.K H p ys\/SqT X.K H p ys)/\Q (.int ys.length) H):=by
 intro pins s σ H xs us Q I r h;obtain⟨p,ys,rfl,hq,q⟩:=h;obtain⟨u,rfl,rx⟩:=wY r;cases rx;have hn:=KJ;rcases hq with hq|hq
 ·obtain⟨ac,r',pl,hz⟩:=I.list hq;have ah:=r'.length;exact Calls.call_len_list pl.isList (by simp only[X8]<;>lia) ⟨.int ys.length,H,I.tok _,⟨s.toks+1,by rw[X8,ah]⟩,q⟩
 ·obtain⟨ac,r',pl,hz⟩:=I.tuple hq;have ah:=r'.length;exact len_tuple pl (by simp only[X8]<;>lia) ⟨.int ys.length,H,I.tok _,⟨s.toks+1,by rw[X8,ah]⟩,q⟩
theorem call_len_str:CallR X (.builtin "len") (λxs H Q=>∃z,xs=[.str z]/\z.length<=sizeLine/\Q (.int z.length) H):=by
 intro pins s σ H xs us Q I r h;obtain⟨z,rfl,hz,q⟩:=h;obtain⟨u,rfl,t,rfl⟩:=wY r;have hn:=KJ;exact len_str ⋯ ⟨.int z.length,H,I.tok _,⟨_,rfl⟩,q⟩
theorem CallR.or{f:Value}{r r':List V->Hp->VK->Prop}(h:CallR X f r)(h':CallR X f r'):CallR X f (λxs H Q=>r xs H Q\/r' xs H Q):=by
 intro pins s σ H xs us Q I rs q;rcases q with q|q
 ·exact h pins s σ H xs us Q I rs q
 ·exact h' pins s σ H xs us Q I rs q
theorem kv5:CallR X (.type "list") (λxs H Q=>∃p ys,xs=[.ref p]/\(SqL X.K H p ys\/SqT X.K H p ys)/\∀l,H l=none->Q (.ref l) (upd H l (.lst ys))):=by
 intro pins s σ H xs us Q I r h;obtain⟨p,ys,rfl,hq,q⟩:=h;obtain⟨u,rfl,rx⟩:=wY r;cases rx;have fin:∀(ac:List Value),Vals ys ac->ys.length<=sizeLine->∀(h':Heap) (c':Nat),(∀b o',s.heap.get? b=some o'->h'.get? b=some o') ->
   h'.get? s.heap.objs.size=some { cls:=.type "list",dict:=none,data:=.seq ac.toArray c',slots:=#[] }->EP X pins σ Q (.ref s.heap.objs.size) { s with heap:=h' }:=λac r' hz h' c' kp e=>
  ⟨.ref s.heap.objs.size,_,I.laid (t':=s.toks) kp (Xa _) (show ObjOk X.prog X.w _ h' _ (.lst ys)from⟨hz,ac,c',r',e⟩),rfl,q _ (I.hok.fresh (Xa _))⟩
 rcases hq with hq|hq
 ·obtain⟨ac,r',pl,hz⟩:=I.list hq;have ah:=r'.length;obtain⟨o,ho,hc,n,hd⟩:=pl.isList;exact call_list_seq p (.inl rfl) ho hc hd (λh' c' kp e=>fin ac r' hz h' c' kp e) (by simp only[X8]<;>lia)
 ·obtain⟨ac,r',pl,hz⟩:=I.tuple hq;have ah:=r'.length;obtain⟨o,ho,hc,n,hd⟩:=pl;exact call_list_seq p (.inr rfl) ho hc hd (λh' c' kp e=>fin ac r' hz h' c' kp e) (by simp only[X8]<;>lia)
theorem kko:CallR X (.type "tuple") (λxs H Q=>∃p ys,xs=[.ref p]/\((SqL X.K H p ys/\∀l,H l=none->Q (.ref l) (upd H l (.tup ys)))\/(SqT X.K H p ys/\Q (.ref p) H))):=by
 intro pins s σ H xs us Q I r h;obtain⟨p,ys,rfl,h⟩:=h;obtain⟨u,rfl,rx⟩:=wY r;cases rx;rcases h with⟨hq,q⟩|⟨hq,q⟩
 ·obtain⟨ac,r',pl,hz⟩:=I.list hq;have ah:=r'.length;refine call_tuple_list pl.isList (λh' kp=>?_) (by simp only[X8]<;>lia);have I1:Inv X pins σ H { s with heap:=h' }:=I.kept (t':=s.toks) kp;have I2:Inv X pins σ (upd H h'.objs.size (.tup ys)) { s with heap:=h'.push { cls:=.type "tuple",data:=.seq ac.toArray } }:=
   I1.laid (t':=s.toks) (λb o e=>X2 _ e) (Xa _) (show ObjOk X.prog X.w _ _ _ (.tup ys)from⟨hz,ac,r',IsTupD.new _ _⟩)
  exact⟨.ref h'.objs.size,_,I2,rfl,q _ (I1.hok.fresh (Xa _))⟩
 ·obtain⟨ac,r',pl,hz⟩:=I.tuple hq;exact call_tuple_same pl ⟨.ref p,H,I,rfl,q⟩
noncomputable def tyV(K : Frag)(T : String)(x : V)(H : Hp): Prop:= match x with
  |.str _=>T = "str"|.int _=>T = "int"
  |.ref p=>(T = "list" /\ ∃xs, SqL K H p xs) \/ (T = "tuple" /\ ∃o, K.lookup p = some o /\ o.cls = .type "tuple" /\ o.dict = none) \/
      (T = "dict" /\ ((∃aa, H p = some (.dK aa)) \/ ∃aa, H p = some (.dT aa))) \/ (T = "set" /\ ∃S n, H p = some (.set S n))
  |_=>False
theorem vjd{pins:LA9}{σ:St}{H:Hp}{s:Shared}{T:String}{x:V}{v:Value}(I:Inv X pins σ H s)(r:RelV x v)(ty:tyV X.K T x H):
  s.TypeIs v T/\∀a,v=.ref a->∃ob,s.heap.get? a=some ob/\ob.dict=none:=by
 cases x with
 | str z=>
  obtain⟨t,rfl⟩:=r;cases(show T="str" from ty);exact⟨typeIs_str s z t,λ_ e=>nomatch e⟩
 | int i=>
  obtain⟨t,rfl⟩:=r;cases(show T="int" from ty);exact⟨typeIs_int s i t,λ_ e=>nomatch e⟩
 | ref p=>
  cases r;rcases ty with⟨rfl,xs,hq⟩|⟨rfl,o,hk,hc,hd⟩|⟨rfl,hk⟩|⟨rfl,S,n,hk⟩
  ·obtain⟨ac,_,pl,_⟩:=I.list hq;refine⟨pl.isList.typeIs,λa e=>?_⟩;cases e;obtain⟨o,n,e,c,hd,_⟩:=pl;exact⟨o,e,hd⟩
  ·refine⟨⟨o,I.kIn p o hk,hc⟩,λa e=>?_⟩;cases e;exact⟨o,I.kIn _ o hk,hd⟩
  ·have z:∃o,s.heap.get? p=some o/\o.ExactDict:=by
    rcases hk with⟨aa,hk⟩|⟨aa,hk⟩
    ·obtain⟨_,_,_,_,o,_,_,e,ex,_⟩:=I.hok p _ hk;exact⟨o,e,ex⟩
    ·obtain⟨_,_,_,_,o,_,_,e,ex,_⟩:=I.hok p _ hk;exact⟨o,e,ex⟩
   obtain⟨o,e,ex⟩:=z;refine⟨⟨o,e,ex.1⟩,λa e2=>?_⟩;cases e2;exact⟨o,e,ex.2.1⟩
  ·obtain⟨o,_,_,_,e,ex,_⟩:=I.hok p _ hk;refine⟨⟨o,e,ex.1⟩,λa e2=>?_⟩;cases e2;exact⟨o,e,ex.2.1⟩
 |_=>exact False.elim ty
abbrev tBM0(K:Frag)(T:String)(r:V->List V->Hp->VK->Prop)(to:TE):TE:=fun σ H Q=>to σ H λx H1=>tyV K T x H1/\r x [] H1 Q
abbrev tBM(K:Frag)(T:String)(r:V->List V->Hp->VK->Prop)(to:TE)(t:TA):TE:=fun σ H Q=>to σ H λx H1=>tyV K T x H1/\t σ H1 λxs H2=>r x xs H2 Q
variable {o e:Expr}{es:List Expr}{to:TE}{t:TA}{name:Str}{aw am:Pos}{T id:String}{r:V->List V->Hp->VK->Prop}
theorem vzy(pa:PlainAttrs T)(slot:Slot T name id)(mt:typeOf (.builtin id)=pure (.type "method_descriptor"))(hm:MtR X id r)(ho:PE X o to)
  (bh:autoParam (attributeBase o name X.env (eval o X.env)=eval o X.env) Ŕ) (be:autoParam ((aw.endLine==am.line)=true) Ŕ):PE X (.Call (.Attribute o name aw) [] [] am) (tBM0 X.K T r to):=by
 intro pins s σ H Q I h;refine wpAny_Call_method0_late bh be (thn (ho pins s σ H _ I h) λv s1 ⟨x,H1,I1,r1,ty,q1⟩=>?_);obtain⟨h1,h2⟩:=vjd I1 r1 ty;exact⟨T,id,pa,slot,mt,h1,h2,Calls.callWith_builtin rfl (PySem.evalArgs_none (hm pins s1 σ H1 x [] v [] Q I1 r1 .nil q1))⟩
theorem vqn(pa:PlainAttrs T)(slot:Slot T name id)(mt:typeOf (.builtin id)=pure (.type "method_descriptor"))(hm:MtR X id r)(ho:PE X o to)(ha:PA X (e::es) t)
  (bh:autoParam (attributeBase o name X.env (eval o X.env)=eval o X.env) Ŕ)
  (dg:autoParam (((backTo am (starEach (e::es) X.env)).all (λx=>!x.1)&&(backToKw am (keywordEach [] X.env)).all (λx=>x.1.isSome)
   && decide ((e::es).length+([]:List Keyword).length+(if([]:List Keyword).isEmpty then 0 else 1)<30))=true) Ŕ)
  (be:autoParam ((aw.endLine==am.line)=true) Ŕ) (hs:autoParam (starEach (e::es) X.env=(false,eval e X.env)::starEach es X.env) Ŕ) (bg:autoParam ((backTo am (starEach es X.env)).any (·.1)=false) Ŕ):
  PE X (.Call (.Attribute o name aw) (e::es) [] am) (tBM X.K T r to t):=by
 intro pins s σ H Q I h;refine wpAny_Call_method_late bh dg be rfl (thn (ho pins s σ H _ I h) λv s1 ⟨x,H1,I1,r1,ty,q1⟩=>?_);obtain⟨h1,h2⟩:=vjd I1 r1 ty;refine⟨T,id,pa,slot,mt,h1,h2,?_⟩;have hA:=ha am pins s1 σ H1 _ I1 q1;rw[hs]at hA ⊢;refine Calls.callWith_builtin (by show(false||(backTo am (starEach es X.env)).any (·.1))=false;rw[bg]<;>rfl) (Calls.evalArgs_plain ?_);exact thn hA λus s2 ⟨vs,H2,I2,r2,q2⟩=>hm pins s2 σ H2 x vs v us Q I2 r1 r2 q2
end
noncomputable def MtM(X:Cx)(id:String)(r:V->List V->Hp->VK->Prop):Prop:=
 ∀(pins:LA9) (s:Shared) (σ:St) (H:Hp) (x:V) (xs:List V) (v:Value) (us:List Value) (Q:VK),Inv X pins σ H s->RelV x v->Vals xs us->r x xs H Q ->
  wpAny (model X.prog X.w) X.A (call (.builtin id) (v::us)) (EP X pins σ Q) X.xe s
theorem Vals.one:∀{x:V} {us:List Value},Vals [x] us->∃u,us=[u]/\RelV x u
 |_,_,.cons r .nil=>⟨_,rfl,r⟩
theorem Vals.rep{xs:List V}{us:List Value}(h:Vals xs us):∀k:Nat,Vals (List.replicate k xs).flatten (List.replicate k us).flatten
 |0=>.nil
 |k+1=>by
  rw[List.replicate_succ,List.replicate_succ,Ze,Ze];exact Vals.append h (Vals.rep h k)
theorem jzl(ac:List Value):∀(k:Nat) (af:List Value),
  List.foldl (λx1 x2=>x1++x2) af.toArray (List.replicate k ac.toArray)=(af++(List.replicate k ac).flatten).toArray
 | 0,af=>by simp
 | k+1,af=>by
  have e:af.toArray++ac.toArray=(af++ac).toArray:=by simp
  have e2:(af++ac)++(List.replicate k ac).flatten=af++(List.replicate (k+1) ac).flatten:=by
   rw[List.replicate_succ,Ze,Yb]
  rw[<-e2,<-jzl ac k (af++ac),<-e,List.replicate_succ,Z5]
section
variable {X:Cx}{pins:LA9}{σ:St}{H:Hp}{s:Shared}{l b:Addr}{xs ys zs:List V}
theorem Inv.lset{ac its':List Value}{n:Nat}{f:Array Value->Array Value}{t':Nat}(I:Inv X pins σ H s)(hH:H l=some (.lst xs))
  (e:s.heap.get? l=some { cls:=.type "list",data:=.seq ac.toArray n }) (hf:f ac.toArray=its'.toArray) (hv:Vals ys its') (hz:ys.length<=sizeLine):
  Inv X pins σ (upd H l (.lst ys)) { s with heap:=s.heap.update l (Obj.mapSeq f),toks:=t' }:=by
 have q:=PySem.IsL.update e f;rw[hf]at q;refine I.write (x:=l) (e:=l) (by rw[hH];exact trivial) (.inl rfl) (λb' u hb hu=>(Z9 s.heap (Obj.mapSeq f) (Ne.symm hb)).trans hu) ⟨_,q⟩ ?_;exact⟨hz,its',_,hv,q⟩
theorem Inv.lnew{ac:List Value}{t':Nat}(I:Inv X pins σ H s)(hv:Vals ys ac)(hz:ys.length<=sizeLine):
  Inv X pins σ (upd H s.heap.objs.size (.lst ys)) { s with heap:=s.heap.push { cls:=.type "list",data:=.seq ac.toArray },toks:=t' }:=
 I.laid (λ_ _ q=>X2 _ q) (Xa _) ⟨hz,ac,0,hv,Xb _ rfl⟩
theorem Inv.fresh(I:Inv X pins σ H s):H s.heap.objs.size=none:=I.hok.fresh (Xa _)
theorem Inv.lstM(I:Inv X pins σ H s)(hH:H l=some (.lst xs)):xs.length<=sizeLine/\∃(ac:List Value) (n:Nat),Vals xs ac/\xs.length=ac.length/\s.heap.get? l=some { cls:=.type "list",data:=.seq ac.toArray n }:=by
 obtain⟨z,ac,n,r,e⟩:=I.hok l _ hH;exact⟨z,ac,n,r,r.length,e⟩
theorem kxm{n:Nat}(h:n<=sizeLine):Builtin.List.listTooLong n=false:=by
 unfold Builtin.List.listTooLong;exact Xl ⋯
end
section
variable {X:Cx}
def kvv:V->List V->Hp->VK->Prop:=λx vs H Q=>∃l xs y,x=.ref l/\vs=[y]/\H l=some (.lst xs)/\xs.length<sizeLine/\Q .non (upd H l (.lst (xs++[y])))
theorem qqm:MtM X "list.append" kvv:=by
 intro pins s σ H x vs v us Q I rx rv h;obtain⟨l,xs,y,rfl,rfl,hH,hz,q⟩:=h;cases rx;obtain⟨u,rfl,ru⟩:=rv.one;obtain⟨z,ac,n,r,hl,e⟩:=I.lstM hH;refine call_meets F.slot_list_append ⟨_,e,rfl⟩ F.entry_list_append (F.args_list_append_2 _ _) (PySem.list_append l ac.toArray n u (by rw[X8];lia)) ⟨e,?_⟩;refine⟨.non,_,I.lset (its':=ac++[u]) hH e (by simp) (r.append (.cons ru .nil)) ?_,rfl,q⟩;rw[Xv,Zc];lia
def qkp:V->List V->Hp->VK->Prop:=λx vs H Q=>∃l b xs zs,x=.ref l/\vs=[.ref b]/\H l=some (.lst xs)/\H b=some (.lst zs)/\xs.length+zs.length<=sizeLine/\Q .non (upd H l (.lst (xs++zs)))
theorem qql:MtM X "list.extend" qkp:=by
 intro pins s σ H x vs v us Q I rx rv h;obtain⟨l,b,xs,zs,rfl,rfl,hH,hB,hz,q⟩:=h;cases rx;obtain⟨u,rfl,ru⟩:=rv.one;cases ru;obtain⟨z,ac,n,r,hl,e⟩:=I.lstM hH;obtain⟨z2,fc,n2,r2,hl2,e2⟩:=I.lstM hB;have hsz:ac.toArray.size+fc.toArray.size<=sizeLine:=by rw[X8,X8];lia
 have ju:¬(!ac.toArray.isEmpty&&Builtin.List.listTooLong (ac.toArray.size+fc.toArray.size))=true:=by
  rw[kxm hsz,Bool.and_false];exact Bool.false_ne_true
 refine call_meets F.slot_list_extend ⟨_,e,rfl⟩ F.entry_list_extend (F.args_list_extend_2 _ _)
  (AutoSeq1.list_extend_list_list_0 l ac.toArray n b fc.toArray n2 ju (by rw[X8];lia) ⋯) ⟨e,e2,?_⟩
 refine⟨.non,_,I.lset (its':=ac++fc) hH e (by simp) (r.append r2) ?_,rfl,q⟩;rw[Xv];lia
theorem qqy{α:Type}(xs:List α)(k:Nat):(List.replicate k xs).flatten.length=k*xs.length:=by
 induction k with|zero=>simp|succ k ih=>rw[List.replicate_succ,Ze,Xv,ih,Nat.succ_mul,Nat.add_comm]
end
end L2
namespace Att
open PySem PySem.W PySem.Calls PyProof.Rows
theorem jzf{P:Params}{h:Heap}:∀(ns:List Int) (vs:List Value),WellAll P h vs (ns.map WData.int)->IntsAre vs ns:=by
 intro ns
 induction ns with
 | nil=>
  intro vs w;rw[List.map_nil]at w;cases w;exact .nil
 | cons n ns ih=>
  intro vs w;rw[List.map_cons]at w;cases w with
  |cons a b=>
   cases a;exact .cons _ _ (ih _ b)
theorem script_of{l : OpenLaw}{n : Nat}(hn : l.most = some n){P : Params}{h : Heap}{args : List WData}{bv : List Value}
    (la : l.row.toRowW.claim.pre args = true) (mr : WellAll P h bv args):
    ∃ a vs ns, bv = [Value.ref a] /\ args = [WData.list (ns.map WData.int)] /\ h.get? a = some { cls:= .type "list", data:= .seq vs.toArray } /\ IntsAre vs ns /\ ns.length<=n:= by
  have hsh : WShape.hasAll [] args [.list .int] = true:= (pre_splitW la).1;have hc : l.pre.holds [] { args:= args } = true:= (pre_splitW la).2;obtain⟨d, r, rfl, h1, h2⟩:= hasAllW_cons hsh;obtain rfl:= hasAllW_nil h2;obtain⟨xs, rfl, h3⟩:= hasW_list h1;obtain⟨ns, rfl⟩:= items_int h3;have ah : ns.length<=n:= by
    unfold OpenLaw.pre at hc;have h4 : (WTm.not (.lt (.lit (.int (n : Int))) (.len (.arg 0)))).holds [] { args:= [.list (ns.map .int)] } = true:= by
      have h4:= (holds_andW hc).1;rw[hn]at h4;exact h4
    have h5:= condW_of h4 (w_not (w_lt w_lit (w_len_list (w_arg rfl))));rw[X3]at h5;refine Nat.le_of_not_lt λq=> ?_
    have q' : (n : Int)<((ns.length : Nat): Int):= by lia
    first
      |(rw[Xe q']at h5; exact absurd h5 ⋯)
      |(simp at h5; lia)
  cases mr with
  | cons w1 w2=>
    cases w2;cases w1 with|list ho ia=>exact⟨_, _, ns, rfl, rfl, ho, jzf ns _ ia, ah⟩
theorem post_true(l:OpenLaw)(args:List WData):l.row.toRowW.claim.post args (.bool true) args=true:=
 postW_of (r:=l.row.toRowW) (X:=(true==true))
  (show WShape.has [] (.bool true) .bool=true by first|rfl|decide|simp[WShape.has,WShape.arms,WShape.armsAll])
  (show(WTm.eq .res (.lit (.bool true))).value [] { args:=args,res:=some (.bool true),after:=args }=some (.bool (true==true))from w_eq_bool (w_res rfl) w_lit) rfl
end Att
namespace L2
open PySem PySem.Spec PyProof.Rows
def wx7(H:Hp):Prop:=∀b,H b=none\/∃o xs,H b=some (.frz o (.lst xs))
def K3(s:Stmt):Arguments:=match s with
 |.FunctionDef _ a _ _ _ _ _ _ _ _=>a|_=>{ posonlyargs:=[],args:=[],vararg:=none,kwonlyargs:=[],kw_defaults:=[],kwarg:=none,defaults:=[] }
def JK(s:Stmt):List Stmt:=match s with
 |.FunctionDef _ _ b _ _ _ _ _ _ _=>b|_=>[]
def kq(s:Stmt):Scope:=match s with
 |.FunctionDef _ _ _ _ _ _ sc _ _ _=>sc|_=>{ kind:=.function,names:=[],isGenerator:=false,isCoroutine:=false }
structure Fun (K:Frag)(x qual:Str)(st:Stmt)(f:Addr)(fd:FuncData):Prop where
 ex:∃(oc:Value) (od:Option Addr) (kV fq pm:Value) (an:Option Addr) (bi ct:Value) (lh:Array (Option Value)),
  fd=PySem.W.fnOf x qual (K3 st) (JK st) (kq st) .none kV fq pm an bi ct/\K.lookup f=some ⟨oc,od,.func fd,lh⟩/\PySem.W.codeIn K bi qual=true
 kp:PySem.W.keepIn K (.ref f)=true
section
variable {P:Program}{w:World}{K:Frag}{mg:Str->Option Value}{base:Heap}
theorem Fun.binds{x qual:Str}{st:Stmt}{f:Addr}{fd:FuncData}{ps:List Str}(F:Fun K x qual st f fd)
  (h:∀(kV fq pm:Value) (an:Option Addr) (bi ct:Value) (us:List Value),us.length=ps.length->bindArgs (PySem.W.fnOf x qual (K3 st) (JK st) (kq st) .none kV fq pm an bi ct) ⟨us,[]⟩=pure (ps.zip us)):Binds K fd ps []:=by
 obtain⟨oc,od,kV,fq,pm,an,bi,ct,lh,rfl,lk,gc⟩:=F.ex;exact .all (h kV fq pm an bi ct)
theorem qvm{x qual:Str}{st:Stmt}{f:Addr}{oc:Value}{od an:Option Addr}{lh:Array (Option Value)}{kV fq pm bi ct:Value}(l:K.lookup f=some ⟨oc,od,.func (PySem.W.fnOf x qual (K3 st) (JK st) (kq st) .none kV fq pm an bi ct),lh⟩)
  (c:PySem.W.codeIn K bi qual=true) (k:PySem.W.keepIn K (.ref f)=true):Fun K x qual st f (PySem.W.fnOf x qual (K3 st) (JK st) (kq st) .none kV fq pm an bi ct):=⟨⟨oc,od,kV,fq,pm,an,bi,ct,lh,rfl,l,c⟩,k⟩
end
section
variable {X:Cx}
theorem pv(i:Nat){x:Str}{pos:Pos}(hN:autoParam (X.N[i]?=some x) Ŕ)(hv:autoParam (Vis X.env.scope x) ř)(hd:autoParam ((x==("__debug__":Str))=false) ŕ)
  (gc:autoParam ((x==("__classdict__":Str))=false) ŕ):PE X (.Name x pos) (Jx i):=vzo hN hv hd gc
end
def jJ(H H':Hp):Prop:=∀b o,H b=some o->H' b=some o
section
variable {κ:Type}[DecidableEq κ]
def xq(aa:List (κ×V))(k:κ):Option V:=(aa.find? λkv=>decide (kv.1=k)).map (·.2)
def x9(aa:List (κ×V))(k:κ)(v:V):List (κ×V):=
 if(aa.any λkv=>decide (kv.1=k))=true then aa.map (λkv=>if kv.1=k then(kv.1,v)else kv)else aa++[(k,v)]
theorem kju{p:κ×V}{r:List (κ×V)}{k:κ}(e:p.1=k):xq (p::r) k=some p.2:=by simp[xq,Yk,e]
theorem kjv{p:κ×V}{r:List (κ×V)}{k:κ}(e:¬p.1=k):xq (p::r) k=xq r k:=by simp[xq,Yk,e]
theorem kwq(k:κ):∀aa:List (κ×V),(aa.any λkv=>decide (kv.1=k))=(xq aa k).isSome
 |[]=>rfl
 |p::r=>by
  rw[List.any_cons]
  by_cases e:p.1=k
  ·simp only[kju e,Xe e,Bool.true_or,Option.isSome_some]
  ·rw[kjv e,Xl e,Bool.false_or];exact kwq k r
theorem jza(aa:List (κ×V))(k:κ)(v:V):(x9 aa k v).length<=aa.length+1:=by
 unfold x9
 split
 ·rw[X3];lia
 ·rw[Xv,Xf,List.length_nil];lia
theorem RelO.isSome_eq{o:Option V}{u:Option Value}(r:RelO o u):o.isSome=u.isSome:=by
 cases o with
 |none=>cases u with|none=>rfl|some _=>exact(show False from r).elim
 |some _=>cases u with|none=>exact(show False from r).elim|some _=>rfl
theorem KV.val{aa:List (κ×V)}{vs:List (κ×Value)}(r:KV aa vs)(k:κ):RelO (xq aa k) (valueAt vs k):=by
 unfold KV at r
 induction r with
 | nil=>exact Zo
 | @cons p q ps qs h t ih=>
  obtain⟨h1,h2⟩:=h
  by_cases e:p.1=k
  ·have e':q.1=k:=h1.symm.trans e;have b:valueAt (q::qs) k=some q.2:=by simp[valueAt,Yk,e']
   rw[kju e,b];exact h2
  ·have e':¬q.1=k:=λz=>e (h1.trans z)
   have b:valueAt (q::qs) k=valueAt qs k:=by simp[valueAt,Yk,e']
   rw[kjv e,b];exact ih
theorem KV.any{aa:List (κ×V)}{vs:List (κ×Value)}(r:KV aa vs)(k:κ):(aa.any λkv=>decide (kv.1=k))=vs.any λkv=>decide (kv.1=k):=by
 unfold KV at r
 induction r with|nil=>rfl|cons h t ih=>rw[List.any_cons,List.any_cons,ih,h.1]
theorem KV.repl{aa:List (κ×V)}{vs:List (κ×Value)}(r:KV aa vs)(k:κ){y:V}{u:Value}(ry:RelV y u):
  KV (aa.map λkv=>if kv.1=k then(kv.1,y)else kv) (vs.map λkv=>if kv.1=k then(kv.1,u)else kv):=by
 unfold KV at r ⊢
 induction r with
 |nil=>exact .nil
 |@cons p q ps qs h t ih=>
  rw[List.map_cons,List.map_cons];refine .cons ?_ ih;obtain⟨h1,h2⟩:=h
  by_cases e:p.1=k
  ·rw[X7 e,X7 (h1.symm.trans e)];exact⟨h1,ry⟩
  ·rw[X9 e,X9 (λz=>e (h1.trans z))];exact⟨h1,h2⟩
theorem KV.put{aa:List (κ×V)}{vs:List (κ×Value)}(r:KV aa vs)(k:κ){y:V}{u:Value}(ry:RelV y u):KV (x9 aa k y) (stored vs k u):=by
 unfold x9 stored;rw[r.any k]
 by_cases e:(vs.any λkv=>decide (kv.1=k))=true
 ·rw[X7 e,X7 e];exact r.repl k ry
 ·rw[X9 e,X9 e];exact Paired.snoc r ⟨rfl,ry⟩
theorem KV.length{aa:List (κ×V)}{vs:List (κ×Value)}(r:KV aa vs):aa.length=vs.length:=Paired.length r
end
theorem qzb{P:Program}{w:World}{k:Key}{u:Value}(r:RelV (kV k) u):(x5 P w).is k u=true:=by
 cases k with|inl i=>obtain⟨t,e⟩:=(show ∃t,u=Value.int i t from r);subst e;exact kw5 P w i t|inr x=>obtain⟨t,e⟩:=(show ∃t,u=Value.str x t from r);subst e;exact kw4 P w x t
theorem kql{P:Program}{w:World}:∀{ks:List Key} {us:List Value},Vals (ks.map kV) us->ItemsAre (x5 P w) ks us
 |[],_,r=>by rw[List.map_nil]at r;cases r;exact .nil
 |k::ks,_,r=>by
  rw[List.map_cons]at r;cases r with|cons h t=>exact .cons (qzb h) (kql t)
abbrev KT(H:Hp):List (List Key×V)->List (List Key×Addr×Value)->Prop:=Paired λp q=>p.1=q.1/\H q.2.1=some (.tup (p.1.map kV))/\RelV p.2 q.2.2
theorem KT.val{H:Hp}{aa:List (List Key×V)}{xs:List (List Key×Addr×Value)}(r:KT H aa xs)(k:List Key):RelO (xq aa k) ((atKey xs k).map (·.2)):=by
 induction r with
 | nil=>exact Zo
 | @cons p q ps qs h t ih=>
  obtain⟨h1,_,h2⟩:=h
  by_cases e:p.1=k
  ·have e':q.1=k:=h1.symm.trans e;have b:atKey (q::qs) k=some q.2:=by simp[atKey,Yk,e']
   rw[kju e,b];exact h2
  ·have e':¬q.1=k:=λz=>e (h1.trans z)
   have b:atKey (q::qs) k=atKey qs k:=by simp[atKey,Yk,e']
   rw[kjv e,b];exact ih
theorem KT.repl{H:Hp}{aa:List (List Key×V)}{xs:List (List Key×Addr×Value)}(r:KT H aa xs)(k:List Key){y:V}{u:Value}(ry:RelV y u):
  KT H (aa.map λkv=>if kv.1=k then(kv.1,y)else kv) (xs.map (putAt k u)):=by
 induction r with
 |nil=>exact .nil
 |@cons p q ps qs h t ih=>
  rw[List.map_cons,List.map_cons];refine .cons ?_ ih;obtain⟨h1,h2,h3⟩:=h;unfold putAt
  by_cases e:p.1=k
  ·rw[X7 e,X7 (h1.symm.trans e)];exact⟨h1,h2,ry⟩
  ·rw[X9 e,X9 (λz=>e (h1.trans z))];exact⟨h1,h2,h3⟩
theorem KT.put{H:Hp}{aa:List (List Key×V)}{xs:List (List Key×Addr×Value)}(r:KT H aa xs)(k:List Key){b:Addr}{y:V}{u:Value}(hb:H b=some (.tup (k.map kV)))(ry:RelV y u):
  KT H (x9 aa k y) (storedH xs k b u):=by
 have e:(aa.any λkv=>decide (kv.1=k))=(atKey xs k).isSome:=by
  rw[kwq,(r.val k).isSome_eq,Option.isSome_map]
 unfold x9 storedH;rw[e]
 by_cases q:(atKey xs k).isSome=true
 ·rw[X7 q,X7 q];exact r.repl k ry
 ·rw[X9 q,X9 q];exact Paired.snoc r ⟨rfl,hb,ry⟩
theorem KT.keeps{H H':Hp}{aa:List (List Key×V)}{xs:List (List Key×Addr×Value)}(r:KT H aa xs)(ht:∀b ys,H b=some (.tup ys)->H' b=some (.tup ys)):KT H' aa xs:=
 Paired.mapP r λ_ _ z=>⟨z.1,ht _ _ z.2.1,z.2.2⟩
section
variable {P:Program}{w:World}{H:Hp}{h:Heap}{a:Addr}
theorem vxe{u:HO}(ok:HOk P w H h)(e:Rd H a u):ObjOk P w H h a u:=e.ok ok
theorem Wx{aa:List (Key×V)}(ok:HOk P w H h)(e:Rd H a (.dK aa)):aa.length<=sizeLine/\(a==sysModules)=false/\∃vs,KV aa vs/\h.DictOf (x5 P w) a vs:=
 show ObjOk P w H h a (.dK aa)from vxe ok e
theorem wkn{aa:List (Key×V)}(ok:HOk P w H h)(e:H a=some (.dK aa)):aa.length<=sizeLine/\(a==sysModules)=false/\∃vs,KV aa vs/\h.DictOf (x5 P w) a vs:=Wx ok (.inl e)
theorem kxw{ks:List Key}(ok:HOk P w H h)(e:H a=some (.tup (ks.map kV))):(tupleKind (x5 P w)).is h ks a:=by
 obtain⟨_,ac,r,o,h1,h2,_,n,h3⟩:=(show ObjOk P w H h a (.tup (ks.map kV))from ok a _ e);exact⟨o,ac.toArray,n,h1,h2,h3,by simpa using kql r⟩
theorem qzo{aa:List (List Key×V)}(ok:HOk P w H h)(e:Rd H a (.dT aa)):aa.length<=sizeLine/\(a==sysModules)=false /\
  ∃ xs,KT H aa xs/\h.DictOfH (tupleKind (x5 P w)) a xs:=by
 obtain⟨z,y,xs,r,o,es,ep,h1,h2,h3,h4,h5⟩:=(show ObjOk P w H h a (.dT aa)from vxe ok e);refine⟨z,y,xs,r,o,es,ep,h1,h2,h3,h4,λx hx=>?_,h5⟩;have all:∀{l:List (List Key×V)} {m:List (List Key×Addr×Value)},KT H l m->∀x∈m,(tupleKind (x5 P w)).is h x.1 x.2.1:=by
  intro l m q
  induction q with
  | nil=>intro x hx;exact nomatch hx
  | @cons p q ps qs hq t ih=>
   intro x hx;rcases aD hx with e|hx
   ·subst e;exact kxw ok (by rw[<-hq.1];exact hq.2.1)
   ·exact ih x hx
 exact all r x hx
theorem wws{aa:List (List Key×V)}(ok:HOk P w H h)(e:H a=some (.dT aa)):aa.length<=sizeLine/\(a==sysModules)=false /\
  ∃xs,KT H aa xs/\h.DictOfH (tupleKind (x5 P w)) a xs:=qzo ok (.inl e)
end
def DGet(H:Hp)(a:Addr)(y:V)(r:Option V):Prop:=
 (∃aa k,Rd H a (.dK aa)/\y=kV k/\r=xq aa k)\/∃aa k b,Rd H a (.dT aa)/\y=.ref b/\H b=some (.tup (k.map kV))/\r=xq aa k
def DPut(H:Hp)(a:Addr)(y v:V)(H':Hp):Prop:=
 (∃aa k,H a=some (.dK aa)/\y=kV k/\aa.length<sizeLine/\H'=upd H a (.dK (x9 aa k v))) \/
 ∃aa k b,H a=some (.dT aa)/\y=.ref b/\H b=some (.tup (k.map kV))/\aa.length<sizeLine/\H'=upd H a (.dT (x9 aa k v))
theorem DGet.k{H:Hp}{a:Addr}{aa:List (Key×V)}{k:Key}(e:H a=some (.dK aa)):DGet H a (kV k) (xq aa k):=.inl ⟨aa,k,.inl e,rfl,rfl⟩
theorem DPut.k{H:Hp}{a:Addr}{aa:List (Key×V)}{k:Key}{v:V}(e:H a=some (.dK aa))(hl:aa.length<sizeLine):DPut H a (kV k) v (upd H a (.dK (x9 aa k v))):=.inl ⟨aa,k,e,rfl,hl,rfl⟩
section
variable {X:Cx}{pins:LA9}{σ:St}{H:Hp}{s:Shared}{a:Addr}{y v:V}{u r:Value}{o:Option V}{A:Around}{E:VP9}
theorem Inv.big(I:Inv X pins σ H s):sysModules<s.heap.objs.size:=by
 have h:mainGlobals<s.heap.objs.size:=(I.mod.glob.keeps I.bk).lt;exact Nat.lt_trans ⋯ h
theorem qw4{Q:VP9}(hu:A.units+1<cLine)(I:Inv X pins σ H s)(g:DGet H a y (some v))(ry:RelV y u)(h:∀w' s',Inv X pins σ H s'->RelV v w'->Q w' s'):
  wpAny (model X.prog X.w) A (getItem (.ref a) u) Q E s:=by
 rcases g with⟨aa,k,e,ey,l⟩|⟨aa,k,b,e,ey,eb,l⟩
 ·subst ey;obtain⟨z,hd,vs,fe,dd⟩:=Wx I.hok e;obtain⟨w',hw,iy⟩:=RelO.some_of (v:=v) (o:=valueAt vs k) (by rw[l];exact fe.val k);exact wpAny_getItem_of (qzb ry) dd.mapOf hw (h w' _ (I.tok _) iy)
 ·subst ey;cases(show u=Value.ref b from ry);obtain⟨z,hd,xs,fe,dd⟩:=qzo I.hok e;obtain⟨w',hw,iy⟩:=RelO.some_of (v:=v) (o:=(atKey xs k).map (·.2)) (by rw[l];exact fe.val k);obtain⟨p,hp,jn⟩:=Option.map_eq_some_iff.mp hw;refine wpAny_getItem_heap (tupleKind_room_in1 hu) (kxw I.hok eb) dd hp ?_;rw[jn];exact h w' _ (I.tok _) iy
theorem vvz{Q:VP9}(hu:A.units+1<cLine)(I:Inv X pins σ H s)(g:DGet H a y o)(ry:RelV y u)(h:∀s',Inv X pins σ H s'->Q (.bool (!o.isSome)) s'):
  wpAny (model X.prog X.w) A (compareOp .NotIn u (.ref a)) Q E s:=by
 rcases g with⟨aa,k,e,ey,l⟩|⟨aa,k,b,e,ey,eb,l⟩
 ·subst ey;obtain⟨z,hd,vs,fe,dd⟩:=Wx I.hok e;refine wpAny_notIn_of (qzb ry) hd dd.mapOf ?_;rw[<-(fe.val k).isSome_eq,<-l];exact h _ (I.tok _)
 ·subst ey;cases(show u=Value.ref b from ry);obtain⟨z,hd,xs,fe,dd⟩:=qzo I.hok e;refine wpAny_notIn_heap (tupleKind_room_in1 hu) (kxw I.hok eb) hd dd ?_;have q:=(fe.val k).isSome_eq;rw[Option.isSome_map]at q;rw[<-q,<-l];exact h _ (I.tok _)
theorem qw2{h':Heap}{t':Nat}{ob:HO}(I:Inv X pins σ H s)(mu:Mut (H a))(hs:Heap.SameBut a s.heap h')(he:∃q,h'.get? a=some q)(new:ObjOk X.prog X.w (upd H a ob) h' a ob):
  Inv X pins σ (upd H a ob) { s with heap:=h',toks:=t' }:=
 I.write (x:=a) (e:=a) mu (.inl rfl) (λb q hb z=>(hs.2 b hb).trans z) he new
theorem wko{P:Program}{w:World}{H':Hp}{h':Heap}{aa:List (Key×V)}{vs:List (Key×Value)}(z:aa.length<=sizeLine)(hd:(a==sysModules)=false)(fe:KV aa vs)(dd:h'.DictOf (x5 P w) a vs):
  ObjOk P w H' h' a (.dK aa):=⟨z,hd,vs,fe,dd⟩
theorem qw3{H':Hp}{Q:Unit->Shared->Prop}(hu:A.units+1<cLine)(I:Inv X pins σ H s)(g:DPut H a y v H')(ry:RelV y u)(rv:RelV v r)(h:∀s',Inv X pins σ H' s'->Q () s'):
  wpAny (model X.prog X.w) A (setItem (.ref a) u r) Q E s:=by
 rcases g with⟨aa,k,e,ey,l,eH⟩|⟨aa,k,b,e,ey,eb,l,eH⟩
 ·subst ey eH;obtain⟨z,hd,vs,fe,dd⟩:=wkn I.hok e;have hz:vs.length<=sizeLine:=by rw[<-fe.length];exact z
  have hl:(x9 aa k v).length<=sizeLine:=by have:=jza aa k v;lia
  refine wpAny_setItem_pairs (hsz:=hz) (qzb ry) dd λh' dd' hs=>h _ ?_
  have he:∃q,h'.get? a=some q:=let ⟨q,_,_,hq,_⟩:=dd';⟨q,hq⟩
  exact qw2 I (by rw[e];exact Zo) hs he (wko hl hd (fe.put k rv) dd')
 ·subst ey eH;cases(show u=Value.ref b from ry);obtain⟨z,hd,xs,fe,dd⟩:=wws I.hok e;have hz:xs.length<=sizeLine:=by rw[<-Paired.length fe];exact z
  have hl:(x9 aa k v).length<=sizeLine:=by have:=jza aa k v;lia
  refine wpAny_setItem_heap (hsz:=hz) (tupleKind_room_in1 hu) (kxw I.hok eb) dd λh' dd' hs=>h _ ?_
  obtain⟨q,es,ep,hq,h2,h3,h4,_,h5⟩:=dd';refine qw2 I (by rw[e];exact Zo) hs ⟨q,hq⟩ ⟨hl,hd,_,(fe.put k eb rv).keeps λc ys ec=>?_,q,es,ep,hq,h2,h3,h4,h5⟩;rw[jX (ww7 ec e (λz=>nomatch z))];exact ec
end
section
variable {X:Cx}{pins:LA9}{σ:St}{H:Hp}{s:Shared}{a:Addr}{aa:List (Key×V)}{k:Key}{u:Value}{A:Around}{E:VP9}
theorem www{Q:VP9}(I:Inv X pins σ H s)(e:Rd H a (.dK aa))(h:∀t s',Inv X pins σ H s'->Q (.int aa.length t) s'):wpAny (model X.prog X.w) A (call (.builtin "len") [.ref a]) Q E s:=by
 obtain⟨z,hd,vs,fe,dd⟩:=Wx I.hok e;refine call_len_dict hd dd (by rw[<-fe.length];rw[Yr]at z;lia) ?_;rw[<-fe.length];exact h _ _ (I.tok _)
end
def W4(i:Expr):Prop:=∀ov iv,subscripted i false ov iv=operate [ov,iv] (getItem ov iv)
theorem qk0{prog:Program}{w:World}{A:Around}{E:VP9}{s:Shared}{env:Env}{value slice:Expr}{pos:Pos}{T id:String}{Q:VP9}
  (hl:typeLookup (.type T) "__getitem__"=pure (some (.builtin id))) (hs:W4 slice)
  (h:wpAny (model prog w) A (eval value env) (λo s₁=>wpAny (model prog w) A (eval slice env) (λi s₂=>s₂.TypeIs o T/\wpAny (model prog w) A (getItem o i) Q E s₂) E s₁) E s):
  wpAny (model prog w) A (eval (.Subscript value slice pos) env) Q E s:=by
 refine Subscript_ (Zj h (λo s₁ h₁=>Zj h₁ (λi s₂ h₂=>?_) λ_ _ x=>x) λ_ _ x=>x);obtain⟨hT,h₂⟩:=h₂;unfold subscriptTail;refine X0 ?_;rw[getitemInPython_of_ne hT.not_modules];refine X0 (Z0 hT hl ?_);have fin:wpAny (model prog w) A (subscripted slice false o i) (λr s₃=>wpAny (model prog w) A (letTemporaryGo value o r >>= λ_=>pure r) Q E s₃) E s₂:=by
  rw[hs o i];exact wpAny_operating (Zj h₂ (λr s₃ h₃=>X0 (wpAny_letTemporaryGo (X1 h₃))) λ_ _ x=>x)
 first
  |exact X1 (X0 fin)
  |exact X0 (X1 (X0 fin))
  |exact X0 fin
theorem kwg{X:Cx}{pins:LA9}{σ:St}{H:Hp}{s:Shared}{a:Addr}{y:V}{o:Option V}(I:Inv X pins σ H s)(g:DGet H a y o):s.TypeIs (.ref a) "dict":=by
 rcases g with⟨aa,k,e,_,_⟩|⟨aa,k,b,e,_,_,_⟩
 ·obtain⟨_,_,vs,_,dd⟩:=Wx I.hok e;exact dd.typeIs
 ·obtain⟨_,_,xs,_,dd⟩:=qzo I.hok e;exact dd.typeIs
abbrev wv5(td ty:TE):TE:=fun σ H Q=>td σ H λx H1=>ty σ H1 λy H2=>∃a v,x=.ref a/\DGet H2 a y (some v)/\Q v H2
abbrev wvb(td ty tv:TE):TS:=λD σ H=>tv σ H λv H1=>td σ H1 λx H2=>ty σ H2 λy H3=>∃a H4,x=.ref a/\DPut H3 a y v H4/\D.nx σ H4
section
variable {X:Cx}{o i e value:Expr}{pos az jc:Pos}{td ty tv:TE}
theorem vqk(hu:X.A.units+1<cLine)(ho:PE X o td)(hi:PE X i ty)(hs:W4 i):PE X (.Subscript o i pos) (wv5 td ty):=by
 intro pins s σ H Q I h;refine qk0 PySem.F.slot_dict_getitem.lookup hs (thn (ho pins s σ H _ I h) λu s1 ⟨x,H1,I1,rx,q1⟩=>thn (hi pins s1 σ H1 _ I1 q1) λiv s2 ⟨y,H2,I2,ry,a,v,ex,g,q2⟩=>?_);subst ex;obtain rfl:u=Value.ref a:=rx;exact⟨kwg I2 g,qw4 hu I2 g ry λw' s3 I3 iy=>⟨v,H2,I3,iy,q2⟩⟩
theorem vqe(hu:X.A.units+1<cLine)(ho:PE X o td)(hi:PE X i ty)(hv:PE X value tv)(hs:swapsWith value (some (.Subscript o i az)) pos.line X.env=pure false):
  PS X (.Assign [.Subscript o i az] value pos) (wvb td ty tv):=by
 intro pins s σ H D I h;refine wpAny_Assign_Subscript (thn (hv pins s σ H _ I h) λr s1 ⟨v,H1,I1,rv,q1⟩=>thn (ho pins s1 σ H1 _ I1 q1) λu s2 ⟨x,H2,I2,rx,q2⟩=>thn (hi pins s2 σ H2 _ I2 q2) λiv s3 ⟨y,H3,I3,ry,a,H4,ex,g,q3⟩=>?_) hs;subst ex;obtain rfl:u=Value.ref a:=rx;exact qw3 hu I3 g ry rv λs4 I4=>⟨σ,H4,I4,q3⟩
end
theorem qzp{P:Program}{w:World}{H:Hp}(h:Heap)(hb:sysModules<h.objs.size):ObjOk P w H (h.push { cls:=.type "dict",data:=.dict #[] }) h.objs.size (.dK []):=
 ⟨Yh _,beq_eq_false_iff_ne.mpr (Ne.symm (Xi hb)),[],.nil,Heap.DictOf.new h⟩
abbrev vwy:TE:=λ_ H Q=>∀p,H p=none->Q (.ref p) (upd H p (.dK []))
section
variable {X:Cx}{pos:Pos}
theorem qz0:PE X (.Dict [] [] pos) vwy:=λpins s σ H Q I h=>
 wpAny_Dict_empty ⟨.ref s.heap.objs.size,_,I.laid (a:=s.heap.objs.size) (o:=.dK []) (t':=s.toks) (λ_ _ q=>X2 _ q) (Xa _) (qzp s.heap I.big),rfl,h _ (I.hok.fresh (Xa _))⟩
end
section
variable {X:Cx}
theorem qwd:CallR X (.builtin "len") (λxs H Q=>∃a aa,xs=[V.ref a]/\H a=some (.dK aa)/\Q (.int aa.length) H):=by
 intro pins s σ H xs us Q I r h;obtain⟨a,aa,rfl,ha,q⟩:=h;obtain⟨u,rfl,ru⟩:=wY r;cases ru;exact www I (.inl ha) λt s' I'=>⟨.int aa.length,H,I',⟨t,rfl⟩,q⟩
end
end L2
set_option maxHeartbeats 4000000
namespace L3
open PySem PySem.Spec PyProof.Rows L2
abbrev qv2(dk:List Expr)(env:Env):Sem Bool:=
 forIn dk true λc r=>if r=true then do let ok <-isTrue c env (eval c env);pure (ForInStep.yield ok)else pure (ForInStep.yield r)
theorem jvb (env : Env): ∀(l : List (Str × NameKind)) (cs : List (Str × Addr)), (∀y ∈ l, y.2 = .free -> ∃c, env.cells.lookup y.1 = some c) ->
    (∀x c, cs.lookup x = some c -> env.cells.lookup x = some c) ->
    ∃ cl, (forIn l cs (λ(x : Str × NameKind) (r : List (Str × Addr))=>if(x.2==NameKind.free) = true then do let a <-cellOf env x.1; pure (ForInStep.yield ((x.1, a)::r))else pure (ForInStep.yield r)): Sem (List (Str × Addr))) = pure cl /\
      (∀x c, cl.lookup x = some c -> env.cells.lookup x = some c) /\ (∀x c, cs.lookup x = some c -> ∃c', cl.lookup x = some c') /\ ∀y ∈ l, y.2 = .free -> ∃c, cl.lookup y.1 = some c
  | [], cs, _, hs=>⟨cs, rfl, hs, λx c h=>⟨c, h⟩, λ_ h=>nomatch h⟩
  | (n, k)::r, cs, hl, hs=>by
    by_cases hk : k = .free
    · subst hk
      obtain⟨c, hc⟩:= hl (n, .free) X6 rfl;have im : ∀x d, ((n, c)::cs).lookup x = some d -> env.cells.lookup x = some d:= λx d h=>by
        rw[Zb]at h;cases hx : x==n with
        | true=>
          rw[hx]at h;have e : x = n:= by simpa using hx
          have e2 : c = d:= by simpa using h
          subst e; subst e2;exact hc
        | false=>rw[hx]at h; exact hs x d h
      obtain⟨cl, e, a, b, d⟩:= jvb env r ((n, c)::cs) (λy hy=>hl y (lc9 _ hy)) im;refine⟨cl, ?_, a, λx c' h=> ?_, λy hy hf=> ?_⟩
      · rw[List.forIn_cons]
        have q : cellOf env n = pure c:= by unfold cellOf; rw[hc]
        simp only[beq_self_eq_true, if_true, q, pure_bind];exact e
      · cases hx : x==n with| true=>exact b x c (by rw[Zb, hx])| false=>exact b x c' (by rw[Zb, hx]; exact h)
      · rcases aD hy with z|z
        · subst z
          exact b n c (by rw[Zb]; simp)
        · exact d y z hf
    · obtain⟨cl, e, a, b, d⟩:= jvb env r cs (λy hy=>hl y (lc9 _ hy)) hs
      refine⟨cl, ?_, a, b, λy hy hf=> ?_⟩
      · rw[List.forIn_cons]
        have q : (k==NameKind.free) = false:= by simpa using hk
        simp only[q, Bool.false_eq_true, if_false, pure_bind];exact e
      · rcases aD hy with z|z
        · subst z
          exact absurd hf hk
        · exact d y z hf
theorem kjj{scope:Scope}{env:Env}(h:∀y∈scope.names,y.2=.free->∃c,env.cells.lookup y.1=some c):
  ∃cl,closureFor scope env=pure cl/\(∀x c,cl.lookup x=some c->env.cells.lookup x=some c)/\∀y∈scope.names,y.2=.free->∃c,cl.lookup y.1=some c:=by
 obtain⟨cl,e,a,_,d⟩:=jvb env scope.names [] h (λx c h=>nomatch h);refine⟨cl,?_,a,d⟩;unfold closureFor;have e':=congrArg (λt:Sem (List (Str×Addr))=>t >>= pure) e
 simpa using e'
def lcX(X:Cx)(scope:Scope)(N:List Str)(cl:List (Str×Addr))(C:Addr)(s0:Shared)(H0:Hp)(fp:List Addr):Cx:=
 { X with N:=N,s₀:=s0,H₀:=H0,env:=compEnvC scope cl C X.env,outer:=X.stack,ex:=fp,fn:=λ_=>false,pn:=[],xe:=λ_ _=>False }
def z9(k:Nat)(R:List Nat)(σ:L2.St):L2.St:=List.replicate k none++R.map λj=>(σ[j]?).join
structure LcOk (X:Cx)(scope:Scope)(N:List Str)(k:Nat)(R:List Nat):Prop where
 kind:scope.kind=.function
 nocell:∀y∈scope.names,y.2≠.cell
 names:∀y∈scope.names,y.2=.local->scope.names.lookup y.1=some .local
 caps:∀y∈scope.names,y.2=.free->X.env.kindOf y.1=some .cell\/X.env.kindOf y.1=some .free
 len:N.length=k+R.length
 outs:∀i j x,R[i]?=some j->N[k+i]?=some x->X.N[j]?=some x/\scope.names.lookup x=some .free
noncomputable def K1(XN:List Str)(sc scope:Scope)(N:List Str)(k:Nat)(R:List Nat):Bool:=
 scope.names.all (λy=>y.2 != .cell)&&scope.names.all (λy=>y.2 != .local||scope.names.lookup y.1==some .local) &&
 scope.names.all (λy=>y.2 != .free||(sc.names.lookup y.1==some .cell||sc.names.lookup y.1==some .free)) &&
 (N.length==k+R.length)&&(R.zip (N.drop k)).all (λp=>XN[p.1]? == some p.2&&scope.names.lookup p.2==some .free)
theorem kxt{X:Cx}{scope:Scope}{N:List Str}{k:Nat}{R:List Nat}(hk:scope.kind=.function)(h:K1 X.N X.env.scope scope N k R=true):LcOk X scope N k R:=by
 unfold K1 at h;simp only[Bool.and_eq_true,Ya,bne_iff_ne,Bool.or_eq_true,beq_iff_eq]at h;obtain⟨⟨⟨⟨h1,h2⟩,h3⟩,h4⟩,h5⟩:=h;refine⟨hk,λy hy=>h1 y hy,λy hy e=>(h2 y hy).resolve_left (λz=>z e),λy hy e=>(h3 y hy).resolve_left (λz=>z e),h4,λi j x e1 e2=>?_⟩;have m:(j,x)∈R.zip (N.drop k):=by
  refine Xz (i:=i) ?_;rw[List.getElem?_zip_eq_some];exact⟨e1,by rw[List.getElem?_drop];exact e2⟩
 exact h5 (j,x) m
theorem W2 {env : Env} {x : Str} {q : NameKind}: ∀{names : List (Str × NameKind)}, (names.map λ(n, k)=>if(k==NameKind.free&&env.scope.kind == .function&&env.kindOf n==some .cell)then(n, NameKind.cell)else(n, k)).lookup x = some q ->
    (x, q) ∈ names \/ (q = .cell /\ (x, NameKind.free) ∈ names)
  | [], h=>nomatch h
  | (n, k)::r, h=>by
    have h : List.lookup x ((if(k==NameKind.free&&env.scope.kind == .function&&env.kindOf n==some .cell) = true then(n, NameKind.cell)else(n, k))::(r.map λ(n, k)=>if(k==NameKind.free&&env.scope.kind == .function&&env.kindOf n==some .cell)then(n, NameKind.cell)else(n, k))) = some q:= h
    by_cases hc : (k==NameKind.free&&env.scope.kind == .function&&env.kindOf n==some .cell) = true
    · rw[X7 hc, Zb]at h
      cases hx : x==n with
      | true=>
        rw[hx]at h;have e : x = n:= by simpa using hx
        have e2 : NameKind.cell = q:= by simpa using h
        subst e;simp only[Bool.and_eq_true, beq_iff_eq]at hc;obtain⟨⟨e3, _⟩, _⟩:= hc;subst e3;exact .inr ⟨e2.symm, X6⟩
      | false=>
        rw[hx]at h;rcases W2 (names:= r) h with z|⟨z, y⟩
        · exact .inl (lc9 _ z)
        · exact .inr ⟨z, lc9 _ y⟩
    · rw[X9 hc, Zb]at h
      cases hx : x==n with
      | true=>
        rw[hx]at h;have e : x = n:= by simpa using hx
        have e2 : k = q:= by simpa using h
        subst e; subst e2;exact .inl X6
      | false=>
        rw[hx]at h;rcases W2 (names:= r) h with z|⟨z, y⟩
        · exact .inl (lc9 _ z)
        · exact .inr ⟨z, lc9 _ y⟩
section
variable {X:Cx}{pins:LA9}{σ:L2.St}{H:Hp}{s:Shared}
theorem wjn{scope:Scope}{N:List Str}{k:Nat}{R:List Nat}{cl:List (Str×Addr)}{C:Addr}(sc:LcOk X scope N k R)(b8:∀y∈scope.names,y.2=.free->∃c,cl.lookup y.1=some c)
  {x:Str} (h:(compEnvC scope cl C X.env).kindOf x=some .cell\/(compEnvC scope cl C X.env).kindOf x=some .free):∃c,cl.lookup x=some c:=by
 rcases h with h|h
 ·rcases W2 (env:=X.env) (names:=scope.names) h with z|⟨_,z⟩
  ·exact absurd rfl (sc.nocell _ z)
  ·exact b8 _ z rfl
 ·rcases W2 (env:=X.env) (names:=scope.names) h with z|⟨z,_⟩
  ·exact b8 _ z rfl
  ·cases z
theorem wjo{scope:Scope}{N:List Str}{k:Nat}{R:List Nat}{cl:List (Str×Addr)}{C:Addr}{fp:List Addr}(I:Inv X pins σ H s)(sc:LcOk X scope N k R)(hf:∀b∈fp,qw X pins H b)(ho:∀b∈fp,∃o,s.heap.get? b=some o)
  (hC:s.heap.objs.size<=C) (cp:∀x c,cl.lookup x=some c->X.env.cells.lookup x=some c) (b8:∀y∈scope.names,y.2=.free->∃c,cl.lookup y.1=some c):(lcX X scope N cl C s H fp).Ok where
 mod:=I.ok.mod
 kind:=sc.kind
 glob:=I.ok.glob
 blt:=I.ok.blt
 above:=hC
 inj:=λx y c h1 h2=>I.ok.inj x y c (cp _ _ h1) (cp _ _ h2)
 has:=λx h=>wjn sc b8 h
 cab:=λx c h=>by cases h
 hd:=I.ok.hd
 frames:=I.ok.frames
 stk:=.inl rfl
 exf:=λb hb=>by
  obtain⟨o,e⟩:=ho b hb;exact⟨Xi (Xm (Xd e) hC),λx c h=>(hf b hb).2.2.2.2.1 x c (cp x c h)⟩
 bs:=λb o e=>I.bs b o e
 bsz:=Yn I.ok.bsz I.sz
 noex:=λb o e hb=>by
  rcases(hf b hb).2.2.2.1 with z|z
  ·exact I.ok.noex b o e z
  ·exact absurd (Xm (Xd e) (Yn I.ok.bsz z)) (Yv _)
 exfs:=λb hb hs=>by
  rcases aD (I.stkSub b hs)with z|z
  ·exact(hf b hb).2.1 z
  ·exact(hf b hb).2.2.1 z
 funs:=I.stack
 frf:=I.stkFree
theorem vx2(I:Inv X pins σ H s){a:Addr}(h:s.heap.objs.size<=a):a∉frs X.stack:=λz=>by
 rcases aD (I.stkSub a z)with e|e
 ·subst e;exact absurd (Xm I.lt h) (Yv _)
 ·exact I.nofs h e
theorem vv7 {scope:Scope} {N:List Str} {k:Nat} {R:List Nat} {cl:List (Str×Addr)} {C D:Addr} {fp:List Addr} {h1:Heap} {t:Nat} {m:Str->Option Value} {oD:Obj} (I:Inv X pins σ H s) (sc:LcOk X scope N k R)
  (hf:∀ b∈fp,qw X pins H b) (ho:∀b∈fp,∃o,s.heap.get? b=some o)
  (hC:s.heap.objs.size<=C) (hD:s.heap.objs.size<=D) (nh:D≠C) (cp:∀x c,cl.lookup x=some c->X.env.cells.lookup x=some c) (b8:∀y∈scope.names,y.2=.free->∃c,cl.lookup y.1=some c)
  (cw:∀ b o,s.heap.get? b=some o->h1.get? b=some o) (hn:h1.Ns C m) (eD:h1.get? D=some oD) (dD:∀v,oD.data≠.cell v):
  Inv (lcX X scope N cl C s H fp) [(D,oD)] (z9 k R σ) H { s with heap:=h1,toks:=t } where
 ok:=wjo I sc hf ho hC cp b8
 os:=rfl
 bare:=I.bare
 base:=Un.kept cw
 loc:=⟨m,hn,λi x v e1 e2 vis=>by
  obtain⟨mX,hnX,hl⟩:=I.loc;unfold z9 at e2
  by_cases hi:i<k
  ·rw [Yi (by rw[Z2];exact hi),List.getElem?_replicate,X7 hi]at e2;cases e2
  ·have hk:k<=i:=Nat.le_of_not_lt hi;rw [List.getElem?_append_right (by rw[Z2];exact hk),Z2,Xp]at e2;cases er:R[i - k]? with
   | none=>rw[er]at e2;cases e2
   | some j=>
    rw [er]at e2;have ej:(σ[j]?).join=some v:=by simpa using e2
    have ej':σ[j]?=some (some v):=by
     cases q:σ[j]? with
     | none=>rw[q]at ej;cases ej
     | some z=>rw[q]at ej;cases z with| none=>cases ej| some z=>rw[show z=v by simpa using ej]
    obtain⟨o1,o2⟩:=sc.outs (i - k) j x er (by rw[show k+(i - k)=i by lia];exact e1);have cap:=sc.caps (x,.free) (Yz o2) rfl;have visX:Vis X.env.scope x:=cap.elim (λz=>.inr (.inl z)) λz=>.inr (.inr z)
    obtain⟨u,ru,q⟩:=hl j x v o1 ej' visX;refine⟨u,ru,?_⟩;rcases q with⟨q,_⟩|⟨_,c,ec,hc⟩
    ·rcases cap with z|z
     ·rw[z]at q;cases q
     ·rw[z]at q;cases q
    ·obtain⟨c',ec'⟩:=b8 (x,.free) (Yz o2) rfl;have e:c'=c:=oq9 ((cp x c' ec').symm.trans ec);subst e;refine .inr ⟨?_,c',ec',?_⟩
     ·rcases vis with z|z|z
      ·rcases W2 (env:=X.env) (names:=scope.names) z with y|⟨y,_⟩
       ·have y':=sc.names _ y rfl;rw[o2]at y';cases y'
       ·cases y
      ·exact .inl z
      ·exact .inr z
     ·obtain⟨o,h1,h2⟩:=hc;exact⟨o,cw _ _ h1,h2⟩⟩
 cell:=λx c h=>by
  obtain⟨v,o,h1,h2⟩:=I.cell x c (cp x c h);exact⟨v,o,cw _ _ h1,h2⟩
 free:=I.hok.fresh hC
 freeC:=λx c h=>I.freeC x c (cp x c h)
 pin:=λp hp=>by
  have e:p=(D,oD):=by
   have hp:p∈([]++[(D,oD)]:LA9):=hp
   simpa using hp
  subst e;exact⟨eD,I.hok.fresh hD,nh,vx2 I hD,dD⟩
 hok:=I.hok.kept cw
 len:=by
  show(z9 k R σ).length=N.length;unfold z9;rw[sc.len,Xv,Z2,X3]
theorem kqn{a:Addr}{o:HO}(I:Inv X pins σ H s)(hn:H a=none)(hL:a≠X.env.locals)(h1:a∈X.ex\/X.s₀.heap.objs.size<=a)(h2:∀x c,X.env.cells.lookup x=some c->c≠a)(h3:∀p∈X.pn++pins,p.1≠a)
  (new:ObjOk X.prog X.w (upd H a o) s.heap a o):Inv X pins σ (upd H a o) s:=by
 have hok:HOk X.prog X.w (upd H a o) s.heap:=λb u e=>by
  by_cases hb:b=a
  ·subst hb;rw[v6]at e;cases e;exact new
  ·rw[jX hb]at e;exact(I.hok b u e).stay (λ_ _ _ q=>q) (λc q=>by rw[jX (v9 q hn)];exact q) λc xs q=>by rw[jX (v9 q hn)];exact q
 have na:∀b:Addr,b∉[a]->b≠a:=λb hb z=>hb (by rw[z];exact aB rfl)
 exact I.step (h':=s.heap) (H':=upd H a o) (g':=s.gens) (t':=s.toks) (d':=s.drawn) (ch:=[a])
  (λb hb=>by rw[aC hb];exact⟨h1,hL,h2,h3⟩) (λb o _ _ _ e _=>e) (λb o _ _ _ e _=>⟨o.slots,e⟩) (λb o hb _ q=>by rw[jX (na b hb)];exact q)
  (λb o _ e=>⟨o,e⟩) (λb xs q=>by rw[jX (v9 q hn)];exact q) (λb o u q=>by rw[jX (v9 q hn)];exact q) (λb ps q=>⟨#[],by rw[jX (v9 q hn),q];simp⟩)
  (λm hm=>hm) hok I.bare
end
def PTs(X:Cx)(dk:List Expr)(t:TT):Prop:=
 ∀(pins:LA9) (s:Shared) (σ:L2.St) (H:Hp) (Q:Bool->Hp->Prop),Inv X pins σ H s->t σ H Q->wpAny (model X.prog X.w) X.A (qv2 dk X.env) (TP X pins σ Q) X.xe s
abbrev tYes:TT:=λ_ H Q=>Q true H
theorem vq8{X:Cx}:PTs X [] tYes:=λ_ _ _ H _ I h=>wpAny_tests_nil ⟨H,I,h⟩
theorem vq7{X:Cx}{c:Expr}{t:TT}(hc:PT X c t):PTs X [c] t:=λpins s σ H Q I h=>wpAny_tests_one (hc pins s σ H Q I h)
noncomputable def LcW(g:TG)(tt:TT)(te:TE)(Q:VK)(J:It)(W:Nat->Nat->List V->L2.St->Hp->Prop):Prop:=∀i m ys σ H,W i m ys σ H ->
 (J.stop i H/\ys.length<=sizeLine/\∀p,H p=none->Q (.ref p) (upd H p (.lst ys))) \/
 (J.go i H/\∀x H1,J.yld i H x H1->g x σ H1 fun σ2 H2=>∃(Ny:VK) (Nn:Hp->Prop),(∀y H4,Ny y H4->ys.length<=sizeLine/\∃m',m'<m/\W (i+1) m' (ys++[y]) σ2 H4) /\
  (∀H4,Nn H4->∃m',m'<m/\W (i+1) m' ys σ2 H4)/\tt σ2 H2 λb H3=>if b=true then te σ2 H3 Ny else Nn H3)
abbrev tLC(wi:TI)(g:TG)(tt:TT)(te:TE)(k:Nat)(R:List Nat):TE:=fun σ H Q=>wi σ H λJ H1=>
 ∃W:Nat->Nat->List V->L2.St->Hp->Prop,(∃m,W 0 m [] (z9 k R σ) H1)/\LcW g tt te Q J W
abbrev VQ(ac:List Value)(n:Nat):Obj:={ cls:=.type "list",data:=.seq ac.toArray n }
section
variable {X:Cx}
theorem op_mulI:OpR X (binaryOp .Mult) (rI IntMulOk λi j=>.int (i*j)):=opI λ_ _ _ _ _ _ _ hc q=>mul_int q hc
def wqe(_i j:Int):Prop:=0<j/\j.natAbs.log2<9000
theorem vX:OpR X (binaryOp .FloorDiv) (rI wqe λi j=>.int (i / j)):=opI λi j _ _ _ _ _ hc q=>by
 have h1:(0:Int)<j:=hc.1;exact floordiv_int ⋯ (by rw[Int.fdiv_eq_ediv_of_nonneg i ⋯];exact q) (.inl (PyProof.noPylong_of_log2 hc.2))
def kinds:List String:=["NoneType","bool","int","str","list","tuple","dict"]
def Zq(T U:String):Bool:=T==U||(T == "bool" && U == "int")
theorem kwa{K:Frag}{T U:String}(hT:T∈kinds)(hU:U∈kinds.tail):kitOne K (.type T) (.type U)=some (Zq T U):=by
 simp only[kinds,List.tail_cons,Y3,Y6,or_false]at hT hU;rcases hT with rfl|rfl|rfl|rfl|rfl|rfl|rfl<;>rcases hU with rfl|rfl|rfl|rfl|rfl|rfl<;>ac_rfl
def wxi(K:Frag):List V->Hp->VK->Prop:=λxs H Q=>∃x T U,xs=[x,.ty U]/\TyOf K H x (.type T)/\T∈kinds/\U∈kinds.tail/\Q (.bl (Zq T U)) H
theorem qzv:CallR X (.builtin "isinstance") (wxi X.K):=by
 intro pins s σ H xs us Q I r h;obtain⟨x,T,U,rfl,ty,hT,hU,q⟩:=h;obtain⟨u,w',rfl,r1,r2⟩:=YW r;cases(show w'=Value.type U from r2);exact qvb I r1 ty (kwa hT hU) λtk=>⟨.bl _,H,I.tok _,rfl,q⟩
theorem vk6:∀{bs:List Bool} {ac:List Value} {i:Nat} {v:Value},Vals (bs.map V.bl) ac->ac[i]?=some v->∃b,bs[i]?=some b/\v=.bool b
 |[],_,_,_,.nil,e=>by simp at e
 |b::bs,_,0,v,.cons r _,e=>by
  simp at e;subst e;exact⟨b,rfl,r⟩
 |b::bs,_,i+1,v,.cons _ t,e=>by
  obtain⟨b',e1,e2⟩:=vk6 (i:=i) t (by simpa using e);exact⟨b',by simpa using e1,e2⟩
theorem kq7(bs:List Bool):((List.range bs.length).all λi=>(bs[i]?).getD true)=bs.all id:=by
 rw[Bool.eq_iff_iff,Ya,Ya];constructor
 ·intro h b hb;obtain⟨i,hi,e⟩:=List.getElem_of_mem hb;have:=h i (List.mem_range.mpr hi);rw[X5 hi,e]at this;exact this
 ·intro h i hi;have jo:=List.mem_range.mp hi;rw[X5 jo];exact h _ (Y2 jo)
def wvg(K:Frag):List V->Hp->VK->Prop:=λxs H Q=>∃(p:Addr) (bs:List Bool),xs=[.ref p]/\SqL K H p (bs.map V.bl)/\Q (.bl (bs.all id)) H
theorem qzx(hc:X.calm=true):CallR X (.builtin "all") (wvg X.K):=by
 intro pins s σ H xs us Q I r h;obtain⟨p,bs,rfl,hq,q⟩:=h;obtain⟨u,rfl,ru⟩:=wY r;cases ru;obtain⟨ac,rv,pl,hz⟩:=I.list hq;have hl:=pl.isList;have c9:p<s.heap.objs.size:=by obtain⟨_,e,_⟩:=hl;exact Xd e
 have ah:bs.length=ac.length:=by rw[<-rv.length,X3]
 refine call_all_walk (Zf hl ?_);refine⟨s.heap.objs.size,[s.heap.objs.size,p],[s.heap.objs.size],ac.toArray.size,_,_,λi=>(bs[i]?).getD true,rfl,Walks.list (A:=X.A.in1) (I.ok.hd hc) _ p (Xi c9) ac.toArray,
  ⟨⟨_,Xb _ rfl,rfl,rfl⟩,hl.push _⟩,λi v s' Q' E' hP hQ=>?_,λh' tk hk=>?_⟩
 ·obtain⟨b,e,rfl⟩:=vk6 rv (by simpa using hP);simp only[e,Option.getD_some]at hQ;exact wpAny_truthy_bool hQ
 ·have e:((List.range ac.toArray.size).all λi=>(bs[i]?).getD true)=bs.all id:=by
   rw[X8,<-ah];exact kq7 bs
  rw[e];refine⟨.bl _,H,I.kept (t':=tk) (h':=h') λb o e=>hk b o (λz=>?_) (X2 _ e),rfl,q⟩;exact absurd (Xd e) (by rw[aC z];exact Yv _)
def Its(x:Str):It:=⟨λi _=>i<x.cps.size,λi H v H'=>H'=H/\∃c,x.cps[i]?=some c/\v=.str ⟨#[c]⟩,λi _=>i=x.cps.size⟩
theorem kwr{P:Program}{w:World}{K:Frag}{tg:Expr}{x:Str}{t:Tok}{it:Addr}{ty:String}
  (W:∀A':Around,A'.handled=none->Walks P w A' it [it] [it] x.cps.size (SignAt x) (λi h=>h.IsStrIter it ty x t i))
  (nw:∀(A:Around) (i:Nat) (s:Shared) (Q:VP9) (E:VP9),s.heap.IsStrIter it ty x t i->Q (.ref it) s->wpAny (model P w) A (pyIter (.ref it)) Q E s)
  (mt:["enumerate","zip","dict_itemiterator","dict_reverseitemiterator","odict_iterator","itertools.zip_longest","itertools.pairwise"].contains ty=false):
  Turn P w K tg (Its x) [it] it (λi h=>h.IsStrIter it ty x t i) where
 mem:=by simp
 obj:=λi h st b hb=>by
  have e:b=it:=by simpa using hb
  subst e;obtain⟨o,e,c,d⟩:=st;exact⟨o,e,λv z=>by rw[d]at z;cases z⟩
 keep:=λi h h' st k=>by
  obtain⟨o,e,r⟩:=st;exact⟨o,k it (by simp) o e,r⟩
 item:=by
  intro X hP hw hK hc i pins s σ H E I hf st hg;subst hP hw hK;obtain⟨f0,f1,f2,f3,f4,f5⟩:=hf it (by simp);refine(W X.A (I.ok.hd hc)).item i s _ _ hg st λv h' tk hv cu kk=>?_
  obtain⟨c,u,ff,rfl⟩:=hv;have I1:Inv X pins σ H { s with heap:=h',toks:=tk }:=I.turned (λb o hb e=>kk b o (by simpa using hb) e) f0 f1 f3 f4 f5;obtain⟨o,e,c1,d⟩:=id cu;exact⟨_,rfl,qzh (s:={ s with heap:=h',toks:=tk }) e c1 d mt ⟨.str ⟨#[c]⟩,H,I1,⟨u,rfl⟩,⟨rfl,c,ff,rfl⟩,cu,λb hb=>(hf b hb).1⟩⟩
 done:=by
  intro X hP hw hK hc i pins s σ H E I hf st hg;subst hP hw hK;obtain⟨f0,f1,f2,f3,f4,f5⟩:=hf it (by simp);have n8:i=x.cps.size:=hg;subst n8;exact(W X.A (I.ok.hd hc)).done s _ _ st λh' tk kk=>⟨rfl,I.turned (λb o hb e=>kk b o (by simpa using hb) e) f0 f1 f3 f4 f5⟩
 self:=λA i s Q E st hQ=>nw A i s Q E st hQ
def wxc:V->Option Int->Option Int->Hp->VK->Prop:=λx lo hi H Q=>∃z,x=.str z/\z.length<=sizeLine/\Q (.str (Txt.slice z lo hi)) H
theorem vx5:SlR X wxc:=by
 intro pins s σ H x v vl vu lo hi sl Q I rx hs pl pu h;obtain⟨z,rfl,hz,q⟩:=h;obtain⟨t,rfl⟩:=rx;refine⟨"str",_,F.slot_str_getitem.lookup,typeIs_str _ _ _,?_⟩;have fin:∀(t':Tok) (k:Nat),EP X pins σ Q (.str (Txt.slice z lo hi) t') { s with toks:=k }:=λt' k=>⟨.str _,H,I.tok k,⟨t',rfl⟩,q⟩
 have du:(Txt.slice z lo hi).length<=sizeLine:=Yn (Txt.slice_le z _ _) hz;cases pl with
 |none=>cases pu with|none=>exact wpAny_getItem_str_slice (l:=none) (u:=none) (st:=none) hs rfl (post_val_or_str ⟨du,fin⟩)|int j tj=>exact wpAny_getItem_str_slice (l:=none) (u:=some (j,tj)) (st:=none) hs rfl (post_val_or_str ⟨du,fin⟩)
 |int i ti=>cases pu with|none=>exact wpAny_getItem_str_slice (l:=some (i,ti)) (u:=none) (st:=none) hs rfl (post_val_or_str ⟨du,fin⟩)|int j tj=>exact wpAny_getItem_str_slice (l:=some (i,ti)) (u:=some (j,tj)) (st:=none) hs rfl (post_val_or_str ⟨du,fin⟩)
def vxh:R2:=λx y H Q=>∃z n,x=.str z/\y=.int n/\(z.length<=1024/\n<=1024/\-1024<=n)/\Q (.str (Txt.mul z n)) H
theorem vqq:OpR X (binaryOp .Mult) vxh:=by
 intro pins s σ H x y v u Q I rx ry h;obtain⟨z,n,rfl,rfl,⟨h1,h2,h3⟩,q⟩:=h;obtain⟨t,rfl⟩:=rx;obtain⟨t',rfl⟩:=ry;exact SB.mul (mulOk_of 1024 1024 h1 h2 ⋯ ⋯ ⋯) λt' k=>⟨.str _,H,I.tok k,⟨t',rfl⟩,q⟩
theorem kwz:∀{ys:List Str} {ac:List Value},Vals (ys.map V.str) ac->StrsAre ac ys
 |[],_,.nil=>.nil|_::_,_,.cons ⟨t,e⟩ r=>by subst e;exact .cons _ t (kwz r)
def wvf(K:Frag):V->List V->Hp->VK->Prop:=λx vs H Q=>∃z p ys,x=.str z/\vs=[.ref p]/\SqL K H p (ys.map V.str)/\(ys.map (·.length)).sum+ys.length*z.length<=16777216/\Q (.str (Txt.join z ys)) H
theorem vv1:MtR X "str.join" (wvf X.K):=by
 intro pins s σ H x xs v us Q I rx rv h;obtain⟨z,p,ys,rfl,rfl,hq,hok,q⟩:=h;obtain⟨t,rfl⟩:=rx;obtain⟨u,rfl,ru⟩:=rv.one;cases ru;obtain⟨ac,rs,pl,hz⟩:=I.list hq;exact join_list pl.isList (kwz rs) hok λt' k=>⟨.str _,H,I.tok k,⟨t',rfl⟩,q⟩
def qkk(K:Frag):V->Option Int->Option Int->Hp->VK->Prop:=λx lo hi H Q=>wxd K x lo hi H Q\/wxb K x lo hi H Q\/wxc x lo hi H Q
theorem vx8(K:Frag)(hK:autoParam (X.K=K) Ŕ):SlR X (qkk K):=by subst hK;exact sl_list.or (sl_tup.or vx5)
def qkm(K:Frag):List V->Hp->VK->Prop:=λxs H Q=>(∃p ys,xs=[.ref p]/\(SqL K H p ys\/SqT K H p ys)/\Q (.int ys.length) H)\/(∃z,xs=[.str z]/\z.length<=sizeLine/\Q (.int z.length) H)\/(∃a aa,xs=[V.ref a]/\H a=some (.dK aa)/\Q (.int aa.length) H)
theorem vw3(K:Frag)(hK:autoParam (X.K=K) Ŕ):CallR X (.builtin "len") (qkm K):=by subst hK;exact call_len_seq.or (call_len_str.or qwd)
theorem qwg(K:Frag)(hK:autoParam (X.K=K) Ŕ)(hc:autoParam (X.calm=true) Ŕ):CallR X (.builtin "all") (wvg K):=by subst hK;exact qzx hc
theorem vjk(K:Frag){o e:Expr}{es:List Expr}{T:String}{name:Str}{id:String}{r:V->List V->Hp->VK->Prop}{to:TE}{t:TA}{aw am:Pos}
  (pa:PlainAttrs T) (slot:Slot T name id) (mt:typeOf (.builtin id)=pure (.type "method_descriptor")) (hm:MtR X id r) (ho:PE X o to) (ha:PA X (e::es) t)
  (bh:autoParam (attributeBase o name X.env (eval o X.env)=eval o X.env) Ŕ)
  (dg:autoParam (((backTo am (starEach (e::es) X.env)).all (λx=>!x.1)&&(backToKw am (keywordEach [] X.env)).all (λx=>x.1.isSome)
   && decide ((e::es).length+([]:List Keyword).length+(if([]:List Keyword).isEmpty then 0 else 1)<30))=true) Ŕ)
  (be:autoParam ((aw.endLine==am.line)=true) Ŕ) (hs:autoParam (starEach (e::es) X.env=(false,eval e X.env)::starEach es X.env) Ŕ) (bg:autoParam ((backTo am (starEach es X.env)).any (·.1)=false) Ŕ) (hK:autoParam (X.K=K) Ŕ):
  PE X (.Call (.Attribute o name aw) (e::es) [] am) (tBM K T r to t):=by subst hK;exact vqn pa slot mt hm ho ha bh dg be hs bg
theorem vk4:bootBuiltins "len"=some (.builtin "len"):=by decide +kernel
theorem jwn:bootBuiltins "isinstance"=some (.builtin "isinstance"):=by decide +kernel
theorem vk5:bootBuiltins "all"=some (.builtin "all"):=by decide +kernel
theorem qwh:bootBuiltins "sorted"=some (.builtin "sorted"):=by decide +kernel
theorem qwi:bootBuiltins "list"=some (.type "list"):=by decide +kernel
theorem kkp:bootBuiltins "tuple"=some (.type "tuple"):=by decide +kernel
theorem vw7:bootBuiltins "dict"=some (.type "dict"):=by decide +kernel
end
def Cst(mg:Str->Option Value)(x:Str)(v:V):Prop:=∃u,mg x=some u/\RelV v u
section
variable {X:Cx}{x:Str}{p pos:Pos}{e:Expr}{es:List Expr}{t:TA}{ps:List Str}{sp:Sp}{k:Nat}{v:V}
theorem vzx(c:Cst X.mg x v)(hg:autoParam (Gl X x) Ŕ)(hd:autoParam ((x==("__debug__":Str))=false) ŕ):PE X (.Name x pos) (tC v):=by
 obtain⟨u,m,r⟩:=c;exact qq9 hg m r hd
end
theorem kzb:∀{ns:List Int} {m:Nat},PySem.W.WData.weightAll (ns.map PySem.W.WData.int)<=m->∀n∈ns,Builtin.Int.intBits n<=m
 | [],_,_,_,h=>nomatch h
 | a::r,m,h,n,hn=>by
  have h':(if a==0 then 0 else a.natAbs.log2+1)+1+PySem.W.WData.weightAll (r.map PySem.W.WData.int)<=m:=h;rcases aD hn with z|z
  ·subst z;have e:Builtin.Int.intBits n=(if n==0 then 0 else n.natAbs.log2+1):=rfl;rw[e];lia
  ·exact kzb (m:=m) ⋯ n z
theorem kwk{ns:List Int}(h:PySem.W.WData.layableAll [PySem.W.WData.list (ns.map PySem.W.WData.int)]=true):∀n∈ns,Builtin.Int.intBits n<=1048576:=by
 have h1:(PySem.W.WData.list (ns.map PySem.W.WData.int)).layable=true:=(PySem.W.layW_cons h).1;unfold PySem.W.WData.layable at h1;simp only[Bool.and_eq_true,decide_eq_true_eq]at h1;have h2:PySem.W.WData.weightAll (ns.map PySem.W.WData.int)<=2 ^ 20:=h1.2;exact kzb (by simpa using h2)
section
variable {X:Cx}{pins:LA9}{σ:L2.St}{H:Hp}{s:Shared}
theorem in1_units(A:Around):A.in1.units<=A.units+1:=by
 first|exact Xa _|(show A.units+1<=A.units+1;exact Xa _)|(unfold Around.in1;simp)
end
section
variable {X:Cx}
def vq0:V->List V->Hp->VK->Prop:=λv vs H Q=>∃(x y:Str) (i:Nat) (ai:List Nat),v=.str x/\vs=[.str y]/\Builtin.Str.occurrences x y 0 x.length 1=i::ai/\Q (.int i) H
theorem vv2:MtR X "str.index" vq0:=by
 intro pins s σ H x xs v us Q I rx rv h;obtain⟨z,y,i,ai,rfl,rfl,ho,q⟩:=h;obtain⟨t,rfl⟩:=rx;obtain⟨u,rfl,t',rfl⟩:=rv.one;exact SC.index ho ⟨.int i,H,I.tok _,⟨_,rfl⟩,q⟩
def qkl(K:Frag):List V->Hp->VK->Prop:=λxs H Q=>∃p ys,xs=[.ref p]/\(SqL K H p ys\/SqT K H p ys)/\∀l,H l=none->Q (.ref l) (upd H l (.lst ys))
theorem qzy(K:Frag)(hK:autoParam (X.K=K) Ŕ):CallR X (.type "list") (qkl K):=by subst hK;exact kv5
end
section
variable {X:Cx}{pins:LA9}{σ:L2.St}{H:Hp}{s:Shared}
theorem jze{t':Nat}{h':Heap}(fp:List Addr)(I:Inv X pins σ H s)(k:∀b o,b∉fp->s.heap.get? b=some o->h'.get? b=some o)(hf:∀b∈fp,qw X pins H b):Inv X pins σ H { s with heap:=h',toks:=t' }:=by
 have rz:∀b u,H b=some u->b∉fp:=λb u e z=>by rw[(hf b z).1]at e;cases e
 refine I.step (g':=s.gens) (d':=s.drawn) (ch:=fp) (λb hb=>?_) (λb o _ _ hc e _=>k b o hc e) (λb o _ _ hc e _=>⟨o.slots,k b o hc e⟩) (λ_ _ _ _ n=>n)
  (λb o hc e=>⟨o,k b o hc e⟩) (λ_ _ e=>e) (λ_ _ _ e=>e) (λb ps e=>⟨#[],by rw[e];simp⟩) (λm hm=>?_) (λb u e=>?_) I.bare
 ·obtain⟨_,f1,_,f3,f4,f5⟩:=hf b hb;exact⟨f3,f1,f4,f5⟩
 ·obtain⟨o,es,ep,ho,r⟩:=hm;exact⟨o,es,ep,k _ o (λz=>(hf _ z).2.1 rfl) ho,r⟩
 ·refine(I.hok b u e).stay (λc v hc q=>k c v ?_ q) (λ_ q=>q) λ_ _ q=>q
  rcases hc with z|z
  ·rw[z];exact rz b u e
  ·exact rz c _ z
end
end L3
namespace L2
open PySem PySem.Spec PyProof.Rows
section
variable {P:Program}{w:World}{H H':Hp}{h h':Heap}{a:Addr}{o:HO}
theorem ObjOk.obj(x:ObjOk P w H h a o):∃u,h.get? a=some u:=by
 cases o with|lst xs=>obtain⟨_,_,_,_,e⟩:=x;exact⟨_,e⟩|tup xs=>obtain⟨_,_,_,p⟩:=x;obtain⟨u,e,_⟩:=p;exact⟨u,e⟩|dK aa=>obtain⟨_,_,_,_,o,_,_,e,_⟩:=x;exact⟨_,e⟩|dT aa=>obtain⟨_,_,_,_,o,_,_,e,_⟩:=x;exact⟨_,e⟩|set S n=>obtain⟨o,_,_,_,e,_⟩:=x;exact⟨_,e⟩|ins C dx fs=>obtain⟨_,_,_,e,_⟩:=x;exact⟨_,e⟩|own y=>obtain⟨_,e⟩:=x;exact⟨_,e⟩|xd fs=>obtain⟨_,⟨_,_,_,e,_⟩,_⟩:=x;exact⟨_,e⟩|rng lo hi=>obtain⟨_,_,_,e⟩:=x;exact⟨_,e⟩|frz ob u=>obtain⟨e,_⟩:=x;exact⟨_,e⟩|tbl ps=>exact⟨_,x⟩|met f y=>exact⟨_,x⟩|ext φ=>obtain⟨_,⟨_,e⟩,_⟩:=x;exact⟨_,e⟩
end
section
variable {X:Cx}{pins:LA9}{σ:List (Option V)}{H H':Hp}{s:Shared}{h':Heap}
theorem Inv.stepN{g':Array GenState}{t':Nat}{d':Drawn}{ch:List Addr}(I:Inv X pins σ H s)
  (f9:∀b∈ch,(b∈X.ex\/X.s₀.heap.get? b=none)/\b≠X.env.locals/\(∀x c,X.env.cells.lookup x=some c->c≠b)/\∀p∈X.pn++pins,p.1≠b)
  (keep:∀b o,b≠X.env.locals->b∉X.fs->b∉ch->s.heap.get? b=some o->H b=none->h'.get? b=some o)
  (slot:∀b o,b≠X.env.locals->b∈X.fs->b∉ch->s.heap.get? b=some o->H b=none->∃sl,h'.get? b=some { o with slots:=sl }) (free:∀b o,b∉ch->s.heap.get? b=some o->H b=none->H' b=none)
  (there:∀b o,b∉ch->s.heap.get? b=some o->∃o',h'.get? b=some o')
  (tups:∀b xs,H b=some (.tup xs)->H' b=some (.tup xs)) (frzs:∀b o u,H b=some (.frz o u)->H' b=some (.frz o u)) (tbls:∀b ps,H b=some (.tbl ps)->∃more,H' b=some (.tbl (ps++more)))
  (ns:∀m,s.heap.Ns X.env.locals m->h'.Ns X.env.locals m) (hok:HOk X.prog X.w H' h') (hg:AllBare g'):
  Inv X pins σ H' { s with heap:=h',gens:=g',drawn:=d',toks:=t' }:=by
 have rl:∀b o,X.s₀.heap.get? b=some o->b≠X.env.locals:=λb o e=>Xi (Xm (Xd e) I.ok.above)
 have ko:∀b o,X.s₀.heap.get? b=some o->b∉X.ex->b∉ch:=λb o e hx hb=>by
  rcases(f9 b hb).1 with z|z
  ·exact hx z
  ·rw[z]at e;cases e
 have fw:∀x c,X.env.cells.lookup x=some c->∀v,s.heap.IsCell c v->h'.IsCell c v:=λx c e v ⟨o,ho,hd⟩=>by
  have ir:c∉ch:=λz=>(f9 c z).2.2.1 x c e rfl
  by_cases hc:c∈X.fs
  ·obtain⟨sl,q⟩:=slot c o (I.cne x c e) hc ir ho (I.freeC x c e);exact⟨_,q,hd⟩
  ·exact⟨o,keep c o (I.cne x c e) hc ir ho (I.freeC x c e),hd⟩
 refine⟨I.ok,I.os,hg,⟨λb o e n hb hx=>?_,λb o e n hb hx=>?_,λb o e n hx=>?_,λb o e hx=>?_,λb xs e=>tups b xs (I.base.tups b xs e),λb o xs e=>frzs b o xs (I.base.frzs b o xs e),λb ps e=>?_⟩,?_,λx c e=>?_,?_,λx c e=>?_,λp hp=>?_,hok,I.len⟩
 ·exact keep b o (rl b o e) hb (ko b o e hx) (I.base.keep b o e n hb hx) (I.base.free b o e n hx)
 ·obtain⟨sl,e1⟩:=I.base.slot b o e n hb hx;obtain⟨sl',e2⟩:=slot b _ (rl b o e) hb (ko b o e hx) e1 (I.base.free b o e n hx);exact⟨sl',e2⟩
 ·obtain⟨o',e1⟩:=I.base.there b o e hx;exact free b o' (ko b o e hx) e1 (I.base.free b o e n hx)
 ·obtain⟨o',e1⟩:=I.base.there b o e hx;exact there b o' (ko b o e hx) e1
 ·obtain⟨m1,e1⟩:=I.base.tbls b ps e;obtain⟨m2,e2⟩:=tbls b _ e1;exact⟨m1++m2,by rw[e2,Array.append_assoc]⟩
 ·obtain⟨m,hn,hl⟩:=I.loc;refine⟨m,ns m hn,λi x v e1 e2 e3=>?_⟩;obtain⟨u,r,l⟩:=hl i x v e1 e2 e3;refine⟨u,r,?_⟩;rcases l with l|⟨k,c,e,z⟩
  ·exact .inl l
  ·exact .inr ⟨k,c,e,fw x c e _ z⟩
 ·obtain⟨v,z⟩:=I.cell x c e;exact⟨v,fw x c e v z⟩
 ·obtain⟨m,⟨o,_,_,ho,_⟩,_⟩:=I.loc;exact free _ o (λz=>(f9 _ z).2.1 rfl) ho I.free
 ·obtain⟨v,o,ho,hd⟩:=I.cell x c e;exact free c o (λz=>(f9 c z).2.2.1 x c e rfl) ho (I.freeC x c e)
 ·obtain⟨e,n,ne,nf,d⟩:=I.pin p hp;have ir:p.1∉ch:=λz=>(f9 p.1 z).2.2.2 p hp rfl
  exact⟨keep p.1 p.2 ne nf ir e n,free p.1 p.2 ir e n,ne,nf,d⟩
theorem Inv.callN{g':Array GenState}{t':Nat}{d':Drawn}{ch:List Addr}(I:Inv X pins σ H s)(u:Un (frs X.stack) ch H H' s.heap h')(hok:HOk X.prog X.w H' h')(hg:AllBare g')
  (f9:∀b∈ch,(b∈X.ex\/X.s₀.heap.get? b=none)/\b≠X.env.locals/\(∀x c,X.env.cells.lookup x=some c->c≠b)/\∀p∈X.pn++pins,p.1≠b):
  Inv X pins σ H' { s with heap:=h',gens:=g',drawn:=d',toks:=t' }:=by
 obtain⟨m,⟨o,es,ep,ho,r⟩,_⟩:=id I.loc;obtain⟨sl,hL⟩:=u.any ho I.free λz=>(f9 _ z).2.1 rfl
 exact I.stepN (ch:=ch) f9 (λb o hL hb hc e n=>u.keep b o e n (λz=>(aD (I.stkSub b z)).elim hL hb) hc) (λb o _ _ hc e n=>u.any e n hc) (λb o hc e n=>u.free b o e n hc) (λb o hc e=>u.there b o e hc) u.tups u.frzs u.tbls (λm' hm=>by
  obtain⟨o',es',pc,gb,r'⟩:=hm;rw[ho]at gb;cases gb;exact⟨_,es',pc,hL,r'⟩) hok hg
end
end L2
namespace L3
open PySem PySem.Spec PyProof.Rows L2
theorem jz6{e:Value}{env env0:Env}(h:env.frame=env0.frame):noteFrame e env=noteFrame e env0:=by
 unfold noteFrame PySem.frameOf;rw[h]
structure Fl0 (h:Heap)(x:Addr)(C:Value)(vs:Array Value):Prop where
 ob:h.get? x=some { cls:=C,data:=.fields vs }
 sz:1<vs.size
structure FlT (h:Heap)(x T:Addr)(C:Value)(fl:Value):Prop where
 ex:∃vs,h.get? x=some { cls:=C,data:=.fields vs }/\vs[1]?=some (.ref T)
 tb:∃oT ts,h.get? T=some oT/\oT.data=.fields ts/\ts[3]?=some fl
 ne:T≠x
structure Chg (fs ch:List Addr)(h h':Heap):Prop where
 keep:∀b o,h.get? b=some o->b∉fs->b∉ch->h'.get? b=some o
 slot:∀b o,h.get? b=some o->b∉ch->∃sl,h'.get? b=some { cls:=o.cls,dict:=o.dict,data:=o.data,slots:=sl }
 size:h.objs.size<=h'.objs.size
theorem Chg.trans{fs ch ch':List Addr}{h h1 h2:Heap}(a:Chg fs ch h h1)(b:Chg fs ch' h1 h2)(hc:∀x∈ch',x∈ch\/h.get? x=none):Chg fs ch h h2 where
 keep:=λx o e h1 h2=>b.keep x o (a.keep x o e h1 h2) h1 λz=>(hc x z).elim h2 λq=>by rw[q]at e;cases e
 slot:=λx o e hn=>by
  obtain⟨sl,e1⟩:=a.slot x o e hn;obtain⟨nr,e2⟩:=b.slot x _ e1 λz=>(hc x z).elim hn λq=>by rw[q]at e;cases e
  exact⟨nr,e2⟩
 size:=Yn a.size b.size
theorem Chg.mono{fs ch ch':List Addr}{h h1:Heap}(a:Chg fs ch h h1)(hc:∀x∈ch,x∈ch'):Chg fs ch' h h1:=⟨λb o e h1 h2=>a.keep b o e h1 λz=>h2 (hc b z),λb o e h2=>a.slot b o e λz=>h2 (hc b z),a.size⟩
theorem Chg.of_upd{fs : List Addr}{h : Heap}{a : Addr}{f : Obj -> Obj}: Chg fs [a] h (h.update a f):=
  ⟨λb o e _ hn=>by rw[Z6 _ _ _ _ (λz=>hn (aB z))]; exact e,
   λb o e hn=>⟨o.slots, by rw[Z6 _ _ _ _ (λz=>hn (aB z))]; exact e⟩, by rw[Heap.size_update]; exact Xa _⟩
theorem Chg.of_push{fs:List Addr}{h:Heap}{o:Obj}:Chg fs [] h (h.push o):=
 ⟨λb o e _ _=>X2 _ e,λb o e _=>⟨o.slots,X2 _ e⟩,by rw[Heap.size_push];lia⟩
theorem Chg.of_slots{fs:List Addr}{h h':Heap}(s:Heap.SlotsOnly fs h h'):Chg fs [] h h':=
 ⟨λb o e hn _=>(s.2.1 b hn).trans e,λb o e _=>s.2.2 b o e,by rw[s.1];exact Xa _⟩
theorem Chg.refl{fs ch:List Addr}{h:Heap}:Chg fs ch h h:=⟨λ_ _ e _ _=>e,λb o e _=>⟨o.slots,e⟩,Xa _⟩
section
variable {M:Model}{A:Around}{E:VP9}{s:Shared}{base:Heap}{env:Env}{outer:List Env}{L x T:Addr}{C fl:Value}
theorem kv2{head:Value}{hadNext:Bool}{vs:Array Value}{Q:Unit->Shared->Prop}(hA:A.frames=some (env::outer))(hF:s.heap.FunFrames base (env::outer))(hL:env.frame=some L)(ho:Fl0 s.heap x C vs)
  (h:∀h' T',Chg (frs (env::outer)) [x] s.heap h'->s.heap.objs.size<=T'->FlT h' x T' C (rawInt ↑L)->Q () { s with heap:=h' }):
  wpAny M A (do
   let a <-PySem.frameOf env
   let pl <-entryPlaceOf L hadNext
   let b <-EntryCells.newEntry head a Value.none (rawInt ↑L) Value.none pl
   setField (Value.ref x) 1 b) Q E s:=by
 refine X0 (wpAny_frameOf_fun hA hF hL λh1 s1=>?_);have hx:x∉frs (env::outer):=λz=>by
  obtain⟨_,o,e,hn⟩:=hF.mem z;rw[ho.ob]at e;cases e;exact hn _ rfl
 have o1:h1.get? x=some { cls:=C,data:=.fields vs }:=(s1.2.1 x hx).trans ho.ob;have fin:∀pl:List Value,IsPlace pl->wpAny M A (do
   let b <-EntryCells.newEntry head (Value.ref L) Value.none (rawInt ↑L) Value.none pl
   setField (Value.ref x) 1 b) Q E { s with heap:=h1 }:=λpl b9=>by
  refine X0 ?_;unfold EntryCells.newEntry newFields;have har:([head,Value.ref L,Value.none,rawInt ↑L,Value.none]++if pl.isEmpty=true then List.replicate 6 Value.none else pl).toArray[3]?=some (rawInt ↑L):=by simp
  have hsz:([head,Value.ref L,Value.none,rawInt ↑L,Value.none]++if pl.isEmpty=true then List.replicate 6 Value.none else pl).toArray.size<=sizeLine+2:=by
   rcases b9 with rfl|⟨_,_,_,_,_,_,_,rfl⟩<;>simp<;>decide
  generalize ([head,Value.ref L,Value.none,rawInt ↑L,Value.none]++if pl.isEmpty=true then List.replicate 6 Value.none else pl).toArray=ar at har hsz;refine Xy ?_ hsz;have o2:(h1.push { cls:=.type "traceback",data:=.fields ar }).get? x=some { cls:=C,data:=.fields vs }:=X2 _ o1;refine Z3 (s:={ s with heap:=h1.push _ }) o2 rfl ho.sz ?_;have dj:h1.objs.size≠x:=λe=>absurd (Xd o1) (by rw[<-e];exact Yv _)
  have o3:((h1.push { cls:=.type "traceback",data:=.fields ar }).update x (Obj.mapFields λy=>y.setIfInBounds 1 (.ref h1.objs.size))).get? h1.objs.size=some { cls:=.type "traceback",data:=.fields ar }:=by
   rw[Z6 _ _ _ _ dj];exact Xb _ rfl
  refine h _ h1.objs.size (((Chg.of_slots s1).mono (λ_ z=>nomatch z)).trans ((Chg.of_push.mono λ_ z=>nomatch z).trans (ch:=[x]) Chg.of_upd λy hy=>.inl hy) λy hy=>.inl hy) (by rw[s1.1];exact Xa _) ⟨⟨vs.setIfInBounds 1 (.ref h1.objs.size),?_,Array.getElem?_setIfInBounds_self_of_lt ho.sz⟩,⟨_,_,o3,rfl,har⟩,dj⟩;exact Y8 _ o2 rfl
 exact X0 (wpAny_entryPlaceOf λpl b9=>fin pl b9)
theorem ww6{vs:Array Value}{Q:Unit->Shared->Prop}(hA:A.frames=some (env::outer))(hF:s.heap.FunFrames base (env::outer))(hL:env.frame=some L)(ho:Fl0 s.heap x C vs)(hv:vs[1]?=some .none)
  (h:∀h' T',Chg (frs (env::outer)) [x] s.heap h'->s.heap.objs.size<=T'->FlT h' x T' C (rawInt ↑L)->Q () { s with heap:=h' }):wpAny M A (noteFrame (.ref x) env) Q E s:=by
 unfold noteFrame;rw[hL];refine X0 (Zn ho.ob rfl hv ?_);exact kv2 (hadNext:=false) hA hF hL ho h
theorem upd3{T:Addr}{oT:Obj}{ts:Array Value}{v:Value}{h:Heap}(e:h.get? T=some oT)(ed:oT.data=.fields ts)(h3:3<ts.size):
  ∃o' ts',(h.update T (Obj.mapFields λy=>y.setIfInBounds 3 v)).get? T=some o'/\o'.data=.fields ts'/\ts'[3]?=some v:=by
 obtain⟨c,d,dt,sl⟩:=oT;cases(show dt=.fields ts from ed);exact⟨_,ts.setIfInBounds 3 v,Y8 _ e rfl,rfl,Array.getElem?_setIfInBounds_self_of_lt h3⟩
theorem ww5{Q:Unit->Shared->Prop}(hA:A.frames=some (env::outer))(hF:s.heap.FunFrames base (env::outer))(hL:env.frame=some L)(f:FlT s.heap x T C fl)
  (h:∀h' T',Chg (frs (env::outer)) [x,T] s.heap h'->(s.heap.objs.size<=T'\/T'=T)->FlT h' x T' C (rawInt ↑L)->Q () { s with heap:=h' }):wpAny M A (noteFrame (.ref x) env) Q E s:=by
 obtain⟨⟨vs,e1,v1⟩,⟨oT,ts,e2,d2,v2⟩,dj⟩:=f;have h3:3<ts.size:=by
  rw[Array.getElem?_eq_some_iff]at v2;exact v2.1
 have h1:1<vs.size:=by
  rw[Array.getElem?_eq_some_iff]at v1;exact v1.1
 unfold noteFrame;rw [hL];refine X0 (Zn e1 rfl v1 ?_);show wpAny M A (if((Value.ref T != Value.none)=true)then _ else _) Q E s;rw [X7 (show(Value.ref T != Value.none)=true from rfl)];refine X0 (Zn e2 d2 v2 ?_)
 by_cases hf:(fl==rawInt ↑L)=true
 ·rw[X7 hf];have e:fl=rawInt ↑L:=eq_of_beq hf;subst e;exact X1 (h s.heap T Chg.refl (.inr rfl) ⟨⟨vs,e1,v1⟩,⟨oT,ts,e2,d2,v2⟩,dj⟩)
 ·rw[X9 hf];refine X0 (Z3 e2 d2 h3 ?_);have c1:Chg (frs (env::outer)) [x,T] s.heap (s.heap.update T (Obj.mapFields λy=>y.setIfInBounds 3 Value.none)):=Chg.of_upd.mono λy hy=>by
   rw[aC hy];simp
  have e1':(s.heap.update T (Obj.mapFields λy=>y.setIfInBounds 3 Value.none)).get? x=some { cls:=C,data:=.fields vs }:=by
   rw[Z6 _ _ _ _ dj.symm];exact e1
  have hF':(s.heap.update T (Obj.mapFields λy=>y.setIfInBounds 3 Value.none)).FunFrames base (env::outer):=by
   refine hF.of_keeps λb o e hn=>⟨o,?_,rfl⟩
   rw[Z6 _ _ _ _ λz=>?_]
   ·exact e
   ·rw[z,e2]at e;cases e;exact hn _ d2
  refine kv2 (s:={ s with heap:=s.heap.update T _ }) (hadNext:=true) hA hF' hL ⟨e1',h1⟩ λh' T' c2 hs f'=>?_
  refine h h' T' (c1.trans (c2.mono (ch':=[x,T]) λy hy=>by rw[aC hy];simp) λy hy=>.inl hy) (.inl ?_) f';rw[Heap.size_update]at hs;exact hs
theorem wka{Q:Unit->Shared->Prop}{fr:Option Addr}(f:FlT s.heap x T C fl)(h:∀h',Chg (frs outer) [x,T] s.heap h'->FlT h' x T C (fr.elim Value.none λf=>rawInt ↑f)->Q () { s with heap:=h' }):wpAny M A (setFlight (.ref x) fr) Q E s:=by
 obtain⟨⟨vs,e1,v1⟩,⟨oT,ts,e2,d2,v2⟩,dj⟩:=f;have h3:3<ts.size:=by
  rw[Array.getElem?_eq_some_iff]at v2;exact v2.1
 unfold setFlight;refine X0 (Zn e1 rfl v1 ?_);rw[X7 (show(Value.ref T != Value.none)=true from rfl)];refine Z3 e2 d2 h3 (h _ (Chg.of_upd.mono λy hy=>by rw[aC hy];simp) ⟨⟨vs,?_,v1⟩,upd3 e2 d2 h3,dj⟩);rw[Z6 _ _ _ _ dj.symm];exact e1
end
theorem vj2:plainId "BaseException.__getattribute__"=true:=by decide +kernel
theorem vw6:builtinKind "BaseException.__getattribute__"=some .slot:=by decide +kernel
theorem vj1:splitId "BaseException.__getattribute__"=some ("BaseException","__getattribute__"):=by decide +kernel
structure XCls (K:Frag)(C:Addr):Prop where
 ga:findIn K (.ref C) "__getattribute__"=some (some (.builtin "BaseException.__getattribute__"))
 gt:findIn K (.ref C) "__getattr__"=some none
 fo:PySem.W.findObj K C none "__class__"=some (.bind (.builtin "getset_descriptor.__get__") (.builtin "object.__class__"))
 ob:PySem.W.mroIn K C (.type "object")=some true
 bx:PySem.W.mroIn K C (.type "BaseException")=some true
 cl:(PySem.W.clsIn K C).isSome=true
section
variable {P:Program}{w:World}{A:Around}{E:VP9}{s:Shared}{K:Frag}{x C:Addr}{ox:Obj}
theorem Lk{α:Type}{M:Model}{A:Around}{E:VP9}{s:Shared}{t:Sem α}{r:α}{Q:α->Shared->Prop}(l:PySem.W.Looks M s.heap t r)(q:Q r s):wpAny M A t Q E s:=l A Q E s (λ_ _ e=>e) q
theorem vj4{nm:Value}{Q:Unit->Shared->Prop}(KI:K.In s.heap)(X:XCls K C)(f8:PySem.W.InstAt s.heap x ox C none)(q:Q () s):
  wpAny (model P w) A (checkBuiltinCall "BaseException.__getattribute__" { pos:=[.ref x,nm] }) Q E s:=by
 rw[checkBuiltinCall.eq_1,vw6,vj1];refine X0 ?_;unfold isInstance;refine X0 (Lk f8.type (Lk (PySem.W.looks_mroIn KI X.bx) ?_));rw[X9 ⋯];have h:=F.args_bexc_ga (.ref x) nm;unfold argsOk at h;show wpAny _ A (match Manifest.signature? "BaseException.__getattribute__" with|some sig=>Bind.checkArgs "BaseException.__getattribute__" sig { pos:=[.ref x,nm] }|x=>pure ()) Q E s;cases hs:Manifest.signature? "BaseException.__getattribute__" with
 |none=>exact X1 q
 |some sig=>
  rw[hs]at h;have h:Bind.checkArgs "BaseException.__getattribute__" sig { pos:=[.ref x,nm] }=pure ():=h;show wpAny _ A (Bind.checkArgs "BaseException.__getattribute__" sig { pos:=[.ref x,nm] }) Q E s;rw[h];exact X1 q
theorem wx0:(Value.builtin "BaseException.__getattribute__" == Value.builtin "object.__getattribute__")=false:=⋯
theorem vj3{Q:Option Value->Shared->Prop}(KI:K.In s.heap)(X:XCls K C)(f8:PySem.W.InstAt s.heap x ox C none)(q:Q (some (.ref C)) { s with toks:=s.toks+1 }):
  wpAny (model P w) A (getAttr? (.ref x) "__class__") Q E s:=by
 unfold getAttr?;refine X0 (wpAny_mkText ?_);unfold getAttrBy?;refine X0 (wpAny_attempt ?_);unfold getAttrBy;refine Xw (X0 (Lk (s:={ s with toks:=s.toks+1 }) f8.type (X0 (Lk (s:={ s with toks:=s.toks+1 }) (PySem.W.looks_findIn KI X.ga) ?_))));dsimp only;rw[X9 (by rw[wx0,Bool.and_false];decide)];unfold getAttrByItsOwn;refine X0 (Lk (s:={ s with toks:=s.toks+1 }) (PySem.W.looks_hook (K:=K) KI (r:=none) X.gt) ?_);refine X0 (wpAny_attempt (Xw ?_));unfold callGetattribute;rw[X9 ⋯];unfold boundAndCalled;rw[F.excAttr_ValueError.ga.bind];refine X0 (X1 ?_);refine wpAny_call (codeAny_call_builtin vj2 F.entry_bexc_ga (vj4 (s:={ s with toks:=s.toks+1 }) KI X f8 ?_));unfold Builtin.«object.__getattribute__»;have kr:slotArgs "__getattribute__" 1 { pos:=[.ref x]++[.str "__class__" s.toks] }=pure (.ref x,[.str "__class__" s.toks]):=rfl;rw[kr];refine X0 (X1 ?_);show wpAny _ A.in1 (Builtin.ObjectAttr.attrName (.str "__class__" s.toks) >>= _) _ _ _;refine X0 (X1 ?_);refine X0 (Lk (s:={ s with toks:=s.toks+1 }) f8.type ?_);refine X0 (Lk (s:={ s with toks:=s.toks+1 }) (PySem.W.looks_find KI f8 X.fo) ?_);show wpAny _ A.in1 (Builtin.ObjectAttr.bindTo (.builtin "getset_descriptor.__get__") (.builtin "object.__class__") (.ref x) (.ref C)) _ _ _;unfold Builtin.ObjectAttr.bindTo;refine X0 (Xw (wpAny_call (PySem.W.class_get (s:={ s with toks:=s.toks+1 }) KI f8 X.ob ?_)));refine X1 ?_;exact X1 (X1 q)
theorem qw7{h:Heap}(KI:K.In h)(X:XCls K C):∃o cd,h.get? C=some o/\o.data=.cls cd:=by
 have c:=X.cl;unfold PySem.W.clsIn at c
 split at c
 ·rename_i e;exact⟨_,_,KI _ _ e,rfl⟩
 ·cases c
theorem kxv(X:XCls K C):PySem.W.KitX K (.ref x) (.ref C) (λh=>∃ox,PySem.W.InstAt h x ox C none) where
 ty:=λM h KI ⟨ox,a⟩=>a.type
 it:=λM h KI _=>by
  obtain⟨o,cd,e,d⟩:=qw7 KI X;intro A Q E s hk q;unfold isType;refine X0 (PySem.W.Looks.ld e A _ _ s hk ?_);rw[d];exact X1 q
 ne:=λh tp dd ac n sl KI e=>by
  obtain⟨o,cd,e',d⟩:=qw7 KI X
  by_cases z:C=tp
  ·subst z;rw[e']at e;cases e;cases d
  ·simpa using z
 ca:=λKI ⟨ox,a⟩ q=>vj3 KI X a q
end
def FpX(X:Cx)(pins:LA9)(H:Hp)(b:Addr):Prop:=
 H b=none/\b≠X.env.locals/\b∉X.fs/\(b∈X.ex\/X.s₀.heap.get? b=none)/\(∀x c,X.env.cells.lookup x=some c->c≠b)/\∀p∈X.pn++pins,p.1≠b
section
variable {X:Cx}{pins:LA9}{σ:L2.St}{H:Hp}{s:Shared}
theorem qze{P:Program}{w:World}{H:Hp}{h:Heap}{b:Addr}(k:HOk P w H h)(e:h.get? b=none):H b=none:=by
 cases q:H b with
 |none=>rfl
 |some u=>
  obtain⟨o,z⟩:=(k b u q).obj;rw[e]at z;cases z
theorem fpX{H':Hp}{b:Addr}(I:Inv X pins σ H s)(hb:s.heap.get? b=none)(hn:H' b=none):FpX X pins H' b:=by
 refine⟨hn,λz=>?_,λz=>?_,?_,λx c e z=>?_,λp hp z=>?_⟩
 ·obtain⟨m,⟨o,_,_,ho,_⟩,_⟩:=I.loc;rw[<-z,hb]at ho;cases ho
 ·obtain⟨_,o,e,_⟩:=I.ok.funs.mem z
  by_cases hx:b∈X.ex
  ·exact I.ok.exfs b hx z
  ·obtain⟨o',e'⟩:=I.base.there b o e hx;rw[hb]at e';cases e'
 ·by_cases hx:b∈X.ex
  ·exact .inl hx
  ·cases e:X.s₀.heap.get? b with
   |none=>exact .inr rfl
   |some o=>
    obtain⟨o',e'⟩:=I.base.there b o e hx;rw[hb]at e';cases e'
 ·obtain⟨v,o,ho,_⟩:=I.cell x c e;rw[z,hb]at ho;cases ho
 ·have:=(I.pin p hp).1;rw[z,hb]at this;cases this
theorem FpX.of{b:Addr}(h:qw X pins H b):FpX X pins H b:=⟨h.1,h.2.1,h.2.2.1,h.2.2.2.1.imp id λz=>Heap.get?_none_of_le z,h.2.2.2.2⟩
theorem kwb{h':Heap}{ch:List Addr}(I:Inv X pins σ H s)(c:Chg (frs X.stack) ch s.heap h')(hf:∀b∈ch,FpX X pins H b):Inv X pins σ H { s with heap:=h' }:=by
 refine I.callN (g':=s.gens) (t':=s.toks) (d':=s.drawn) (ch:=ch) ⟨λb o e _ h1 h2=>c.keep b o e h1 h2,λb o e _ _ h2=>c.slot b o e h2,λ_ _ _ n _=>n,λb o e h2=>?_,λ_ _ e=>e,λ_ _ _ e=>e,λ_ _ e=>⟨#[],by rw[e];simp⟩⟩ (λb u e=>?_) I.bare λb hb=>?_
 ·obtain⟨sl,q⟩:=c.slot b o e h2;exact⟨_,q⟩
 ·have no:∀d v,H d=some v->d∉frs X.stack/\d∉ch:=λd v e=>⟨λz=>(by rw[I.stkFree d z]at e;cases e),λz=>(by rw[(hf d z).1]at e;cases e)⟩
  refine(I.hok b u e).stay (λd v hc q=>?_) (λ_ q=>q) λ_ _ q=>q
  rcases hc with z|z
  ·rw[z]at q ⊢;exact c.keep b v q (no b u e).1 (no b u e).2
  ·exact c.keep d v q (no d _ z).1 (no d _ z).2
 ·obtain⟨_,f1,_,f3,f4,f5⟩:=hf b hb;exact⟨f3,f1,f4,f5⟩
end
structure Fx (X:Cx)(pins:LA9)(H:Hp)(h:Heap)(x:Addr)(C:Value):Prop where
 fp:FpX X pins H x
 st:(∃vs,Fl0 h x C vs/\vs[1]?=some .none)\/∃T fl,FlT h x T C fl/\FpX X pins H T
structure Xt (X:Cx)(pins:LA9)(σ:L2.St)(H:Hp)(x T:Addr)(C fl:Value)(s:Shared):Prop where
 inv:Inv X pins σ H s
 fx:FpX X pins H x
 fT:FpX X pins H T
 f:FlT s.heap x T C fl
theorem Xt.to{X:Cx}{pins:LA9}{σ:L2.St}{H:Hp}{x T:Addr}{C fl:Value}{s:Shared}(h:Xt X pins σ H x T C fl s):Fx X pins H s.heap x C:=⟨h.fx,.inr ⟨T,fl,h.f,h.fT⟩⟩
def Xo(X:Cx)(E:XK)(e:Value)(s:Shared):Prop:=∃pins σ H x C,e=.ref x/\Inv X pins σ H s/\Fx X pins H s.heap x C/\E C none H
def wV(X:Cx)(E:XK):Prop:=∀pins σ H s x C,Inv X pins σ H s->Fx X pins H s.heap x C->E C none H->X.xe (.ref x) s
abbrev Cx.ex'(X:Cx)(E:XK):Cx:=X.wish (Xo X E)
theorem KW{X:Cx}{E:XK}:wV (Cx.ex' X E) E:=λpins σ H s x C I f q=>⟨pins,σ,H,x,C,rfl,I.unwish,⟨f.fp,f.st⟩,q⟩
def xw(X:Cx):Prop:=∃env0 out,X.stack=env0::out/\X.env.frame=env0.frame
section
variable {X:Cx}{pins:LA9}{σ:L2.St}{H:Hp}{s:Shared}{M:Model}{E':VP9}{x T:Addr}{C fl:Value}
theorem kxl{A:Around}{Q:Unit->Shared->Prop}(top:xw X)(hA:A.frames=X.A.frames)(I:Inv X pins σ H s)(f:Fx X pins H s.heap x C)(h:∀L T s',X.env.frame=some L->Xt X pins σ H x T C (rawInt ↑L) s'->Q () s'):
  wpAny M A (noteFrame (.ref x) X.env) Q E' s:=by
 obtain⟨env0,out,e1,e2⟩:=top;have hF:=I.stack;have ma:A.frames=some (env0::out):=by rw[hA,I.ok.frames,e1]
 rw[e1]at hF;obtain⟨_,⟨L,o,hL,_⟩,_⟩:=id hF;rw[jz6 e2];have hL':X.env.frame=some L:=e2.trans hL;rcases f.st with⟨vs,f0,hv⟩|⟨T,fl,fT,pT⟩
 ·refine ww6 ma hF hL f0 hv λh' T' c hs lx=>h L T' _ hL' ⟨?_,f.fp,fpX I (Heap.get?_none_of_le hs) (I.hok.fresh hs),lx⟩
  rw[<-e1]at c;exact kwb I c λb hb=>by rw[aC hb];exact f.fp
 ·refine ww5 ma hF hL fT λh' T' c hs lx=>?_
  rw[<-e1]at c;refine h L T' _ hL' ⟨kwb I c λb hb=>?_,f.fp,?_,lx⟩
  ·simp only[Y3,Y6,or_false]at hb;rcases hb with rfl|rfl
   ·exact f.fp
   ·exact pT
  ·rcases hs with hs|hs
   ·exact fpX I (Heap.get?_none_of_le hs) (I.hok.fresh hs)
   ·rw[hs];exact pT
theorem XW{A:Around}{Q:Unit->Shared->Prop}{fr:Option Addr}(t:Xt X pins σ H x T C fl s)(h:∀s',Xt X pins σ H x T C (fr.elim Value.none λf=>rawInt ↑f) s'->Q () s'):wpAny M A (setFlight (.ref x) fr) Q E' s:=by
 refine wka (outer:=X.stack) t.f λh' c lx=>h _ ⟨kwb t.inv c λb hb=>?_,t.fx,t.fT,lx⟩
 simp only[Y3,Y6,or_false]at hb;rcases hb with rfl|rfl
 ·exact t.fx
 ·exact t.fT
theorem wj0{α:Type}{A:Around}{what:String}{iw:Env}{Q:α->Shared->Prop}(t:Xt X pins σ H x T C fl s)(h:∀s' lx,Xt X pins σ H x T C lx s'->E' (.ref x) s'):wpAny M A (PySem.passOn what (.ref x) iw:Sem α) Q E' s:=by
 unfold PySem.passOn;obtain⟨vs,e1,v1⟩:=t.f.ex;refine X0 (Zn e1 rfl v1 ?_);rw[X9 (show ¬(Value.ref T==Value.none)=true by intro z;cases z)];refine X0 (XW t λs' t'=>?_);exact wpAny_throw (h s' _ t')
theorem ww1{E:XK}(top:xw X):PassesOwn M X.A X.env (Xo X E):=by
 rintro e s' ⟨pins,σ,H,x,C,rfl,I,f,q⟩;unfold notedBy;refine kxl top rfl I f λL T s1 _ t=>?_
 unfold cameBackBy;obtain⟨vs,e1,v1⟩:=t.f.ex;refine X0 (Zn e1 rfl v1 ?_);rw[X9 (show ¬(Value.ref T==Value.none)=true by intro z;cases z)];exact XW t λs2 t2=>⟨pins,σ,H,x,C,rfl,t2.inv,t2.to,q⟩
end
def CXE(P:Program)(w:World):CXT:=λouter H s E e s'=>∃x T C fl H',e=.ref x/\s'.os=s.os/\AllBare s'.gens/\Un (frs outer) [] H H' s.heap s'.heap/\HOk P w H' s'.heap /\
 s.heap.get? x=none/\s.heap.get? T=none/\H' x=none/\H' T=none/\FlT s'.heap x T C fl/\E C none H'
theorem wvz{X:Cx}{E:XK}(g:wV X E):qwx (CXE X.prog X.w) X E:=by
 rintro pins σ H s e s' I ⟨x,T,C,fl,H',rfl,os,bare,un,hok,hx,hT,nx,nT,f,q⟩;refine g pins σ H' s' x C (I.call' os un hok bare λb hb=>nomatch hb) ⟨fpX I hx nx,.inr ⟨T,fl,f,fpX I hT nT⟩⟩ q
theorem vkj{CX:CXT}{P:Program}{w:World}{K:Frag}{mg:Str->Option Value}{base:Heap}{N:List Str}{qual:Str}{scope:Scope}{f:Addr}{cd:Value}{A:Around}{outer:List Env}{s:Shared}{H:Hp}{E:XK}:
  xw (zx CX P w K mg base N qual scope f cd A outer s H E):=⟨_,_,rfl,rfl⟩
theorem qqz{P:Program}{w:World}{K:Frag}{mg:Str->Option Value}{base:Heap}{N:List Str}{qual:Str}{scope:Scope}{f:Addr}{cd:Value}{A:Around}{outer:List Env}{s:Shared}{H:Hp}{E:XK}{e:Value}{s':Shared}
  (h:Xo (zx (CXE P w) P w K mg base N qual scope f cd A outer s H E) E e s'):(zx (CXE P w) P w K mg base N qual scope f cd A outer s H E).xe e s':=by
 obtain⟨pins,σ,H',x,C,rfl,I,fx,q⟩:=h;show wpAny (model P w) _ (leaving _ (.ref x)) _ _ s';unfold leaving;refine X0 (kxl (X:=zx (CXE P w) P w K mg base N qual scope f cd A outer s H E) vkj rfl I fx λL T s1 _ t=>?_);refine XW t λs2 t2=>?_
 have ge:∀b,FpX (zx (CXE P w) P w K mg base N qual scope f cd A outer s H E) pins H' b->s.heap.get? b=none:=λb hb=>hb.2.2.2.1.elim (λz=>nomatch z) λz=>z
 exact⟨x,T,C,_,H',rfl,t2.inv.os,t2.inv.bare,t2.inv.base,t2.inv.hok,ge x t2.fx,ge T t2.fT,t2.fx.1,t2.fT.1,t2.f,q⟩
section
variable {P:Program}{w:World}{K:Frag}{mg:Str->Option Value}{base:Heap}
theorem qK{x qual:Str}{st:Stmt}{f:Addr}{fd:FuncData}{N ps:List Str}{k:Nat}{sp:Sp}(F:Fun K x qual st f fd)(S:FnScope N ps (kq st))(len:∀vs H Q E,sp vs H Q E->vs.length=ps.length)
  (jh:∀(bi:Value) (A:Around) (outer:List Env) (s:Shared) (H:Hp) (vs:List V) (Q:VK) (E:XK),Room k (A.deeper (envOfC qual (kq st) s.heap.objs.size f bi))->sp vs H Q E ->
   ∃t,PSs (Cx.ex' (zx (CXE P w) P w K mg base N qual (kq st) f bi A outer s H E) E) (JK st) t/\t { nx:=λ_ H'=>Q .non H',rt:=Q } (L2.start N vs) H):FnOk P w K mg base (CXE P w) (k+1) f fd ps sp:=by
 obtain⟨oc,od,kV,fq,pm,an,bi,ct,lh,rfl,lk,gc⟩:=F.ex;refine wwl lk gc S len λA outer s H vs Q E hr jr=>?_
 obtain⟨t,h,q⟩:=jh bi A outer s H vs Q E hr jr;exact⟨t,λpins s' σ H' D I hw=>Zj (h pins s' σ H' D (I.wish _) hw) (λf i9 z=>z.unwish) λe i9 z=>qqz z,q⟩
def kQ(P:Program)(w:World)(K:Frag)(mg:Str->Option Value)(base:Heap)(k:Nat)(x:Str)(ps:List Str)(sp:Sp):Prop:=
 ∃(f:Addr) (fd:FuncData),FnOk P w K mg base (CXE P w) k f fd ps sp/\Binds K fd ps []/\PySem.W.keepIn K (.ref f)=true/\mg x=some (.ref f)
end
section
variable {X:Cx}{x:Str}{p pos:Pos}{e:Expr}{es:List Expr}{t:TA}{ps:List Str}{sp:Sp}{k:Nat}{v:V}{E:XK}
theorem vzw(D:kQ X.prog X.w X.K X.mg X.base k x ps sp)(hr:Room k X.A)(g:wV X E)(ha:PA X (e::es) t)(hg:autoParam (Gl X x) Ŕ)(d8:autoParam ((x==("__debug__":Str))=false) ŕ)
  (he:autoParam (starEach (e::es) X.env=(false,eval e X.env)::starEach es X.env) Ŕ) (b9:autoParam ((backTo pos (starEach es X.env)).any (·.1)=false) Ŕ):
  PE X (.Call (.Name x p) (e::es) [] pos) (vkm sp [] E t):=by
 obtain⟨f,fd,F,b,kp,m⟩:=D;exact vqm F hr hg m kp b .nil (wvz g) ha d8 he b9
end
abbrev lcE(X:Cx)(scope:Scope)(N:List Str)(cl:List (Str×Addr))(C:Addr)(s0:Shared)(H0:Hp)(fp:List Addr)(EX:XK):Cx:=Cx.ex' (lcX X scope N cl C s0 H0 fp) EX
section
variable {prog:Program}{w:World}{A:Around}{R:Result->Shared->Prop}{s:Shared}
theorem vv9{dn de ao:Expr}{dk:List Expr}{scope:Scope}{pos:Pos}{it af:Value}{env:Env}(Ex:VP9)(I:Nat->Shared->Prop)
  (fj:∀n s,I n s->wpAny (model prog w) A (pyNext it) (λr s1=>match r with
   | none=>R (.ok .next) s1
   | some v=>wpAny (model prog w) A (letOwnedTupleGo de it v) (λ_ s2=>wpAny (model prog w) A (assign de env v) (λ_ s3=>
     wpAny (model prog w) A (qv2 dk env) (λok s4=>
      if ok=true then
       wpAny (model prog w) A (eval dn env) (λx s5=>wpAny (model prog w) A (call (.builtin "list.append") [af,x]) (λ_ s6=>∃m,m<n/\I m s6) Ex s5) Ex s4
      else ∃m,m<n/\I m s4) Ex s3) Ex s2) Ex s1) Ex s)
  (hx:∀e s,Ex e s->notedBy (model prog w) A env (λe s'=>R (.error e) s') e s) (n:Nat) (h:I n s):codeAny (model prog w) A (.compLoop (.ListComp dn [⟨de,ao,dk,0⟩] scope pos) 0 it af env) R s:=by
 refine codeAny_loop rfl I (λn s hI=>?_) n h;show wpAny _ A ((compTurn (.ListComp dn [⟨de,ao,dk,0⟩] scope pos) 0 it af env).onRaise _) _ _ s;refine wpAny_noted ?_;rw[compTurn_list];refine Zj (E:=Ex) (X0 (wpAny_standAt (X0 (thn (fj n s hI) λr s1 h1=>?_)))) (λ_ _ q=>q) (λe s q=>?_)
 rotate_left
 ·exact hx e s q
 cases r with
 |none=>exact X1 h1
 |some v=>
  refine X0 (thn h1 λ_ s2 h2=>?_);refine X0 (thn h2 λ_ s3 h3=>?_);refine X0 (thn h3 λok s4 h4=>?_);cases ok with|false=>exact X1 ⟨rfl,h4⟩|true=>exact X0 (X0 (thn h4 λx s5 h5=>X0 (thn h5 λ_ s6 h6=>X1 (X1 ⟨rfl,h6⟩))))
end
section
variable {X:Cx}{tg ao dn:Expr}{dk:List Expr}{scope:Scope}{N:List Str}{k:Nat}{R:List Nat}{g:TG}{tt:TT}{te:TE}{pos:Pos}
theorem vjr{EX:XK}{pins bw:LA9}{σ σ':L2.St}{H2 H':Hp}{s2 s':Shared}{fp:List Addr}{cl:List (Str×Addr)}{C x T:Addr}{Cc fl:Value}{Q:VP9}{af:Value}{use:Option (Value->Sem Unit)}(gx:wV X EX)
  (I2:Inv X pins σ H2 s2) (f2:∀b∈fp,qw X pins H2 b) (hC:s2.heap.objs.size<=C) (t:Xt (lcX X scope N cl C s2 H2 fp) bw σ' H' x T Cc fl s') (q:EX Cc none H'):
  compPost (model X.prog X.w) X.A X.xe use Q af C (.error (.ref x)) s':=by
 obtain⟨m,hn,_⟩:=t.inv.loc;refine⟨m,hn,λh' sb iw _=>?_⟩;have J1:Inv X pins σ H' s':=I2.call' t.inv.os t.inv.base t.inv.hok t.inv.bare λb hb=>⟨(f2 b hb).2.2.2.1,(f2 b hb).2.1,(f2 b hb).2.2.2.2.1,(f2 b hb).2.2.2.2.2⟩
 have fC:qw X pins H' C:=I2.fpOk hC t.inv.free;have J2:Inv X pins σ H' { s' with heap:=h',toks:=s'.toks }:=J1.turned (it:=C) (λb o hb e=>(sb.2 b hb).trans e) fC.1 fC.2.1 fC.2.2.2.1 fC.2.2.2.2.1 fC.2.2.2.2.2;have fp':∀b,FpX (lcX X scope N cl C s2 H2 fp) bw H' b->FpX X pins H' b:=λb hb=>by
  rcases hb.2.2.2.1 with z|z
  ·exact⟨hb.1,(FpX.of (f2 b z)).2⟩
  ·exact fpX I2 z hb.1
 have nx:x≠C:=t.fx.2.1;have nT:T≠C:=t.fT.2.1;have f:FlT h' x T Cc fl:=by
  obtain⟨⟨vs,e1,v1⟩,⟨oT,ts,e2,d2,v2⟩,dj⟩:=t.f;exact⟨⟨vs,(sb.2 x nx).trans e1,v1⟩,⟨oT,ts,(sb.2 T nT).trans e2,d2,v2⟩,dj⟩
 refine wj0 (X:=X) (pins:=pins) (σ:=σ) (H:=H') (s:={ s' with heap:=h' }) ⟨J2,fp' x t.fx,fp' T t.fT,f⟩ λs3 lx t3=>gx pins σ H' s3 x Cc t3.inv t3.to q
theorem kqi{EX:XK}{pins:LA9}{σ:L2.St}{H2:Hp}{s2:Shared}{it:Addr}{fp:List Addr}{tn:Nat->Heap->Prop}{J:It}{Q:VK}{W:Nat->Nat->List V->L2.St->Hp->Prop}{cl:List (Str×Addr)}{E:VP9}
  {RR:Value->Addr->Result->Shared->Prop} (hc:X.calm=true) (top:xw X) (sc:LcOk X scope N k R)
  (cp:∀x c,cl.lookup x=some c->X.env.cells.lookup x=some c) (b8:∀y∈scope.names,y.2=.free->∃c,cl.lookup y.1=some c)
  (hg:∀C s0 H0 fp,PG (lcE X scope N cl C s0 H0 fp EX) tg g) (ht:∀C s0 H0 fp,PTs (lcE X scope N cl C s0 H0 fp EX) dk tt) (he:∀C s0 H0 fp,PE (lcE X scope N cl C s0 H0 fp EX) dn te)
  (I2:Inv X pins σ H2 s2) (T:Turn X.prog X.w X.K tg J fp it tn) (bn:tn 0 s2.heap) (f2:∀b∈fp,qw X pins H2 b) (w0:∃m,W 0 m [] (z9 k R σ) H2) (fj:LcW g tt te Q J W)
  (hRR:∀D C oC m ys H' s',Inv X (pins++[(C,oC)]) σ (upd H' D (.lst ys)) s'->s'.heap.get? C=some oC->s'.heap.Ns C m->qw X pins (upd H' D (.lst ys)) C->Q (.ref D) (upd H' D (.lst ys))->RR (.ref D) C (.ok .next) s')
  (hER:∀D C s' bw σ' H' x T Cc fl,s2.heap.objs.size<=C->Xt (lcX X scope N cl C s2 H2 fp) bw σ' H' x T Cc fl s'->EX Cc none H'->RR (.ref D) C (.error (.ref x)) s'):
  wpAny (model X.prog X.w) X.A (newList []) (λaf s3=>wpAny (model X.prog X.w) X.A (newFunctionEnv scope X.env.globals cl [] X.env.qual none .none (some X.env)) (λiw s4=>
   codeAny (model X.prog X.w) X.A (.compStart (.ListComp dn [⟨tg,ao,dk,0⟩] scope pos) 0 (.ref it) af { iw with scope:=relabel scope X.env }) (RR af iw.locals) s4) E s3) E s2:=by
 have qc:∀b∈fp,∃o,s2.heap.get? b=some o:=λb hb=>let ⟨o,e,_⟩:=T.obj 0 _ bn b hb;⟨o,e⟩
 refine Xy (wpAny_newFunctionEnv sc.nocell (by intro y hy;simp at hy) (λh1 ni pe=>?_) sc.kind);dsimp only at ni pe ⊢;generalize eH:s2.heap.push { cls:=.type "list",dict:=none,data:=.seq ([]:List Value).toArray }=Hx at ni pe ⊢;have eC:Hx.objs.size=s2.heap.objs.size+1:=by rw[<-eH,Heap.size_push]
 generalize eD:s2.heap.objs.size=D at eC;generalize eC':Hx.objs.size=C at ni pe eC ⊢;have nh:D≠C:=⋯
 have hC:s2.heap.objs.size<=C:=⋯
 have hD:s2.heap.objs.size<=D:=⋯
 have cw:∀b o,s2.heap.get? b=some o->h1.get? b=some o:=λb o e=>by
  exact pe.extBut b o (Xi (Xm (Xd e) hC)) (X2 _ (eH▸X2 _ e))
 have accD:h1.get? D=some (VQ [] 0):=by
  refine pe.extBut _ _ nh (X2 _ ?_);rw [<-eH,<-eD];exact Xb _ rfl
 have below:∀b∈fp,b≠D/\b≠C:=λb hb=>by
  obtain⟨o,e⟩:=qc b hb;exact⟨Xi (Xm (Xd e) hD),Xi (Xm (Xd e) hC)⟩
 have gr:∀{H':Hp} {oD:Obj},(∀b∈fp,H' b=none)->∀b∈fp,qw (lcE X scope N cl C s2 H2 fp EX) [(D,oD)] H' b:=fun {H' oD} hn b hb=>by
  obtain⟨_,f1,f3,f4,f5,f6⟩:=f2 b hb;refine⟨hn b hb,(below b hb).2,λz=>?_,.inl hb,λx c h=>f5 x c (cp x c h),λp hp=>?_⟩
  ·rcases aD (I2.stkSub b z)with y|y
   ·exact f1 y
   ·exact f3 y
  ·have e:p=(D,oD):=by
    have hp:p∈([]++[(D,oD)]:LA9):=hp
    simpa using hp
   rw [e];exact(below b hb).1.symm
 have loop:∀s3:Shared,s3={ s2 with heap:=h1,toks:=s2.toks+([]:List (Str×Value)).length } ->
   codeAny (model X.prog X.w) X.A (.compLoop (.ListComp dn [⟨tg,ao,dk,0⟩] scope pos) 0 (.ref it) (.ref D) (compEnvC scope cl C X.env)) (RR (.ref D) C) s3:=by
  rintro s3 rfl;obtain⟨m0,w0⟩:=w0;have hxx:∀e s,Xo (lcX X scope N cl C s2 H2 fp) EX e s->notedBy (model X.prog X.w) X.A (compEnvC scope cl C X.env) (λe s'=>RR (.ref D) C (.error e) s') e s:=by
   rintro e s ⟨bw,σ',H',x,Cc,rfl,I',f',q'⟩;have top':xw (lcX X scope N cl C s2 H2 fp):=top;exact kxl (X:=lcX X scope N cl C s2 H2 fp) top' rfl I' f' λL T s1 _ t=>hER D C s1 bw σ' H' x T Cc _ hC t q'
  refine vv9 (Xo (lcX X scope N cl C s2 H2 fp) EX) (λn s'=>∃i ys ac nn σ' H',Inv (lcE X scope N cl C s2 H2 fp EX) [(D,VQ ac nn)] σ' H' s'/\Vals ys ac/\tn i s'.heap/\(∀b∈fp,H' b=none)/\W i n ys σ' H') ?_ hxx m0
   ⟨0,[],[],0,_,H2,(vv7 I2 sc f2 qc hC hD nh cp b8 cw ni accD (λv z=>by cases z)).wish _,.nil,T.keep _ _ _ bn (λb hb o e=>cw b o e),λb hb=>(f2 b hb).1,w0⟩
  rintro n s3 ⟨i,ys,ac,nn,σ3,H3,I3,rv,cx,fr3,w3⟩;rcases fj i n ys σ3 H3 w3 with⟨stop,hz,qn⟩|⟨go,step⟩
  ·refine thn (T.done (lcE X scope N cl C s2 H2 fp EX) rfl rfl rfl hc i _ s3 σ3 H3 _ I3 (gr fr3) cx stop) λr s4 ⟨hr,I4⟩=>?_
   subst hr;show RR (.ref D) C (.ok .next) s4;have hD4:=I4.pin (D,VQ ac nn) (by show _∈([]++[(D,VQ ac nn)]:LA9);simp);have J1:Inv X pins σ H3 s4:=I2.call' I4.os I4.base I4.hok I4.bare λb hb=>⟨(f2 b hb).2.2.2.1,(f2 b hb).2.1,(f2 b hb).2.2.2.2.1,(f2 b hb).2.2.2.2.2⟩
   have fD:qw X pins H3 D:=I2.fpOk hD hD4.2.1;have fC:qw X pins H3 C:=I2.fpOk hC I4.free;have J2:Inv X pins σ (upd H3 D (.lst ys)) s4:=kqn J1 hD4.2.1 fD.2.1 fD.2.2.2.1 fD.2.2.2.2.1 fD.2.2.2.2.2 ⟨hz,ac,nn,rv,hD4.1⟩;obtain⟨mC,nC,_⟩:=I4.loc;obtain⟨oC,es,ep,hoC,hdC,jb⟩:=id nC;have fC':qw X pins (upd H3 D (.lst ys)) C:=⟨by rw[jX nh.symm];exact fC.1,fC.2⟩;refine hRR D C oC mC ys H3 s4 (J2.pins_of λp hp=>?_) hoC nC fC' (qn D hD4.2.1);rcases aA hp with z|z
   ·exact J2.pin p (lr9 _ z)
   ·rw[aC z];exact⟨hoC,fC'.1,fC'.2.1,fC'.2.2.1,λv y=>by rw[hdC]at y;cases y⟩
  ·refine thn (T.item (lcE X scope N cl C s2 H2 fp EX) rfl rfl rfl hc i _ s3 σ3 H3 _ I3 (gr fr3) cx go) λr s4 ⟨u,hr,h4⟩=>?_
   subst hr;refine thn h4 λ_ s5 ⟨x,H5,I5,r5,y5,jt,fr5⟩=>?_
   have I5':=I5.pinned (gr fr5) (T.obj _ _ jt);have i3:∀{σ':L2.St} {H':Hp} {s':Shared} {pl:LA9},Inv (lcE X scope N cl C s2 H2 fp EX) (pl++J8 fp s5.heap) σ' H' s'->tn (i+1) s'.heap/\∀b∈fp,H' b=none:=fun {σ' H' s' pl} I'=>by
    have q:∀b∈fp,∀o,s5.heap.get? b=some o->s'.heap.get? b=some o/\H' b=none:=λb hb o e=>by
     obtain⟨a1,a2,_⟩:=I'.pin (b,o) (lr9 _ (lr9 _ (jx1 hb e)));exact⟨a1,a2⟩
    refine⟨T.keep _ _ _ jt λb hb o e=>(q b hb o e).1,λb hb=>?_⟩;obtain⟨o,e,_⟩:=T.obj _ _ jt b hb;exact(q b hb o e).2
   refine thn (hg C s2 H2 fp _ s5 σ3 H5 x u _ I5' r5 (step x H5 y5)) λ_ s6 ⟨σ6,H6,I6,Ny,Nn,hNy,hNn,q6⟩=>?_
   refine thn (ht C s2 H2 fp _ s6 σ6 H6 _ I6 q6) λok s7 ⟨H7,I7,q7⟩=>?_
   cases ok with
   | false=>
    obtain⟨m',hm,w7⟩:=hNn _ q7;exact⟨m',hm,i+1,ys,ac,nn,σ6,H7,I7.unpinned,rv,(i3 I7).1,(i3 I7).2,w7⟩
   | true=>
    refine thn (he C s2 H2 fp _ s7 σ6 H7 _ I7 q7) λu8 s8 ⟨y,H8,I8,r8,q8⟩=>?_
    obtain⟨hz,m',hm,w8⟩:=hNy _ _ q8;have pD:=I8.pin (D,VQ ac nn) (lr9 _ (ll9 _ (aB rfl)));have ah:=rv.length;refine append_at (hsz:=by rw[X8];lia) pD.1 λh9 sb9 e9=>?_
    have I8a:Inv (lcE X scope N cl C s2 H2 fp EX) ([]++J8 fp s5.heap) σ6 H8 s8:=I8.pins_of λp hp=>I8.pin p (lr9 _ (lr9 _ hp))
    have I9:Inv (lcE X scope N cl C s2 H2 fp EX) ([]++J8 fp s5.heap) σ6 H8 { s8 with heap:=h9,toks:=s8.toks }:=I8a.turned (it:=D) (λb o hb e=>(sb9.2 b hb).trans e) pD.2.1 nh (.inr hD)
     (λx c h z=>by
      obtain⟨v,q⟩:=I2.cell x c (cp x c h);exact absurd (Xm q.lt (by rw[z];exact hD)) (Yv _))
     (λp hp z=>by
      have hp:p∈([]++([]++J8 fp s5.heap):LA9):=hp;have hp:p∈J8 fp s5.heap:=by simpa using hp
      exact(below p.1 (kqf hp).1).1 z)
    have e9':h9.get? D=some (VQ (ac++[u8]) (nn+1)):=by rw[e9];simp[List.push_toArray]
    refine⟨m',hm,i+1,ys++[y],ac++[u8],nn+1,σ6,H8,I9.pins_of λp hp=>?_,rv.append (.cons r8 .nil),(i3 I9).1,(i3 I9).2,w8⟩;rw[aC hp];exact⟨e9',pD.2.1,pD.2.2.1,pD.2.2.2.1,λv z=>by cases z⟩
 exact codeAny_compStart_list (loop _ rfl) (T.self _ 0 _ _ _ (T.keep _ _ _ bn λb hb o e=>cw b o e) (loop _ rfl))
theorem vzu{EX:XK}{wi:TI}(N:List Str)(k:Nat)(R:List Nat)(hi:PI X tg ao wi)
  (hg:∀cl C s0 H0 fp,PG (lcE X scope N cl C s0 H0 fp EX) tg g) (ht:∀cl C s0 H0 fp,PTs (lcE X scope N cl C s0 H0 fp EX) dk tt) (he:∀cl C s0 H0 fp,PE (lcE X scope N cl C s0 H0 fp EX) dn te)
  (gx:wV X EX) (top:xw X) (hc:autoParam (X.calm=true) Ŕ) (hk:autoParam (scope.kind=.function) Ŕ) (iq:autoParam (K1 X.N X.env.scope scope N k R=true) Ŕ) (hs:autoParam (∀x,foldedSetIterable ao X.env x=pure x) Ŗ):
  PE X (.ListComp dn [⟨tg,ao,dk,0⟩] scope pos) (tLC wi g tt te k R):=by
 intro pins s σ H Q I h;have sc:=kxt hk iq;obtain⟨cl,je,cp,b8⟩:=kjj (scope:=scope) (env:=X.env) λy hy e=>I.ok.has y.1 (sc.caps y hy e)
 rw[eval_ListComp];refine wpAny_comprehension_free (use:=none) rfl hs je sc.kind sc.names (thn (hi pins s σ H _ I h) λv s1 h1=>thn h1 λitv s2 h2=>?_);obtain⟨it,fp,tn,J,H2,e,I2,T,bn,f2,W,w0,fj⟩:=h2;subst e;refine kqi (EX:=EX) (RR:=λaf C=>compPost (model X.prog X.w) X.A X.xe none (EP X pins σ Q) af C) hc top sc cp b8 (hg cl) (ht cl) (he cl) I2 T bn f2 w0 fj ?_ ?_
 rotate_left
 ·intro D C s' bw σ' H' x T Cc fl hC t q;exact vjr gx I2 f2 hC t q
 intro D C oC m ys H' s' I' _ nC fC q;exact⟨m,nC,λh' sb=>⟨.ref D,_,I'.unpinned.turned (it:=C) (t':=s'.toks) (λb o hb e=>(sb.2 b hb).trans e) fC.1 fC.2.1 fC.2.2.2.1 fC.2.2.2.2.1 fC.2.2.2.2.2,rfl,q⟩⟩
end
abbrev bmV:List Value:=[.type "ValueError",.type "Exception",.type "BaseException",.type "object"]
structure ECls (K:Frag)(mg:Str->Option Value)(x:Str)(C:Addr):Prop where
 bd:mg x=some (.ref C)
 ec:PySem.W.excIn K C bmV "ValueError.__new__"=true
 xc:XCls K C
theorem vqo{K:Frag}{h:Heap}{C:Addr}{bmB:List Value}{lr:String}(KI:K.In h)(e:PySem.W.excIn K C bmB lr=true):
  ∃ bm N nm q bs hdct sn sub ab col dd k0 k1 k2 k3 k5 mN,h.get? C=some (excClassObj nm q C N bs bm hdct sn sub ab col dd k0 k1 k2 k3 k5 lr)/\h.Ns N mN/\mN "__init__"=none/\OwnTail h bmB bm:=by
 unfold PySem.W.excIn at e
 split at e
 ·rename_i dict cd sl hl
  split at e
  ·rename_i bm C' k0 k1 k2 k3 n k5 hm hs;simp only[Bool.and_eq_true,beq_iff_eq,Bool.not_eq_true']at e;obtain⟨⟨⟨⟨⟨e1,e2⟩,e3⟩,e4⟩,e5⟩,e6⟩:=e;subst e1 e2;have g:=KI _ _ hl;obtain⟨nm,bs,mro,ns,qn,hd,hdel,sn,sub,ab,col⟩:=cd;dsimp only at hm e3 e5 e6;subst hm e3;have kr:sl=#[k0,k1,k2,k3,some (Value.builtin n),k5]:=by
    apply Array.toList_inj.mp;rw[hs]
   subst kr;exact⟨_,ns,nm,qn,bs,hd,hdel,sn,sub,ab,dict,k0,k1,k2,k3,k5,h.nsMap ns,g,Heap.Ns.of_isNs (PySem.W.isNs_of_in KI e5),PySem.W.nsMap_none_of_in KI e5 e6,PySem.W.tail_of_in KI e4⟩
  ·cases e
 ·cases e
section
variable {X:Cx}{x:Str}{np am pos:Pos}{e:Expr}{es:List Expr}{ta:TA}{C:Addr}{E:XK}
abbrev vww(E:XK)(C:Addr)(ta:TA):TS:=λ_ σ H=>ta σ H λvs H1=>vs.length<=sizeLine/\E (.ref C) none H1
theorem qxx(c:ECls X.K X.mg x C)(g:wV X E)(ha:PA X (e::es) ta)(hg:autoParam (Gl X x) Ŕ)(hc:autoParam (X.calm=true) Ŕ)(d8:autoParam ((x==("__debug__":Str))=false) ŕ)
  (he:autoParam (starEach (e::es) X.env=(false,eval e X.env)::starEach es X.env) Ŕ) (b9:autoParam (((backTo am (starEach (e::es) X.env)).any (·.1))=false) Ŕ):
  PS X (.Raise (some (.Call (.Name x np) (e::es) [] am)) none pos) (vww E C ta):=by
 intro pins s σ H D I h;obtain⟨bm,N,nm,q,bs,hdct,sn,sub,ab,col,dd,k0,k1,k2,k3,k5,mN,o1,o2,o3,o4⟩:=vqo I.ok.mod.kin c.ec;refine wpAny_Raise_call_subT (nm:=nm) (q:=q) (C:=C) (N:=N) (bs:=bs) (bm:=bm) (hdct:=hdct) (sn:=sn) (sub:=sub) (ab:=ab) (col:=col) (dd:=dd) (k0:=k0) (k1:=k1) (k2:=k2) (k3:=k3) (k5:=k5) (bmB:=bmV) F.excBase_ValueError (o4.hasType (X:="BaseException") rfl) (I.ok.hd hc) b9 o3 (ZX I hg c.bd ⟨rfl,?_⟩ d8);obtain⟨y0,r0,jg⟩:∃y r,backTo am (starEach (e::es) X.env)=(false,y)::r:=by rw[he];exact⟨_,_,rfl⟩
 have jr:=ha am pins s σ H _ I h;rw[jg]at jr ⊢;refine Calls.evalArgs_plain (thn jr λus s2 ⟨vs,H1,I1,r1,q1⟩=>⟨rfl,by rw[<-r1.length];exact q1.1,I1.bk _ _ o1,?_,?_,λh' ea made=>?_⟩)
 ·obtain⟨o,es',ep,ho,r⟩:=o2;exact⟨o,es',ep,I1.bk _ _ ho,r⟩
 ·exact o4.keeps λb o e=>I1.bk b o e
 ·obtain⟨t,m1,m2,m3⟩:=made.there;have J:Inv X pins σ H1 { s2 with heap:=h',toks:=s2.toks }:=I1.kept made.keeps;exact g pins σ H1 _ ea (.ref C) J ⟨fpX I1 made.new (qze I1.hok made.new),.inl ⟨_,⟨m1,by show(1:Nat)<6;decide⟩,rfl⟩⟩ q1.2
def XX(X:Cx)(pins:LA9)(σ:L2.St)(E:XK)(e:Value)(s:Shared):Prop:=∃H x C,e=.ref x/\Inv X pins σ H s/\Fx X pins H s.heap x C/\E C none H
def PSX(X:Cx)(st:Stmt)(t:XK->TS):Prop:=∀(E:XK) (pins:LA9) (s:Shared) (σ:L2.St) (H:Hp) (D:Ends),Inv X pins σ H s->t E D σ H->wpAny (model X.prog X.w) X.A (exec st X.env) (SP X pins D) (XX X pins σ E) s
def PEX(X:Cx)(ex:Expr)(t:XK->TE):Prop:=∀(E:XK) (pins:LA9) (s:Shared) (σ:L2.St) (H:Hp) (Q:VK),Inv X pins σ H s->t E σ H Q->wpAny (model X.prog X.w) X.A (eval ex X.env) (EP X pins σ Q) (XX X pins σ E) s
theorem qxz{k:Nat}{ps:List Str}{sp:Sp}(D:kQ X.prog X.w X.K X.mg X.base k x ps sp)(hr:Room k X.A)(ha:PA X.nox (e::es) ta)(hg:autoParam (Gl X x) Ŕ)(d8:autoParam ((x==("__debug__":Str))=false) ŕ)
  (he:autoParam (starEach (e::es) X.env=(false,eval e X.env)::starEach es X.env) Ŕ) (b9:autoParam ((backTo pos (starEach es X.env)).any (·.1)=false) Ŕ):
  PEX X (.Call (.Name x np) (e::es) [] pos) (λE=>vkm sp [] E ta):=by
 obtain⟨f,fd,F,hb,kp,m⟩:=D;intro E pins s σ H Q I h;refine Yj (ZX I hg m ?_ d8);refine PySem.W.callWith_K (h₀:=X.base) I.ok.mod.kin kp (Zj (ha pos pins s σ H _ (I.wish _) h) (λus s1 ⟨vs,H1,I1,r,q⟩=>⟨I1.kIn,?_⟩) λ_ _ z=>z.elim) he b9;have I1:=I1.unwish;have q:sp (vs++[]) H1 Q E:=q;have hl:us.length=ps.length:=by
  rw[<-r.length];have:=F.len _ _ _ _ q
  rwa [Xs]at this
 refine wpAny_call (Zp (F.run X.A X.stack s1 H1 ⟨us,[]⟩ us vs Q E hr I1.env0 (by have:=hb s1 us I1.kIn (by rw[Xs];exact hl);rwa [Xs]at this) r (by rwa [Xs]at q)) λrr s' hq=>?_);cases rr with
 |error e=>
  obtain⟨x,T,C,fl,H',rfl,os,bare,un,hok,hx,hT,nx,nT,f,q⟩:=hq;exact⟨H',x,C,rfl,I1.call' os un hok bare (λb hb=>nomatch hb),⟨fpX I1 hx nx,.inr ⟨T,fl,f,fpX I1 hT nT⟩⟩,q⟩
 |ok fl=>
  cases fl with|ret u=>exact I1.after hq|next=>exact False.elim hq|brk=>exact False.elim hq|cont=>exact False.elim hq
theorem vqa{i:Nat}{y:Str}{ex:Expr}{t:XK->TE}{az:Pos}(hN:X.N.Nodup)(hi:X.N[i]?=some y)(hx:Loc X.env.scope y)(h:PEX X ex t)(hs:autoParam (swapsWith ex (some (.Name y az)) pos.line X.env=pure false) Ŕ)(hf:autoParam (X.fn y=true\/X.env.scope.names.lookup y=some .local) Ř):
  PSX X (.Assign [.Name y az] ex pos) (λE=>wv6 (t E) (V8 i)):=by
 intro E pins s σ H D I hw;refine wpAny_Assign_Name (thn (h E pins s σ H _ I hw) λv s1 ⟨z,H1,I1,r1,q1⟩=>?_) hs;exact VW I1 hN hi hx r1 (λs2 I2=>⟨_,H1,I2,q1⟩) hf
end
section
variable {X:Cx}{pins:LA9}{σ:L2.St}{H:Hp}{s:Shared}{x:Addr}{ox:Obj}
theorem qvd{σ':L2.St}{h':Heap}{t':Nat}{m':Str->Option Value}(I:Inv X pins σ H s)(hs:Heap.SameBut X.env.locals s.heap h')(o7:h'.Ns X.env.locals m')(hl:σ'.length=X.N.length)
  (hv:∀(j:Nat) (y:Str) (v:V),X.N[j]?=some y->σ'[j]?=some (some v)->Vis X.env.scope y->∃u,RelV v u/\wz4 X.env h' m' y u):Inv X pins σ' H { s with heap:=h',toks:=t' }:=by
 have nL:∀b o,X.s₀.heap.get? b=some o->b≠X.env.locals:=λb o e=>Xi (Xm (Xd e) I.ok.above)
 refine⟨I.ok,I.os,I.bare,⟨λb o e n hb hx=>?_,λb o e n hb hx=>?_,I.base.free,λb o e hx=>?_,I.base.tups,I.base.frzs,I.base.tbls⟩,⟨m',o7,hv⟩,λy c e=>?_,I.free,I.freeC,λp hp=>?_,λb ob e=>?_,hl⟩
 ·exact(hs.2 b (nL b o e)).trans (I.base.keep b o e n hb hx)
 ·obtain⟨sl,e1⟩:=I.base.slot b o e n hb hx;exact⟨sl,(hs.2 b (nL b o e)).trans e1⟩
 ·obtain⟨o',e1⟩:=I.base.there b o e hx;exact⟨o',(hs.2 b (nL b o e)).trans e1⟩
 ·obtain⟨w',z⟩:=I.cell y c e;exact⟨w',z.sameBut hs (I.cne y c e)⟩
 ·obtain⟨e,n,ne,nf,d⟩:=I.pin p hp;exact⟨(hs.2 p.1 ne).trans e,n,ne,nf,d⟩
 ·refine(I.hok b ob e).stay (λc w' hc q=>(hs.2 c ?_).trans q) (λ_ q=>q) λ_ _ q=>q
  rintro rfl;rcases hc with rfl|hc
  ·rw[I.free]at e;cases e
  ·rw[I.free]at hc;cases hc
theorem jwc{M:Model}{A:Around}{E:VP9}{n:Str}{i:Nat}{pos:Pos}{Q:Unit->Shared->Prop}(I:Inv X pins σ H s)(hN:X.N.Nodup)(hi:X.N[i]?=some n)(hk:X.env.scope.names.lookup n=some .local)
  (h:∀s',Inv X pins (σ.set i none) H s'->Q () s'):wpAny M A (do bindName X.env n Value.none;unbindBehindTheSuite X.env n pos) Q E s:=by
 refine X0 (wpAny_bindName (VW I hN hi (.inl hk) (v:=.non) (u:=.none) rfl (λs1 I1=>?_) (.inr hk)));have pd:i < σ.length:=by rw[I.len];exact(List.getElem?_eq_some_iff.mp hi).1
 obtain⟨m,hn,hl⟩:=id I1.loc;obtain⟨u,ru,lk⟩:=hl i n .non hi (Z7 pd) (.inl hk);have hm:m n=some u:=by
  rcases lk with⟨_,z⟩|⟨z,_⟩
  ·exact z
  ·rcases z with z|z
   ·have z:X.env.scope.names.lookup n=some .cell:=z;rw[hk]at z;cases z
   ·have z:X.env.scope.names.lookup n=some .free:=z;rw[hk]at z;cases z
 have me:(X.env.scope.kind == .class||(X.env.scope.kind == .module&&X.env.locals != X.env.globals))=false:=by rw[I.ok.kind];rfl
 unfold unbindBehindTheSuite;refine wpAny_onRaise (wpAny_unbindName_local hk hn hm me λh' u' o7 sb=>h _ ?_);refine qvd (t':=s1.toks) I1 sb o7 (by rw[Zd];exact I.len) λj y v e1 e2 e3=>?_
 by_cases hj:j=i
 ·subst hj;rw[Z7 pd]at e2;cases e2
 ·rw[Yq (Ne.symm hj)]at e2;obtain⟨u2,r2,l2⟩:=hl j y v e1 (by rw[Yq (Ne.symm hj)];exact e2) e3;refine⟨u2,r2,?_⟩;rcases l2 with⟨k,e⟩|⟨k,c,e,z⟩
  ·refine .inl ⟨k,?_⟩;have:y≠n:=λe=>hj (kkc hN e1 (e▸hi))
   simp[this,e]
  ·exact .inr ⟨k,c,e,z.sameBut sb (I.cne y c e)⟩
end
structure ExAt (K:Frag)(x:Addr)(ox:Obj)(C:Addr):Prop where
 cls:ox.cls=.ref C
 no:PySem.W.notCls ox=true
 di:ox.dict=none
 xc:XCls K C
theorem qq7{X:Cx}{x:Str}{pos:Pos}{C:Addr}(h:X.mg x=some (.ref C))(hg:autoParam (Gl X x) Ŕ)(hd:autoParam ((x==("__debug__":Str))=false) ŕ):PE X (.Name x pos) (tC (.ref C)):=qq9 hg h (v:=.ref C) rfl hd
end L3
namespace Q
open PySem
inductive D where
 |non|bl (b:Bool)|int (i:Int)|str (z:Str)|tup (xs:List D)|lst (xs:List D)|dct (aa:List (D×D))|obj (c:Str) (fs:List (Str×D))
instance:DecidableEq D:=λa b=>Classical.propDecidable (a=b)
instance:Inhabited D:=⟨.non⟩
mutual
noncomputable def D.pure:D->Bool
 |.tup xs=>D.pures xs|.lst _=>false|.dct _=>false|.obj _ _=>false|_=>true
noncomputable def D.pures:List D->Bool
 |[]=>true|a::x=>D.pure a&&D.pures x
end
theorem D.pures_all:∀xs:List D,D.pures xs=xs.all D.pure
 |[]=>by simp[D.pures]|a::x=>by rw[D.pures,List.all_cons,D.pures_all x]
@[simp] theorem D.pures_map {α:Type}(f:α->D)(xs:List α)(h:∀x∈xs,(f x).pure=true):D.pures (xs.map f)=true:=by
 rw[D.pures_all,Ya];intro d hd;obtain⟨x,hx,rfl⟩:=aE hd;exact h x hx
mutual
noncomputable def peq:D->D->Bool
 |.non,.non=>true|.bl a,.bl b=>a==b|.bl a,.int b=>(if a then 1 else 0)==b|.int a,.bl b=>a==(if b then 1 else 0)|.int a,.int b=>a==b|.str a,.str b=>a==b|.lst as,.lst bs=>peqs as bs|.tup as,.tup bs=>peqs as bs|_,_=>false
noncomputable def peqs:List D->List D->Bool
 |[],[]=>true|a::as,b::bs=>peq a b&&peqs as bs|_,_=>false
end
mutual
noncomputable def D.flat:Nat->D->Bool
 |0,.tup _=>false|0,.lst _=>false|n+1,.tup xs=>D.flats n xs|n+1,.lst xs=>D.flats n xs|_,.dct _=>false|_,.obj _ _=>false|_,_=>true
noncomputable def D.flats:Nat->List D->Bool
 |_,[]=>true|n,a::x=>D.flat n a&&D.flats n x
end
mutual
noncomputable def j7:Nat->D->Bool
 |_,.non=>true|_,.int _=>true|_,.str _=>true|n+1,.tup xs=>keyDs n xs|_,_=>false
noncomputable def keyDs:Nat->List D->Bool
 |_,[]=>true|n,a::x=>j7 n a&&keyDs n x
end
def unm : List (D × D) -> Bool
  |(.str _, _)::_=>false|_=>true
inductive Own where
 |no|rt|dp
 deriving DecidableEq
abbrev Sd:=Own×D
abbrev En:=List (Option Sd)
inductive Res (α:Type) where
 |ok (E:En) (a:α)
 |exc (E:En) (c:Str)
abbrev Ev(α:Type):=En->Option (Res α)
abbrev Ex:=Ev Sd
def bnd{α β:Type}(m:Option (Res α))(f:En->α->Option (Res β)):Option (Res β):=
 match m with
 |some (.ok E a)=>f E a|some (.exc E c)=>some (.exc E c)|none=>none
@[simp] theorem wxz {α β:Type}(E:En)(a:α)(f:En->α->Option (Res β)):bnd (some (.ok E a)) f=f E a:=rfl
@[simp] theorem wx1 {α β:Type}(E:En)(c:Str)(f:En->α->Option (Res β)):bnd (some (.exc E c)) f=some (.exc E c):=rfl
@[simp] theorem wqs {α β:Type}(f:En->α->Option (Res β)):bnd none f=none:=rfl
def val{α:Type}(E:En)(x:Option α):Option (Res α):=x.map (Res.ok E)
@[simp] theorem wqf {α:Type}(E:En)(x:α):val E (some x)=some (.ok E x):=rfl
@[simp] theorem wqg {α:Type}(E:En):val E (none:Option α)=none:=rfl
def cC(d:D):Ex:=λE=>some (.ok E (.dp,d))
def cV(i:Nat):Ex:=λE=>match E[i]? with
 |some (some (_,d))=>some (.ok (E.set i (some (.no,d))) (.no,d))|_=>none
def cMv(i:Nat):Ex:=λE=>match E[i]? with
 |some (some x)=>some (.ok (E.set i none) x)|_=>none
def vV(i:Nat):Ex:=λE=>match E[i]? with
 |some (some x)=>some (.ok E x)|_=>none
def vE(c:Ex):Ex:=λE=>bnd (c E) λE x=>some (.ok E (.no,x.2))
abbrev C9(z:Int):Ex:=vE (cC (.int z))
def cH(v:Ex):Ex:=λE=>bnd (v E) λE x=>if x.1=.no then some (.ok E (.no,x.2))else if x.2.pure then some (.ok E (.dp,x.2))else none
def cF1(f:Sd->Option Sd)(a:Ex):Ex:=λE=>bnd (a E) λE x=>val E (f x)
def cF2(f:Sd->Sd->Option Sd)(a b:Ex):Ex:=λE=>bnd (a E) λE x=>bnd (b E) λE y=>val E (f x y)
def pu1(f:D->Option D):Sd->Option Sd:=λx=>(f x.2).map λd=>(.dp,d)
def pu2(f:D->D->Option D):Sd->Sd->Option Sd:=λx y=>(f x.2 y.2).map λd=>(.dp,d)
def wxx:D->List D
 |.lst xs=>xs|.tup xs=>xs|.dct aa=>aa.map (·.2)|_=>[]
def k8(x:Sd):Bool:=x.1 != .dp||D.pures (wxx x.2)
def sub:Own->Own
 |.dp=>.dp|_=>.no
def ixN(n:Nat)(i:Int):Option Nat:=if 0<=i then(if i<n then some i.toNat else none)else if -(n:Int)<=i then some (i+n).toNat else none
noncomputable def ixD:D->D->Option D
 |.lst xs,.int i=>(ixN xs.length i).bind λj=>xs[j]?|.tup xs,.int i=>(ixN xs.length i).bind λj=>xs[j]?|.str z,.int i=>(ixN z.cps.size i).bind λj=>(z.cps.toList[j]?).map λc=>.str ⟨#[c]⟩|.dct aa,k=>(aa.find? λe=>decide (e.1=k)).map (·.2)|_,_=>none
def big:Nat:=16777216
def i2(f:Int->Int->Option Int):D->D->Option D
 |.int a,.int b=>(f a b).map .int|_,_=>none
def c2(f:Int->Int->Bool):D->D->Option D
 |.int a,.int b=>some (.bl (f a b))|_,_=>none
def ZY(a:Int):Bool:=decide (-(2 ^ 64)<a)&&decide (a<2 ^ 64)
noncomputable def jv:Sd->Sd->Option Sd:=λx y=>match x.2,y.2 with
 |.int a,.int b=>some (.dp,.int (a+b))|.str a,.str b=>if a.cps.size+b.cps.size<=big then some (.dp,.str (a++b))else none|.lst a,.lst b=>if a.length+b.length<=big/\k8 x/\k8 y then some (.rt,.lst (a++b))else none|.tup a,.tup b=>if a.length+b.length<=big/\k8 x/\k8 y then some (.no,.tup (a++b))else none|_,_=>none
def Jz(a b:Int):Bool:=ZY a||ZY b||(decide (a.natAbs.log2<2000000)&&decide (b.natAbs.log2<2000000))
noncomputable def Qz:Sd->Sd->Option Sd:=λx y=>match x.2,y.2 with
 |.int a,.int b=>if Jz a b then some (.dp,.int (a*b))else none|.lst a,.int k=>if -(2 ^ 63)<=k/\k<2 ^ 63/\a.length*k.toNat<=big/\k8 x then some (.rt,.lst (List.replicate k.toNat a).flatten)else none|.str z,.int n=>if(z.cps.size<=1024/\n<=1024/\-1024<=n)/\(Txt.mul z n).cps.size<=big then some (.dp,.str (Txt.mul z n))else none|_,_=>none
def Vx:D->D->Option D:=i2 λa b=>some (a - b)
def qW:D->D->Option D:=i2 λa b=>if 0<b/\b.natAbs.log2<9000 then some (a / b)else none
def jW:D->D->Option D:=i2 λa b=>if 0<b then some (a % b)else none
def J5:D->D->Option D:=i2 λa b=>if 0<=b/\b<=1000000/\a.natAbs<2 ^ 64 then some (a ^ b.toNat)else none
def wwm:D->D->Option D:=i2 λa b=>if 0<=b/\b<=1000000/\a.natAbs<2 ^ 64 then some (a*2 ^ b.toNat)else none
def fEq:D->D->Option D:=λa b=>if a.flat 40&&b.flat 40 then some (.bl (peq a b))else none
def fNe:D->D->Option D:=λa b=>if a.flat 40&&b.flat 40 then some (.bl (!peq a b))else none
def fLt:D->D->Option D:=c2 λa b=>decide (a<b)
def fLe:D->D->Option D:=c2 λa b=>decide (a<=b)
def Vv:D->Option D
 |.int a=>some (.int (-a))|_=>none
def wwn(a b:Str):Bool:=!(Builtin.Str.occurrences b a 0 b.length 1).isEmpty
noncomputable def fIn:D->D->Option D:=λx y=>match y with
 |.lst ys=>if x.flat 30&&D.flats 30 ys then some (.bl (ys.any λz=>peq z x))else none|.tup ys=>if x.flat 30&&D.flats 30 ys then some (.bl (ys.any λz=>peq z x))else none
 |.str b=>(match x with
  |.str a=>some (.bl (wwn a b))
  |_=>none)
 |.dct aa=>some (.bl (aa.any λe=>decide (e.1=x)))|_=>none
def WQ:D->D->Option D:=λx y=>(fIn x y).bind λd=>match d with
 |.bl k=>some (.bl (!k))|_=>none
def kX:D->Option D
 |.lst xs=>some (.int xs.length)|.tup xs=>some (.int xs.length)|.str z=>some (.int z.length)|_=>none
def kind:D->String
 |.non=>"NoneType"|.bl _=>"bool"|.int _=>"int"|.str _=>"str"|.tup _=>"tuple"|.lst _=>"list"|.dct _=>"dict"|.obj _ _=>""
def isaK(t u:String):Bool:=t==u||(t == "bool" && u == "int")
def Wv(u:String):D->Option D:=λd=>match d with
 |.obj _ _=>none|.dct _=>none|_=>some (.bl (isaK (kind d) u))
abbrev Ts:=Ev Bool
def truth:D->Option Bool
 |.bl b=>some b|.non=>some false|.int i=>some (i != 0)|.str z=>some (z.cps.size != 0)|.lst xs=>some (!xs.isEmpty)|.tup xs=>some (!xs.isEmpty)|.dct xs=>some (!xs.isEmpty)|.obj _ _=>none
def tE(c:Ex):Ts:=λE=>bnd (c E) λE x=>val E (truth x.2)
def tAnd(a b:Ts):Ts:=λE=>bnd (a E) λE x=>if x then b E else some (.ok E false)
def tOr(a b:Ts):Ts:=λE=>bnd (a E) λE x=>if x then some (.ok E true)else b E
def tNot(a:Ts):Ts:=λE=>bnd (a E) λE x=>some (.ok E (!x))
def tYes:Ts:=λE=>some (.ok E true)
def wkv(a b:Ex):Ex:=λE=>bnd (a E) λE x=>match x.2 with
 |.bl true=>b E|.bl false=>some (.ok E (.dp,.bl false))|_=>none
def QQ:D->D->Option D:=λx y=>match y with
 |.dct _=>none|_=>fIn x y
def JZ:D->D->Option D:=λx y=>match y with
 |.dct _=>none|_=>WQ x y
def kY:D->D->Option D:=λx y=>match x with
 |.dct _=>none|_=>ixD x y
def qX(a b:Ex):Ex:=λE=>bnd (a E) λE x=>bnd (b E) λE y=>val E ((kY x.2 y.2).map λd=>(sub x.1,d))
def truthQ:D->Option Bool:=λd=>match d with
 |.dct _=>none|_=>truth d
def tEQ(c:Ex):Ts:=λE=>bnd (c E) λE x=>val E (truthQ x.2)
def kW:List Ex->Ev (List Sd)
 |[],E=>some (.ok E [])|c::cs,E=>bnd (c E) λE x=>bnd (kW cs E) λE xs=>some (.ok E (x::xs))
def vz(x:Sd):Bool:=x.1 == .dp||x.2.pure
def kj(o:Own)(cs:List Ex):Ex:=λE=>bnd (kW cs E) λE xs=>if o=.dp then(if xs.all vz then some (.ok E (.dp,.lst (xs.map (·.2))))else none)else some (.ok E (.rt,.lst (xs.map (·.2))))
def v5(o:Own)(cs:List Ex):Ex:=λE=>bnd (kW cs E) λE xs=>if o=.dp then(if xs.all vz then some (.ok E (.dp,.tup (xs.map (·.2))))else none)else some (.ok E (.no,.tup (xs.map (·.2))))
inductive Fl where
 |nx (E:En)|rt (E:En) (x:Sd)|ct (E:En)|bk (E:En)|xc (E:En) (c:Str)
abbrev Sm:=En->Option Fl
def ofE{α:Type}(m:Option (Res α))(f:En->α->Option Fl):Option Fl:=
 match m with
 |some (.ok E a)=>f E a|some (.exc E c)=>some (.xc E c)|none=>none
@[simp] theorem wxr {α:Type}(E:En)(a:α)(f:En->α->Option Fl):ofE (some (.ok E a)) f=f E a:=rfl
@[simp] theorem ww4 {α:Type}(E:En)(c:Str)(f:En->α->Option Fl):ofE (some (.exc E c)) f=some (.xc E c):=rfl
@[simp] theorem wqn {α:Type}(f:En->α->Option Fl):ofE none f=none:=rfl
def j9(a b:Sm):Sm:=λE=>match a E with
 |some (.nx E)=>b E|r=>r
def x6:Sm:=λE=>some (.nx E)
def jw(i:Nat)(c:Ex):Sm:=λE=>ofE (c E) λE x=>some (.nx (E.set i (some x)))
def k7(c:Ex):Sm:=λE=>ofE (c E) λE x=>some (.rt E x)
def sIf(t:Ts)(a b:Sm):Sm:=λE=>ofE (t E) λE x=>if x then a E else b E
inductive Tg where
 |n (i:Nat)|t (ts:List Nat)
def setAll:List Nat->List D->En->Option En
 |[],[],E=>some E|i::is,d::ds,E=>setAll is ds (E.set i (some (.no,d)))|_,_,_=>none
def Tg.put:Tg->D->En->Option En
 |.n i,d,E=>some (E.set i (some (.no,d)))|.t is,.tup ds,E=>setAll is ds E|.t is,.lst ds,E=>setAll is ds E|.t _,_,_=>none
def J0(tg:Tg)(b:Sm):List D->En->Option Fl
 | [],E=>some (.nx E)
 | d::ds,E=>match tg.put d E with
  |none=>none
  |some E=>match b E with
   |some (.nx E)=>J0 tg b ds E|some (.ct E)=>J0 tg b ds E|some (.bk E)=>some (.nx E)|r=>r
def zq(it:Ev (List D))(tg:Tg)(b:Sm):Sm:=λE=>ofE (it E) λE ds=>J0 tg b ds E
def at'{α:Type}(L:List (Option α))(j:Nat):Option α:=(L[j]?).join
def clr{α:Type}:List Nat->List (Option α)->List (Option α)
 |[],L=>L|j::R,L=>clr R (L.set j none)
def back{α:Type}:List Nat->List (Option α)->List (Option α)->List (Option α)
 |j::R,q::B,L=>back R B (L.set j q)|_,_,L=>L
def Q5(k:Nat)(R:List Nat)(E:En):En:=List.replicate k none++R.map (at' E)
def xz(k:Nat)(R:List Nat)(B E:En):En:=back R (B.drop k) (clr R E)
def lcL(tg:Tg)(t:Ts)(c:Ex):List D->En->List Sd->Option (Res (List Sd))
 |[],B,af=>some (.ok B af)
 |d::ds,B,af=>match tg.put d B with
  |none=>none|some B=>bnd (t B) λB x=>if x then bnd (c B) λB y=>lcL tg t c ds B (af++[y])else lcL tg t c ds B af
def mkL(o:Own)(E:En)(xs:List Sd):Option (Res Sd):=
 if o=.dp then(if xs.all vz then some (.ok E (.dp,.lst (xs.map (·.2))))else none)else some (.ok E (.rt,.lst (xs.map (·.2))))
def cLC(o:Own)(k:Nat)(R:List Nat)(it:Ev (List D))(tg:Tg)(t:Ts)(c:Ex):Ex:=λE=>bnd (it E) λE ds=>
 match lcL tg t c ds (Q5 k R E) []with
 |some (.ok B xs)=>mkL o (xz k R B E) xs|some (.exc B e)=>some (.exc (xz k R B E) e)|none=>none
def Kv:Option (Option Sd)->Bool
 |some (some (_,.lst _))=>true|_=>false
noncomputable def z3(f:List D->D->Option (List D))(i:Nat)(c:Ex):Sm:=λE=>if Kv E[i]? then ofE (c E) λE x=>match E[i]? with
 |some (some (o,.lst xs))=>if o=.no then none else(match f xs x.2 with
  |some ys=>some (.nx (E.set i (some (if o=.dp/\vz x then .dp else .rt,.lst ys))))
  |none=>none)
 |_=>none
 else none
def z5:List D->D->Option (List D):=λxs d=>if xs.length<big then some (xs++[d])else none
def qzl:Sd->Option Sd:=λx=>match x.2 with
 |.lst xs=>if k8 x then some (.rt,.lst xs)else none|.tup xs=>if k8 x then some (.rt,.lst xs)else none|_=>none
def XZ:Sd->Option Sd:=λx=>match x.2 with
 |.lst xs=>if k8 x then some (.no,.tup xs)else none|.tup xs=>if k8 x then some (.no,.tup xs)else none|_=>none
def bls:List D->Option (List Bool)
 |[]=>some []|.bl b::ds=>(bls ds).map (b :: ·)|_=>none
def W9:D->Option D
 |.lst ds=>(bls ds).map λbs=>.bl (bs.all id)|_=>none
def seqOf:D->Option (List D)
 |.lst xs=>some xs|.tup xs=>some xs|.str z=>if z.cps.size<=big then some (z.cps.toList.map λc=>.str ⟨#[c]⟩)else none|_=>none
def itS(c:Ex):Ev (List D):=λE=>bnd (c E) λE x=>val E (seqOf x.2)
def vj(i:Int):Bool:=decide (-(2 ^ 62)<=i)&&decide (i<2 ^ 62)
def jY(lo hi:Int):List D:=(List.range (hi - lo).toNat).map λ(k:Nat)=>.int (lo+(k:Int))
def xJ(c:Ex):Ev (List D):=λE=>bnd (c E) λE x=>match x.2 with
 |.int j=>if vj j/\j.toNat<=big then some (.ok E (jY 0 j))else none|_=>none
def wqr(c:Ex):Ex:=λE=>bnd (c E) λE x=>match x.2 with
 |.int j=>if vj j/\j.toNat<=big then some (.ok E (.rt,.lst (jY 0 j)))else none|_=>none
abbrev Fn:=List Sd->Option (Res Sd)
def fn(n:Nat)(b:Sm):Fn:=λxs=>match b (xs.map some++List.replicate (n - xs.length) none)with
 |some (.rt E x)=>some (.ok E x)|some (.nx E)=>some (.ok E (.dp,.non))|some (.xc E c)=>some (.exc E c)|_=>none
def letAll(xs:List Sd):List Sd:=xs.map λx=>(.no,x.2)
def jQ(f:Fn)(cs:List Ex):Ex:=λE=>bnd (kW cs E) λE xs=>match f (letAll xs)with
 |some (.ok _ y)=>some (.ok E y)|some (.exc _ c)=>some (.exc E c)|none=>none
end Q
namespace Q
open PySem PySem.Spec PyProof.Rows L2 L3
mutual
noncomputable def K7(w:PySem.World):D->Int
 |.int i=>hashInt i|.str z=>hashStr w z|.tup xs=>reduceHash (Builtin.Tuple.tupleHashOf (hashDs w xs))|_=>4238894112
noncomputable def hashDs(w:PySem.World):List D->List Int
 |[]=>[]|a::x=>K7 w a::hashDs w x
end
def Kd:Type:={ d:D // j7 6 d=true }
instance:DecidableEq Kd:=λa b=>Classical.propDecidable (a=b)
abbrev Ent:=Kd×Addr×Value
def Q1(a:Addr)(es:List Ent)(ep:Nat):HO:=.ext λw h=>∃o ds,h.get? a=some o/\o.ExactDict/\o.data=.dict ds ep/\ds.toList=es.map λx=>(⟨K7 w x.1.1,.ref x.2.1,x.2.2⟩:DictEntry)
mutual
noncomputable def PuR(K:Frag)(H:Hp):D->V->Prop
 |.non,v=>v=.non|.int i,v=>v=.int i|.str z,v=>v=.str z/\z.length<=sizeLine|.tup ds,v=>∃a xs,v=.ref a/\SqT K H a xs/\PuRs K H ds xs|_,_=>False
noncomputable def PuRs(K:Frag)(H:Hp):List D->List V->Prop
 |[],xs=>xs=[]|d::ds,xs=>∃x r,xs=x::r/\PuR K H d x/\PuRs K H ds r
end
def DcN(K:Frag)(H:Hp)(a:Addr)(ks:List D)(vs:List V):Prop:=∃(es:List Ent) (ep:Nat),H a=some (Q1 a es ep)/\(a==sysModules)=false/\es.length<=sizeLine/\(es.map (·.1)).Nodup/\ks=es.map (·.1.1)/\(∀x∈es,PuR K H x.1.1 (.ref x.2.1))/\Vals vs (es.map (·.2.2))
def DcI(H:Hp)(a:Addr)(ks:List D)(vs:List V):Prop:=∃(kv:List (Int×V)) (m:Str),H a=some (.dK (kv.map λp=>(Sum.inl p.1,p.2)))/\ks=.str m::kv.map (λp=>D.int p.1)/\vs=.non::kv.map (·.2)
def DcA(K:Frag)(H:Hp)(a:Addr)(ks:List D)(vs:List V):Prop:=DcN K H a ks vs\/DcI H a ks vs
theorem DcA.un{K:Frag}{H:Hp}{a:Addr}{aa:List (D×D)}{vs:List V}(h:DcA K H a (aa.map (·.1)) vs)(hu:unm aa=true):DcN K H a (aa.map (·.1)) vs:=by
 rcases h with h|⟨kv,m,_,h,_⟩
 ·exact h
 ·cases aa with
  |nil=>cases h
  |cons p r=>
   obtain⟨k,d⟩:=p;rw[List.map_cons]at h;injection h with h1 _;have h1:k=.str m:=h1;subst h1;cases hu
def wz3(K:Frag)(a:Addr)(xs:List V):Prop:=∃(ac:Array Value) (n:Nat),K.lookup a=some { cls:=.type "list",data:=.seq ac n }/\ac.size<=sizeLine/\Vals xs ac.toList
def wqt(K:Frag)(H:Hp)(a:Addr)(xs:List V):Prop:=(∃o,H a=some (.frz o (.lst xs)))\/wz3 K a xs
def LsR(K:Frag)(H:Hp)(a:Addr)(xs:List V):Prop:=Rd H a (.lst xs)\/wz3 K a xs
theorem LsR.of{K:Frag}{H:Hp}{a:Addr}{xs:List V}(h:wqt K H a xs):LsR K H a xs:=h.imp .inr id
theorem LsR.sq{K:Frag}{H:Hp}{a:Addr}{xs:List V}(h:LsR K H a xs):SqL K H a xs:=by
 rcases h with h|⟨ac,n,h1,h2,h3⟩
 ·exact .inl h
 ·exact .inr ⟨_,ac,n,h1,rfl,rfl,rfl,h2,h3⟩
theorem LsR.is{X:Cx}{pins:LA9}{σ:L2.St}{H:Hp}{s:Shared}{a:Addr}{xs:List V}(I:L2.Inv X pins σ H s)(h:LsR X.K H a xs):xs.length<=sizeLine/\∃(ac:List Value) (n:Nat),Vals xs ac/\s.heap.get? a=some { cls:=.type "list",data:=.seq ac.toArray n }:=by
 rcases h with h|⟨ac,n,h1,h2,h3⟩
 ·obtain⟨z,ac,n,r,e⟩:=h.ok I.hok;exact⟨z,ac,n,r,e⟩
 ·have hl:=h3.length;simp only[X4]at hl;exact⟨⋯,ac.toList,n,h3,by simpa using I.kIn a _ h1⟩
def ExD(K:Frag)(H:Hp)(c:Str)(v:V):Prop:=∃x o C,v=.ref x/\H x=some (.frz o (.ext λ_ _=>True))/\ExAt K x o C/\nsIn K mainGlobals c=some (some (.ref C))
mutual
noncomputable def RepL(K:Frag)(H:Hp)(g:Bool):D->V->List Addr->Prop
 |.non,v,as=>v=.non/\as=[]|.bl b,v,as=>v=.bl b/\as=[]|.int i,v,as=>v=.int i/\as=[]|.str z,v,as=>v=.str z/\as=[]/\z.length<=sizeLine|.tup ds,v,as=>∃a xs,v=.ref a/\SqT K H a xs/\RepA K H g ds xs as|.lst ds,v,as=>∃a xs bs,v=.ref a/\RepA K H g ds xs bs/\((H a=some (.lst xs)/\as=a::bs)\/(g=true/\wqt K H a xs/\as=bs))|.dct aa,v,as=>∃a xs bs,v=.ref a/\RepP K H g aa xs bs/\DcA K H a (aa.map (·.1)) xs/\as=a::bs|.obj c _,v,as=>as=[]/\ExD K H c v
noncomputable def RepA(K:Frag)(H:Hp)(g:Bool):List D->List V->List Addr->Prop
 |[],xs,as=>xs=[]/\as=[]|d::ds,xs,as=>∃x r bs cs,xs=x::r/\as=bs++cs/\RepL K H g d x bs/\RepA K H g ds r cs
noncomputable def RepP(K:Frag)(H:Hp)(g:Bool):List (D×D)->List V->List Addr->Prop
 |[],xs,as=>xs=[]/\as=[]|(_,d)::ds,xs,as=>∃x r bs cs,xs=x::r/\as=bs++cs/\RepL K H g d x bs/\RepP K H g ds r cs
end
def RepR(K:Frag)(H:Hp):D->V->List Addr->Prop
 |.lst ds,v,as=>∃a xs bs,v=.ref a/\RepA K H true ds xs bs/\H a=some (.lst xs)/\as=a::bs|.dct aa,v,as=>∃a xs bs,v=.ref a/\RepP K H true aa xs bs/\DcA K H a (aa.map (·.1)) xs/\as=a::bs|_,_,_=>False
def RepO(K:Frag)(H:Hp):Own->D->V->List Addr->Prop
 |.no=>RepL K H true|.rt=>RepR K H|.dp=>RepL K H false
section
variable {K:Frag}{H H':Hp}
def Kp(H H':Hp)(as:List Addr):Prop:=(∀a xs,H a=some (.tup xs)->H' a=some (.tup xs))/\(∀a o u,H a=some (.frz o u)->H' a=some (.frz o u))/\∀a∈as,∀ob,H a=some ob->H' a=some ob
theorem Kp.left{as bs:List Addr}(k:Kp H H' (as++bs)):Kp H H' as:=⟨k.1,k.2.1,λa ha=>k.2.2 a (ll9 _ ha)⟩
theorem Kp.right{as bs:List Addr}(k:Kp H H' (as++bs)):Kp H H' bs:=⟨k.1,k.2.1,λa ha=>k.2.2 a (lr9 _ ha)⟩
theorem Kp.tail{a:Addr}{bs:List Addr}(k:Kp H H' (a::bs)):Kp H H' bs:=⟨k.1,k.2.1,λb hb=>k.2.2 b (lc9 _ hb)⟩
theorem Kp.tupT{as:List Addr}{a:Addr}{xs:List V}(k:Kp H H' as)(h:SqT K H a xs):SqT K H' a xs:=by
 rcases h with(h|⟨o,h⟩)|h
 ·exact .inl (.inl (k.1 a xs h))
 ·exact .inl (.inr ⟨o,k.2.1 a o _ h⟩)
 ·exact .inr h
theorem Kp.frzL{as:List Addr}{a:Addr}{xs:List V}(k:Kp H H' as)(h:wqt K H a xs):wqt K H' a xs:=by
 rcases h with⟨o,h⟩|h
 ·exact .inl ⟨o,k.2.1 a o _ h⟩
 ·exact .inr h
mutual
theorem PuR.kp{as:List Addr}(k:Kp H H' as):∀{d:D} {v:V},PuR K H d v->PuR K H' d v
 |.non,_,h=>by unfold PuR at h ⊢;exact h|.int _,_,h=>by unfold PuR at h ⊢;exact h
 |.tup ds,_,h=>by
  unfold PuR at h ⊢;obtain⟨a,xs,e,s,r⟩:=h;exact⟨a,xs,e,k.tupT s,PuRs.kp k r⟩
 |.bl _,_,h=>by unfold PuR at h;exact h.elim|.str _,_,h=>by unfold PuR at h ⊢;exact h|.lst _,_,h=>by unfold PuR at h;exact h.elim|.dct _,_,h=>by unfold PuR at h;exact h.elim|.obj _ _,_,h=>by unfold PuR at h;exact h.elim
theorem PuRs.kp{as:List Addr}(k:Kp H H' as):∀{ds:List D} {xs:List V},PuRs K H ds xs->PuRs K H' ds xs
 |[],_,h=>by unfold PuRs at h ⊢;exact h
 |d::ds,_,h=>by
  unfold PuRs at h ⊢;obtain⟨x,r,e,h1,h2⟩:=h;exact⟨x,r,e,PuR.kp k h1,PuRs.kp k h2⟩
end
theorem Kp.dcn{a:Addr}{bs:List Addr}{ks:List D}{vs:List V}(k:Kp H H' (a::bs))(h:DcN K H a ks vs):DcN K H' a ks vs:=by
 obtain⟨es,ep,e,h1,h2,h3,h4,h5,h6⟩:=h;exact⟨es,ep,k.2.2 a X6 _ e,h1,h2,h3,h4,λx hx=>PuR.kp k (h5 x hx),h6⟩
theorem Kp.dca{a:Addr}{bs:List Addr}{ks:List D}{vs:List V}(k:Kp H H' (a::bs))(h:DcA K H a ks vs):DcA K H' a ks vs:=by
 rcases h with h|⟨kv,m,e,h⟩
 ·exact .inl (k.dcn h)
 ·exact .inr ⟨kv,m,k.2.2 a X6 _ e,h⟩
theorem Kp.of_same{as:List Addr}(s:jJ H H'):Kp H H' as:=⟨λa xs h=>s a _ h,λa o u h=>s a _ h,λa _ ob h=>s a ob h⟩
mutual
theorem RepL.kp{g:Bool}:∀{d:D} {v:V} {as:List Addr},RepL K H g d v as->Kp H H' as->RepL K H' g d v as
 | .non,_,_,h,_=>by unfold RepL at h ⊢;exact h| .bl _,_,_,h,_=>by unfold RepL at h ⊢;exact h| .int _,_,_,h,_=>by unfold RepL at h ⊢;exact h| .str _,_,_,h,_=>by unfold RepL at h ⊢;exact h
 | .tup ds,_,_,h,k=>by
  unfold RepL at h ⊢;obtain⟨a,xs,e,s,r⟩:=h;exact⟨a,xs,e,k.tupT s,RepA.kp r k⟩
 | .lst ds,_,_,h,k=>by
  unfold RepL at h ⊢;obtain⟨a,xs,bs,e,r,q⟩:=h;refine⟨a,xs,bs,e,?_,?_⟩
  ·rcases q with⟨_,rfl⟩|⟨_,_,rfl⟩
   ·exact RepA.kp r k.tail
   ·exact RepA.kp r k
  ·rcases q with⟨h1,rfl⟩|⟨hg,h1,rfl⟩
   ·exact .inl ⟨k.2.2 a X6 _ h1,rfl⟩
   ·exact .inr ⟨hg,k.frzL h1,rfl⟩
 |.dct aa,_,_,h,k=>by
  unfold RepL at h ⊢;obtain⟨a,xs,bs,e,r,q,rfl⟩:=h;exact⟨a,xs,bs,e,RepP.kp r k.tail,k.dca q,rfl⟩
 |.obj _ _,_,_,h,k=>by
  unfold RepL at h ⊢;obtain⟨e,x,o,C,h1,h2,h3⟩:=h;exact⟨e,x,o,C,h1,k.2.1 _ _ _ h2,h3⟩
theorem RepA.kp{g:Bool}:∀{ds:List D} {xs:List V} {as:List Addr},RepA K H g ds xs as->Kp H H' as->RepA K H' g ds xs as
 |[],_,_,h,_=>by unfold RepA at h ⊢;exact h
 |d::ds,_,_,h,k=>by
  unfold RepA at h ⊢;obtain⟨x,r,bs,cs,e1,rfl,h1,h2⟩:=h;exact⟨x,r,bs,cs,e1,rfl,RepL.kp h1 k.left,RepA.kp h2 k.right⟩
theorem RepP.kp{g : Bool}: ∀{ds : List (D × D)} {xs : List V} {as : List Addr}, RepP K H g ds xs as -> Kp H H' as -> RepP K H' g ds xs as
  | [], _, _, h, _=>by unfold RepP at h ⊢; exact h
  | (q, d)::ds, _, _, h, k=>by
    unfold RepP at h ⊢;obtain⟨x, r, bs, cs, e1, rfl, h1, h2⟩:= h;exact⟨x, r, bs, cs, e1, rfl, RepL.kp h1 k.left, RepP.kp h2 k.right⟩
end
mutual
theorem RepL.wk:∀{d:D} {v:V} {as:List Addr},RepL K H false d v as->RepL K H true d v as
 |.non,_,_,h=>by unfold RepL at h ⊢;exact h|.bl _,_,_,h=>by unfold RepL at h ⊢;exact h|.int _,_,_,h=>by unfold RepL at h ⊢;exact h|.str _,_,_,h=>by unfold RepL at h ⊢;exact h
 |.tup ds,_,_,h=>by
  unfold RepL at h ⊢;obtain⟨a,xs,e,s,r⟩:=h;exact⟨a,xs,e,s,RepA.wk r⟩
 |.lst ds,_,_,h=>by
  unfold RepL at h ⊢;obtain⟨a,xs,bs,e,r,q⟩:=h;refine⟨a,xs,bs,e,RepA.wk r,?_⟩;rcases q with q|⟨z,_⟩
  ·exact .inl q
  ·cases z
 |.dct aa,_,_,h=>by
  unfold RepL at h ⊢;obtain⟨a,xs,bs,e,r,q,z⟩:=h;exact⟨a,xs,bs,e,RepP.wk r,q,z⟩
 |.obj _ _,_,_,h=>by unfold RepL at h ⊢;exact h
theorem RepA.wk:∀{ds:List D} {xs:List V} {as:List Addr},RepA K H false ds xs as->RepA K H true ds xs as
 |[],_,_,h=>by unfold RepA at h ⊢;exact h
 |d::ds,_,_,h=>by
  unfold RepA at h ⊢;obtain⟨x,r,bs,cs,e1,e2,h1,h2⟩:=h;exact⟨x,r,bs,cs,e1,e2,RepL.wk h1,RepA.wk h2⟩
theorem RepP.wk : ∀{ds : List (D × D)} {xs : List V} {as : List Addr}, RepP K H false ds xs as -> RepP K H true ds xs as
  | [], _, _, h=>by unfold RepP at h ⊢; exact h
  | (q, d)::ds, _, _, h=>by
    unfold RepP at h ⊢;obtain⟨x, r, bs, cs, e1, e2, h1, h2⟩:= h;exact⟨x, r, bs, cs, e1, e2, RepL.wk h1, RepP.wk h2⟩
end
mutual
theorem RepL.al{g:Bool}:∀{d:D} {v:V} {as:List Addr},RepL K H g d v as->∀a∈as,(∃xs,H a=some (.lst xs))\/(∃ φ,H a=some (.ext φ))\/∃aa,H a=some (.dK aa)
 | .non,_,_,h=>by unfold RepL at h;rw[h.2];exact λ_ z=>nomatch z| .bl _,_,_,h=>by unfold RepL at h;rw[h.2];exact λ_ z=>nomatch z| .int _,_,_,h=>by unfold RepL at h;rw[h.2];exact λ_ z=>nomatch z| .str _,_,_,h=>by unfold RepL at h;rw[h.2.1];exact λ_ z=>nomatch z
 | .tup ds,_,_,h=>by
  unfold RepL at h;obtain⟨a,xs,e,s,r⟩:=h;exact RepA.al r
 | .lst ds,_,_,h=>by
  unfold RepL at h;obtain⟨a,xs,bs,e,r,q⟩:=h;rcases q with⟨h1,rfl⟩|⟨_,_,rfl⟩
  ·intro b hb;rcases aD hb with rfl|hb
   ·exact .inl ⟨_,h1⟩
   ·exact RepA.al r b hb
  ·exact RepA.al r
 | .dct aa,_,_,h=>by
  unfold RepL at h;obtain⟨a,xs,bs,e,r,q,rfl⟩:=h;intro b hb;rcases aD hb with rfl|hb
  ·rcases q with⟨es,ep,q,_⟩|⟨kv,m,q,_⟩
   ·exact .inr (.inl ⟨_,q⟩)
   ·exact .inr (.inr ⟨_,q⟩)
  ·exact RepP.al r b hb
 |.obj _ _,_,_,h=>by unfold RepL at h;rw[h.1];exact λ_ z=>nomatch z
theorem RepA.al{g:Bool}:∀{ds:List D} {xs:List V} {as:List Addr},RepA K H g ds xs as->∀a∈as,(∃xs,H a=some (.lst xs))\/(∃ φ,H a=some (.ext φ))\/∃aa,H a=some (.dK aa)
 |[],_,_,h=>by unfold RepA at h;rw[h.2];exact λ_ z=>nomatch z
 |d::ds,_,_,h=>by
  unfold RepA at h;obtain⟨x,r,bs,cs,e1,rfl,h1,h2⟩:=h;intro a ha;rcases aA ha with ha|ha
  ·exact RepL.al h1 a ha
  ·exact RepA.al h2 a ha
theorem RepP.al{g : Bool}: ∀{ds : List (D × D)} {xs : List V} {as : List Addr}, RepP K H g ds xs as -> ∀a ∈ as, (∃xs, H a = some (.lst xs)) \/ (∃ φ, H a = some (.ext φ)) \/ ∃aa, H a = some (.dK aa)
  | [], _, _, h=>by unfold RepP at h; rw[h.2]; exact λ_ z=>nomatch z
  | (_, d)::ds, _, _, h=>by
    unfold RepP at h;obtain⟨x, r, bs, cs, e1, rfl, h1, h2⟩:= h;intro a ha;rcases aA ha with ha|ha
    · exact RepL.al h1 a ha
    · exact RepP.al h2 a ha
end
mutual
theorem RepL.pu{g g':Bool}:∀{d:D} {v:V} {as:List Addr},RepL K H g d v as->d.pure=true->as=[]/\RepL K H g' d v []
 |.non,_,_,h,_=>by unfold RepL at h ⊢;exact⟨h.2,h.1,rfl⟩|.bl _,_,_,h,_=>by unfold RepL at h ⊢;exact⟨h.2,h.1,rfl⟩|.int _,_,_,h,_=>by unfold RepL at h ⊢;exact⟨h.2,h.1,rfl⟩|.str _,_,_,h,_=>by unfold RepL at h ⊢;exact⟨h.2.1,h.1,rfl,h.2.2⟩
 |.tup ds,_,_,h,p=>by
  unfold RepL at h ⊢;obtain⟨a,xs,e,s,r⟩:=h;obtain⟨z,r'⟩:=RepA.pu (g':=g') r (by unfold D.pure at p;exact p);exact⟨z,a,xs,e,s,r'⟩
 |.lst ds,_,_,h,p=>by unfold D.pure at p;cases p|.dct ds,_,_,h,p=>by unfold D.pure at p;cases p|.obj _ _,_,_,h,p=>by unfold D.pure at p;cases p
theorem RepA.pu{g g':Bool}:∀{ds:List D} {xs:List V} {as:List Addr},RepA K H g ds xs as->D.pures ds=true->as=[]/\RepA K H g' ds xs []
 |[],_,_,h,_=>by unfold RepA at h ⊢;exact⟨h.2,h.1,rfl⟩
 |d::ds,_,_,h,p=>by
  unfold RepA at h ⊢;unfold D.pures at p;rw[Bool.and_eq_true]at p;obtain⟨x,r,bs,cs,e1,rfl,h1,h2⟩:=h;obtain⟨rfl,q1⟩:=RepL.pu (g':=g') h1 p.1;obtain⟨rfl,q2⟩:=RepA.pu (g':=g') h2 p.2;exact⟨rfl,x,r,[],[],e1,rfl,q1,q2⟩
end
theorem RepR.wk:∀{d:D} {v:V} {as:List Addr},RepR K H d v as->RepL K H true d v as
 |.lst ds,_,_,h=>by
  obtain⟨a,xs,bs,e,r,q,z⟩:=h;unfold RepL;exact⟨a,xs,bs,e,r,.inl ⟨q,z⟩⟩
 |.dct aa,_,_,h=>by
  obtain⟨a,xs,bs,e,r,q,z⟩:=h;unfold RepL;exact⟨a,xs,bs,e,r,q,z⟩
theorem RepR.kp:∀{d:D} {v:V} {as:List Addr},RepR K H d v as->Kp H H' as->RepR K H' d v as
 |.lst ds,_,_,h,k=>by
  obtain⟨a,xs,bs,e,r,q,rfl⟩:=h;exact⟨a,xs,bs,e,r.kp k.tail,k.2.2 a X6 _ q,rfl⟩
 |.dct aa,_,_,h,k=>by
  obtain⟨a,xs,bs,e,r,q,rfl⟩:=h;exact⟨a,xs,bs,e,r.kp k.tail,k.dca q,rfl⟩
theorem RepO.wk:∀{o:Own} {d:D} {v:V} {as:List Addr},RepO K H o d v as->RepL K H true d v as
 |.no,_,_,_,h=>h|.rt,_,_,_,h=>RepR.wk h|.dp,_,_,_,h=>RepL.wk h
theorem RepO.kp:∀{o:Own} {d:D} {v:V} {as:List Addr},RepO K H o d v as->Kp H H' as->RepO K H' o d v as
 |.no,_,_,_,h,k=>RepL.kp h k|.rt,_,_,_,h,k=>RepR.kp h k|.dp,_,_,_,h,k=>RepL.kp h k
end
structure Sl where
 o:Own
 d:D
 v:V
 as:List Addr
def Sl.own(x:Sl):List Addr:=match x.o with
 |.no=>[]|.rt=>x.as.take 1|.dp=>x.as
def Sl.frz(x:Sl):List Addr:=match x.o with
 |.no=>x.as|.rt=>x.as.drop 1|.dp=>[]
theorem Sl.parts(x:Sl):x.own++x.frz=x.as:=by
 unfold Sl.own Sl.frz;cases x.o with|no=>rfl|rt=>exact List.take_append_drop 1 x.as|dp=>exact Xs _
theorem Sl.own_as{x:Sl}{a:Addr}(h:a∈x.own):a∈x.as:=by rw[<-x.parts];exact ll9 _ h
theorem Sl.frz_as{x:Sl}{a:Addr}(h:a∈x.frz):a∈x.as:=by rw[<-x.parts];exact lr9 _ h
theorem Sl.as_of{x:Sl}{a:Addr}(h:a∈x.as):a∈x.own\/a∈x.frz:=by rw[<-x.parts]at h;exact aA h
def Sl.let(x:Sl):Sl:={ x with o:=.no }
abbrev Ls:=List (Option Sl)
def j6(L:Ls):List Addr:=L.flatMap λx=>x.elim [] Sl.own
def jz(L:Ls):List Addr:=L.flatMap λx=>x.elim [] Sl.frz
@[simp] theorem wj1:j6 []=[]:=rfl
@[simp] theorem vwg:jz []=[]:=rfl
@[simp] theorem jZ (x:Sl)(L:Ls):j6 (some x::L)=x.own++j6 L:=by simp[j6]
@[simp] theorem qk (x:Sl)(L:Ls):jz (some x::L)=x.frz++jz L:=by simp[jz]
@[simp] theorem kzu (L:Ls):j6 (none::L)=j6 L:=by simp[j6]
@[simp] theorem kwd (L:Ls):jz (none::L)=jz L:=by simp[jz]
@[simp] theorem jx (L T:Ls):j6 (L++T)=j6 L++j6 T:=by simp[j6]
@[simp] theorem k6 (L T:Ls):jz (L++T)=jz L++jz T:=by simp[jz]
theorem mem_owned{L:Ls}{a:Addr}:a∈j6 L↔∃x,some x∈L/\a∈x.own:=by
 unfold j6;rw[List.mem_flatMap];constructor
 ·rintro ⟨y,hy,h⟩;cases y with|none=>exact nomatch h|some x=>exact⟨x,hy,h⟩
 ·rintro ⟨x,hx,h⟩;exact⟨some x,hx,h⟩
theorem mem_frozen{L:Ls}{a:Addr}:a∈jz L↔∃x,some x∈L/\a∈x.frz:=by
 unfold jz;rw[List.mem_flatMap];constructor
 ·rintro ⟨y,hy,h⟩;cases y with|none=>exact nomatch h|some x=>exact⟨x,hy,h⟩
 ·rintro ⟨x,hx,h⟩;exact⟨some x,hx,h⟩
def Sl.ok(K:Frag)(H:Hp)(x:Sl):Prop:=RepO K H x.o x.d x.v x.as
theorem Sl.ok.al{K:Frag}{H:Hp}{x:Sl}(h:x.ok K H):∀a∈x.as,(∃xs,H a=some (.lst xs))\/(∃ φ,H a=some (.ext φ))\/∃aa,H a=some (.dK aa):=(RepO.wk h).al
theorem Sl.ok.some{K:Frag}{H:Hp}{x:Sl}(h:x.ok K H){a:Addr}(ha:a∈x.as):H a≠none:=λz=>by
 rcases h.al a ha with⟨xs,e⟩|⟨xs,e⟩|⟨xs,e⟩<;>(rw[z]at e;cases e)
structure World (K:Frag)(H:Hp)(L:Ls):Prop where
 ok:∀x,some x∈L->x.ok K H
 nd:(j6 L).Nodup
 ds:∀a∈j6 L,a∉jz L
structure Step (H:Hp)(L:Ls)(H':Hp)(L':Ls):Prop where
 keep:∀a ob,H a=some ob->a∉j6 L->H' a=some ob
 own:∀a∈j6 L',a∈j6 L\/H a=none
 frz:∀a∈jz L',a∈jz L\/a∈j6 L\/H a=none
section
variable {K:Frag}{H H1 H2 H':Hp}{L L1 L2' L' T:Ls}{x y:Sl}
theorem World.own_al(w:World K H L){a:Addr}(h:a∈j6 L):(∃xs,H a=some (.lst xs))\/(∃ φ,H a=some (.ext φ))\/∃aa,H a=some (.dK aa):=by
 obtain⟨x,hx,ha⟩:=mem_owned.mp h;exact(w.ok x hx).al a (Sl.own_as ha)
theorem World.own_some(w:World K H L){a:Addr}(h:a∈j6 L):H a≠none:=by
 obtain⟨x,hx,ha⟩:=mem_owned.mp h;exact(w.ok x hx).some (Sl.own_as ha)
theorem World.frz_some(w:World K H L){a:Addr}(h:a∈jz L):H a≠none:=by
 obtain⟨x,hx,ha⟩:=mem_frozen.mp h;exact(w.ok x hx).some (Sl.frz_as ha)
theorem Step.refl:Step H L H L:=⟨λ_ _ h _=>h,λ_ h=>.inl h,λ_ h=>.inl h⟩
theorem Step.trans(a:Step H L H1 L1)(b:Step H1 L1 H2 L2'):Step H L H2 L2' where
 keep:=λc ob h hn=>b.keep c ob (a.keep c ob h hn) λz=>(a.own c z).elim hn λe=>by rw[h]at e;cases e
 own:=λc hc=>by
  rcases b.own c hc with z|z
  ·exact a.own c z
  ·by_cases h:c∈j6 L
   ·exact .inl h
   ·refine .inr ?_;cases e:H c with|none=>rfl|some ob=>rw[a.keep c ob e h]at z;cases z
 frz:=λc hc=>by
  rcases b.frz c hc with z|z|z
  ·exact a.frz c z
  ·exact .inr (a.own c z)
  ·by_cases h:c∈j6 L
   ·exact .inr (.inl h)
   ·refine .inr (.inr ?_);cases e:H c with|none=>rfl|some ob=>rw[a.keep c ob e h]at z;cases z
theorem Step.kp(a:Step H L H' L')(w:World K H L){as:List Addr}(h:∀b∈as,b∉j6 L):Kp H H' as:=by
 have no:∀b ob,H b=some ob->(∀xs,ob≠.lst xs)->(∀ φ,ob≠.ext φ)->(∀aa,ob≠.dK aa)->H' b=some ob:=λb ob e h1 h2 h3=>a.keep b ob e λz=>by
  rcases w.own_al z with⟨xs,q⟩|⟨es,q⟩|⟨es,q⟩
  ·rw[e]at q;cases q;exact h1 _ rfl
  ·rw[e]at q;cases q;exact h2 _ rfl
  ·rw[e]at q;cases q;exact h3 _ rfl
 exact⟨λb xs e=>no b _ e (λ_ z=>(nomatch z)) (λ_ z=>(nomatch z)) (λ_ z=>(nomatch z)),λb o u e=>no b _ e (λ_ z=>(nomatch z)) (λ_ z=>(nomatch z)) (λ_ z=>(nomatch z)),λb hb ob e=>a.keep b ob e (h b hb)⟩
theorem Step.frame(a:Step H L H' L')(w:World K H (L++T))(w':World K H' L')(wL:World K H L):World K H' (L'++T):=by
 have nd:=w.nd;rw [jx,Xk]at nd;have dis:∀b∈j6 L,b∉j6 T:=λb hb hT=>nd.2.2 b hb b hT rfl
 have okT:∀x,some x∈T->x.ok K H:=λx hx=>w.ok x (lr9 _ hx)
 have nT:∀x,some x∈T->∀b∈x.as,b∉j6 L:=λx hx b hb hL=>by
  rcases Sl.as_of hb with z|z
  ·exact dis b hL (mem_owned.mpr ⟨x,hx,z⟩)
  ·refine w.ds b (by rw[jx];exact ll9 _ hL) ?_;rw[k6];exact lr9 _ (mem_frozen.mpr ⟨x,hx,z⟩)
 refine⟨λx hx=>?_,?_,λb hb=>?_⟩
 ·rcases aA hx with hx|hx
  ·exact w'.ok x hx
  ·exact(okT x hx).kp (a.kp wL (nT x hx))
 ·rw[jx,Xk];refine⟨w'.nd,nd.2.1,λb hb c hc e=>?_⟩;subst e;obtain⟨x,hx,dv⟩:=mem_owned.mp hc;rcases a.own b hb with z|z
  ·exact dis b z hc
  ·exact(okT x hx).some (Sl.own_as dv) z
 ·rw[jx]at hb;rw[k6];intro hf;rcases aA hb with hb|hb
  ·rcases aA hf with hf|hf
   ·exact w'.ds b hb hf
   ·obtain⟨x,hx,dv⟩:=mem_frozen.mp hf;rcases a.own b hb with z|z
    ·exact nT x hx b (Sl.frz_as dv) z
    ·exact(okT x hx).some (Sl.frz_as dv) z
  ·rcases aA hf with hf|hf
   ·obtain⟨x,hx,dv⟩:=mem_owned.mp hb;rcases a.frz b hf with z|z|z
    ·exact w.ds b (by rw[jx];exact lr9 _ hb) (by rw[k6];exact ll9 _ z)
    ·exact dis b z hb
    ·exact(okT x hx).some (Sl.own_as dv) z
   ·exact w.ds b (by rw[jx];exact lr9 _ hb) (by rw[k6];exact lr9 _ hf)
theorem World.left(w:World K H (L++T)):World K H L:=by
 have nd:=w.nd;rw[jx,Xk]at nd;exact⟨λx hx=>w.ok x (ll9 _ hx),nd.1,λa ha hf=>w.ds a (by rw[jx];exact ll9 _ ha) (by rw[k6];exact ll9 _ hf)⟩
theorem World.right(w:World K H (L++T)):World K H T:=by
 have nd:=w.nd;rw[jx,Xk]at nd;exact⟨λx hx=>w.ok x (lr9 _ hx),nd.2.1,λa ha hf=>w.ds a (by rw[jx];exact lr9 _ ha) (by rw[k6];exact lr9 _ hf)⟩
theorem World.comm(w:World K H (L++T)):World K H (T++L):=by
 refine⟨λx hx=>w.ok x ?_,?_,λa ha hf=>w.ds a ?_ ?_⟩
 ·rcases aA hx with h|h
  ·exact lr9 _ h
  ·exact ll9 _ h
 ·have nd:=w.nd;rw[jx,Xk]at nd ⊢;exact⟨nd.2.1,nd.1,λa ha b hb e=>nd.2.2 b hb a ha e.symm⟩
 ·rw[jx]at ha ⊢;rcases aA ha with h|h
  ·exact lr9 _ h
  ·exact ll9 _ h
 ·rw[k6]at hf ⊢;rcases aA hf with h|h
  ·exact lr9 _ h
  ·exact ll9 _ h
theorem World.tail{q:Option Sl}(w:World K H (q::L)):World K H L:=World.right (L:=[q]) w
theorem World.head(w:World K H (some x::L)):x.ok K H:=w.ok x X6
theorem World.apart(w:World K H (some x::L)):∀a∈x.as,a∉j6 L:=λa ha hL=>by
 rcases Sl.as_of ha with z|z
 ·have nd:=w.nd;rw[jZ,Xk]at nd;exact nd.2.2 a z a hL rfl
 ·exact w.ds a (by rw[jZ];exact lr9 _ hL) (by rw[qk];exact ll9 _ z)
theorem World.cons(w:World K H L)(h:x.ok K H)(n:x.own.Nodup)(h1:∀a∈x.own,a∉j6 L)(h2:∀a∈x.own,a∉jz L)(h3:∀a∈x.frz,a∉j6 L)(h4:∀a∈x.own,a∉x.frz):World K H (some x::L):=by
 refine⟨λy hy=>?_,?_,λa ha hf=>?_⟩
 ·rcases aD hy with z|z
  ·cases z;exact h
  ·exact w.ok y z
 ·rw[jZ,Xk];exact⟨n,w.nd,λa ha b hb e=>by subst e;exact h1 a ha hb⟩
 ·rw[jZ]at ha;rw[qk]at hf;rcases aA ha with ha|ha
  ·rcases aA hf with hf|hf
   ·exact h4 a ha hf
   ·exact h2 a ha hf
  ·rcases aA hf with hf|hf
   ·exact h3 a hf ha
   ·exact w.ds a ha hf
theorem World.consNo(w:World K H L)(h:x.ok K H)(ho:x.o=.no)(h3:∀a∈x.as,a∉j6 L):World K H (some x::L):=by
 have e1:x.own=[]:=by unfold Sl.own;rw[ho]
 have e2:x.frz=x.as:=by unfold Sl.frz;rw[ho]
 exact w.cons h (by rw[e1];exact Y4) (by rw[e1];exact λ_ z=>nomatch z) (by rw[e1];exact λ_ z=>nomatch z) (by rw[e2];exact h3) (by rw[e1];exact λ_ z=>nomatch z)
theorem World.consPu(w:World K H L)(h:x.ok K H)(e:x.as=[]):World K H (some x::L):=by
 have e1:∀a,a∉x.own:=λa ha=>by have:=Sl.own_as ha;rw[e]at this;exact nomatch this
 have e2:∀a,a∉x.frz:=λa ha=>by have:=Sl.frz_as ha;rw[e]at this;exact nomatch this
 have e3:x.own=[]:=List.eq_nil_iff_forall_not_mem.mpr e1;exact w.cons h (by rw[e3];exact Y4) (λa z=>absurd z (e1 a)) (λa z=>absurd z (e1 a)) (λa z=>absurd z (e2 a)) (λa z=>absurd z (e1 a))
theorem jqa{L:Ls}{i:Nat}{q:Option Sl}(h:some y∈L.set i q):q=some y\/some y∈L:=by
 rcases List.mem_or_eq_of_mem_set h with z|z
 ·exact .inr z
 ·exact .inl z.symm
theorem VV{i:Nat}{a:Addr}(h:a∈j6 (L.set i (some x))):a∈x.own\/a∈j6 L:=by
 obtain⟨y,hy,ha⟩:=mem_owned.mp h;rcases jqa hy with z|z
 ·cases z;exact .inl ha
 ·exact .inr (mem_owned.mpr ⟨y,z,ha⟩)
theorem Wq{i:Nat}{a:Addr}(h:a∈jz (L.set i (some x))):a∈x.frz\/a∈jz L:=by
 obtain⟨y,hy,ha⟩:=mem_frozen.mp h;rcases jqa hy with z|z
 ·cases z;exact .inl ha
 ·exact .inr (mem_frozen.mpr ⟨y,z,ha⟩)
theorem jq3:∀{L:Ls} {i:Nat},(x.own++j6 L).Nodup->(j6 (L.set i (some x))).Nodup
 |[],_,h=>by simp
 |q::L,0,h=>by
  rw[List.set_cons_zero,jZ];have e:j6 (q::L)=q.elim [] Sl.own++j6 L:=by simp[j6]
  rw[e,Xk]at h;obtain⟨h1,h2,h3⟩:=h;rw[Xk]at h2 ⊢;exact⟨h1,h2.2.1,λa ha b hb=>h3 a ha b (lr9 _ hb)⟩
 |q::L,i+1,h=>by
  rw[List.set_cons_succ];have e:∀M:Ls,j6 (q::M)=q.elim [] Sl.own++j6 M:=λM=>by simp[j6]
  rw[e]at h ⊢;rw[Xk]at h;obtain⟨h1,h2,h3⟩:=h;rw[Xk]at h2;rw[Xk];refine⟨h2.1,jq3 (by rw[Xk];exact⟨h1,h2.2.1,λa ha b hb=>h3 a ha b (lr9 _ hb)⟩),λa ha b hb e=>?_⟩;subst e;rcases VV hb with z|z
  ·exact h3 a z a (ll9 _ ha) rfl
  ·exact h2.2.2 a ha a z rfl
theorem World.set{i:Nat}(w:World K H (some x::L)):World K H (L.set i (some x)):=by
 refine⟨λy hy=>?_,jq3 (by have:=w.nd;rwa [jZ]at this),λa ha hf=>?_⟩
 ·rcases jqa hy with z|z
  ·cases z;exact w.head
  ·exact w.ok y (lc9 _ z)
 ·refine w.ds a ?_ ?_
  ·rw[jZ];exact List.mem_append.mpr (VV ha)
  ·rw[qk];exact List.mem_append.mpr (Wq hf)
theorem Step.set{i:Nat}:Step H (some x::L) H (L.set i (some x)) where
 keep:=λ_ _ h _=>h
 own:=λa ha=>.inl (by rw[jZ];exact List.mem_append.mpr (VV ha))
 frz:=λa ha=>.inl (by rw[qk];exact List.mem_append.mpr (Wq ha))
theorem Step.drop{q:Option Sl}:Step H (q::L) H L where
 keep:=λ_ _ h _=>h
 own:=λa ha=>.inl (by rw[show(q::L:Ls)=[q]++L from rfl,jx];exact lr9 _ ha)
 frz:=λa ha=>.inl (by rw[show(q::L:Ls)=[q]++L from rfl,k6];exact lr9 _ ha)
theorem vZ{i:Nat}(h:L[i]?=some (some x)):some x∈L:=Xz h
theorem KQ(x:Sl):x.let.own=[]/\x.let.frz=x.as/\x.let.as=x.as:=⟨rfl,rfl,rfl⟩
theorem kqa{i:Nat}{a:Addr}(h:a∈j6 (L.set i (some x.let))):a∈j6 L:=by
 rcases VV h with z|z
 ·exact nomatch z
 ·exact z
theorem kw9:∀{L:Ls} {i:Nat},(j6 L).Nodup->(∀a∈j6 L,a∉jz L)->L[i]?=some (some x)->∀a∈x.as,a∉j6 (L.set i (some x.let))
 | [],_,_,_,h,_,_=>by simp at h
 | q::L,0,nd,ds,h,a,ha=>by
  have e:q=some x:=by simpa using h
  subst e;rw[List.set_cons_zero,jZ];intro hm;have hm:a∈j6 L:=by simpa [KQ]using hm
  rcases Sl.as_of ha with z|z
  ·rw[jZ,Xk]at nd;exact nd.2.2 a z a hm rfl
  ·exact ds a (by rw[jZ];exact lr9 _ hm) (by rw[qk];exact ll9 _ z)
 | q::L,i+1,nd,ds,h,a,ha=>by
  have h:L[i]?=some (some x):=by simpa using h
  rw[List.set_cons_succ];have e:∀M:Ls,j6 (q::M)=q.elim [] Sl.own++j6 M:=λM=>by simp[j6]
  have f:jz (q::L)=q.elim [] Sl.frz++jz L:=by simp[jz]
  rw[e];intro hm;rw[e,Xk]at nd;rcases aA hm with hm|hm
  ·rcases Sl.as_of ha with z|z
   ·exact nd.2.2 a hm a (mem_owned.mpr ⟨x,vZ h,z⟩) rfl
   ·exact ds a (by rw[e];exact ll9 _ hm) (by rw[f];exact lr9 _ (mem_frozen.mpr ⟨x,vZ h,z⟩))
  ·exact kw9 (L:=L) nd.2.1 (λb hb hf=>ds b (by rw[e];exact lr9 _ hb) (by rw[f];exact lr9 _ hf)) h a ha hm
def Vq(h:x.ok K H):x.let.ok K H:=RepO.wk h
theorem World.let{i:Nat}(w:World K H L)(h:L[i]?=some (some x)):World K H (L.set i (some x.let)):=by
 have out:=kw9 w.nd w.ds h;refine⟨λy hy=>?_,jq3 (by rw[(KQ x).1];exact w.nd),λa ha hf=>?_⟩
 ·rcases jqa hy with z|z
  ·cases z;exact Vq (w.ok x (vZ h))
  ·exact w.ok y z
 ·rcases Wq hf with z|z
  ·exact out a z ha
  ·exact w.ds a (kqa ha) z
theorem World.read{i:Nat}(w:World K H L)(h:L[i]?=some (some x)):World K H (some x.let::L.set i (some x.let)):=
 (w.let h).consNo (Vq (w.ok x (vZ h))) rfl (kw9 (x:=x) w.nd w.ds h)
theorem Step.read{i:Nat}(h:L[i]?=some (some x)):Step H L H (some x.let::L.set i (some x.let)) where
 keep:=λ_ _ h _=>h
 own:=λa ha=>.inl (by rw[jZ,(KQ x).1]at ha;exact kqa ha)
 frz:=λa ha=>by
  have hx:=vZ h;have q:∀a∈x.as,a∈jz L\/a∈j6 L\/H a=none:=λa ha=>by
   rcases Sl.as_of ha with z|z
   ·exact .inr (.inl (mem_owned.mpr ⟨x,hx,z⟩))
   ·exact .inl (mem_frozen.mpr ⟨x,hx,z⟩)
  rw[qk]at ha;rcases aA ha with z|z
  ·exact q a z
  ·rcases Wq z with z|z
   ·exact q a z
   ·exact .inl z
end
inductive Mt:En->L2.St->Ls->Prop
 |nil:Mt [] [] []
 |un {E:En} {σ:L2.St} {L:Ls} {y:Option V}:Mt E σ L->Mt (none::E) (y :: σ) (none::L)
 |cons {E:En} {σ:L2.St} {L:Ls} {x:Sl}:Mt E σ L->Mt (some (x.o,x.d)::E) (some x.v :: σ) (some x::L)
theorem Mt.get:∀{E:En} {σ:L2.St} {L:Ls} {i:Nat} {o:Own} {d:D},Mt E σ L->E[i]?=some (some (o,d))->∃x,L[i]?=some (some x)/\x.o=o/\x.d=d/\σ[i]?=some (some x.v)
 |_,_,_,_,_,_,.nil,h=>by simp at h|_,_,_,0,_,_,.un _,h=>by simp at h|_,_,_,i+1,_,_,.un m,h=>by simpa using m.get (i:=i) (by simpa using h)
 |_,_,_,0,_,_,.cons (x:=x) m,h=>by
  simp only[List.getElem?_cons_zero,Option.some.injEq,Prod.mk.injEq]at h;exact⟨x,by simp,h.1,h.2,by simp⟩
 |_,_,_,i+1,_,_,.cons m,h=>by simpa using m.get (i:=i) (by simpa using h)
theorem Mt.set{x:Sl}:∀{E:En} {σ:L2.St} {L:Ls} (i:Nat),Mt E σ L->Mt (E.set i (some (x.o,x.d))) (σ.set i (some x.v)) (L.set i (some x))
 |_,_,_,_,.nil=>.nil|_,_,_,0,.un m=>.cons m|_,_,_,i+1,.un m=>.un (m.set i)|_,_,_,0,.cons m=>.cons m|_,_,_,i+1,.cons m=>.cons (m.set i)
theorem Mt.let{x:Sl}:∀{E:En} {σ:L2.St} {L:Ls} {i:Nat},Mt E σ L->L[i]?=some (some x)->Mt (E.set i (some (.no,x.d))) σ (L.set i (some x.let))
 |_,_,_,_,.nil,h=>by simp at h|_,_,_,0,.un m,h=>by simp at h|_,_,_,i+1,.un m,h=>.un (m.let (i:=i) (by simpa using h))
 |_,_,_,0,.cons (x:=y) m,h=>by
  have e:y=x:=by simpa using h
  subst e;exact .cons (x:=y.let) m
 |_,_,_,i+1,.cons m,h=>.cons (m.let (i:=i) (by simpa using h))
theorem Mt.len:∀{E:En} {σ:L2.St} {L:Ls},Mt E σ L->E.length=σ.length/\L.length=σ.length
 |_,_,_,.nil=>⟨rfl,rfl⟩|_,_,_,.un m=>by simp[m.len]|_,_,_,.cons m=>by simp[m.len]
def sls(L:Ls):List Sl:=L.filterMap id
theorem JJ(L:Ls):j6 L=(sls L).flatMap Sl.own:=by
 induction L with
 |nil=>rfl
 |cons q L ih=>
  cases q with|none=>rw[kzu,ih];rfl|some x=>rw[jZ,ih];rfl
theorem K5(L:Ls):jz L=(sls L).flatMap Sl.frz:=by
 induction L with
 |nil=>rfl
 |cons q L ih=>
  cases q with|none=>rw[kwd,ih];rfl|some x=>rw[qk,ih];rfl
theorem mem_sls{L:Ls}{x:Sl}:x∈sls L↔some x∈L:=by simp[sls]
@[simp] theorem Kq (L T:Ls):sls (L++T)=sls L++sls T:=by simp[sls]
@[simp] theorem qxf (L:Ls):sls (none::L)=sls L:=rfl
@[simp] theorem kx3 (x:Sl)(L:Ls):sls (some x::L)=x::sls L:=rfl
@[simp] theorem wv8:sls []=[]:=rfl
@[simp] theorem wv9 (T:List Sl):sls (T.map some)=T:=by simp[sls]
@[simp] theorem vkp (k:Nat):sls (List.replicate k none)=[]:=by
 induction k with|zero=>rfl|succ k ih=>rw[List.replicate_succ,qxf,ih]
theorem W1{α β:Type}(f:α->List β){l l':List α}(h:l.Sublist l'):(l.flatMap f).Sublist (l'.flatMap f):=by
 induction h with|slnil=>exact Zg _|cons a _ ih=>rw[Yw];exact List.Sublist.trans ih (List.sublist_append_right _ _)|cons_cons a _ ih=>rw[Yw,Yw];exact List.Sublist.append (Zg _) ih
section
variable {K:Frag}{H H':Hp}{L L' M M':Ls}
theorem World.same(w:World K H L)(p:(sls L).Perm (sls L')):World K H L':=by
 have po:(j6 L).Perm (j6 L'):=by rw[JJ,JJ];exact p.flatMap_right _
 have pf:(jz L).Perm (jz L'):=by rw[K5,K5];exact p.flatMap_right _
 exact⟨λx hx=>w.ok x (mem_sls.mp (p.mem_iff.mpr (mem_sls.mpr hx))),po.nodup_iff.mp w.nd,λa ha hf=>w.ds a (po.mem_iff.mpr ha) (pf.mem_iff.mpr hf)⟩
theorem Step.same(s:Step H L H' L')(p:(sls L).Perm (sls M))(p':(sls L').Perm (sls M')):Step H M H' M':=by
 have po:(j6 L).Perm (j6 M):=by rw[JJ,JJ];exact p.flatMap_right _
 have pf:(jz L).Perm (jz M):=by rw[K5,K5];exact p.flatMap_right _
 have po':(j6 L').Perm (j6 M'):=by rw[JJ,JJ];exact p'.flatMap_right _
 have pf':(jz L').Perm (jz M'):=by rw[K5,K5];exact p'.flatMap_right _
 exact⟨λa ob h hn=>s.keep a ob h λz=>hn (po.mem_iff.mp z),λa ha=>(s.own a (po'.mem_iff.mpr ha)).imp (λz=>po.mem_iff.mp z) id,
  λa ha=>(s.frz a (pf'.mem_iff.mpr ha)).imp (λz=>pf.mem_iff.mp z) λz=>z.imp (λz=>po.mem_iff.mp z) id⟩
theorem World.sub(w:World K H L)(p:(sls L').Sublist (sls L)):World K H L':=by
 refine⟨λx hx=>w.ok x (mem_sls.mp (p.subset (mem_sls.mpr hx))),?_,λa ha hf=>w.ds a ?_ ?_⟩
 ·have:=w.nd;rw[JJ]at this ⊢;exact(W1 _ p).nodup this
 ·rw[JJ]at ha ⊢;exact(W1 _ p).subset ha
 ·rw[K5]at hf ⊢;exact(W1 _ p).subset hf
theorem Step.sub(s:Step H L H' L')(p:(sls M).Sublist (sls L')):Step H L H' M:=by
 refine⟨s.keep,λa ha=>s.own a ?_,λa ha=>s.frz a ?_⟩
 ·rw[JJ]at ha ⊢;exact(W1 _ p).subset ha
 ·rw[K5]at ha ⊢;exact(W1 _ p).subset ha
end
theorem jw5:∀{L:Ls} {j:Nat},(sls (at' L j::L.set j none)).Perm (sls L)
 | [],j=>by simp[at',sls]
 | q::L,0=>by
  cases q with|none=>simp[at',sls]|some x=>simp[at',sls]
 | q::L,j+1=>by
  have ih:=jw5 (L:=L) (j:=j);have e:at' (q::L) (j+1)=at' L j:=by simp[at']
  rw[e,List.set_cons_succ];have e2:∀(a b:Option Sl) (M:Ls),(sls (a::b::M)).Perm (sls (b::a::M)):=λa b M=>by
   cases a<;>cases b<;>simp[sls]
   exact List.Perm.swap ..
  refine(e2 _ _ _).trans ?_;cases q with|none=>simpa [sls]using ih|some y=>simpa [sls]using ih
theorem kz8:∀{R:List Nat} {L:Ls},R.Nodup->(sls (R.map (at' L)++clr R L)).Perm (sls L)
 | [],L,_=>by simp[clr]
 | j::R,L,h=>by
  rw[List.nodup_cons]at h;have e:R.map (at' L)=R.map (at' (L.set j none)):=by
   apply Yl;intro i hi;have:j≠i:=λe=>h.1 (e▸hi)
   unfold at';rw[Yq this]
  rw[List.map_cons,List.cons_append,clr,e];have ih:=kz8 (R:=R) (L:=L.set j none) h.2;refine List.Perm.trans ?_ (jw5 (L:=L) (j:=j));cases hq:at' L j with|none=>simpa [sls]using ih|some x=>simpa [sls]using ih
theorem qw8{α:Type}:∀{R:List Nat} {L:List (Option α)},(clr R L).length=L.length
 |[],_=>rfl|j::R,L=>by rw[clr,qw8,Zd]
theorem qw9{α:Type}:∀{R:List Nat} {L:List (Option α)} {j:Nat},j∈R->at' (clr R L) j=none
 | [],_,_,h=>by cases h
 | i :: R,L,j,h=>by
  rw [clr]
  by_cases hR:j∈R
  ·exact qw9 hR
  ·have e:j=i:=by simpa [hR]using h
   subst e;have gen:∀{R:List Nat} {M:List (Option α)},j∉R->at' (clr R M) j=at' M j:=by
    intro R
    induction R with
    |nil=>intro M _;rfl
    |cons r R ih=>
     intro M h;rw[Y3,not_or]at h;rw[clr,ih h.2];unfold at';rw[Yq (Ne.symm h.1)]
   rw[gen hR];unfold at'
   by_cases hl:j<L.length
   ·rw[Z7 hl];rfl
   ·rw[List.set_eq_of_length_le ⋯,Ym ⋯];rfl
theorem kvc:∀{R:List Nat} {B L:Ls},R.Nodup->(∀j∈R,at' L j=none)->(∀j∈R,j<L.length)->B.length=R.length->(sls (back R B L)).Perm (sls (B++L))
 | [],B,L,_,_,_,hl=>by
  have:B=[]:=by simpa using hl
  subst this;simp [back]
 | j :: R,[],L,_,_,_,hl=>by simp at hl
 | j :: R,q::B,L,hn,hz,hr,hl=>by
  rw [List.nodup_cons]at hn;rw [back];have hj:=hr j X6;have ih:=kvc (R:=R) (B:=B) (L:=L.set j q) hn.2 (λi hi=>by
   have:j≠i:=λe=>hn.1 (e▸hi)
   unfold at';rw [Yq this];exact hz i (lc9 _ hi)) (λi hi=>by rw[Zd];exact hr i (lc9 _ hi)) (by simpa using hl)
  refine ih.trans ?_;have sp:∀{M:Ls} {i:Nat},at' M i=none->i<M.length->(sls (M.set i q)).Perm (sls (q::M)):=by
   intro M
   induction M with
   | nil=>intro i _ h;simp at h
   | cons r M ihM=>
    intro i h1 h2;cases i with
    | zero=>
     have:r=none:=by simpa [at']using h1
     subst this;cases q<;>simp[sls]
    | succ i=>
     have:=ihM (i:=i) (by simpa [at']using h1) (by simpa using h2);rw[List.set_cons_succ];cases r with
     | none=>cases q<;>simpa [sls]using this
     | some y=>
      cases q with
      |none=>simpa [sls]using this
      |some x=>
       simp only[kx3]at this ⊢;exact(this.cons y).trans (List.Perm.swap ..)
  rw[Kq,List.cons_append];have h1:=sp (hz j X6) hj;have h2:(sls B++sls (L.set j q)).Perm (sls B++sls (q::L)):=h1.append_left _;refine h2.trans ?_;cases q with
  |none=>simp
  |some x=>
   simp only[kx3,Kq];exact List.perm_middle
section
variable {K:Frag}{H H1 H2 H':Hp}{L L1 L' T:Ls}{x y:Sl}
theorem V3(p:L.Perm L'):(j6 L).Perm (j6 L'):=p.flatMap_right _
theorem jvx(p:L.Perm L'):(jz L).Perm (jz L'):=p.flatMap_right _
theorem World.perm(w:World K H L)(p:L.Perm L'):World K H L':=
 ⟨λx hx=>w.ok x (p.mem_iff.mpr hx),(V3 p).nodup_iff.mp w.nd,λa ha hf=>w.ds a ((V3 p).mem_iff.mpr ha) ((jvx p).mem_iff.mpr hf)⟩
theorem Step.perm(s : Step H L H' L'){M M' : Ls}(p : L.Perm M)(p' : L'.Perm M'): Step H M H' M':=
  ⟨λa ob h hn=>s.keep a ob h λz=>hn ((V3 p).mem_iff.mp z),
   λa ha=>(s.own a ((V3 p').mem_iff.mpr ha)).imp (λz=>(V3 p).mem_iff.mp z) id,
   λa ha=>(s.frz a ((jvx p').mem_iff.mpr ha)).imp (λz=>(jvx p).mem_iff.mp z) λz=>z.imp (λz=>(V3 p).mem_iff.mp z) id⟩
theorem Step.frm(s:Step H L H' L'):Step H (L++T) H' (L'++T) where
 keep:=λa ob h hn=>s.keep a ob h λz=>hn (by rw[jx];exact ll9 _ z)
 own:=λa ha=>by
  rw[jx]at ha ⊢;rcases aA ha with z|z
  ·exact(s.own a z).imp (ll9 _) id
  ·exact .inl (lr9 _ z)
 frz:=λa ha=>by
  rw[k6]at ha ⊢;rw[jx];rcases aA ha with z|z
  ·exact(s.frz a z).imp (ll9 _) λz=>z.imp (ll9 _) id
  ·exact .inl (lr9 _ z)
theorem wwi(w:World K H (T++L))(s:Step H L H' L')(w':World K H' L'):World K H' (T++L')/\Step H (T++L) H' (T++L'):=by
 have w1:World K H (L++T):=w.comm;exact⟨(s.frame w1 w' w1.left).comm,s.frm.perm List.perm_append_comm List.perm_append_comm⟩
end
theorem ex8{α β γ:Type}{P:Prop}{a b c d e:α->β->γ->Prop}(h:∃x y z,a x y z/\b x y z/\c x y z/\d x y z/\e x y z)(f:∀x y z,a x y z->b x y z->c x y z->d x y z->e x y z->P):P:=
 h.elim λx h=>h.elim λy h=>h.elim λz h=>f x y z h.1 h.2.1 h.2.2.1 h.2.2.2.1 h.2.2.2.2
theorem ex7{α β γ:Type}{P:Prop}{a b c d:α->β->γ->Prop}(h:∃x y z,a x y z/\b x y z/\c x y z/\d x y z)(f:∀x y z,a x y z->b x y z->c x y z->d x y z->P):P:=
 h.elim λx h=>h.elim λy h=>h.elim λz h=>f x y z h.1 h.2.1 h.2.2.1 h.2.2.2
theorem kz{X:Cx}{e:Expr}{t t':TE}(h:PE X e t)(w:∀ σ H Q,t' σ H Q->t σ H Q):PE X e t':=λpins s σ H Q I q=>h pins s σ H Q I (w σ H Q q)
theorem qq0{X:Cx}{e:Expr}{t t':TT}(h:PT X e t)(w:∀ σ H Q,t' σ H Q->t σ H Q):PT X e t':=λpins s σ H Q I q=>h pins s σ H Q I (w σ H Q q)
theorem zK{X:Cx}{e:Stmt}{t t':TS}(h:PS X e t)(w:∀D σ H,t' D σ H->t D σ H):PS X e t':=λpins s σ H D I q=>h pins s σ H D I (w D σ H q)
theorem qq1{X:Cx}{e:List Stmt}{t t':TS}(h:PSs X e t)(w:∀D σ H,t' D σ H->t D σ H):PSs X e t':=λpins s σ H D I q=>h pins s σ H D I (w D σ H q)
structure Fx0 where
 K:Frag
 mg:Str->Option Value
 EX:XK
def Xc{α:Type}(Z:Fx0)(σ:L2.St)(H:Hp)(L:Ls)(r:Res α):Prop:=∀E' c,r=.exc E' c->∀C L' H',Z.mg c=some (.ref C)->Mt E' σ L'->World Z.K H' L'->Step H L H' L'->Z.EX (.ref C) none H'
theorem Xc.step{α:Type}{Z:Fx0}{σ:L2.St}{H H1:Hp}{L L1:Ls}{r:Res α}(x:Xc Z σ H L r)(s:Step H L H1 L1):Xc Z σ H1 L1 r:=λE' c e C L' H' hm m w s'=>x E' c e C L' H' hm m w (s.trans s')
theorem Xc.map{α β:Type}{Z:Fx0}{σ:L2.St}{H:Hp}{L:Ls}{r:Res α}{E':En}{c:Str}(x:Xc Z σ H L r)(e:r=.exc E' c):Xc Z σ H L (.exc E' c:Res β):=λE1 c1 e1=>by
 injection e1 with h1 h2;subst h1 h2;exact x _ _ e
noncomputable def tQ(Z:Fx0)(q:Bool)(c:Ex):TE:=fun σ H Q=>∃E L r,Mt E σ L/\World Z.K H L/\c E=some r/\Xc Z σ H L r /\
 ∀E' a,r=.ok E' a->∀(x:Sl) L' H',x.o=a.1->x.d=a.2->Mt E' σ L'->World Z.K H' (some x::L')->Step H L H' (some x::L')->(q=true->jJ H H'/\∀b∈x.own,H b=none)->Q x.v H'
def Src(H:Hp)(L:Ls)(as:List Addr):Prop:=∀b∈as,b∈jz L\/b∈j6 L\/H b=none
theorem Src.back{H H1:Hp}{L L1:Ls}{as:List Addr}(h:Src H1 L1 as)(s:Step H L H1 L1):Src H L as:=λb hb=>by
 rcases h b hb with z|z|z
 ·exact s.frz b z
 ·exact .inr (s.own b z)
 ·by_cases ho:b∈j6 L
  ·exact .inr (.inl ho)
  ·refine .inr (.inr ?_);cases e:H b with|none=>rfl|some ob=>rw[s.keep b ob e ho]at z;cases z
noncomputable def tV(Z:Fx0)(q:Bool)(c:Ex):TE:=fun σ H Q=>∃E L r,Mt E σ L/\World Z.K H L/\c E=some r/\Xc Z σ H L r /\
 ∀E' a,r=.ok E' a->∀(x:Sl) L' H',x.o=a.1->x.d=a.2->Mt E' σ L'->World Z.K H' L'->x.ok Z.K H'->(∀b∈x.frz,b∉j6 L')->Src H L x.as->Step H L H' L'->(q=true->jJ H H')->Q x.v H'
def QE(X:Cx)(Z:Fx0)(q:Bool)(c:Ex)(e:Expr):Prop:=PE X e (tQ Z q c)
def QV(X:Cx)(Z:Fx0)(q:Bool)(c:Ex)(e:Expr):Prop:=PE X e (tV Z q c)
section
variable {X:Cx}{Z:Fx0}{q qa qb:Bool}{a b c:Ex}{e ea eb:Expr}{pos:Pos}{α:Type}{σ:L2.St}{H:Hp}{L:Ls}{E:En}
theorem xk{β:Type}{m:Option (Res α)}{F:En->α->Option (Res β)}{r:Res β}(h:bnd m F=some r):(∃E1 x,m=some (.ok E1 x)/\F E1 x=some r)\/∃E1 c,m=some (.exc E1 c)/\r=.exc E1 c:=by
 cases m with
 |none=>cases h
 |some q=>
  cases q with|ok E1 x=>exact .inl ⟨E1,x,rfl,h⟩|exc E1 c=>exact .inr ⟨E1,c,rfl,(oq9 h).symm⟩
theorem qxs{F:En->Sd->Option (Res α)}{r:Res α}{G:VK}(m:Mt E σ L)(w:World Z.K H L)(h:bnd (a E) F=some r)(xc:Xc Z σ H L r)
  (k:∀E1 s,F E1 s=some r->∀(x:Sl) L1 H1,x.o=s.1->x.d=s.2->Mt E1 σ L1->World Z.K H1 (some x::L1)->Step H L H1 (some x::L1)->(q=true->jJ H H1/\∀b∈x.own,H b=none)->G x.v H1):tQ Z q a σ H G:=by
 rcases xk h with⟨E1,s,h1,h2⟩|⟨E1,c,h1,h2⟩
 ·exact⟨E,L,_,m,w,h1,(λ_ _ z=>by cases z),λE' s' z x L' H' e1 e2 m' w' st sm=>by
   injection z with z1 z2;subst z1 z2;exact k _ _ h2 x L' H' e1 e2 m' w' st sm⟩
 ·exact⟨E,L,_,m,w,h1,xc.map h2,λE' s' z=>by cases z⟩
theorem kZ{F:En->Sd->Option (Res α)}{r:Res α}{G:VK}(m:Mt E σ L)(w:World Z.K H L)(h:bnd (a E) F=some r)(xc:Xc Z σ H L r)
  (k:∀E1 s,F E1 s=some r->∀(x:Sl) L1 H1,x.o=s.1->x.d=s.2->Mt E1 σ L1->World Z.K H1 L1->x.ok Z.K H1->(∀b∈x.frz,b∉j6 L1)->Src H L x.as->Step H L H1 L1->(q=true->jJ H H1)->G x.v H1):tV Z q a σ H G:=by
 rcases xk h with⟨E1,s,h1,h2⟩|⟨E1,c,h1,h2⟩
 ·exact⟨E,L,_,m,w,h1,(λ_ _ z=>by cases z),λE' s' z x L' H' e1 e2 m' w' ok fr sr st sm=>by
   injection z with z1 z2;subst z1 z2;exact k _ _ h2 x L' H' e1 e2 m' w' ok fr sr st sm⟩
 ·exact⟨E,L,_,m,w,h1,xc.map h2,λE' s' z=>by cases z⟩
theorem Kk{x:Sl}{K:Frag}{H1 H2:Hp}{L1 L2':Ls}(ok:x.ok K H1)(fr:∀b∈x.frz,b∉j6 L1)(st:Step H1 L1 H2 L2')(sm:jJ H1 H2):x.ok K H2/\∀b∈x.frz,b∉j6 L2':=
 ⟨RepO.kp ok (Kp.of_same sm),λb hb ho=>(st.own b ho).elim (fr b hb) λz=>ok.some (Sl.frz_as hb) z⟩
theorem xK{x:Option α}{r:Res α}(h:val E x=some r):∃y,x=some y/\r=.ok E y:=by
 cases x with|none=>cases h|some y=>exact⟨y,rfl,(oq9 h).symm⟩
theorem kjw{x:Sl}{H1:Hp}{L1:Ls}(st:Step H L H1 (some x::L1)):Src H L x.as:=λb hb=>by
 rcases Sl.as_of hb with z|z
 ·exact .inr (st.own b (by rw[jZ];exact ll9 _ z))
 ·exact st.frz b (by rw[qk];exact ll9 _ z)
theorem j3(h:QE X Z q c e):QV X Z q (vE c) e:=kz h fun σ H Q au=>ex8 au λE L r m w hc xc k=>
 qxs m w hc xc λE1 s h1 x L1 H1 e1 e2 m1 w1 st sm=>by
  cases oq9 h1;exact k _ _ rfl x.let L1 H1 rfl e2 m1 w1.tail (Vq w1.head) (λb hb=>w1.apart b hb) (kjw (x:=x) st) (st.trans Step.drop) λhq=>(sm hq).1
theorem VZ{x:Sl}{H1:Hp}{L1:Ls}(st:Step H L H1 L1)(sr:Src H L x.as)(ho:x.own=[]):Step H L H1 (some x::L1) where
 keep:=st.keep
 own:=λb hb=>by rw[jZ,ho]at hb;exact st.own b hb
 frz:=λb hb=>by
  rw[qk]at hb;rcases aA hb with z|z
  ·exact sr b (Sl.frz_as z)
  ·exact st.frz b z
theorem qqc{x:Sl}(h:x.o=.no):x.own=[]:=by unfold Sl.own;rw[h]
theorem WV{x:Sl}(h:x.o=.no):x.frz=x.as:=by unfold Sl.frz;rw[h]
theorem vqp{x:Sl}(h:x.as=[]):x.own=[]:=List.eq_nil_iff_forall_not_mem.mpr λa ha=>by have:=Sl.own_as ha;rw[h]at this;exact nomatch this
theorem J4(h:QV X Z q c e):QE X Z q (cH c) e:=kz h fun σ H Q au=>ex8 au λE L r m w hc xc k=>
 kZ m w hc xc λE1 s h1 x L1 H1 e1 e2 m1 w1 ok fr sr st sm=>by
  by_cases ho:s.1=.no
  ·rw[X7 ho]at h1;cases oq9 h1;have eo:x.o=.no:=e1.trans ho;exact k _ _ rfl x L1 H1 eo e2 m1 (w1.consNo ok eo λb hb=>fr b (by rw[WV eo];exact hb)) (VZ st sr (qqc eo)) λhq=>⟨sm hq,by rw[qqc eo];exact λ_ z=>(nomatch z)⟩
  ·rw[X9 ho]at h1
   by_cases hp:s.2.pure=true
   ·rw[X7 hp]at h1;cases oq9 h1;obtain⟨z,rp⟩:=RepL.pu (g':=false) (RepO.wk ok) (by rw[e2];exact hp);exact k _ _ rfl ⟨.dp,x.d,x.v,[]⟩ L1 H1 rfl e2 m1 (w1.consPu rp rfl) (VZ (x:=⟨.dp,x.d,x.v,[]⟩) st (λb hb=>nomatch hb) rfl) λhq=>⟨sm hq,λ_ z=>(nomatch z)⟩
   ·rw[X9 hp]at h1;cases h1
theorem q_C{d:D}{v:V}(h:PE X e (tC v))(hr:∀H,RepL Z.K H false d v []):QE X Z true (cC d) e:=kz h fun σ H Q au=>ex8 au λE L r m w hc xc k=>by
 cases oq9 hc;exact k _ _ rfl ⟨.dp,d,v,[]⟩ L H rfl rfl m (w.consPu (hr H) rfl) (VZ (x:=⟨.dp,d,v,[]⟩) Step.refl (λb hb=>nomatch hb) rfl) λ_=>⟨λ_ _ z=>z,λ_ z=>(nomatch z)⟩
theorem q_V{i:Nat}(h:PE X e (Jx i)):QE X Z true (cV i) e:=kz h fun σ H Q au=>ex8 au λE L r m w hc xc k=>by
 unfold cV at hc
 split at hc
 ·rename_i o d hE;cases oq9 hc;obtain⟨x,h1,h2,h3,h4⟩:=m.get hE;refine⟨x.v,h4,k _ _ rfl x.let _ H rfl h3 ?_ (w.read h1) (Step.read h1) λ_=>⟨λ_ _ z=>z,λ_ z=>(nomatch z)⟩⟩;have:=m.let h1
  rwa [h3]at this
 ·cases hc
theorem vv0:∀{E:En} {σ:L2.St} {L:Ls} (j:Nat),Mt E σ L->Mt (E.set j none) σ (L.set j none):=by
 intro E σ L j m
 induction m generalizing j with
 |nil=>exact .nil
 |un m ih=>cases j with|zero=>exact .un m|succ j=>exact .un (ih j)
 |cons m ih=>cases j with|zero=>exact .un m|succ j=>exact .cons (ih j)
theorem jz3{x:Sl}:∀{L:Ls} {i:Nat},L[i]?=some (some x)->(none::L).Perm (some x::L.set i none)
 |[],_,h=>by simp at h
 |q::L,0,h=>by
  have e:q=some x:=by simpa using h
  subst e;exact List.Perm.swap ..
 |q::L,i+1,h=>by
  have:=jz3 (L:=L) (i:=i) (by simpa using h);rw[List.set_cons_succ];exact(List.Perm.swap ..).trans ((this.cons q).trans (List.Perm.swap ..))
theorem Q6{i:Nat}(h:PE X e (Jx i)):QE X Z false (cMv i) e:=kz h fun σ H Q au=>ex8 au λE L r m w hc xc k=>by
 unfold cMv at hc
 split at hc
 ·rename_i s hE;cases oq9 hc;obtain⟨o,d⟩:=s;obtain⟨x,h1,h2,h3,h4⟩:=m.get hE;have wn:World Z.K H (none::L):=⟨λy hy=>w.ok y (by simpa using hy),by simpa using w.nd,by simpa using w.ds⟩;have sn:Step H L H (none::L):=⟨λ_ _ z _=>z,λa z=>.inl (by simpa using z),λa z=>.inl (by simpa using z)⟩;exact⟨x.v,h4,k _ _ rfl x _ H h2 h3 (vv0 i m) (wn.perm (jz3 h1)) (sn.trans (Step.refl.perm (List.Perm.refl _) (jz3 h1))) λz=>(nomatch z)⟩
 ·cases hc
theorem q_vV{i:Nat}(h:PE X e (Jx i)):QV X Z true (vV i) e:=kz h fun σ H Q au=>ex8 au λE L r m w hc xc k=>by
 unfold vV at hc
 split at hc
 ·rename_i s hE;cases oq9 hc;obtain⟨o,d⟩:=s;obtain⟨x,h1,h2,h3,h4⟩:=m.get hE;have hx:=vZ h1;refine⟨x.v,h4,k _ _ rfl x L H h2 h3 m w (w.ok x hx) (λb hb ho=>w.ds b ho (mem_frozen.mpr ⟨x,hx,hb⟩)) (λb hb=>?_) Step.refl λ_=>λ_ _ z=>z⟩;rcases Sl.as_of hb with z|z
  ·exact .inr (.inl (mem_owned.mpr ⟨x,hx,z⟩))
  ·exact .inl (mem_frozen.mpr ⟨x,hx,z⟩)
 ·cases hc
structure Out (K:Frag)(H H':Hp)(z:Sl)(fr:List Addr):Prop where
 same:jJ H H'
 ok:z.ok K H'
 new:∀b∈z.own,H b=none
 nd:z.own.Nodup
 fr:∀b∈z.frz,b∈fr
def Ad1(K:Frag)(r:V->Hp->VK->Prop)(f:Sd->Option Sd):Prop:=∀(H:Hp) (x:Sl) (s:Sd) (Q:VK),x.ok K H->f (x.o,x.d)=some s->(∀(z:Sl) H',z.o=s.1->z.d=s.2->Out K H H' z x.frz->Q z.v H')->r x.v H Q
def Ad2(K:Frag)(r:R2)(f:Sd->Sd->Option Sd):Prop:=∀(H:Hp) (x y:Sl) (s:Sd) (Q:VK),x.ok K H->y.ok K H->f (x.o,x.d) (y.o,y.d)=some s->(∀(z:Sl) H',z.o=s.1->z.d=s.2->Out K H H' z (x.frz++y.frz)->Q z.v H')->r x.v y.v H Q
theorem jxo{K:Frag}{H H':Hp}{d:D}{v:V}{fr:List Addr}(s:jJ H H')(r:RepL K H' false d v []):Out K H H' ⟨.dp,d,v,[]⟩ fr:=⟨s,r,λ_ h=>(nomatch h),Y4,λ_ h=>(nomatch h)⟩
theorem wx{H:Hp}:jJ H H:=λ_ _ z=>z
theorem k4{H H1 H2:Hp}(a:jJ H H1)(b:jJ H1 H2):jJ H H2:=λc ob h=>b c ob (a c ob h)
theorem Jk{z:Sl}{fr:List Addr}{H1 H2:Hp}{L1:Ls}(w:World Z.K H1 L1)(st:Step H L H1 L1)(o:Out Z.K H1 H2 z fr)(ap:∀b∈fr,b∉j6 L1)(al:∀b∈fr,H1 b≠none)(sr:Src H L fr):
  World Z.K H2 (some z::L1)/\Step H L H2 (some z::L1):=by
 have w2:World Z.K H2 L1:=⟨λx hx=>RepO.kp (w.ok x hx) (Kp.of_same o.same),w.nd,w.ds⟩;refine⟨w2.cons o.ok o.nd (λb hb ho=>w.own_some ho (o.new b hb)) (λb hb hf=>w.frz_some hf (o.new b hb)) (λb hb=>ap b (o.fr b hb)) (λb hb hf=>al b (o.fr b hf) (o.new b hb)),?_⟩;refine⟨λb ob h hn=>o.same b ob (st.keep b ob h hn),λb hb=>?_,λb hb=>?_⟩
 ·rw[jZ]at hb;rcases aA hb with z|z
  ·by_cases ho:b∈j6 L
   ·exact .inl ho
   ·refine .inr ?_;cases e:H b with|none=>rfl|some ob=>have:=o.new b z;rw[st.keep b ob e ho]at this;cases this
  ·exact st.own b z
 ·rw[qk]at hb;rcases aA hb with z|z
  ·exact sr b (o.fr b z)
  ·exact st.frz b z
theorem Qk{as bs:List Addr}(h:Src H L as)(hb:∀b∈bs,b∈as):Src H L bs:=λb z=>h b (hb b z)
theorem vkn{as bs:List Addr}(h:Src H L as)(h':Src H L bs):Src H L (as++bs):=λb z=>(aA z).elim (h b) (h' b)
theorem zQ{H H1:Hp}{b:Addr}(s:jJ H H1)(h:H1 b=none):H b=none:=by
 cases e:H b with|none=>rfl|some ob=>rw[s b ob e]at h;cases h
theorem K0{r:V->Hp->VK->Prop}{f:Sd->Option Sd}(ad:Ad1 Z.K r f){Q:VK}(h:tQ Z q (cF1 f a) σ H Q):tUn r (tV Z q a) σ H Q:=by
 obtain⟨E,L,R,m,w,hc,xc,k⟩:=h;refine kZ m w hc xc λE1 s h1 x L1 H1 e1 e2 m1 w1 ok fr sr st sm=>?_
 obtain⟨z,hz,rfl⟩:=xK h1;refine ad H1 x z Q ok (by rw[e1,e2];exact hz) λy H' ho hd o=>?_
 obtain⟨w3,cx⟩:=Jk w1 st o fr (λb hb=>ok.some (Sl.frz_as hb)) (Qk sr λb hb=>Sl.frz_as hb);exact k _ _ rfl y L1 H' ho hd m1 w3 cx λhq=>⟨k4 (sm hq) o.same,λb hb=>zQ (sm hq) (o.new b hb)⟩
theorem kkv{r:R2}{f:Sd->Sd->Option Sd}(ad:Ad2 Z.K r f){Q:VK}(h:tQ Z qa (cF2 f a b) σ H Q):tOp r (tV Z qa a) (tV Z true b) σ H Q:=by
 obtain⟨E,L,R,m,w,hc,xc,k⟩:=h;refine kZ m w hc xc λE1 s h1 x L1 H1 e1 e2 m1 w1 ok fr sr st sm=>?_
 refine kZ m1 w1 h1 (xc.step st) λE2 s2 h2 y L2 H2 e3 e4 m2 w2 kg om nv bn fb=>?_
 obtain⟨z,hz,rfl⟩:=xK h2;have kx:=Kk ok fr bn (fb rfl);refine ad H2 x y z Q kx.1 kg (by rw[e1,e2,e3,e4];exact hz) λy' H' ho hd o=>?_
 obtain⟨w3,cx⟩:=Jk w2 (st.trans bn) o (λb hb=>(aA hb).elim (kx.2 b) (om b)) (λb hb=>(aA hb).elim (λz=>kx.1.some (Sl.frz_as z)) λz=>kg.some (Sl.frz_as z))
  (vkn (Qk sr λb hb=>Sl.frz_as hb) (Qk (nv.back st) λb hb=>Sl.frz_as hb))
 exact k _ _ rfl y' L2 H' ho hd m2 w3 cx λhq=>⟨k4 (sm hq) (k4 (fb rfl) o.same),λb hb=>zQ (k4 (sm hq) (fb rfl)) (o.new b hb)⟩
theorem k9{op:Operator}{r:R2}{f:Sd->Sd->Option Sd}(ho:OpR X (binaryOp op) r)(ad:Ad2 Z.K r f)(ha:QV X Z qa a ea)(hb:QV X Z true b eb):QE X Z qa (cF2 f a b) (.BinOp ea op eb pos):=
 kz (wvx ho ha hb) fun σ H Q h=>kkv ad h
theorem WJ{op:CmpOp}{r:R2}{f:Sd->Sd->Option Sd}(ho:OpR X (compareOp op) r)(ad:Ad2 Z.K r f)(ha:QV X Z qa a ea)(hb:QV X Z true b eb)(hm:behindInMarks op eb=false):QE X Z qa (cF2 f a b) (.Compare ea [op] [eb] pos):=
 kz (vql ho ha hb hm) fun σ H Q h=>kkv ad h
theorem wxn{op:UnaryOp}{r:V->Hp->VK->Prop}{f:Sd->Option Sd}(ho:UnR X (unaryOp op) r)(ad:Ad1 Z.K r f)(ha:QV X Z q a ea):QE X Z q (cF1 f a) (.UnaryOp op ea pos):=
 kz (wvw ho ha) fun σ H Q h=>K0 ad h
theorem RepA.get{K:Frag}{H:Hp}{g:Bool}:∀{ds:List D} {xs:List V} {as:List Addr} {i:Nat} {d:D},RepA K H g ds xs as->ds[i]?=some d->∃v bs,xs[i]?=some v/\RepL K H g d v bs/\∀b∈bs,b∈as
 | [],_,_,_,_,_,e=>by simp at e
 | d::ds,_,_,i,d',h,e=>by
  unfold RepA at h;obtain⟨x,r,bs,cs,rfl,rfl,h1,h2⟩:=h;cases i with
  |zero=>
   have e:d=d':=by simpa using e
   subst e;exact⟨x,bs,by simp,h1,λb hb=>ll9 _ hb⟩
  |succ i=>
   obtain⟨v,gz,e1,e2,e3⟩:=RepA.get (i:=i) h2 (by simpa using e);exact⟨v,gz,by simpa using e1,e2,λb hb=>lr9 _ (e3 b hb)⟩
theorem RepA.len{K:Frag}{H:Hp}{g:Bool}:∀{ds:List D} {xs:List V} {as:List Addr},RepA K H g ds xs as->ds.length=xs.length
 |[],_,_,h=>by unfold RepA at h;rw[h.1];rfl
 |d::ds,_,_,h=>by
  unfold RepA at h;obtain⟨x,r,bs,cs,rfl,rfl,h1,h2⟩:=h;simp[RepA.len h2]
theorem items{K:Frag}{H:Hp}{x:Sl}{ds:List D}(ok:x.ok K H)(h:x.d=.lst ds\/x.d=.tup ds):∃a xs bs,x.v=.ref a/\((x.d=.lst ds/\LsR K H a xs)\/(x.d=.tup ds/\SqT K H a xs))/\RepA K H (x.o != .dp) ds xs bs/\(∀b∈bs,b∈x.as)/\(x.o≠.dp->∀b∈bs,b∈x.frz):=by
 obtain⟨o,d,v,as⟩:=x;dsimp only at h;rcases h with rfl|rfl
 ·cases o with
  |no=>
   have ok:RepL K H true (.lst ds) v as:=ok;unfold RepL at ok;obtain⟨a,xs,bs,rfl,r,q⟩:=ok;rcases q with⟨q,rfl⟩|⟨_,q,rfl⟩
   ·exact⟨a,xs,bs,rfl,.inl ⟨rfl,.inl (.inl q)⟩,r,λb hb=>lc9 _ hb,λ_ b hb=>lc9 _ hb⟩
   ·exact⟨a,xs,as,rfl,.inl ⟨rfl,.of q⟩,r,λb hb=>hb,λ_ b hb=>hb⟩
  |rt=>
   obtain⟨a,xs,bs,rfl,r,q,rfl⟩:=(show RepR K H (.lst ds) v as from ok);exact⟨a,xs,bs,rfl,.inl ⟨rfl,.inl (.inl q)⟩,r,λb hb=>lc9 _ hb,λ_ b hb=>by simpa [Sl.frz]using hb⟩
  |dp=>
   have ok:RepL K H false (.lst ds) v as:=ok;unfold RepL at ok;obtain⟨a,xs,bs,rfl,r,q⟩:=ok;rcases q with⟨q,rfl⟩|⟨z,_⟩
   ·exact⟨a,xs,bs,rfl,.inl ⟨rfl,.inl (.inl q)⟩,r,λb hb=>lc9 _ hb,λz=>absurd rfl z⟩
   ·cases z
 ·cases o with
  |no=>
   have ok:RepL K H true (.tup ds) v as:=ok;unfold RepL at ok;obtain⟨a,xs,rfl,q,r⟩:=ok;exact⟨a,xs,as,rfl,.inr ⟨rfl,q⟩,r,λb hb=>hb,λ_ b hb=>hb⟩
  |rt=>exact(show RepR K H (.tup ds) v as from ok).elim
  |dp=>
   have ok:RepL K H false (.tup ds) v as:=ok;unfold RepL at ok;obtain⟨a,xs,rfl,q,r⟩:=ok;exact⟨a,xs,as,rfl,.inr ⟨rfl,q⟩,r,λb hb=>hb,λz=>absurd rfl z⟩
theorem xV{K:Frag}{H:Hp}{x:Sl}{ds:List D}(ok:x.ok K H)(h:x.d=.lst ds\/x.d=.tup ds)(hl:k8 (x.o,x.d)=true):∃a xs bs,x.v=.ref a/\((x.d=.lst ds/\LsR K H a xs)\/(x.d=.tup ds/\SqT K H a xs))/\RepA K H true ds xs bs/\(∀b∈bs,b∈x.frz):=by
 obtain⟨a,xs,bs,e,q,r,h1,h2⟩:=items ok h
 by_cases ho:x.o=.dp
 ·have hp:D.pures ds=true:=by
   unfold k8 at hl;rw[show(x.o,x.d).1=Own.dp from ho]at hl;have:wxx x.d=ds:=by rcases h with h|h<;>rw[h]<;>rfl
   simpa [this]using hl
  obtain⟨rfl,r'⟩:=RepA.pu (g':=true) r hp;exact⟨a,xs,[],e,q,r',λ_ z=>nomatch z⟩
 ·have:(x.o != Own.dp)=true:=by simpa using ho
  rw[this]at r;exact⟨a,xs,bs,e,q,r,h2 ho⟩
end
section
variable {K:Frag}{H:Hp}{x y:Sl}
theorem kw{i:Int}(ok:x.ok K H)(h:x.d=.int i):x.v=.int i:=by
 have:=RepO.wk ok;rw[h]at this;unfold RepL at this;exact this.1
theorem W6{i:Bool}(ok:x.ok K H)(h:x.d=.bl i):x.v=.bl i:=by
 have:=RepO.wk ok;rw[h]at this;unfold RepL at this;exact this.1
theorem vjn(ok:x.ok K H)(h:x.d=.non):x.v=.non:=by
 have:=RepO.wk ok;rw[h]at this;unfold RepL at this;exact this.1
theorem v7{z:Str}(ok:x.ok K H)(h:x.d=.str z):x.v=.str z/\z.length<=sizeLine:=by
 have:=RepO.wk ok;rw[h]at this;unfold RepL at this;exact⟨this.1,this.2.2⟩
theorem xx{i:Int}{g:Bool}:RepL K H g (.int i) (.int i) []:=by unfold RepL;exact⟨rfl,rfl⟩
theorem vx{i:Bool}{g:Bool}:RepL K H g (.bl i) (.bl i) []:=by unfold RepL;exact⟨rfl,rfl⟩
theorem qke{g:Bool}:RepL K H g .non .non []:=by unfold RepL;exact⟨rfl,rfl⟩
theorem Qq{z:Str}{g:Bool}(h:z.length<=sizeLine):RepL K H g (.str z) (.str z) []:=by unfold RepL;exact⟨rfl,rfl,h⟩
theorem K8{i:Int}{fr:List Addr}:Out K H H ⟨.dp,.int i,.int i,[]⟩ fr:=jxo wx xx
theorem v8{i:Bool}{fr:List Addr}:Out K H H ⟨.dp,.bl i,.bl i,[]⟩ fr:=jxo wx vx
theorem ww2{z:Str}{fr:List Addr}(h:z.length<=sizeLine):Out K H H ⟨.dp,.str z,.str z,[]⟩ fr:=jxo wx (Qq h)
theorem vj9{C:Int->Int->Prop}{g:Int->Int->Int}{f:Int->Int->Option Int}(h:∀i j k,f i j=some k->C i j/\k=g i j):Ad2 K (rI C λi j=>.int (g i j)) (pu2 (i2 f)):=by
 intro H x y s Q ox oy hf k;unfold pu2 i2 at hf;dsimp only at hf
 split at hf
 ·rename_i i j e1 e2;cases hk:f i j with
  |none=>rw[hk]at hf;cases hf
  |some n=>
   rw[hk]at hf;cases oq9 hf;obtain⟨hc,rfl⟩:=h i j n hk;exact⟨i,j,kw ox e1,kw oy e2,hc,k ⟨.dp,.int (g i j),.int (g i j),[]⟩ H rfl rfl K8⟩
 ·cases hf
theorem wx4{g:Int->Int->Int}{f:Int->Int->Option Int}(h:∀i j,f i j=some (g i j)):Ad2 K (rI0 λi j=>.int (g i j)) (pu2 (i2 f)):=by
 intro H x y s Q ox oy hf k;unfold pu2 i2 at hf;dsimp only at hf
 split at hf
 ·rename_i i j e1 e2;rw[h]at hf;cases oq9 hf;exact⟨i,j,kw ox e1,kw oy e2,k ⟨.dp,.int (g i j),.int (g i j),[]⟩ H rfl rfl K8⟩
 ·cases hf
theorem vwb{g:Int->Int->Bool}:Ad2 K (rI0 λi j=>.bl (g i j)) (pu2 (c2 g)):=by
 intro H x y s Q ox oy hf k;unfold pu2 c2 at hf;dsimp only at hf
 split at hf
 ·rename_i i j e1 e2;cases oq9 hf;exact⟨i,j,kw ox e1,kw oy e2,k ⟨.dp,.bl (g i j),.bl (g i j),[]⟩ H rfl rfl v8⟩
 ·cases hf
theorem kzd:Ad2 K (rI0 λi j=>.int (i - j)) (pu2 Vx):=wx4 λ_ _=>rfl
theorem wj:Ad2 K (rI wqe λi j=>.int (i / j)) (pu2 qW):=vj9 λi j k h=>by
 split at h
 ·rename_i c;exact⟨c,(oq9 h).symm⟩
 ·cases h
theorem wq5:Ad2 K (rI (λ_ j=>0<j) λi j=>.int (i % j)) (pu2 jW):=vj9 λi j k h=>by
 split at h
 ·rename_i c;exact⟨c,(oq9 h).symm⟩
 ·cases h
theorem V5:Ad2 K (rI wqu λi j=>.int (i ^ j.toNat)) (pu2 J5):=vj9 λi j k h=>by
 split at h
 ·rename_i c;exact⟨c,(oq9 h).symm⟩
 ·cases h
theorem wq4:Ad2 K (rI wqu λi j=>.int (i*2 ^ j.toNat)) (pu2 wwm):=vj9 λi j k h=>by
 split at h
 ·rename_i c;exact⟨c,(oq9 h).symm⟩
 ·cases h
end
def vxn(K:Frag):R2:=λx y H Q=>∃l b xs zs,x=.ref l/\y=.ref b/\LsR K H l xs/\LsR K H b zs/\xs.length+zs.length<=sizeLine/\∀p,H p=none->Q (.ref p) (upd H p (.lst (xs++zs)))
theorem op_catL{X:Cx}:OpR X (binaryOp .Add) (vxn X.K):=by
 intro pins s σ H x y v u Q I rx ry h;obtain⟨l,b,xs,zs,rfl,rfl,hH,hB,hz,q⟩:=h;cases rx;cases ry;obtain⟨z,ac,n,r,e⟩:=hH.is I;obtain⟨z2,fc,n2,r2,e2⟩:=hB.is I;have hl:=r.length;have hl2:=r2.length;refine PySem.P.add_list e e2 ?_ (by rw[X8,X8];lia);have ea:ac.toArray++fc.toArray=(ac++fc).toArray:=by simp
 rw[ea];exact⟨.ref _,_,I.lnew (t':=s.toks) (r.append r2) (by rw[Xv];lia),rfl,q _ I.fresh⟩
def vxo(K:Frag):R2:=λx y H Q=>∃a b ys,x=.ref a/\y=.ref b/\SqT K H a []/\SqT K H b ys/\Q (.ref b) H
theorem op_catE{X:Cx}:OpR X (binaryOp .Add) (vxo X.K):=by
 intro pins s σ H x y v u Q I rx ry h;obtain⟨a,b,ys,rfl,rfl,ha,hb,q⟩:=h;cases rx;cases ry;obtain⟨ac,r1,p1,_⟩:=I.tuple ha;obtain⟨fc,r2,p2,_⟩:=I.tuple hb;obtain⟨⟨cls,dd,data,sl⟩,ho,hc,n,hd⟩:=id p1;obtain⟨⟨cls2,dd2,data2,nr⟩,ho2,ly,n2,gm⟩:=id p2;simp only at hc hd ly gm;subst hc hd ly gm;have e:ac=[]:=r1.nil_iff.mpr rfl;subst e;exact concat_meets ⟨_,ho,rfl⟩ ⟨_,ho2,rfl⟩ noFill_tuple_add seq_tuple_add PySem.F.slot_tuple_add PySem.F.entry_tuple_add (PySem.F.args_tuple_add_2 _ _)
   (tuple_addW0 a b [].toArray fc.toArray n n2 dd dd2 sl nr (by simp)) ⟨ho,ho2,⟨.ref b,H,I,rfl,q⟩⟩
def vxp(K:Frag):R2:=λx y H Q=>rI0 (λi j=>.int (i+j)) x y H Q\/(∃i j,x=.str i/\y=.str j/\i.length+j.length<=sizeLine/\Q (.str (i++j)) H)\/vxn K x y H Q\/vxo K x y H Q\/vxm K x y H Q
theorem wj8{X:Cx}{K:Frag}(hK:X.K=K):OpR X (binaryOp .Add) (vxp K):=by subst hK;exact op_add.or (op_add_str.or (op_catL.or (op_catE.or vqr)))
theorem RepA.app{K:Frag}{H:Hp}{g:Bool}{ds':List D}{xs':List V}{gz:List Addr}(h':RepA K H g ds' xs' gz):∀{ds:List D} {xs:List V} {as:List Addr},RepA K H g ds xs as->RepA K H g (ds++ds') (xs++xs') (as++gz)
 |[],_,_,h=>by unfold RepA at h;rw[h.1,h.2];exact h'
 |d::ds,_,_,h=>by
  unfold RepA at h;obtain⟨x,r,bs,cs,rfl,rfl,h1,h2⟩:=h;rw[List.cons_append];unfold RepA;exact⟨x,r++xs',bs,cs++gz,rfl,by rw[Yb],h1,RepA.app h' h2⟩
theorem qv{H:Hp}{p:Addr}{o:HO}(h:H p=none):jJ H (upd H p o):=λb u q=>by rw[jX (v9 q h)];exact q
theorem zZ{K:Frag}{H:Hp}{p:Addr}{ds:List D}{xs:List V}{bs fr:List Addr}(hp:H p=none)(r:RepA K H true ds xs bs)(hb:∀b∈bs,b∈fr):Out K H (upd H p (.lst xs)) ⟨.rt,.lst ds,.ref p,p::bs⟩ fr:=by
 refine⟨qv hp,⟨p,xs,bs,rfl,r.kp (Kp.of_same (qv hp)),v6,rfl⟩,λb hb=>?_,?_,λb d9=>hb b (by simpa [Sl.frz]using d9)⟩
 ·have:b=p:=by simpa [Sl.own]using hb
  rw[this];exact hp
 ·simp[Sl.own]
theorem V7{K:Frag}{H:Hp}{p:Addr}{ds:List D}{xs:List V}{bs fr:List Addr}(hp:H p=none)(r:RepA K H true ds xs bs)(hb:∀b∈bs,b∈fr):Out K H (upd H p (.tup xs)) ⟨.no,.tup ds,.ref p,bs⟩ fr:=by
 refine⟨qv hp,?_,λb hb=>(nomatch hb),Y4,λb d9=>hb b d9⟩;show RepL K _ true (.tup ds) (.ref p) bs;unfold RepL;exact⟨p,xs,rfl,SqT.of v6,r.kp (Kp.of_same (qv hp))⟩
theorem wqa{K:Frag}:Ad2 K (vxp K) jv:=by
 intro H x y s Q ox oy hf k;unfold jv at hf;dsimp only at hf
 split at hf
 ·rename_i i j e1 e2;cases oq9 hf;exact .inl ⟨i,j,kw ox e1,kw oy e2,k ⟨.dp,.int _,.int _,[]⟩ H rfl rfl K8⟩
 ·rename_i i j e1 e2
  split at hf
  ·rename_i hl;cases oq9 hf;have hl':(i++j).length<=sizeLine:=by rw[strLen_append];exact hl
   exact .inr (.inl ⟨i,j,(v7 ox e1).1,(v7 oy e2).1,hl,k ⟨.dp,.str _,.str _,[]⟩ H rfl rfl (ww2 hl')⟩)
  ·cases hf
 ·rename_i i j e1 e2
  split at hf
  ·rename_i hl;cases oq9 hf;obtain⟨a,xs,bs,e3,q3,r3,h3⟩:=xV ox (.inl e1) hl.2.1;obtain⟨b,ys,cs,e4,q4,r4,h4⟩:=xV oy (.inl e2) hl.2.2;have q3:LsR K H a xs:=by rcases q3 with⟨_,z⟩|⟨z,_⟩;exact z;rw[e1]at z;cases z
   have q4:LsR K H b ys:=by rcases q4 with⟨_,z⟩|⟨z,_⟩;exact z;rw[e2]at z;cases z
   refine .inr (.inr (.inl ⟨a,b,xs,ys,e3,e4,q3,q4,by rw[<-r3.len,<-r4.len];exact hl.1,λp hp=>?_⟩));exact k ⟨.rt,.lst (i++j),.ref p,p::(bs++cs)⟩ _ rfl rfl (zZ hp (r4.app r3) λb hb=>(aA hb).elim (λz=>ll9 _ (h3 b z)) λz=>lr9 _ (h4 b z))
  ·cases hf
 ·rename_i i j e1 e2
  split at hf
  ·rename_i hl;cases oq9 hf;obtain⟨a,xs,bs,e3,q3,r3,h3⟩:=xV ox (.inr e1) hl.2.1;obtain⟨b,ys,cs,e4,q4,r4,h4⟩:=xV oy (.inr e2) hl.2.2;have q3:SqT K H a xs:=by rcases q3 with⟨z,_⟩|⟨_,z⟩;rw[e1]at z;cases z;exact z
   have q4:SqT K H b ys:=by rcases q4 with⟨z,_⟩|⟨_,z⟩;rw[e2]at z;cases z;exact z
   have ap:=r4.app r3;have ma:∀b∈bs++cs,b∈x.frz++y.frz:=λb hb=>(aA hb).elim (λz=>ll9 _ (h3 b z)) λz=>lr9 _ (h4 b z)
   have same:∀c zs,zs=xs++ys->SqT K H c zs->Q (.ref c) H:=λc zs e hq=>by
    refine k ⟨.no,.tup (i++j),.ref c,bs++cs⟩ H rfl rfl ⟨wx,?_,λb hb=>(nomatch hb),Y4,ma⟩;show RepL K H true (.tup (i++j)) (.ref c) (bs++cs);unfold RepL;exact⟨c,zs,rfl,hq,by rw[e];exact ap⟩
   by_cases hx:xs=[]
   ·subst hx;exact .inr (.inr (.inr (.inl ⟨a,b,ys,e3,e4,q3,q4,same b ys rfl q4⟩)))
   ·refine .inr (.inr (.inr (.inr ⟨a,b,xs,ys,e3,e4,q3,q4,hx,by rw[<-r3.len,<-r4.len];exact hl.1,λhy=>?_,λhy p hp=>?_⟩)))
    ·exact same a xs (by rw[hy,Xs]) q3
    ·exact k ⟨.no,.tup (i++j),.ref p,bs++cs⟩ _ rfl rfl (V7 hp ap ma)
  ·cases hf
 ·cases hf
def tT(Z:Fx0)(q:Bool)(c:Ts):TT:=fun σ H Q=>∃E L r,Mt E σ L/\World Z.K H L/\c E=some r/\Xc Z σ H L r /\
 ∀E' k,r=.ok E' k->∀L' H',Mt E' σ L'->World Z.K H' L'->Step H L H' L'->(q=true->jJ H H')->Q k H'
def QT(X:Cx)(Z:Fx0)(q:Bool)(c:Ts)(e:Expr):Prop:=PT X e (tT Z q c)
def QW(X:Cx)(Z:Fx0)(q:Bool)(c:Ts)(e:Expr):Prop:=PW X e (tT Z q c)
section
variable {X:Cx}{Z:Fx0}{q qa qb:Bool}{a b c:Ex}{u v:Ts}{e ea eb:Expr}{es:List Expr}{pos:Pos}{α β:Type}{σ:L2.St}{H:Hp}{L:Ls}{E:En}
theorem vji{e:Expr}{t t':TT}(h:PW X e t)(w:∀ σ H Q,t' σ H Q->t σ H Q):PW X e t':=λwh pins s σ H Q I q=>h wh pins s σ H Q I (w σ H Q q)
theorem vkk{F:En->Bool->Option (Res α)}{r:Res α}{G:Bool->Hp->Prop}(m:Mt E σ L)(w:World Z.K H L)(h:bnd (u E) F=some r)(xc:Xc Z σ H L r)
  (k:∀E1 s,F E1 s=some r->∀L1 H1,Mt E1 σ L1->World Z.K H1 L1->Step H L H1 L1->(q=true->jJ H H1)->G s H1):tT Z q u σ H G:=by
 rcases xk h with⟨E1,s,h1,h2⟩|⟨E1,c,h1,h2⟩
 ·exact⟨E,L,_,m,w,h1,(λ_ _ z=>by cases z),λE' s' z L' H' m' w' st sm=>by
   injection z with z1 z2;subst z1 z2;exact k _ _ h2 L' H' m' w' st sm⟩
 ·exact⟨E,L,_,m,w,h1,xc.map h2,λE' s' z=>by cases z⟩
theorem qks(ha:QT X Z q u ea):QW X Z q u (.BoolOp .And [ea] pos):=vq4 ha
theorem vjh(ha:QT X Z q u ea):QW X Z q u (.BoolOp .Or [ea] pos):=vz7 ha
theorem qkt(ha:QT X Z q u ea)(hb:QW X Z q v (.BoolOp .And (eb::es) pos)):QW X Z q (Q.tAnd u v) (.BoolOp .And (ea::eb::es) pos):=
 vji (vz8 ha hb) fun σ H Q au=>ex8 au λE L r m w hc xc k=>vkk m w hc xc λE1 s h1 L1 H1 m1 w1 st sm=>by
  cases s with
  |true=>
   rw[X7 rfl]at h1 ⊢;exact⟨E1,L1,r,m1,w1,h1,xc.step st,λE' k' z L' H' m' w' cu ik=>k E' k' z L' H' m' w' (st.trans cu) λhq=>k4 (sm hq) (ik hq)⟩
  |false=>
   rw[X9 ⋯]at h1 ⊢;cases oq9 h1;exact k _ _ rfl L1 H1 m1 w1 st sm
theorem vxs(ha:QT X Z q u ea)(hb:QW X Z q v (.BoolOp .Or (eb::es) pos)):QW X Z q (Q.tOr u v) (.BoolOp .Or (ea::eb::es) pos):=
 vji (wvu ha hb) fun σ H Q au=>ex8 au λE L r m w hc xc k=>vkk m w hc xc λE1 s h1 L1 H1 m1 w1 st sm=>by
  cases s with
  |false=>
   rw[X9 ⋯]at h1 ⊢;exact⟨E1,L1,r,m1,w1,h1,xc.step st,λE' k' z L' H' m' w' cu ik=>k E' k' z L' H' m' w' (st.trans cu) λhq=>k4 (sm hq) (ik hq)⟩
  |true=>
   rw[X7 rfl]at h1 ⊢;cases oq9 h1;exact k _ _ rfl L1 H1 m1 w1 st sm
theorem QW.pt(h:QW X Z q u e):QT X Z q u e:=PW.pt h
theorem qkr(ha:QT X Z q u ea):QT X Z q (Q.tNot u) (.UnaryOp .Not ea pos):=
 qq0 (vzb ha) fun σ H Q au=>ex8 au λE L r m w hc xc k=>vkk m w hc xc λE1 s h1 L1 H1 m1 w1 st sm=>by
  cases oq9 h1;exact k _ _ rfl L1 H1 m1 w1 st sm
theorem wq{op:CmpOp}{r:R2}{f:Sd->Sd->Option Sd}(ho:OpR X (compareOp op) r)(ad:Ad2 Z.K r f)(ha:QV X Z qa a ea)(hb:QV X Z true b eb)(hm:behindInMarks op eb=false)(hf:∀x y s,f x y=some s->∃k,s.2=.bl k):QT X Z qa (Q.tE (cF2 f a b)) (.Compare ea [op] [eb] pos):=
 qq0 (vq9 ho ha hb hm) fun σ H Q au=>ex8 au λE L r m w hc xc k=>by
  refine kkv ad ?_;have il:bnd (cF2 f a b E) (λE x=>val E (truth x.2))=some r:=hc;rcases xk il with⟨E1,s,h1,h2⟩|⟨E1,c,h1,h2⟩
  ·refine⟨E,L,_,m,w,h1,(λ_ _ z=>by cases z),λE' s' z x L' H' e1 e2 m' w' st sm=>?_⟩;injection z with z1 z2;subst z1 z2;obtain⟨kk,hk⟩:∃k,s.2=.bl k:=by
    unfold cF2 at h1;rcases xk h1 with⟨E2,s2,h3,h4⟩|⟨_,_,_,z⟩
    ·rcases xk h4 with⟨E3,s3,h5,h6⟩|⟨_,_,_,z⟩
     ·obtain⟨y,hy,z⟩:=xK h6;cases z;exact hf _ _ _ hy
     ·cases z
    ·cases z
   rw[hk]at h2;cases oq9 h2;exact⟨kk,W6 w'.head (e2.trans hk),k _ _ rfl L' H' m' w'.tail (st.trans Step.drop) λhq=>(sm hq).1⟩
  ·exact⟨E,L,_,m,w,h1,xc.map h2,λE' s' z=>by cases z⟩
end
def Pn(pn:List Nat)(σ σ':L2.St):Prop:=∀p∈pn,σ'[p]?=σ[p]?
theorem Pn.refl{pn:List Nat}{σ:L2.St}:Pn pn σ σ:=λ_ _=>rfl
theorem Pn.trans{pn:List Nat}{σ σ1 σ2:L2.St}(a:Pn pn σ σ1)(b:Pn pn σ1 σ2):Pn pn σ σ2:=λp hp=>(b p hp).trans (a p hp)
theorem Pn.set{pn:List Nat}{σ σ1:L2.St}{i:Nat}{y:Option V}(a:Pn pn σ σ1)(h:i∉pn):Pn pn σ (σ1.set i y):=λp hp=>by
 have:i≠p:=λe=>h (e▸hp)
 rw[Yq this];exact a p hp
noncomputable def FlP(Z:Fx0)(pn:List Nat)(D:Ends)(σ:L2.St)(H:Hp)(L:Ls):Fl->Prop
 |.nx E'=>∀ σ' L' H',Pn pn σ σ'->Mt E' σ' L'->World Z.K H' L'->Step H L H' L'->D.nx σ' H'|.ct E'=>∀ σ' L' H',Pn pn σ σ'->Mt E' σ' L'->World Z.K H' L'->Step H L H' L'->D.ct σ' H'|.bk E'=>∀ σ' L' H',Pn pn σ σ'->Mt E' σ' L'->World Z.K H' L'->Step H L H' L'->D.bk σ' H'|.rt E' a=>∀(x:Sl) σ' L' H',x.o=a.1->x.d=a.2->Pn pn σ σ'->Mt E' σ' L'->World Z.K H' (some x::L')->Step H L H' (some x::L')->D.rt x.v H'|.xc E' c=>∀C σ' L' H',Z.mg c=some (.ref C)->Pn pn σ σ'->Mt E' σ' L'->World Z.K H' L'->Step H L H' L'->Z.EX (.ref C) none H'
theorem FlP.step{Z:Fx0}{pn:List Nat}{D:Ends}{σ σ1:L2.St}{H H1:Hp}{L L1:Ls}{r:Fl}(k:FlP Z pn D σ H L r)(s:Step H L H1 L1)(p:Pn pn σ σ1):FlP Z pn D σ1 H1 L1 r:=by
 cases r with|nx E'=>exact fun σ' L' H' p' m w s'=>k σ' L' H' (p.trans p') m w (s.trans s')|ct E'=>exact fun σ' L' H' p' m w s'=>k σ' L' H' (p.trans p') m w (s.trans s')|bk E'=>exact fun σ' L' H' p' m w s'=>k σ' L' H' (p.trans p') m w (s.trans s')|rt E' a=>exact λx σ' L' H' e1 e2 p' m w s'=>k x σ' L' H' e1 e2 (p.trans p') m w (s.trans s')|xc E' c=>exact λC σ' L' H' hm p' m w s'=>k C σ' L' H' hm (p.trans p') m w (s.trans s')
theorem FlP.xc{α:Type}{Z:Fx0}{pn:List Nat}{D:Ends}{σ:L2.St}{H:Hp}{L:Ls}{E':En}{c:Str}(k:FlP Z pn D σ H L (.xc E' c)):Xc Z σ H L (.exc E' c:Res α):=λE1 c1 e C L' H' hm m w s=>by
 injection e with h1 h2;subst h1 h2;exact k C σ L' H' hm Pn.refl m w s
def tS(Z:Fx0)(pn:List Nat)(c:Sm):TS:=λD σ H=>∃E L r,Mt E σ L/\World Z.K H L/\c E=some r/\FlP Z pn D σ H L r
def QS(X:Cx)(Z:Fx0)(pn:List Nat)(c:Sm)(st:Stmt):Prop:=PS X st (tS Z pn c)
def QSs(X:Cx)(Z:Fx0)(pn:List Nat)(c:Sm)(st:List Stmt):Prop:=PSs X st (tS Z pn c)
section
variable {X:Cx}{Z:Fx0}{pn:List Nat}{q qa qb:Bool}{a b c:Ex}{u v:Ts}{A B:Sm}{e ea eb:Expr}{st:Stmt}{ss tt:List Stmt}{pos:Pos}{α:Type}{σ:L2.St}{H:Hp}{L:Ls}{E:En}{D:Ends}
theorem QX{m:Option (Res α)}{F:En->α->Option Fl}{r:Fl}(h:ofE m F=some r):(∃E1 x,m=some (.ok E1 x)/\F E1 x=some r)\/∃E1 c,m=some (.exc E1 c)/\r=.xc E1 c:=by
 cases m with
 |none=>cases h
 |some q=>
  cases q with|ok E1 x=>exact .inl ⟨E1,x,rfl,h⟩|exc E1 c=>exact .inr ⟨E1,c,rfl,(oq9 h).symm⟩
theorem KZ{F:En->Sd->Option Fl}{r:Fl}{G:VK}(m:Mt E σ L)(w:World Z.K H L)(h:ofE (a E) F=some r)(k:FlP Z pn D σ H L r)
  (g:∀E1 s,F E1 s=some r->∀(x:Sl) L1 H1,x.o=s.1->x.d=s.2->Mt E1 σ L1->World Z.K H1 (some x::L1)->Step H L H1 (some x::L1)->(q=true->jJ H H1/\∀b∈x.own,H b=none)->G x.v H1):tQ Z q a σ H G:=by
 rcases QX h with⟨E1,s,h1,h2⟩|⟨E1,c,h1,rfl⟩
 ·exact⟨E,L,_,m,w,h1,(λ_ _ z=>by cases z),λE' s' z x L' H' e1 e2 m' w' st sm=>by
   injection z with z1 z2;subst z1 z2;exact g _ _ h2 x L' H' e1 e2 m' w' st sm⟩
 ·exact⟨E,L,_,m,w,h1,k.xc,λE' s' z=>by cases z⟩
theorem vx3{F:En->Bool->Option Fl}{r:Fl}{G:Bool->Hp->Prop}(m:Mt E σ L)(w:World Z.K H L)(h:ofE (u E) F=some r)(k:FlP Z pn D σ H L r)
  (g:∀E1 s,F E1 s=some r->∀L1 H1,Mt E1 σ L1->World Z.K H1 L1->Step H L H1 L1->G s H1):tT Z q u σ H G:=by
 rcases QX h with⟨E1,s,h1,h2⟩|⟨E1,c,h1,rfl⟩
 ·exact⟨E,L,_,m,w,h1,(λ_ _ z=>by cases z),λE' s' z L' H' m' w' st sm=>by
   injection z with z1 z2;subst z1 z2;exact g _ _ h2 L' H' m' w' st⟩
 ·exact⟨E,L,_,m,w,h1,k.xc,λE' s' z=>by cases z⟩
theorem xZ:QSs X Z pn x6 []:=qq1 vqc λD σ H au=>ex7 au λE L r m w hc k=>by
 cases oq9 hc;exact k σ L H Pn.refl m w Step.refl
theorem jk(h1:QS X Z pn A st)(h2:QSs X Z pn B ss):QSs X Z pn (j9 A B) (st::ss):=qq1 (qxw h1 h2) λD σ H au=>ex7 au λE L r m w hc k=>by
 unfold j9 at hc;cases ha:A E with
 |none=>rw[ha]at hc;cases hc
 |some f=>
  rw[ha]at hc;cases f with|nx E1=>exact⟨E,L,_,m,w,ha,fun σ' L' H' p m' w' s=>⟨E1,L',r,m',w',hc,k.step s p⟩⟩|ct E1=>cases oq9 hc;exact⟨E,L,_,m,w,ha,k⟩|bk E1=>cases oq9 hc;exact⟨E,L,_,m,w,ha,k⟩|rt E1 x=>cases oq9 hc;exact⟨E,L,_,m,w,ha,k⟩|xc E1 x=>cases oq9 hc;exact⟨E,L,_,m,w,ha,k⟩
theorem jV(h1:QS X Z pn A st):QSs X Z pn A [st]:=vqb h1
theorem kJ(h:QE X Z q a ea):QS X Z pn (k7 a) (.Return (some ea) pos):=zK (vzd h) λD σ H au=>ex7 au λE L r m w hc k=>
 KZ m w hc k λE1 s h1 x L1 H1 e1 e2 m1 w1 st _=>by
  cases oq9 h1;exact k x σ L1 H1 e1 e2 Pn.refl m1 w1 st
theorem xY(hc:QT X Z q u e)(ha:QSs X Z pn A ss)(hb:QSs X Z pn B tt):QS X Z pn (sIf u A B) (.If e ss tt pos):=zK (wvv hc ha hb) λD σ H au=>ex7 au λE L r m w hc k=>
 vx3 m w hc k λE1 s h1 L1 H1 m1 w1 st=>by
  cases s with|true=>rw[X7 rfl]at h1 ⊢;exact⟨E1,L1,r,m1,w1,h1,k.step st Pn.refl⟩|false=>rw[X9 ⋯]at h1 ⊢;exact⟨E1,L1,r,m1,w1,h1,k.step st Pn.refl⟩
theorem QZ{x:Sl}{i:Nat}{s:Sd}(m:Mt E σ L)(e1:x.o=s.1)(e2:x.d=s.2):Mt (E.set i (some s)) (σ.set i (some x.v)) (L.set i (some x)):=by
 have:=m.set (x:=x) i;rw[e1,e2]at this;exact this
theorem wvr{i:Nat}{y:Str}{az:Pos}(hN:X.N.Nodup)(hi:X.N[i]?=some y)(hx:Loc X.env.scope y)(h:QE X Z q a ea)(hp:autoParam (i∉pn) ŕ)(hs:autoParam (swapsWith ea (some (.Name y az)) pos.line X.env=pure false) Ŕ)(hf:autoParam (X.fn y=true\/X.env.scope.names.lookup y=some .local) Ř):
  QS X Z pn (jw i a) (.Assign [.Name y az] ea pos):=zK (vzc hN hi hx h hs hf) λD σ H au=>ex7 au λE L r m w hc k=>
 KZ m w hc k λE1 s h1 x L1 H1 e1 e2 m1 w1 st _=>by
  cases oq9 h1;exact k (σ.set i (some x.v)) (L1.set i (some x)) H1 (Pn.refl.set hp) (QZ m1 e1 e2) w1.set (st.trans Step.set)
theorem vz6{i:Nat}{y:Str}{az:Pos}(hp:i∉pn)(h:PS X (.Assign [.Name y az] ea pos) (λD σ H=>tQ Z q a σ H λv H1=>D.nx (σ.set i (some v)) H1)):
  QS X Z pn (jw i a) (.Assign [.Name y az] ea pos):=zK h λD σ H au=>ex7 au λE L r m w hc k=>
 KZ m w hc k λE1 s h1 x L1 H1 e1 e2 m1 w1 st _=>by
  cases oq9 h1;exact k (σ.set i (some x.v)) (L1.set i (some x)) H1 (Pn.refl.set hp) (QZ m1 e1 e2) w1.set (st.trans Step.set)
end
structure Walks (K:Frag)(J:It)(T:List Sl)(ds:List D):Prop where
 no:∀t∈T,t.o=.no
 go:∀i H,(∀t∈T,t.ok K H)->i<ds.length->J.go i H
 stop:∀H,(∀t∈T,t.ok K H)->J.stop ds.length H
 yld:∀i H v H' d,(∀t∈T,t.ok K H)->J.yld i H v H'->ds[i]?=some d->∃z:Sl,z.o=.no/\z.d=d/\z.v=v/\jJ H H'/\z.ok K H'/\∀b∈z.as,∃t∈T,b∈t.as
noncomputable def tI(Z:Fx0)(q:Bool)(it:Ev (List D)):TI:=fun σ H R=>∃E L r,Mt E σ L/\World Z.K H L/\it E=some r/\Xc Z σ H L r /\
 ∀E' ds,r=.ok E' ds->∀J T L' H',Mt E' σ L'->World Z.K H' (L'++T.map some)->Step H L H' (L'++T.map some)->ds.length<=sizeLine->(q=true->jJ H H')->Walks Z.K J T ds->R J H'
def QI(X:Cx)(Z:Fx0)(q:Bool)(tg:Expr)(it:Ev (List D))(e:Expr):Prop:=PI X tg e (tI Z q it)
def wx8(K:Frag)(H0:Hp)(T:List Sl)(H:Hp):Prop:=(∀t∈T,t.ok K H)/\∀t∈T,Kp H0 H t.as
structure WalksD (K:Frag)(H0:Hp)(J:It)(T:List Sl)(ds:List D):Prop where
 no:∀t∈T,t.o=.no
 go:∀i H,wx8 K H0 T H->i<ds.length->J.go i H
 stop:∀H,wx8 K H0 T H->J.stop ds.length H
 yld:∀i H v H' d,wx8 K H0 T H->J.yld i H v H'->ds[i]?=some d->∃z:Sl,z.o=.no/\z.d=d/\z.v=v/\jJ H H'/\z.ok K H'/\∀b∈z.as,∃t∈T,b∈t.as
theorem Walks.D{K:Frag}{H0:Hp}{J:It}{T:List Sl}{ds:List D}(h:Walks K J T ds):WalksD K H0 J T ds:=⟨h.no,λi H o=>h.go i H o.1,λH o=>h.stop H o.1,λi H v H' d o=>h.yld i H v H' d o.1⟩
noncomputable def tID(Z:Fx0)(q:Bool)(it:Ev (List D)):TI:=fun σ H R=>∃E L r,Mt E σ L/\World Z.K H L/\it E=some r/\Xc Z σ H L r /\
 ∀E' ds,r=.ok E' ds->∀J T L' H',Mt E' σ L'->World Z.K H' (L'++T.map some)->Step H L H' (L'++T.map some)->ds.length<=sizeLine->(q=true->jJ H H')->WalksD Z.K H' J T ds->R J H'
def QID(X:Cx)(Z:Fx0)(q:Bool)(tg:Expr)(it:Ev (List D))(e:Expr):Prop:=PI X tg e (tID Z q it)
theorem QI.D{X:Cx}{Z:Fx0}{q:Bool}{tg:Expr}{it:Ev (List D)}{e:Expr}(h:QI X Z q tg it e):QID X Z q tg it e:=λpins s σ H R I hz=>h pins s σ H R I (by
 obtain⟨E,L,r,m,w,e,x,k⟩:=hz;exact⟨E,L,r,m,w,e,x,λE' ds z J T L' H' m' w' st hl sm wk=>k E' ds z J T L' H' m' w' st hl sm wk.D⟩)
structure WalksS (K:Frag)(q:Bool)(H0:Hp)(J:It)(T:List Sl)(ds:List D):Prop where
 no:∀t∈T,t.o=.no
 go:∀i H,(∀t∈T,t.ok K H)->(q=true->jJ H0 H)->i<ds.length->J.go i H
 stop:∀H,(∀t∈T,t.ok K H)->(q=true->jJ H0 H)->J.stop ds.length H
 yld:∀i H v H' d,(∀t∈T,t.ok K H)->(q=true->jJ H0 H)->J.yld i H v H'->ds[i]?=some d->∃z:Sl,z.o=.no/\z.d=d/\z.v=v/\jJ H H'/\z.ok K H'/\∀b∈z.as,∃t∈T,b∈t.as
theorem vkg{K:Frag}{q:Bool}{H0:Hp}{J:It}{T:List Sl}{ds:List D}(h:Walks K J T ds):WalksS K q H0 J T ds:=⟨h.no,λi H o _=>h.go i H o,λH o _=>h.stop H o,λi H v H' d o _=>h.yld i H v H' d o⟩
noncomputable def tIS(Z:Fx0)(q:Bool)(it:Ev (List D)):TI:=fun σ H R=>∃E L r,Mt E σ L/\World Z.K H L/\it E=some r/\Xc Z σ H L r /\
 ∀E' ds,r=.ok E' ds->∀J T L' H',Mt E' σ L'->World Z.K H' (L'++T.map some)->Step H L H' (L'++T.map some)->ds.length<=sizeLine->(q=true->jJ H H')->WalksS Z.K q H J T ds->R J H'
def QIS(X:Cx)(Z:Fx0)(q:Bool)(tg:Expr)(it:Ev (List D))(e:Expr):Prop:=PI X tg e (tIS Z q it)
theorem wxm{X:Cx}{Z:Fx0}{q:Bool}{tg:Expr}{it:Ev (List D)}{e:Expr}(h:QI X Z q tg it e):QIS X Z q tg it e:=λpins s σ H R I hz=>h pins s σ H R I (by
 obtain⟨E,L,r,m,w,e,x,k⟩:=hz;exact⟨E,L,r,m,w,e,x,λE' ds z J T L' H' m' w' st hl sm wk=>k E' ds z J T L' H' m' w' st hl sm (vkg wk)⟩)
def tG(Z:Fx0)(pn:List Nat)(tg:Tg):TG:=λv σ H Q=>∃(E:En) (L:Ls) (z:Sl) (E':En),Mt E σ L/\World Z.K H (some z::L)/\z.o=.no/\z.v=v/\tg.put z.d E=some E' /\
 ∀ σ' L',Pn pn σ σ'->Mt E' σ' L'->World Z.K H L'->Step H (some z::L) H L'->Q σ' H
def QG(X:Cx)(Z:Fx0)(pn:List Nat)(tg:Tg)(e:Expr):Prop:=PG X e (tG Z pn tg)
section
variable {X:Cx}{Z:Fx0}{pn:List Nat}{e:Expr}{σ:L2.St}{H:Hp}{L:Ls}{E:En}
theorem vjj{t t':TG}(h:PG X e t)(w:∀v σ H Q,t' v σ H Q->t v σ H Q):PG X e t':=λpins s σ H x v Q I r q=>h pins s σ H x v Q I r (w x σ H Q q)
theorem ZV{i:Nat}(h:PG X e (V8 i))(hp:autoParam (i∉pn) ŕ):QG X Z pn (.n i) e:=vjj h λv σ H Q ⟨E,L,z,E',m,w,ho,hv,bq,k⟩=>by
 cases oq9 bq;rw[<-hv];exact k (σ.set i (some z.v)) (L.set i (some z)) (Pn.refl.set hp) (QZ m ho rfl) w.set Step.set
def gNs:List Nat->TGs
 |[]=>wxy|i::is=>wk8 (V8 i) (gNs is)
theorem qvl{Q:L2.St->Hp->Prop}{M:Ls}{σ0:L2.St}:∀{is:List Nat} {ds:List D} {xs:List V} {bs:List Addr} {E:En} {L:Ls} {σ:L2.St} {E':En},Mt E σ L->World Z.K H L->RepA Z.K H true ds xs bs->(∀b∈bs,b∉j6 L)->(∀b∈bs,b∈jz M)->Step H M H L->Pn pn σ0 σ ->
  setAll is ds E=some E'->(∀i∈is,i∉pn)->(∀ σ' L',Pn pn σ0 σ'->Mt E' σ' L'->World Z.K H L'->Step H M H L'->Q σ' H)->gNs is xs σ H Q
 | [],[],xs,bs,E,L,σ,E',m,w,r,_,_,st,p,e,_,k=>by
  cases oq9 e;unfold RepA at r;exact⟨r.1,k σ L p m w st⟩
 | [],_::_,_,_,_,_,_,_,_,_,_,_,_,_,_,e,_,_=>by cases e| _::_,[],_,_,_,_,_,_,_,_,_,_,_,_,_,e,_,_=>by cases e
 | i::is,d::ds,xs,bs,E,L,σ,E',m,w,r,hb,hf,st,p,e,hi,k=>by
  unfold RepA at r;obtain⟨x,rr,cs,es,rfl,rfl,h1,h2⟩:=r;have w1:World Z.K H (some ⟨.no,d,x,cs⟩::L):=w.consNo (x:=⟨.no,d,x,cs⟩) h1 rfl λb d9=>hb b (ll9 _ d9)
  have s1:Step H M H (L.set i (some ⟨.no,d,x,cs⟩)):=by
   refine⟨λ_ _ h _=>h,λa ha=>?_,λa ha=>?_⟩
   ·rcases VV ha with z|z
    ·exact nomatch z
    ·exact st.own a z
   ·rcases Wq ha with z|z
    ·exact .inl (hf a (ll9 _ z))
    ·exact st.frz a z
  exact⟨x,rr,rfl,qvl (is:=is) (QZ (x:=⟨.no,d,x,cs⟩) (s:=(.no,d)) m rfl rfl) w1.set h2 (λb d9 ho=>by
   rcases VV ho with z|z
   ·exact nomatch z
   ·exact hb b (lr9 _ d9) z) (λb d9=>hf b (lr9 _ d9)) s1 (p.set (hi i X6)) e (λj hj=>hi j (lc9 _ hj)) k⟩
theorem kj7:∀{is:List Nat} {ds:List D} {E E':En},setAll is ds E=some E'->is.length=ds.length
 |[],[],_,_,_=>rfl|[],_::_,_,_,e=>by cases e|_::_,[],_,_,e=>by cases e|i::is,d::ds,E,E',e=>by rw[Xf,Xf,kj7 (E:=E.set i (some (.no,d))) e]
def wwk(K:Frag)(n:Nat)(t:TGs):TG:=λv σ H Q=>∃a xs,v=.ref a/\(SqT K H a xs\/SqL K H a xs)/\xs.length=n/\t xs σ H Q
section
variable {prog:Program}{w:PySem.World}{A:Around}{E':VP9}
theorem kv3{it t:Addr}{items:Array Value}(dj:t≠it):∀(n i:Nat) (s:Shared) (Q:List Value->Shared->Prop),s.heap.IsListIter it t i->s.heap.IsList t items->i+n<=items.size ->
  (∀h',h'.IsListIter it t (i+n)->Heap.SameBut it s.heap h'->Q ((items.toList.drop i).take n) { s with heap:=h' })->wpAny (model prog w) A (draw (.ref it) n) Q E' s
 | 0,i,s,Q,fz,_,_,hQ=>by
  show wpAny _ _ (pure []) Q E' s;exact X1 (by simpa using hQ s.heap fz (Heap.SameBut.refl ..))
 | n+1,i,s,Q,fz,ht,du,hQ=>by
  have c9:i<items.size:=by omega
  show wpAny _ _ (pyNext (.ref it) >>= _) Q E' s;refine X0 (wpAny_pyNext_list_item fz ht (x:=items[i]) (by simp[c9]) λh₁ mx rj=>?_);have ht₁:h₁.IsList t items:=by
   obtain⟨o,ho,r⟩:=ht;exact⟨o,(rj.2 t dj).trans ho,r⟩
  refine X0 (Xw (kv3 dj n (i+1) _ _ mx ht₁ (by omega) λh₂ hit₂ hs₂=>X1 ?_));have hd:items.toList.drop i=items[i]::items.toList.drop (i+1):=by simp[List.drop_eq_getElem_cons,c9]
  have:=hQ h₂ (by rw[show i+(n+1)=i+1+n by omega];exact hit₂) (rj.trans hs₂);rw[hd,List.take_succ_cons]at this;exact this
theorem jxe{s:Shared}{t:Addr}{items:Array Value}{Q:List Value->Shared->Prop}(hh:A.handled=none)(ht:s.heap.IsList t items)
  (hQ:∀h',Heap.ExtBut s.heap.objs.size s.heap h'->Q items.toList { s with heap:=h' }):wpAny (model prog w) A (unpackItems (.ref t) items.size none) Q E' s:=by
 have c9:t≠s.heap.objs.size:=by obtain⟨o,ho,_⟩:=ht;exact Xi (Xd ho)
 unfold unpackItems;refine X0 ?_;unfold notIterableAtAll;refine X0 (Z0 ht.typeIs slot_list_iter.lookup ?_);refine X1 ?_;simp only[Bool.false_eq_true,if_false];refine X0 (Xw (Zf ht ?_));have ht0:∀o:Obj,(s.heap.push o).IsList t items:=λo=>by
  obtain⟨ob,ho,r⟩:=ht;exact⟨ob,X2 _ ho,r⟩
 refine X0 (Xw (kv3 c9 items.size 0 _ _ ⟨_,Xb _ rfl,rfl,rfl⟩ (ht0 _) (by omega) λh₁ mx rj=>?_));have ia:List.take items.size (List.drop 0 items.toList)=items.toList:=by
  rw[List.drop_zero];exact List.take_of_length_le (by simp)
 rw[ia];rw[X9 (by simp)];have ht₁:h₁.IsList t items:=by
  obtain⟨o,ho,r⟩:=ht0 _;exact⟨o,(rj.2 t c9).trans ho,r⟩
 refine X0 (Xw (wpAny_pyNext_list_end hh mx ht₁ (by simp) λh₂ he₂=>?_));simp only[Option.isSome_none,Bool.false_eq_true,if_false];exact X1 (hQ h₂ λb o hb e=>he₂ b o hb (rj.extBut b o hb (X2 _ e)))
theorem jx7{s:Shared}{env:Env}{fk:List Expr}{x1}{pos:Pos}{t:Addr}{items:Array Value}{Q:Unit->Shared->Prop}(hh:A.handled=none)(ht:s.heap.IsList t items)
  (hn:(assignEach fk env).length=items.size) (ot:(assignEach fk env).findIdx? (·.1)=none)
  (h:∀h',Heap.ExtBut s.heap.objs.size s.heap h'->wpAny (model prog w) A (assignInOrder ((assignEach fk env).map (·.2)) items.toList) Q E' { s with heap:=h' }):
  wpAny (model prog w) A (assign (.Tuple fk x1 pos) env (.ref t)) Q E' s:=by
 rw[assign_Tuple];refine X0 (wpAny_standAt ?_);unfold unpack;rw[hn,ot];exact X0 (Xw (jxe hh ht h))
end
theorem YJ(K:Frag){es:List Expr}{k:Nat}{t:TGs}{n:Nat}{pos:Pos}(h:PGs X es t)(hc:autoParam (X.calm=true) Ŕ)(hK:autoParam (X.K=K) Ŕ)
  (hn:autoParam ((assignEach es X.env).length=n) Ŕ) (bj:autoParam ((assignEach es X.env).findIdx? (·.1)=none) Ŕ):PG X (.Tuple es k pos) (wwk K n t):=by
 subst hK;intro pins s σ H v u Q I r hw;obtain⟨a,xs,e1,hq,hl,hw⟩:=hw;subst e1;cases r;rcases hq with hq|hq
 ·obtain⟨ac,rv,ht,hz⟩:=I.tuple hq;refine assign_Tuple_tuple (I.ok.hd hc) ht (by simp[hn,<-hl,rv.length]) bj λh' hx=>?_
  have I1:L2.Inv X pins σ H { s with heap:=h' }:=I.kept (t':=s.toks) λb o e=>hx b o (Xi (Xd e)) e
  exact h pins _ σ H xs _ Q I1 (by simpa using rv) hw
 ·obtain⟨ac,rv,ht,hz⟩:=I.list hq;refine jx7 (I.ok.hd hc) ht.isList (by simp[hn,<-hl,rv.length]) bj λh' hx=>?_
  have I1:L2.Inv X pins σ H { s with heap:=h' }:=I.kept (t':=s.toks) λb o e=>hx b o (Xi (Xd e)) e
  exact h pins _ σ H xs _ Q I1 (by simpa using rv) hw
theorem W7{is:List Nat}(h:PG X e (wwk Z.K is.length (gNs is)))(hp:autoParam (∀i∈is,i∉pn) ŕ):QG X Z pn (.t is) e:=vjj h λv σ H Q ⟨E,L,z,E',m,w,ho,hv,bq,k⟩=>by
 have fin:∀ds:List D,(z.d=.lst ds\/z.d=.tup ds)->setAll is ds E=some E'->wwk Z.K is.length (gNs is) v σ H Q:=λds hd bq=>by
  obtain⟨a,xs,bs,e1,q1,r,h1,h2⟩:=items w.head hd;rw[ho]at r;refine⟨a,xs,hv.symm.trans e1,?_,by rw[kj7 bq,r.len],qvl (M:=some z::L) m w.tail r (λb hb=>w.apart b (h1 b hb)) (λb hb=>?_) Step.drop Pn.refl bq hp k⟩
  ·rcases q1 with⟨_,z'⟩|⟨_,z'⟩
   ·exact .inr z'.sq
   ·exact .inl z'
  ·rw[qk,WV ho];exact ll9 _ (h1 b hb)
 cases hd:z.d with|tup ds=>rw[hd]at bq;exact fin ds (.inr hd) bq|lst ds=>rw[hd]at bq;exact fin ds (.inl hd) bq|_=>rw[hd]at bq;cases bq
end
section
variable {X:Cx}{Z:Fx0}{pn:List Nat}{q:Bool}{tg ao:Expr}{it:Ev (List D)}{t:Tg}{B:Sm}{ss:List Stmt}{pos:Pos}{σ:L2.St}{H:Hp}{L:Ls}{E:En}
theorem kje{K:Frag}{T:List Sl}{H1 H2:Hp}{L1:Ls}{z:Sl}(w:World K H1 (L1++T.map some))(hT:∀t∈T,t.o=.no)(sm:jJ H1 H2)(ok:z.ok K H2)(ho:z.o=.no)(hz:∀b∈z.as,∃t∈T,b∈t.as):
  World K H2 ((some z::L1)++T.map some)/\Step H1 (L1++T.map some) H2 ((some z::L1)++T.map some):=by
 have w2:World K H2 (L1++T.map some):=⟨λx hx=>RepO.kp (w.ok x hx) (Kp.of_same sm),w.nd,w.ds⟩;have hf:∀b∈z.as,b∈jz (L1++T.map some):=λb hb=>by
  obtain⟨t,ht,hbt⟩:=hz b hb;rw[k6];exact lr9 _ (mem_frozen.mpr ⟨t,Xr ht,by rw[WV (hT t ht)];exact hbt⟩)
 refine⟨w2.consNo ok ho λb hb hL=>w2.ds b hL (hf b hb),λa ob h _=>sm a ob h,λa ha=>?_,λa ha=>?_⟩
 ·rw[List.cons_append,jZ,qqc ho]at ha;exact .inl ha
 ·rw[List.cons_append,qk,WV ho]at ha;rcases aA ha with q|q
  ·exact .inl (hf a q)
  ·exact .inl q
theorem stay{K:Frag}{T L1 L2:Ls}{H1 H2:Hp}(w:World K H1 (L1++T))(s:Step H1 L1 H2 L2)(w2:World K H2 L2):World K H2 (L2++T)/\Step H1 (L1++T) H2 (L2++T):=⟨s.frame w w2 w.left,s.frm⟩
theorem Step.dropT{T:Ls}{H1:Hp}{L1:Ls}:Step H1 (L1++T) H1 L1:=⟨λ_ _ h _=>h,λa ha=>.inl (by rw[jx];exact ll9 _ ha),λa ha=>.inl (by rw[k6];exact ll9 _ ha)⟩
theorem Kp.trans{H H1 H2:Hp}{as:List Addr}(a:Kp H H1 as)(b:Kp H1 H2 as):Kp H H2 as:=⟨λc xs e=>b.1 c xs (a.1 c xs e),λc o u e=>b.2.1 c o u (a.2.1 c o u e),λc hc ob e=>b.2.2 c hc ob (a.2.2 c hc ob e)⟩
theorem kxd{K:Frag}{H2 H3:Hp}{L2 L3:Ls}{T:List Sl}(w:World K H2 (L2++T.map some))(hT:∀t∈T,t.o=.no)(s:Step H2 L2 H3 L3){H0:Hp}(h:∀t∈T,Kp H0 H2 t.as):∀t∈T,Kp H0 H3 t.as:=λt ht=>
 (h t ht).trans (s.kp w.left λb hb z=>w.ds b (by rw[jx];exact ll9 _ z) (by
  rw[k6];exact lr9 _ (mem_frozen.mpr ⟨t,Xr ht,by rw[WV (hT t ht)];exact hb⟩)))
theorem vz0(hp:PassesOwn (model X.prog X.w) X.A X.env X.xe)(hc:X.calm=true)(hi:QID X Z q tg it ao)(hg:QG X Z pn t tg)(hb:QSs X Z pn B ss)(hs:autoParam (∀x,foldedSetIterable ao X.env x=pure x) Ŗ):QS X Z pn (zq it t B) (.For tg ao ss [] pos):=zK (vze hp hc hi hg hb hs) λD σ H au=>ex7 au λE L r m w hr k=>by
 have hr:ofE (it E) (λE ds=>J0 t B ds E)=some r:=hr;rcases QX hr with⟨E1,ds,h1,h2⟩|⟨E1,c,h1,rfl⟩
 rotate_left
 ·exact⟨E,L,_,m,w,h1,k.xc,λE' s' z=>by cases z⟩
 refine⟨E,L,_,m,w,h1,(λ_ _ z=>by cases z),λE' ds' z J T L' H' m' w' st hz _ wk=>?_⟩;injection z with z1 z2;subst z1 z2;have okT:∀{H2:Hp} {L2:Ls},World Z.K H2 (L2++T.map some)->∀t∈T,t.ok Z.K H2:=λw2 t ht=>w2.ok t (lr9 _ (Xr ht))
 refine⟨λi n σ1 H1=>∃E1 L1,Mt E1 σ1 L1/\World Z.K H1 (L1++T.map some)/\Step H L H1 (L1++T.map some)/\Pn pn σ σ1/\J0 t B (ds.drop i) E1=some r/\i<=ds.length/\n=ds.length - i/\∀t∈T,Kp H' H1 t.as,⟨_,E1,L',m',w',st,Pn.refl,h2,Yh _,rfl,λ_ _=>Kp.of_same wx⟩,?_⟩;rintro i n σ1 H1 ⟨E1,L1,m1,w1,ij,p1,f1,hi,rfl,pins⟩
 by_cases c9:i<ds.length
 ·have hd:ds.drop i=ds[i]::ds.drop (i+1):=List.drop_eq_getElem_cons c9;rw [hd]at f1;unfold J0 at f1;cases bq:t.put ds[i] E1 with
  | none=>rw[bq]at f1;cases f1
  | some E2=>
   rw[bq]at f1;dsimp only at f1;refine .inr ⟨wk.go i H1 ⟨okT w1,pins⟩ c9,fun σ2 H2=>∃E2 L2,Mt E2 σ2 L2/\World Z.K H2 (L2++T.map some)/\Step H L H2 (L2++T.map some)/\Pn pn σ σ2/\J0 t B (ds.drop (i+1)) E2=some r/\∀t∈T,Kp H' H2 t.as,fun σ2 H2 ⟨E2,L2,a1,a2,a3,a4,a5,a6⟩=>⟨ds.length - (i+1),by omega,E2,L2,a1,a2,a3,a4,a5,c9,rfl,a6⟩,λv H2 hy=>?_⟩;obtain⟨z,zo,zd,zv,sm,pz,zas⟩:=wk.yld i H1 v H2 ds[i] ⟨okT w1,pins⟩ hy (X5 c9);obtain⟨wz,sz⟩:=kje w1 wk.no sm pz zo zas;refine⟨E1,L1,z,E2,m1,wz.left,zo,zv,by rw[zd];exact bq,fun σ2 L2 p2 m2 w2 bn=>?_⟩;obtain⟨w3,cx⟩:=stay wz bn w2;have gu:Step H L H2 (L2++T.map some):=ij.trans (sz.trans cx);have lw:∀t∈T,Kp H' H2 t.as:=λt ht=>(pins t ht).trans (Kp.of_same sm)
   cases hB:B E2 with
   | none=>rw[hB]at f1;cases f1
   | some g=>
    rw[hB]at f1;refine⟨E2,L2,g,m2,w2,hB,?_⟩;have fin:∀{g:Fl},g=r->(∀ σ',D.nx σ'=D.nx σ')->FlP Z pn D σ2 H2 (L2++T.map some) g:=λe _=>e▸k.step gu (p1.trans p2)
    cases g with
    |nx E3=>
     intro σ3 L3 H3 p3 m3 w4 s3;obtain⟨w5,s5⟩:=stay w3 s3 w4;exact⟨E3,L3,m3,w5,gu.trans s5,(p1.trans p2).trans p3,f1,kxd w3 wk.no s3 lw⟩
    |ct E3=>
     intro σ3 L3 H3 p3 m3 w4 s3;obtain⟨w5,s5⟩:=stay w3 s3 w4;exact⟨E3,L3,m3,w5,gu.trans s5,(p1.trans p2).trans p3,f1,kxd w3 wk.no s3 lw⟩
    |bk E3=>
     have e:=oq9 f1;subst e;intro σ3 L3 H3 p3 m3 w4 s3;exact k σ3 L3 H3 ((p1.trans p2).trans p3) m3 w4 ((gu.trans Step.dropT).trans s3)
    |rt E3 x=>
     have e:=oq9 f1;subst e;intro y σ3 L3 H3 e1 e2 p3 m3 w4 s3;exact k y σ3 L3 H3 e1 e2 ((p1.trans p2).trans p3) m3 w4 ((gu.trans Step.dropT).trans s3)
    |xc E3 c=>
     have e:=oq9 f1;subst e;intro C σ3 L3 H3 hm p3 m3 w4 s3;exact k C σ3 L3 H3 hm ((p1.trans p2).trans p3) m3 w4 ((gu.trans Step.dropT).trans s3)
 ·have e:i=ds.length:=by omega
  subst e;rw[List.drop_length]at f1;cases oq9 f1;exact .inl ⟨wk.stop H1 ⟨okT w1,pins⟩,k σ1 L1 H1 p1 m1 w1.left (ij.trans Step.dropT)⟩
theorem wvq(hp:PassesOwn (model X.prog X.w) X.A X.env X.xe)(hc:X.calm=true)(hi:QI X Z q tg it ao)(hg:QG X Z pn t tg)(hb:QSs X Z pn B ss)(hs:autoParam (∀x,foldedSetIterable ao X.env x=pure x) Ŗ):QS X Z pn (zq it t B) (.For tg ao ss [] pos):=vz0 hp hc hi.D hg hb hs
end
mutual
noncomputable def j5(h:Heap):D->Value->Prop
 |.non,u=>u=.none|.bl b,u=>u=.bool b|.int i,u=>∃t,u=.int i t|.str z,u=>∃t,u=.str z t|.tup ds,u=>∃a us,u=.ref a/\h.IsTuple a us.toArray/\CReps h ds us|.lst ds,u=>∃a us,u=.ref a/\h.IsList a us.toArray/\CReps h ds us|.dct _,_=>False|.obj _ _,_=>False
noncomputable def CReps(h:Heap):List D->List Value->Prop
 |[],us=>us=[]|d::ds,us=>∃u r,us=u::r/\j5 h d u/\CReps h ds r
end
theorem kz5{n:Nat}{k:List (D×D)}:D.flat n (.dct k)=false:=by cases n<;>simp[D.flat]
theorem kz4{n:Nat}{c:Str}{k:List (Str×D)}:D.flat n (.obj c k)=false:=by cases n<;>simp[D.flat]
section
variable {X:Cx}{pins:LA9}{σ:L2.St}{H:Hp}{s:Shared}
mutual
theorem Q4(I:Inv X pins σ H s){g:Bool}:∀{n:Nat} {d:D} {v:V} {as:List Addr} {u:Value},RepL X.K H g d v as->d.flat n=true->RelV v u->j5 s.heap d u
 | _,.non,_,_,_,h,_,r=>by
  unfold RepL at h;rw[h.1]at r;unfold j5;exact r
 | _,.bl _,_,_,_,h,_,r=>by
  unfold RepL at h;rw[h.1]at r;unfold j5;exact r
 | _,.int _,_,_,_,h,_,r=>by
  unfold RepL at h;rw[h.1]at r;unfold j5;exact r
 | _,.str _,_,_,_,h,_,r=>by
  unfold RepL at h;rw[h.1]at r;unfold j5;exact r
 | 0,.tup ds,_,_,_,h,f,r=>by unfold D.flat at f;cases f
 | n+1,.tup ds,_,_,_,h,f,r=>by
  unfold RepL at h;unfold D.flat at f;obtain⟨a,xs,rfl,q,ra⟩:=h;cases r;obtain⟨ac,rv,p,_⟩:=I.tuple q;unfold j5;exact⟨a,ac,rfl,p,creps_of I ra f rv⟩
 | 0,.lst ds,_,_,_,h,f,r=>by unfold D.flat at f;cases f
 | n+1,.lst ds,_,_,_,h,f,r=>by
  unfold RepL at h;unfold D.flat at f;obtain⟨a,xs,bs,rfl,ra,q⟩:=h;cases r;have q':SqL X.K H a xs:=by
   rcases q with⟨q,_⟩|⟨_,q,_⟩
   ·exact SqL.of q
   ·exact(LsR.of q).sq
  obtain⟨ac,rv,p,_⟩:=I.list q';unfold j5;exact⟨a,ac,rfl,p.isList,creps_of I ra f rv⟩
 |_,.dct _,_,_,_,h,f,r=>by rw[kz5]at f;cases f|_,.obj _ _,_,_,_,h,f,r=>by rw[kz4]at f;cases f
theorem creps_of(I:Inv X pins σ H s){g:Bool}:∀{n:Nat} {ds:List D} {xs:List V} {as:List Addr} {us:List Value},RepA X.K H g ds xs as->D.flats n ds=true->Vals xs us->CReps s.heap ds us
 | _,[],_,_,_,h,_,r=>by
  unfold RepA at h;rw[h.1]at r;cases r;unfold CReps;rfl
 | n,d::ds,_,_,_,h,f,r=>by
  unfold RepA at h;unfold D.flats at f;rw[Bool.and_eq_true]at f;obtain⟨x,rr,bs,cs,rfl,rfl,h1,h2⟩:=h;cases r with
  |cons r1 r2=>
   unfold CReps;exact⟨_,_,rfl,Q4 I h1 f.1 r1,creps_of I h2 f.2 r2⟩
end
end
theorem CReps.len{h:Heap}:∀{ds:List D} {us:List Value},CReps h ds us->ds.length=us.length
 |[],_,r=>by unfold CReps at r;rw[r];rfl
 |d::ds,_,r=>by
  unfold CReps at r;obtain⟨u,rr,rfl,_,h2⟩:=r;simp[CReps.len h2]
theorem CReps.get{h:Heap}:∀{ds:List D} {us:List Value} {j:Nat} {d:D},CReps h ds us->ds[j]?=some d->∃u,us[j]?=some u/\j5 h d u
 | [],_,_,_,_,e=>by simp at e
 | d::ds,_,j,d',r,e=>by
  unfold CReps at r;obtain⟨u,rr,rfl,h1,h2⟩:=r;cases j with
  |zero=>
   have e:d=d':=by simpa using e
   subst e;exact⟨u,by simp,h1⟩
  |succ j=>
   obtain⟨w,e1,e2⟩:=CReps.get (j:=j) h2 (by simpa using e);exact⟨w,by simpa using e1,e2⟩
theorem vki{h:Heap}{a:Addr}{x y:Array Value}(p:h.IsTuple a x)(q:h.IsTuple a y):x=y:=by
 obtain⟨o,h1,_,n,h2⟩:=p;obtain⟨o',h3,_,n',h4⟩:=q;rw[h1]at h3;cases h3;rw[h2]at h4;injection h4
theorem vv6{h:Heap}{a:Addr}{x y:Array Value}(p:h.IsList a x)(q:h.IsList a y):x=y:=by
 obtain⟨o,h1,_,n,h2⟩:=p;obtain⟨o',h3,_,n',h4⟩:=q;rw[h1]at h3;cases h3;rw[h2]at h4;injection h4
theorem qqt{h:Heap}{a:Addr}{x y:Array Value}(p:h.IsList a x)(q:h.IsTuple a y):False:=by
 obtain⟨o,h1,h2,_⟩:=p;obtain⟨o',h3,h4,_⟩:=q;rw[h1]at h3;cases h3;rw[h2]at h4;exact absurd (Value.type.inj h4) ⋯
mutual
theorem jxr{h:Heap}:∀{d d':D} {u:Value},j5 h d u->j5 h d' u->d=d'
 | .non,d',u,a,b=>by
  unfold j5 at a;subst a;cases d'<;>unfold j5 at b<;>first|rfl|exact b.elim|(cases b;done)|(obtain⟨_,b⟩:=b;cases b;done)|(obtain⟨_,_,b,_⟩:=b;cases b)
 | .bl k,d',u,a,b=>by
  unfold j5 at a;subst a;cases d'<;>unfold j5 at b<;>first|exact b.elim|(cases b;rfl)|(cases b;done)|(obtain⟨_,b⟩:=b;cases b;done)|(obtain⟨_,_,b,_⟩:=b;cases b)
 | .int k,d',u,a,b=>by
  unfold j5 at a;obtain⟨t,rfl⟩:=a;cases d'<;>unfold j5 at b<;>first|exact b.elim|(cases b;done)|(obtain⟨_,b⟩:=b;cases b;rfl)|(obtain⟨_,b⟩:=b;cases b;done)|(obtain⟨_,_,b,_⟩:=b;cases b)
 | .str k,d',u,a,b=>by
  unfold j5 at a;obtain⟨t,rfl⟩:=a;cases d'<;>unfold j5 at b<;>first|exact b.elim|(cases b;done)|(obtain⟨_,b⟩:=b;cases b;rfl)|(obtain⟨_,b⟩:=b;cases b;done)|(obtain⟨_,_,b,_⟩:=b;cases b)
 | .tup ds,d',u,a,b=>by
  unfold j5 at a;obtain⟨x,us,rfl,p,r⟩:=a;cases d' with
  |tup es=>
   unfold j5 at b;obtain⟨y,ws,e,p',r'⟩:=b;cases e;have e2:us=ws:=by simpa using vki p p'
   subst e2;rw[creps_inj r r']
  |lst es=>
   unfold j5 at b;obtain⟨y,ws,e,p',r'⟩:=b;cases e;exact(qqt p' p).elim
  |non=>unfold j5 at b;cases b|bl k=>unfold j5 at b;cases b|int k=>unfold j5 at b;obtain⟨_,b⟩:=b;cases b|str k=>unfold j5 at b;obtain⟨_,b⟩:=b;cases b|dct k=>unfold j5 at b;exact b.elim|obj k l=>unfold j5 at b;exact b.elim
 | .lst ds,d',u,a,b=>by
  unfold j5 at a;obtain⟨x,us,rfl,p,r⟩:=a;cases d' with
  |lst es=>
   unfold j5 at b;obtain⟨y,ws,e,p',r'⟩:=b;cases e;have e2:us=ws:=by simpa using vv6 p p'
   subst e2;rw[creps_inj r r']
  |tup es=>
   unfold j5 at b;obtain⟨y,ws,e,p',r'⟩:=b;cases e;exact(qqt p p').elim
  |non=>unfold j5 at b;cases b|bl k=>unfold j5 at b;cases b|int k=>unfold j5 at b;obtain⟨_,b⟩:=b;cases b|str k=>unfold j5 at b;obtain⟨_,b⟩:=b;cases b|dct k=>unfold j5 at b;exact b.elim|obj k l=>unfold j5 at b;exact b.elim
 |.dct k,_,_,a,_=>by unfold j5 at a;exact a.elim|.obj k l,_,_,a,_=>by unfold j5 at a;exact a.elim
theorem creps_inj{h:Heap}:∀{ds ds':List D} {us:List Value},CReps h ds us->CReps h ds' us->ds=ds'
 | [],ds',us,a,b=>by
  unfold CReps at a;subst a;cases ds' with|nil=>rfl|cons d ds=>unfold CReps at b;obtain⟨_,_,e,_⟩:=b;cases e
 | d::ds,ds',us,a,b=>by
  unfold CReps at a;obtain⟨u,r,rfl,h1,h2⟩:=a;cases ds' with
  |nil=>unfold CReps at b;cases b
  |cons d' ds'=>
   unfold CReps at b;obtain⟨u',r',e,h3,h4⟩:=b;cases e;rw[jxr h1 h3,creps_inj h2 h4]
end
mutual
theorem Zx:∀{n:Nat} {d:D},d.flat n=true->peq d d=true
 |_,.non,_=>by unfold peq;rfl|_,.bl b,_=>by unfold peq;simp|_,.int b,_=>by unfold peq;simp|_,.str b,_=>by unfold peq;simp|0,.tup ds,f=>by unfold D.flat at f;cases f|n+1,.tup ds,f=>by unfold peq;unfold D.flat at f;exact peqs_refl f|0,.lst ds,f=>by unfold D.flat at f;cases f|n+1,.lst ds,f=>by unfold peq;unfold D.flat at f;exact peqs_refl f|_,.dct _,f=>by rw[kz5]at f;cases f|_,.obj _ _,f=>by rw[kz4]at f;cases f
theorem peqs_refl:∀{n:Nat} {d:List D},D.flats n d=true->peqs d d=true
 |_,[],_=>by unfold peqs;rfl
 |n,d::ds,f=>by
  unfold D.flats at f;rw[Bool.and_eq_true]at f;unfold peqs;rw[Zx f.1,peqs_refl f.2];rfl
end
theorem jwh : ∀{n : Nat} {ds : List D} {j : Nat} {d : D}, D.flats n ds = true -> ds[j]? = some d -> d.flat n = true
  | _, [], _, _, _, e=>by simp at e
  | n, d::ds, j, d', f, e=>by
    unfold D.flats at f;rw[Bool.and_eq_true]at f;cases j with
    | zero => have e : d = d':= by simpa using e
              subst e; exact f.1
    |succ j=>exact jwh (j:= j) f.2 (by simpa using e)
def pAt(as bs:List D)(j:Nat):Bool:=match as[j]?,bs[j]? with
 |some a,some b=>peq a b|_,_=>true
theorem jvh:∀(as bs:List D),as.length=bs.length->(List.range as.length).all (pAt as bs)=peqs as bs
 |[],[],_=>by unfold peqs;rfl
 |a::as,b::bs,h=>by
  have ih:=jvh as bs (by simpa using h);rw[Xf,List.range_succ_eq_map,List.all_cons,List.all_map];unfold peqs;rw[<-ih];rfl
 |[],_::_,h=>by simp at h|_::_,[],h=>by simp at h
theorem jxn:∀(as bs:List D),as.length≠bs.length->peqs as bs=false
 |[],[],h=>by simp at h
 |a::as,b::bs,h=>by
  unfold peqs;rw[jxn as bs (by simpa using h),Bool.and_false]
 |[],_::_,_=>by unfold peqs;rfl|_::_,[],_=>by unfold peqs;rfl
theorem kws(as bs:List D):((List.range (min as.length bs.length)).all (pAt as bs)&&as.length==bs.length)=peqs as bs:=by
 by_cases e:as.length=bs.length
 ·rw[<-e,Nat.min_self,jvh as bs e];simp[e]
 ·rw[jxn as bs e];have:(as.length==bs.length)=false:=by simpa using e
  rw[this,Bool.and_false]
section
variable {s:Shared}
theorem kvy{as bs:List D}{us ws:List Value}{A:Around}(ra:CReps s.heap as us)(rb:CReps s.heap bs ws)
  (h:∀(j:Nat) (d d':D) (u w:Value),as[j]?=some d->bs[j]?=some d'->j5 s.heap d u->j5 s.heap d' w->SeqAt.EqAt A s u w (peq d d')):
  ∀j (h1:j<us.toArray.size) (h2:j<ws.toArray.size),SeqAt.EqAt A s us.toArray[j] ws.toArray[j] (pAt as bs j):=λj h1 h2=>by
 have l1:=ra.len;have l2:=rb.len;simp only[X8]at h1 h2;have ha:j<as.length:=⋯
 have hb:j<bs.length:=⋯
 obtain⟨u,eu,ru⟩:=ra.get (X5 ha);obtain⟨w,ew,iy⟩:=rb.get (X5 hb);have e1:us.toArray[j]=u:=by
  obtain⟨_,q⟩:=List.getElem?_eq_some_iff.mp eu
  simpa using q
 have e2:ws.toArray[j]=w:=by
  obtain⟨_,q⟩:=List.getElem?_eq_some_iff.mp ew
  simpa using q
 have e3:pAt as bs j=peq as[j] bs[j]:=by
  unfold pAt;rw[X5 ha,X5 hb]
 rw[e1,e2,e3];exact h j _ _ u w (X5 ha) (X5 hb) ru iy
inductive Cv (h:Heap):D->Value->Prop
 |non:Cv h .non .none
 |bl (b:Bool):Cv h (.bl b) (.bool b)
 |int (i:Int) (t:_):Cv h (.int i) (.int i t)
 |str (z:Str) (t:_):Cv h (.str z) (.str z t)
 |lst {ds:List D} {a:Addr} {us:List Value} (p:h.IsList a us.toArray) (q:CReps h ds us):Cv h (.lst ds) (.ref a)
 |tup {ds:List D} {a:Addr} {us:List Value} (p:h.IsTuple a us.toArray) (q:CReps h ds us):Cv h (.tup ds) (.ref a)
theorem crv{h:Heap}{d:D}{u:Value}(r:j5 h d u):Cv h d u:=by
 cases d<;>unfold j5 at r
 all_goals first|exact r.elim|(subst r;constructor)|(obtain⟨_,rfl⟩:=r;constructor)|(obtain⟨_,_,rfl,p,q⟩:=r;first|exact .lst p q|exact .tup p q)
theorem vxf{A:Around}{d d':D}{u w:Value}(hu:A.units<cLine)(r:j5 s.heap d u)(r':j5 s.heap d' w)
  (el:∀(as bs:List D) (us ws:List Value),(d=.lst as\/d=.tup as)->(d'=.lst bs\/d'=.tup bs)->CReps s.heap as us->CReps s.heap bs ws->∀j (h1:j<us.toArray.size) (h2:j<ws.toArray.size),SeqAt.EqAt A.in1 s us.toArray[j] ws.toArray[j] (pAt as bs j)):
  SeqAt.RcAt A s u w (peq d d'):=by
 cases crv r<;>cases crv r'<;>unfold peq
 ·exact SeqAt.RcAt.none_none
 ·exact SeqAt.RcAt.none_bool _
 ·exact SeqAt.RcAt.none_int _ _
 ·exact SeqAt.RcAt.none_str _ _
 ·exact SeqAt.RcAt.none_list ‹_› hu
 ·exact SeqAt.RcAt.none_tuple ‹_› hu
 ·exact SeqAt.RcAt.bool_none _
 ·exact SeqAt.RcAt.bool_bool _ _
 ·exact SeqAt.RcAt.bool_int _ _ _
 ·exact SeqAt.RcAt.bool_str _ _ _
 ·exact SeqAt.RcAt.bool_list _ ‹_› hu
 ·exact SeqAt.RcAt.bool_tuple _ ‹_› hu
 ·exact SeqAt.RcAt.int_none _ _
 ·exact SeqAt.RcAt.int_bool _ _ _
 ·exact SeqAt.RcAt.int_int _ _ _ _
 ·exact SeqAt.RcAt.int_str _ _ _ _
 ·exact SeqAt.RcAt.int_list _ _ ‹_› hu
 ·exact SeqAt.RcAt.int_tuple _ _ ‹_› hu
 ·exact SeqAt.RcAt.str_none _ _
 ·exact SeqAt.RcAt.str_bool _ _ _
 ·exact SeqAt.RcAt.str_int _ _ _ _
 ·exact SeqAt.RcAt.str_str _ _ _ _
 ·exact SeqAt.RcAt.str_list _ _ ‹_› hu
 ·exact SeqAt.RcAt.str_tuple _ _ ‹_› hu
 ·exact SeqAt.RcAt.list_none ‹_› hu
 ·exact SeqAt.RcAt.list_bool _ ‹_› hu
 ·exact SeqAt.RcAt.list_int _ _ ‹_› hu
 ·exact SeqAt.RcAt.list_str _ _ ‹_› hu
 ·rename_i as a us p ra bs b ws p' rb;have l1:=ra.len;have l2:=rb.len
  by_cases hl:as.length=bs.length
  ·rw[<-jvh as bs hl];have z:=SeqAt.RcAt.lists (A:=A) (s:=s) (e:=pAt as bs) p p' (by simp only[X8];lia) hu (el as bs us ws (.inl rfl) (.inl rfl) ra rb);rw[X8,<-l1]at z;exact z
  ·rw[jxn as bs hl];exact SeqAt.RcAt.lists_lengths p p' (by simp only[X8,bne_iff_ne];lia) hu
 ·exact SeqAt.RcAt.list_tuple ‹_› ‹_› hu
 ·exact SeqAt.RcAt.tuple_none ‹_› hu
 ·exact SeqAt.RcAt.tuple_bool _ ‹_› hu
 ·exact SeqAt.RcAt.tuple_int _ _ ‹_› hu
 ·exact SeqAt.RcAt.tuple_str _ _ ‹_› hu
 ·exact SeqAt.RcAt.tuple_list ‹_› ‹_› hu
 ·rename_i as a us p ra bs b ws p' rb;have l1:=ra.len;have l2:=rb.len;rw[<-kws as bs];have z:=SeqAt.RcAt.tuples (A:=A) (s:=s) (e:=pAt as bs) p p' hu (el as bs us ws (.inr rfl) (.inr rfl) ra rb);rw[X8,X8,<-l1,<-l2]at z;exact z
theorem wvd{A:Around}{d d':D}{u w:Value}(hu:A.units<cLine)(r:j5 s.heap d u)(r':j5 s.heap d' w)
  (el:∀(as bs:List D) (us ws:List Value),(d=.lst as\/d=.tup as)->(d'=.lst bs\/d'=.tup bs)->CReps s.heap as us->CReps s.heap bs ws->∀j (h1:j<us.toArray.size) (h2:j<ws.toArray.size),SeqAt.EqAt A.in1 s us.toArray[j] ws.toArray[j] (pAt as bs j)):
  SeqAt.RcNeAt A s u w (!peq d d'):=by
 cases crv r<;>cases crv r'<;>unfold peq
 ·exact SeqAt.RcNeAt.none_none
 ·exact SeqAt.RcNeAt.none_bool _
 ·exact SeqAt.RcNeAt.none_int _ _
 ·exact SeqAt.RcNeAt.none_str _ _
 ·exact SeqAt.RcNeAt.none_list ‹_› hu
 ·exact SeqAt.RcNeAt.none_tuple ‹_› hu
 ·exact SeqAt.RcNeAt.bool_none _
 ·exact SeqAt.RcNeAt.bool_bool _ _
 ·exact SeqAt.RcNeAt.bool_int _ _ _
 ·exact SeqAt.RcNeAt.bool_str _ _ _
 ·exact SeqAt.RcNeAt.bool_list _ ‹_› hu
 ·exact SeqAt.RcNeAt.bool_tuple _ ‹_› hu
 ·exact SeqAt.RcNeAt.int_none _ _
 ·exact SeqAt.RcNeAt.int_bool _ _ _
 ·exact SeqAt.RcNeAt.int_int _ _ _ _
 ·exact SeqAt.RcNeAt.int_str _ _ _ _
 ·exact SeqAt.RcNeAt.int_list _ _ ‹_› hu
 ·exact SeqAt.RcNeAt.int_tuple _ _ ‹_› hu
 ·exact SeqAt.RcNeAt.str_none _ _
 ·exact SeqAt.RcNeAt.str_bool _ _ _
 ·exact SeqAt.RcNeAt.str_int _ _ _ _
 ·exact SeqAt.RcNeAt.str_str _ _ _ _
 ·exact SeqAt.RcNeAt.str_list _ _ ‹_› hu
 ·exact SeqAt.RcNeAt.str_tuple _ _ ‹_› hu
 ·exact SeqAt.RcNeAt.list_none ‹_› hu
 ·exact SeqAt.RcNeAt.list_bool _ ‹_› hu
 ·exact SeqAt.RcNeAt.list_int _ _ ‹_› hu
 ·exact SeqAt.RcNeAt.list_str _ _ ‹_› hu
 ·rename_i as a us p ra bs b ws p' rb;have l1:=ra.len;have l2:=rb.len
  by_cases hl:as.length=bs.length
  ·rw[<-jvh as bs hl];have z:=SeqAt.RcNeAt.lists (A:=A) (s:=s) (e:=pAt as bs) p p' (by simp only[X8];lia) hu (el as bs us ws (.inl rfl) (.inl rfl) ra rb);rw[X8,<-l1]at z;exact z
  ·rw[jxn as bs hl];exact SeqAt.RcNeAt.lists_lengths p p' (by simp only[X8,bne_iff_ne];lia) hu
 ·exact SeqAt.RcNeAt.list_tuple ‹_› ‹_› hu
 ·exact SeqAt.RcNeAt.tuple_none ‹_› hu
 ·exact SeqAt.RcNeAt.tuple_bool _ ‹_› hu
 ·exact SeqAt.RcNeAt.tuple_int _ _ ‹_› hu
 ·exact SeqAt.RcNeAt.tuple_str _ _ ‹_› hu
 ·exact SeqAt.RcNeAt.tuple_list ‹_› ‹_› hu
 ·rename_i as a us p ra bs b ws p' rb;have l1:=ra.len;have l2:=rb.len;rw[<-kws as bs];have z:=SeqAt.RcNeAt.tuples (A:=A) (s:=s) (e:=pAt as bs) p p' hu (el as bs us ws (.inr rfl) (.inr rfl) ra rb);rw[X8,X8,<-l1,<-l2]at z;exact z
theorem kkm{A:Around}{a a':Addr}{b:Bool}(kt:Value.ref a=Value.ref a'->b=true)(rc:SeqAt.RcAt A s (.ref a) (.ref a') b):SeqAt.EqAt A s (.ref a) (.ref a') b:=by
 by_cases e:a=a'
 ·subst e;rw[kt rfl];exact SeqAt.EqAt.same _
 ·exact SeqAt.EqAt.of_refs e rc
theorem wwp{A:Around}{d d':D}{u w:Value}(hu:A.units<cLine)(r:j5 s.heap d u)(r':j5 s.heap d' w)(kt:u=w->peq d d'=true)(rc:SeqAt.RcAt A s u w (peq d d')):SeqAt.EqAt A s u w (peq d d'):=by
 cases crv r<;>cases crv r'<;>try unfold peq
 ·exact SeqAt.EqAt.same _
 ·exact SeqAt.EqAt.none_bool _
 ·exact SeqAt.EqAt.none_int _ _
 ·exact SeqAt.EqAt.none_str _ _
 ·exact SeqAt.EqAt.none_list ‹_› hu
 ·exact SeqAt.EqAt.none_tuple ‹_› hu
 ·exact SeqAt.EqAt.bool_none _
 ·exact SeqAt.EqAt.bool_bool _ _
 ·exact SeqAt.EqAt.bool_int _ _ _
 ·exact SeqAt.EqAt.bool_str _ _ _
 ·exact SeqAt.EqAt.bool_list _ ‹_› hu
 ·exact SeqAt.EqAt.bool_tuple _ ‹_› hu
 ·exact SeqAt.EqAt.int_none _ _
 ·exact SeqAt.EqAt.int_bool _ _ _
 ·exact SeqAt.EqAt.int_int _ _ _ _
 ·exact SeqAt.EqAt.int_str _ _ _ _
 ·exact SeqAt.EqAt.int_list _ _ ‹_› hu
 ·exact SeqAt.EqAt.int_tuple _ _ ‹_› hu
 ·exact SeqAt.EqAt.str_none _ _
 ·exact SeqAt.EqAt.str_bool _ _ _
 ·exact SeqAt.EqAt.str_int _ _ _ _
 ·exact SeqAt.EqAt.str_str _ _ _ _
 ·exact SeqAt.EqAt.str_list _ _ ‹_› hu
 ·exact SeqAt.EqAt.str_tuple _ _ ‹_› hu
 ·exact SeqAt.EqAt.list_none ‹_› hu
 ·exact SeqAt.EqAt.list_bool _ ‹_› hu
 ·exact SeqAt.EqAt.list_int _ _ ‹_› hu
 ·exact SeqAt.EqAt.list_str _ _ ‹_› hu
 ·exact kkm kt rc
 ·exact kkm kt rc
 ·exact SeqAt.EqAt.tuple_none ‹_› hu
 ·exact SeqAt.EqAt.tuple_bool _ ‹_› hu
 ·exact SeqAt.EqAt.tuple_int _ _ ‹_› hu
 ·exact SeqAt.EqAt.tuple_str _ _ ‹_› hu
 ·exact kkm kt rc
 ·exact kkm kt rc
theorem K9:∀(n:Nat) {d d':D} {u w:Value} {A:Around},d.flat n=true->j5 s.heap d u->j5 s.heap d' w->A.units+n<cLine->SeqAt.EqAt A s u w (peq d d')
 | n,d,d',u,w,A,f,r,r',hu=>by
  refine wwp ⋯ r r' (λe=>?_) (vxf ⋯ r r' λas bs us ws h1 h2 ra rb=>?_)
  rotate_left
  ·cases n with
   |zero=>rcases h1 with rfl|rfl<;>(unfold D.flat at f;cases f)
   |succ n=>
    have fs:D.flats n as=true:=by rcases h1 with rfl|rfl<;>(unfold D.flat at f;exact f)
    exact kvy ra rb λj d d' u w e1 e2 q1 q2=>K9 n (jwh fs e1) q1 q2 (by have:=L3.in1_units A;lia)
  ·subst e;rw[jxr r' r];exact Zx f
end
section
variable {X:Cx}{Z:Fx0}{K:Frag}
def wxl(K:Frag):R2:=λx y H Q=>∃d d' as bs,RepL K H true d x as/\RepL K H true d' y bs/\d.flat 40=true/\d'.flat 40=true/\Q (.bl (peq d d')) H
def wxe(K:Frag):R2:=λx y H Q=>∃d d' as bs,RepL K H true d x as/\RepL K H true d' y bs/\d.flat 40=true/\d'.flat 40=true/\Q (.bl (!peq d d')) H
theorem V1(hu:X.A.units+64<cLine)(hK:autoParam (X.K=K) Ŕ):OpR X (compareOp .Eq) (wxl K):=by
 subst hK;intro pins s σ H x y v u Q I rx ry h;obtain⟨d,d',as,bs,h1,h2,f1,f2,q⟩:=h;have c1:=Q4 I h1 f1 rx;have c2:=Q4 I h2 f2 ry;refine vxf ⋯ c1 c2 (λas bs us ws e1 e2 ra rb=>kvy ra rb λj d d' u w e3 e4 q1 q2=>?_) _ _ _ _ ⟨.bl _,H,I,rfl,q⟩;have fs:D.flats 39 as=true:=by rcases e1 with rfl|rfl<;>(unfold D.flat at f1;exact f1)
 exact K9 39 (jwh fs e3) q1 q2 (by have:=L3.in1_units X.A;lia)
theorem WX(hu:X.A.units+64<cLine)(hK:autoParam (X.K=K) Ŕ):OpR X (compareOp .NotEq) (wxe K):=by
 subst hK;intro pins s σ H x y v u Q I rx ry h;obtain⟨d,d',as,bs,h1,h2,f1,f2,q⟩:=h;have c1:=Q4 I h1 f1 rx;have c2:=Q4 I h2 f2 ry;refine wvd ⋯ c1 c2 (λas bs us ws e1 e2 ra rb=>kvy ra rb λj d d' u w e3 e4 q1 q2=>?_) _ _ _ _ ⟨.bl _,H,I,rfl,q⟩;have fs:D.flats 39 as=true:=by rcases e1 with rfl|rfl<;>(unfold D.flat at f1;exact f1)
 exact K9 39 (jwh fs e3) q1 q2 (by have:=L3.in1_units X.A;lia)
theorem Qj:Ad2 K (wxl K) (pu2 fEq):=by
 intro H x y s Q ox oy hf k;unfold pu2 fEq at hf;dsimp only at hf
 by_cases hc:(x.d.flat 40&&y.d.flat 40)=true
 ·rw[X7 hc]at hf;rw[Bool.and_eq_true]at hc;cases oq9 hf;exact⟨x.d,y.d,x.as,y.as,RepO.wk ox,RepO.wk oy,hc.1,hc.2,k ⟨.dp,.bl _,.bl _,[]⟩ H rfl rfl v8⟩
 ·rw[X9 hc]at hf;cases hf
theorem Zz:Ad2 K (wxe K) (pu2 fNe):=by
 intro H x y s Q ox oy hf k;unfold pu2 fNe at hf;dsimp only at hf
 by_cases hc:(x.d.flat 40&&y.d.flat 40)=true
 ·rw[X7 hc]at hf;rw[Bool.and_eq_true]at hc;cases oq9 hf;exact⟨x.d,y.d,x.as,y.as,RepO.wk ox,RepO.wk oy,hc.1,hc.2,k ⟨.dp,.bl _,.bl _,[]⟩ H rfl rfl v8⟩
 ·rw[X9 hc]at hf;cases hf
end
mutual
noncomputable def KK:D->Nat
 |.tup xs=>drwDs xs+1|_=>1
noncomputable def drwDs:List D->Nat
 |[]=>0|a::x=>KK a+drwDs x
end
mutual
theorem jxq:∀{n:Nat} {d:D},j7 n d=true->d.flat n=true
 |n,.non,_=>by cases n<;>rfl|n,.bl _,h=>by cases n<;>(unfold j7 at h;cases h)|n,.int _,_=>by cases n<;>rfl|n,.str _,_=>by cases n<;>rfl|0,.tup _,h=>by unfold j7 at h;cases h|n+1,.tup xs,h=>by unfold j7 at h;unfold D.flat;exact keys_flat h|n,.lst _,h=>by cases n<;>(unfold j7 at h;cases h)|n,.dct _,h=>by cases n<;>(unfold j7 at h;cases h)|n,.obj _ _,h=>by cases n<;>(unfold j7 at h;cases h)
theorem keys_flat:∀{n:Nat} {ds:List D},keyDs n ds=true->D.flats n ds=true
 |_,[],_=>by unfold D.flats;rfl
 |n,a::x,h=>by
  unfold keyDs at h;rw[Bool.and_eq_true]at h;unfold D.flats;rw[jxq h.1,keys_flat h.2];rfl
end
mutual
theorem Wz:∀{n m:Nat} {a b:D},j7 n a=true->j7 m b=true->peq a b=decide (a=b)
 | n,m,.non,b,_,hb=>by
  cases b with| non=>simp[peq]| int _=>simp[peq]| str _=>simp[peq]| tup _=>simp[peq]| _=>cases m<;>(unfold j7 at hb;cases hb)
 | n,m,.int i,b,_,hb=>by
  cases b with| non=>simp[peq]| int j=>by_cases h:i=j<;>simp[peq,h]| str _=>simp[peq]| tup _=>simp[peq]| _=>cases m<;>(unfold j7 at hb;cases hb)
 | 0,_,.tup _,_,ha,_=>by unfold j7 at ha;cases ha
 | n+1,m,.tup xs,b,ha,hb=>by
  cases b with
  | non=>simp[peq]| int j=>simp[peq]| str j=>simp[peq]
  | tup ys=>
   cases m with
   |zero=>unfold j7 at hb;cases hb
   |succ m=>
    unfold j7 at ha hb;have:=keys_peq ha hb;rw[show peq (.tup xs) (.tup ys)=peqs xs ys by simp[peq],this]
    by_cases h:xs=ys<;>simp[h]
  |_=>cases m<;>(unfold j7 at hb;cases hb)
 |n,_,.bl _,_,ha,_=>by cases n<;>(unfold j7 at ha;cases ha)
 |n,m,.str i,b,_,hb=>by
  cases b with|non=>simp[peq]|int j=>simp[peq]|str j=>by_cases h:i=j<;>simp[peq,h]|tup _=>simp[peq]|_=>cases m<;>(unfold j7 at hb;cases hb)
 |n,_,.lst _,_,ha,_=>by cases n<;>(unfold j7 at ha;cases ha)|n,_,.dct _,_,ha,_=>by cases n<;>(unfold j7 at ha;cases ha)|n,_,.obj _ _,_,ha,_=>by cases n<;>(unfold j7 at ha;cases ha)
theorem keys_peq:∀{n m:Nat} {a b:List D},keyDs n a=true->keyDs m b=true->peqs a b=decide (a=b)
 |_,_,[],[],_,_=>by simp[peqs]|_,_,[],_::_,_,_=>by simp[peqs]|_,_,_::_,[],_,_=>by simp[peqs]
 |n,m,a::x,b::y,ha,hb=>by
  unfold keyDs at ha hb;rw[Bool.and_eq_true]at ha hb;rw[show peqs (a::x) (b::y)=(peq a b&&peqs x y)by simp[peqs],Wz ha.1 hb.1,keys_peq ha.2 hb.2]
  by_cases h1:a=b<;>by_cases h2:x=y<;>simp[h1,h2]
end
section
variable {prog:Program}{w:PySem.World}{A:Around}{E:VP9}{s:Shared}
theorem kz3{Q:Int->Shared->Prop}(h:Q 4238894112 { s with toks:=s.toks+1 }):wpAny (model prog w) A (pyHash .none) Q E s:=by
 have ty:s.TypeIs Value.none "NoneType":=rfl;unfold pyHash;unfold pyHashByItsType;refine X0 ?_;rw[cRoomFor,X9 (show ¬([Value.none].any Value.onHeap)=true by decide)];refine X1 (X0 (Z0 ty F.slot_NoneType_hash.lookup ?_));show wpAny _ _ (if(some (Value.builtin "NoneType.__hash__")==some Value.none)=true then _ else _) Q E s;rw[X9 (show ¬(some (Value.builtin "NoneType.__hash__")==some Value.none)=true by rw[beq_builtin_none];exact Bool.false_ne_true)];refine X0 (Z0 ty F.slot_NoneType_hash.lookup ?_);show wpAny _ _ (callSpecialIfBoundUnlessNone? Value.none "__hash__" _ >>= _) Q E s;refine X0 (wpAny_callSpecialIfBoundUnlessNone?_slot ty F.slot_NoneType_hash (Y9 F.slot_NoneType_hash ty F.entry_NoneType_hash ?_ (F.args_NoneType_hash_1 _)));show wpAny _ _ (retInt 4238894112) _ _ s;refine wpAny_ret_mkInt ?_;show wpAny _ _ (if(decide (-(2:Int) ^ 63<=(4238894112:Int))&&decide ((4238894112:Int)<2 ^ 63))=true then _ else _) Q E _;rw[X7 ⋯];exact X1 h
theorem jzk{d:D}:∀ds:List D,hashDs w (ds++[d])=hashDs w ds++[K7 w d]
 |[]=>by simp[hashDs]|a::x=>by rw[List.cons_append,hashDs,hashDs,jzk x];rfl
theorem kjh{d:D}:∀ds:List D,drwDs (ds++[d])=drwDs ds+KK d
 |[]=>by simp[drwDs]|a::x=>by rw[List.cons_append,drwDs,drwDs,kjh x];lia
theorem wk7:∀(n:Nat) {d:D} {u:Value} {A:Around} {s:Shared} {Q:Int->Shared->Prop},j7 n d=true->j5 s.heap d u->A.units+4*n<cLine->Q (K7 w d) { s with toks:=s.toks+KK d }->wpAny (model prog w) A (pyHash u) Q E s:=by
 intro n
 induction n with
 | zero=>
  intro d u A s Q hk hr hu h;cases d with| non=>unfold j5 at hr;subst hr;exact kz3 h| int i=>unfold j5 at hr;obtain⟨t,rfl⟩:=hr;exact wpAny_pyHash_int h| str i=>unfold j5 at hr;obtain⟨t,rfl⟩:=hr;exact wpAny_pyHash_str h| _=>unfold j7 at hk;cases hk
 | succ n ih=>
  intro d u A s Q hk hr hu h;cases d with
  | non=>unfold j5 at hr;subst hr;exact kz3 h| int i=>unfold j5 at hr;obtain⟨t,rfl⟩:=hr;exact wpAny_pyHash_int h| str i=>unfold j5 at hr;obtain⟨t,rfl⟩:=hr;exact wpAny_pyHash_str h
  | tup ds=>
   unfold j7 at hk;unfold j5 at hr;obtain⟨a,us,rfl,ht,hi⟩:=hr;have ty:=ht.typeIs;obtain⟨ob,dm,cp,nn,gi⟩:=ht;unfold pyHash;unfold pyHashByItsType;refine X0 (wpAny_cRoomFor_or (.inr ⋯) ?_);refine X0 (Z0 ty F.slot_tuple_hash.lookup ?_);show wpAny _ _ (if(some (Value.builtin "tuple.__hash__")==some Value.none)=true then _ else _) Q E s;rw [X9 (show ¬(some (Value.builtin "tuple.__hash__")==some Value.none)=true by rw[beq_builtin_none];exact Bool.false_ne_true)];refine X0 (Z0 ty F.slot_tuple_hash.lookup ?_);show wpAny _ _ (callSpecialIfBoundUnlessNone? (Value.ref a) "__hash__" _ >>= _) Q E s;refine X0 (wpAny_callSpecialIfBoundUnlessNone?_slot ty F.slot_tuple_hash (Y9 F.slot_tuple_hash ty F.entry_tuple_hash ?_ (F.args_tuple_hash_1 _)));show wpAny _ _ (Builtin.Tuple.tupleItemsOf (Value.ref a) >>= _) _ _ s;refine X0 (wpAny_tupleItemsOf dm gi ?_);refine X0 ?_;rw [<-Array.forIn_toList];refine wpAny_forIn_list _ (λai (b:Array Int) s'=>∃pre post,ds=pre++post/\keyDs n post=true/\CReps s.heap post ai/\b.toList=hashDs w pre/\s'={ s with toks:=s.toks+drwDs pre }) _ ?_ ?_ _ _ ⟨[],ds,rfl,hk,hi,rfl,rfl⟩
   ·rintro x ai b s' ⟨pre,post,rfl,dw,hl,hb,rfl⟩;cases post with
    | nil=>unfold CReps at hl;cases hl
    | cons d post=>
     unfold CReps at hl;obtain⟨u1,r1,e1,h1,h2⟩:=hl;injection e1 with e1 e2;subst e1 e2;unfold keyDs at dw;rw[Bool.and_eq_true]at dw;have ru:A.in1.units+4*n<cLine:=by show A.units+1+4*n<cLine;lia
     have fin:∃p q,pre++d::post=p++q/\keyDs n q=true/\CReps s.heap q ai/\(b.push (K7 w d)).toList=hashDs w p/\({ s with toks:=s.toks+drwDs pre+KK d }:Shared)={ s with toks:=s.toks+drwDs p }:=
      ⟨pre++[d],post,by simp,dw.2,h2,by rw[jzk,<-hb];simp,by rw[kjh,Nat.add_assoc]⟩
     refine X0 (ih dw.1 h1 ru ?_)
     first
      |exact X1 fin
      |exact X0 (X1 (X1 fin))
   ·rintro b s' ⟨pre,post,rfl,dw,hl,hb,rfl⟩;have:post=[]:=by
     cases post with|nil=>rfl|cons d post=>unfold CReps at hl;obtain⟨_,_,z,_⟩:=hl;cases z
    subst this;rw[Xs]at h;show wpAny _ _ (retInt (Builtin.Tuple.tupleHashOf b.toList)) _ _ _;rw[hb];refine wpAny_ret_mkInt ?_;generalize hv:Builtin.Tuple.tupleHashOf (hashDs w pre)=v;have h:Q (reduceHash v) { s with toks:=s.toks+drwDs pre+1 }:=by rw[<-hv];unfold K7 KK at h;rw[Nat.add_assoc];exact h
    show wpAny _ _ (if(decide (-(2:Int) ^ 63<=v)&&decide (v<2 ^ 63))=true then _ else _) Q E _;unfold reduceHash at h
    by_cases hq:(decide (-(2:Int) ^ 63<=v)&&decide (v<2 ^ 63))=true
    ·rw[X7 hq]at h ⊢;exact X1 h
    ·rw[X9 hq]at h ⊢;exact X0 (Zk (X1 h))
  |_=>unfold j7 at hk;cases hk
theorem vq1:∀(n m:Nat) {d:D} {u:Value} {A:Around} {s:Shared} {Q:Bool->Shared->Prop},n<=m->j7 n d=true->j5 s.heap d u->Q true s->wpAny (model prog w) A (eqIsQuiet m u) Q E s:=by
 have gy:∀(m:Nat) {v:Value} {A:Around} {s:Shared} {Q:Bool->Shared->Prop},carriedByValue v=true->Q true s->wpAny (model prog w) A (eqIsQuiet m v) Q E s:=λm v A s Q hv h=>by
  rw [eqIsQuiet_byValue m hv];exact X1 h
 intro n
 induction n with
 | zero=>
  intro m d u A s Q _ hk hr h;cases d with| non=>unfold j5 at hr;subst hr;exact gy m rfl h| int i=>unfold j5 at hr;obtain⟨t,rfl⟩:=hr;exact gy m rfl h| str i=>unfold j5 at hr;obtain⟨t,rfl⟩:=hr;exact gy m rfl h| _=>unfold j7 at hk;cases hk
 | succ n ih=>
  intro m d u A s Q hm hk hr h;cases d with
  | non=>unfold j5 at hr;subst hr;exact gy m rfl h| int i=>unfold j5 at hr;obtain⟨t,rfl⟩:=hr;exact gy m rfl h| str i=>unfold j5 at hr;obtain⟨t,rfl⟩:=hr;exact gy m rfl h
  | tup ds=>
   unfold j7 at hk;unfold j5 at hr;obtain⟨a,us,rfl,ht,hi⟩:=hr;have ty:=ht.typeIs;obtain⟨ob,dm,cp,nn,gi⟩:=ht;cases m with
   | zero=>lia
   | succ m=>
    unfold eqIsQuiet;refine X0 (Z0 ty F.slot_tuple_eq.lookup ?_);show wpAny _ _ (isInstance (Value.ref a) (.type "tuple") >>= _) _ _ s;refine X0 (wpAny_isInstance ty isSubtype_tuple_tuple ?_);simp only[Bool.not_true,Bool.false_eq_true,if_false];refine X0 (wpAny_seqItems dm gi (X0 ?_));show wpAny _ _ (forIn us.toArray _ _) _ _ s;rw[<-Array.forIn_toList];refine wpAny_forIn_list _ (λai r s'=>r.1=none/\s'=s/\∃post,keyDs n post=true/\CReps s.heap post ai) _ ?_ ?_ _ _ ⟨rfl,rfl,ds,hk,hi⟩
    ·rintro v ai r s' ⟨hr,rfl,post,dw,hl⟩;cases post with
     |nil=>unfold CReps at hl;cases hl
     |cons d post=>
      unfold CReps at hl;obtain⟨u1,r1,e1,h1,h2⟩:=hl;injection e1 with e1 e2;subst e1 e2;unfold keyDs at dw;rw[Bool.and_eq_true]at dw;refine X0 (ih m ⋯ dw.1 h1 ?_);simp only[Bool.not_true,Bool.false_eq_true,if_false];exact X1 ⟨rfl,rfl,post,dw.2,h2⟩
    ·rintro ⟨r1,r2⟩ s' ⟨hr,rfl,_⟩;simp only at hr;subst hr;exact X1 h
  |_=>unfold j7 at hk;cases hk
end
mutual
theorem kji{h h':Heap}{x:Addr}{o:Obj}{es:Array DictEntry}{ep:Nat}(ho:h.get? x=some o)(hd:o.data=.dict es ep)(hs:Heap.SameBut x h h'):∀{n:Nat} {d:D} {u:Value},j7 n d=true->j5 h d u->j5 h' d u
 | _,.non,_,_,r=>by unfold j5 at r ⊢;exact r| n,.bl _,_,hk,_=>by cases n<;>(unfold j7 at hk;cases hk)| _,.int _,_,_,r=>by unfold j5 at r ⊢;exact r| _,.str _,_,_,r=>by unfold j5 at r ⊢;exact r| 0,.tup _,_,hk,_=>by unfold j7 at hk;cases hk
 | n+1,.tup ds,_,hk,r=>by
  unfold j7 at hk;unfold j5 at r ⊢;obtain⟨a,us,e,⟨ob,dm,hc,nn,gi⟩,hi⟩:=r;have dj:a≠x:=by
   rintro rfl;rw[ho]at dm;cases dm;rw[hd]at gi;cases gi
  exact⟨a,us,e,⟨ob,(hs.2 a dj).trans dm,hc,nn,gi⟩,creps_keeps ho hd hs hk hi⟩
 |n,.lst _,_,hk,_=>by cases n<;>(unfold j7 at hk;cases hk)|n,.dct _,_,hk,_=>by cases n<;>(unfold j7 at hk;cases hk)|n,.obj _ _,_,hk,_=>by cases n<;>(unfold j7 at hk;cases hk)
theorem creps_keeps{h h':Heap}{x:Addr}{o:Obj}{es:Array DictEntry}{ep:Nat}(ho:h.get? x=some o)(hd:o.data=.dict es ep)(hs:Heap.SameBut x h h'):∀{n:Nat} {ds:List D} {us:List Value},keyDs n ds=true->CReps h ds us->CReps h' ds us
 |_,[],_,_,r=>by unfold CReps at r ⊢;exact r
 |n,d::ds,_,hk,r=>by
  unfold keyDs at hk;rw[Bool.and_eq_true]at hk;unfold CReps at r ⊢;obtain⟨u,rr,e,h1,h2⟩:=r;exact⟨u,rr,e,kji ho hd hs hk.1 h1,creps_keeps ho hd hs hk.2 h2⟩
end
noncomputable def K6(prog:Program)(w:PySem.World):HeapKind prog w Kd where
 is:=λh k a=>j5 h k.1 (.ref a)
 hash:=λk=>K7 w k.1
 draws:=λk=>KK k.1
 room:=λA=>A.units+40<cLine
 inj:=λhx hy=>Subtype.ext (jxr hx hy)
 keeps:=fun {h h' k a d o es ep} x ho hd hs=>kji ho hd hs k.2 x
 pyHash:=fun {A E s k a Q} hu hk h=>wk7 6 k.2 hk (Nat.lt_of_le_of_lt (Nat.add_le_add_left ⋯ _) hu) h
 eqBool:=fun {A E s x y a b Q} hu hx hy h=>by
  have e:peq x.1 y.1=decide (x=y):=by
   rw[Wz x.2 y.2]
   by_cases z:x=y
   ·rw[Xe z,Xe (congrArg Subtype.val z)]
   ·rw[Xl z,Xl λq=>z (Subtype.ext q)]
  have:=K9 (s:=s) 6 (A:=A) (jxq x.2) hx hy (Nat.lt_of_le_of_lt (Nat.add_le_add_left ⋯ _) hu);rw[e]at this;exact this prog w E Q h
 quiet:=fun {A E s k a Q} hk h=>vq1 6 8 ⋯ k.2 hk h
abbrev Sl.sd(x:Sl):Sd:=(x.o,x.d)
noncomputable def tA(Z:Fx0)(q:Bool)(cs:List Ex):TA:=fun σ H Q=>∃E L r,Mt E σ L/\World Z.K H L/\kW cs E=some r/\Xc Z σ H L r /\
 ∀E' ys,r=.ok E' ys->∀(xs:List Sl) L' H',xs.map Sl.sd=ys->Mt E' σ L'->World Z.K H' (xs.map some++L')->Step H L H' (xs.map some++L')->(q=true->jJ H H'/\∀b∈j6 (xs.map some),H b=none)->Q (xs.map Sl.v) H'
def QA(X:Cx)(Z:Fx0)(q:Bool)(cs:List Ex)(es:List Expr):Prop:=PA X es (tA Z q cs)
theorem vjl{X:Cx}{es:List Expr}{t t':TA}(h:PA X es t)(w:∀ σ H Q,t' σ H Q->t σ H Q):PA X es t':=λpos pins s σ H Q I q=>h pos pins s σ H Q I (w σ H Q q)
section
variable {X:Cx}{Z:Fx0}{pn:List Nat}{q:Bool}{c:Ex}{cs:List Ex}{e:Expr}{es:List Expr}{pos:Pos}{σ:L2.St}{H:Hp}{L:Ls}{E:En}
theorem j8:QA X Z true [] []:=vjl v3 fun σ H Q au=>ex8 au λE L r m w hc xc k=>by
 cases oq9 hc;exact k _ _ rfl [] L H rfl m w Step.refl λ_=>⟨λ_ _ z=>z,λ_ z=>(nomatch z)⟩
theorem j4(h:QE X Z q c e)(hs:QA X Z q cs es)(bj:autoParam (starEach (e::es) X.env=(false,eval e X.env)::starEach es X.env) Ŕ):QA X Z q (c::cs) (e::es):=
 vjl (qq h hs bj) fun σ H Q au=>ex8 au λE L r m w hc xc k=>by
  refine qxs m w (show bnd (c E) _=some r from hc) xc λE1 s h1 x L1 H1 e1 e2 m1 w1 st sm=>?_
  have s1:Step H L H1 L1:=st.trans Step.drop;rcases xk h1 with⟨E2,ys,h2,h3⟩|⟨E2,cc,h2,h3⟩
  ·cases oq9 h3;refine⟨E1,L1,_,m1,w1.tail,h2,(λ_ _ z=>by cases z),λE' ys' z xs L2 H2 e3 m2 w2 bn fb=>?_⟩;injection z with z1 z2;subst z1 z2;obtain⟨w3,cx⟩:=wwi (T:=[some x]) w1 bn w2;refine k _ _ rfl (x::xs) L2 H2 (by rw[List.map_cons,e3];simp[Sl.sd,e1,e2]) m2 w3 (st.trans cx) λhq=>?_
   obtain⟨a1,a2⟩:=sm hq;obtain⟨b1,b2⟩:=fb hq;refine⟨k4 a1 b1,λb hb=>?_⟩;rw[List.map_cons,jZ]at hb;rcases aA hb with z|z
   ·exact a2 b z
   ·exact zQ a1 (b2 b z)
  ·exact⟨E1,L1,_,m1,w1.tail,h2,(xc.step s1).map h3,λE' s' z=>by cases z⟩
end
section
variable {X:Cx}{Z:Fx0}{q:Bool}{cs:List Ex}{es:List Expr}{pos:Pos}{σ:L2.St}{H:Hp}{L:Ls}{E:En}{α:Type}
theorem jzs:∀{cs:List Ex} {E E':En} {ys:List Sd},kW cs E=some (.ok E' ys)->ys.length=cs.length
 | [],E,E',ys,h=>by cases oq9 h;rfl
 | c::cs,E,E',ys,h=>by
  rcases xk (show bnd (c E) _=some _ from h)with⟨E1,x,h1,h2⟩|⟨_,_,_,z⟩
  ·rcases xk h2 with⟨E2,xs,h3,h4⟩|⟨_,_,_,z⟩
   ·cases oq9 h4;rw[Xf,Xf,jzs h3]
   ·cases z
  ·cases z
theorem vwc{F:En->List Sd->Option (Res α)}{r:Res α}{G:List V->Hp->Prop}(m:Mt E σ L)(w:World Z.K H L)(h:bnd (kW cs E) F=some r)(xc:Xc Z σ H L r)
  (k:∀E1 ys,F E1 ys=some r->ys.length=cs.length->∀(xs:List Sl) L1 H1,xs.map Sl.sd=ys->Mt E1 σ L1->World Z.K H1 (xs.map some++L1)->Step H L H1 (xs.map some++L1)->(q=true->jJ H H1/\∀b∈j6 (xs.map some),H b=none)->G (xs.map Sl.v) H1):tA Z q cs σ H G:=by
 rcases xk h with⟨E1,s,h1,h2⟩|⟨E1,c,h1,h2⟩
 ·exact⟨E,L,_,m,w,h1,(λ_ _ z=>by cases z),λE' s' z xs L' H' e1 m' w' st sm=>by
   injection z with z1 z2;subst z1 z2;exact k _ _ h2 (jzs h1) xs L' H' e1 m' w' st sm⟩
 ·exact⟨E,L,_,m,w,h1,xc.map h2,λE' s' z=>by cases z⟩
theorem jvj{K:Frag}{H:Hp}(g:Bool):∀{xs:List Sl},(∀x∈xs,x.ok K H)->(g=false->∀x∈xs,vz x.sd=true)->∃bs,RepA K H g (xs.map Sl.d) (xs.map Sl.v) bs/\(∀b∈bs,∃x∈xs,b∈x.as)/\(g=false->bs=j6 (xs.map some))/\(g=true->bs=xs.flatMap Sl.as)
 | [],_,_=>⟨[],by unfold RepA;exact⟨rfl,rfl⟩,λ_ h=>(nomatch h),λ_=>rfl,λ_=>rfl⟩
 | x :: xs,h,ht=>by
  obtain⟨bs,r,hb,ho,hg⟩:=jvj g (xs:=xs) (λy hy=>h y (lc9 _ hy)) λhg y hy=>ht hg y (lc9 _ hy)
  have hx:=h x X6;have key:∃cs,RepL K H g x.d x.v cs/\(∀b∈cs,b∈x.as)/\(g=false->cs=x.own)/\(g=true->cs=x.as):=by
   cases g with
   | true=>exact⟨x.as,RepO.wk hx,λb hb=>hb,(λz=>by cases z),λ_=>rfl⟩
   | false=>
    have t:=ht rfl x X6;unfold vz at t
    by_cases ho:x.o=.dp
    ·refine⟨x.as,?_,λb hb=>hb,λ_=>?_,λz=>by cases z⟩
     ·have:=hx;unfold Sl.ok at this;rw[ho]at this;exact this
     ·unfold Sl.own;rw[ho]
    ·have hp:x.d.pure=true:=by
      rcases Bool.or_eq_true_iff.mp t with z|z
      ·exact absurd (by simpa using z) ho
      ·exact z
     obtain⟨z,rp⟩:=RepL.pu (g':=false) (RepO.wk hx) hp;exact⟨[],rp,λ_ h=>(nomatch h),λ_=>(vqp z).symm,λz=>by cases z⟩
  obtain⟨cs,r1,h1,h2,h3⟩:=key;refine⟨cs++bs,?_,λb d9=>?_,λn8=>?_,λn8=>?_⟩
  ·rw[List.map_cons,List.map_cons];unfold RepA;exact⟨x.v,xs.map Sl.v,cs,bs,rfl,rfl,r1,r⟩
  ·rcases aA d9 with z|z
   ·exact⟨x,X6,h1 b z⟩
   ·obtain⟨y,hy,hby⟩:=hb b z;exact⟨y,lc9 _ hy,hby⟩
  ·rw[List.map_cons,jZ,h2 n8,ho n8]
  ·rw[Yw,h3 n8,hg n8]
theorem qz8{K:Frag}{H:Hp}{p:Addr}{xs:List Sl}{L:Ls}(w:World K H (xs.map some++L))(hp:H p=none):
  ∃bs,World K (upd H p (.lst (xs.map Sl.v))) (some ⟨.rt,.lst (xs.map Sl.d),.ref p,p::bs⟩::L)/\Step H (xs.map some++L) (upd H p (.lst (xs.map Sl.v))) (some ⟨.rt,.lst (xs.map Sl.d),.ref p,p::bs⟩::L):=by
 obtain⟨bs,r,hb,_,_⟩:=jvj true (xs:=xs) (λx hx=>w.ok x (ll9 _ (Xr hx))) (λz=>by cases z);have ap:∀b∈bs,b∉j6 L:=λb d9 hL=>by
  obtain⟨x,hx,dv⟩:=hb b d9;rcases Sl.as_of dv with z|z
  ·have nd:=w.nd;rw[jx,Xk]at nd;exact nd.2.2 b (mem_owned.mpr ⟨x,Xr hx,z⟩) b hL rfl
  ·exact w.ds b (by rw[jx];exact lr9 _ hL) (by rw[k6];exact ll9 _ (mem_frozen.mpr ⟨x,Xr hx,z⟩))
 have al:∀b∈bs,H b≠none:=λb d9=>by
  obtain⟨x,hx,dv⟩:=hb b d9;exact(w.ok x (ll9 _ (Xr hx))).some dv
 have sr:Src H (xs.map some++L) bs:=λb d9=>by
  obtain⟨x,hx,dv⟩:=hb b d9;rcases Sl.as_of dv with z|z
  ·exact .inr (.inl (by rw[jx];exact ll9 _ (mem_owned.mpr ⟨x,Xr hx,z⟩)))
  ·exact .inl (by rw[k6];exact ll9 _ (mem_frozen.mpr ⟨x,Xr hx,z⟩))
 have o:Out K H (upd H p (.lst (xs.map Sl.v))) ⟨.rt,.lst (xs.map Sl.d),.ref p,p::bs⟩ bs:=zZ hp r λb hb=>hb
 have st:Step H (xs.map some++L) H L:=⟨λ_ _ h _=>h,λa ha=>.inl (by rw[jx];exact lr9 _ ha),λa ha=>.inl (by rw[k6];exact lr9 _ ha)⟩;exact⟨bs,Jk (Z:=⟨K,λ_=>none,λ_ _ _=>True⟩) w.right st o ap al sr⟩
theorem qz7{K:Frag}{H:Hp}{p:Addr}{xs:List Sl}{L:Ls}(w:World K H (xs.map some++L))(hp:H p=none):
  ∃bs,World K (upd H p (.tup (xs.map Sl.v))) (some ⟨.no,.tup (xs.map Sl.d),.ref p,bs⟩::L)/\Step H (xs.map some++L) (upd H p (.tup (xs.map Sl.v))) (some ⟨.no,.tup (xs.map Sl.d),.ref p,bs⟩::L):=by
 obtain⟨bs,r,hb,_,_⟩:=jvj true (xs:=xs) (λx hx=>w.ok x (ll9 _ (Xr hx))) (λz=>by cases z);have ap:∀b∈bs,b∉j6 L:=λb d9 hL=>by
  obtain⟨x,hx,dv⟩:=hb b d9;rcases Sl.as_of dv with z|z
  ·have nd:=w.nd;rw[jx,Xk]at nd;exact nd.2.2 b (mem_owned.mpr ⟨x,Xr hx,z⟩) b hL rfl
  ·exact w.ds b (by rw[jx];exact lr9 _ hL) (by rw[k6];exact ll9 _ (mem_frozen.mpr ⟨x,Xr hx,z⟩))
 have al:∀b∈bs,H b≠none:=λb d9=>by
  obtain⟨x,hx,dv⟩:=hb b d9;exact(w.ok x (ll9 _ (Xr hx))).some dv
 have sr:Src H (xs.map some++L) bs:=λb d9=>by
  obtain⟨x,hx,dv⟩:=hb b d9;rcases Sl.as_of dv with z|z
  ·exact .inr (.inl (by rw[jx];exact ll9 _ (mem_owned.mpr ⟨x,Xr hx,z⟩)))
  ·exact .inl (by rw[k6];exact ll9 _ (mem_frozen.mpr ⟨x,Xr hx,z⟩))
 have o:Out K H (upd H p (.tup (xs.map Sl.v))) ⟨.no,.tup (xs.map Sl.d),.ref p,bs⟩ bs:=V7 hp r λb hb=>hb
 have st:Step H (xs.map some++L) H L:=⟨λ_ _ h _=>h,λa ha=>.inl (by rw[jx];exact lr9 _ ha),λa ha=>.inl (by rw[k6];exact lr9 _ ha)⟩;exact⟨bs,Jk (Z:=⟨K,λ_=>none,λ_ _ _=>True⟩) w.right st o ap al sr⟩
theorem qqp{K:Frag}{H H':Hp}{xs:List Sl}{L:Ls}{d:D}{v:V}{ps:List Addr}(w:World K H (xs.map some++L))(ht:∀x∈xs,vz x.sd=true)(hp:∀b∈ps,H b=none)(nd:ps.Nodup)(sm:jJ H H')
  (rep:∀bs,RepA K H false (xs.map Sl.d) (xs.map Sl.v) bs->RepL K H' false d v (ps++bs)):
  World K H' (some ⟨.dp,d,v,ps++j6 (xs.map some)⟩::L)/\Step H (xs.map some++L) H' (some ⟨.dp,d,v,ps++j6 (xs.map some)⟩::L):=by
 obtain⟨bs,r,hb,ho,_⟩:=jvj false (xs:=xs) (λx hx=>w.ok x (ll9 _ (Xr hx))) (λ_=>ht);have e:=ho rfl;subst e;have w2:World K H' (xs.map some++L):=⟨λx hx=>RepO.kp (w.ok x hx) (Kp.of_same sm),w.nd,w.ds⟩;have ndx:=w.nd;rw[jx,Xk]at ndx;have al:∀b∈j6 (xs.map some),H b≠none:=λb hb=>w.own_some (by rw[jx];exact ll9 _ hb)
 refine⟨w2.right.cons (x:=⟨.dp,d,v,ps++j6 (xs.map some)⟩) (rep _ r) ?_ (λa ha hL=>?_) (λa ha hf=>?_) (λa ha=>(nomatch ha)) (λa ha=>λz=>(nomatch z)),⟨λa ob h _=>sm a ob h,λa ha=>?_,λa ha=>?_⟩⟩
 ·show(ps++j6 (xs.map some)).Nodup;rw[Xk];exact⟨nd,ndx.1,λa ha b hb e=>by subst e;exact al a hb (hp a ha)⟩
 ·rcases aA (show a∈ps++j6 (xs.map some)from ha)with z|z
  ·exact w.own_some (by rw[jx];exact lr9 _ hL) (hp a z)
  ·exact ndx.2.2 a z a hL rfl
 ·rcases aA (show a∈ps++j6 (xs.map some)from ha)with z|z
  ·exact w.frz_some (by rw[k6];exact lr9 _ hf) (hp a z)
  ·exact w.ds a (by rw[jx];exact ll9 _ z) (by rw[k6];exact lr9 _ hf)
 ·rw[jZ]at ha;rcases aA ha with z|z
  ·rcases aA (show a∈ps++j6 (xs.map some)from z)with y|y
   ·exact .inr (hp a y)
   ·exact .inl (by rw[jx];exact ll9 _ y)
  ·exact .inl (by rw[jx];exact lr9 _ z)
 ·rw[qk]at ha;exact .inl (by rw[k6];exact lr9 _ ha)
theorem wqj{xs:List Sl}{ys:List Sd}(h:xs.map Sl.sd=ys):xs.map Sl.d=ys.map (·.2):=by rw[<-h,Xh];rfl
theorem kx4{xs:List Sl}{ys:List Sd}(h:xs.map Sl.sd=ys)(ht:ys.all vz=true):∀x∈xs,vz x.sd=true:=λx hx=>by
 rw[<-h,List.all_map,Ya]at ht;exact ht x hx
theorem kxp{o:Own}{xs:List Sl}{ys:List Sd}{E':En}{r:Res Sd}{L':Ls}{H1:Hp}{Q:VK}{Hq:Hp}{Lq:Ls}(h:mkL o E' ys=some r)(e:xs.map Sl.sd=ys)(w:World Z.K H1 (xs.map some++L'))(st:Step Hq Lq H1 (xs.map some++L'))(sm:q=true->jJ Hq H1/\∀b∈j6 (xs.map some),Hq b=none)
  (k:∀E'' a,r=.ok E'' a->∀(x:Sl) L'' H',x.o=a.1->x.d=a.2->Mt E'' σ L''->World Z.K H' (some x::L'')->Step Hq Lq H' (some x::L'')->(q=true->jJ Hq H'/\∀b∈x.own,Hq b=none)->Q x.v H') (m:Mt E' σ L'):
  ∀ p,H1 p=none->Q (.ref p) (upd H1 p (.lst (xs.map Sl.v))):=by
 intro p hp;unfold mkL at h
 by_cases ho:o=.dp
 ·rw[X7 ho]at h
  by_cases ht:ys.all vz=true
  ·rw[X7 ht]at h;cases oq9 h;obtain⟨w2,s2⟩:=qqp (d:=.lst (xs.map Sl.d)) (v:=.ref p) (ps:=[p]) w (kx4 e ht) (λb hb=>by rw[aC hb];exact hp) (by simp) (qv (o:=.lst (xs.map Sl.v)) hp) (λbs r=>by
    unfold RepL;exact⟨p,_,bs,rfl,r.kp (Kp.of_same (qv hp)),.inl ⟨v6,rfl⟩⟩)
   refine k _ _ rfl ⟨.dp,.lst (xs.map Sl.d),.ref p,_⟩ L' _ rfl (by rw[wqj e]) m w2 (st.trans s2) λhq=>⟨k4 (sm hq).1 (qv hp),λb hb=>?_⟩
   rcases aA (show b∈[p]++j6 (xs.map some)from hb)with z|z
   ·rw[aC z];exact zQ (sm hq).1 hp
   ·exact(sm hq).2 b z
  ·rw[X9 ht]at h;cases h
 ·rw[X9 ho]at h;cases oq9 h;obtain⟨bs,w2,s2⟩:=qz8 w hp;refine k _ _ rfl ⟨.rt,.lst (xs.map Sl.d),.ref p,p::bs⟩ L' _ rfl (by rw[wqj e]) m w2 (st.trans s2) λhq=>⟨k4 (sm hq).1 (qv hp),λb hb=>?_⟩
  have:b=p:=by simpa [Sl.own]using hb
  rw[this];exact zQ (sm hq).1 hp
theorem vx0{xs:List Sl}{ys:List Sd}{n:Nat}(h:xs.map Sl.sd=ys)(hl:ys.length=n)(hz:n<=1000):(xs.map Sl.v).length<=sizeLine:=by
 have:xs.length=n:=by rw[<-hl,<-h,X3]
 rw[X3,this];exact Yn hz ⋯
theorem kK{o:Own}(h:QA X Z q cs es)(hz:autoParam (cs.length<=1000) ŕ):QE X Z q (kj o cs) (.List es pos):=kz (vzt h) fun σ H Q au=>ex8 au λE L r m w hc xc k=>
 vwc m w (show bnd (kW cs E) _=some r from hc) xc λE1 ys h1 hl xs L1 H1 e1 m1 w1 st sm=>⟨vx0 e1 hl hz,kxp (o:=o) (E':=E1) (ys:=ys) (by unfold mkL;exact h1) e1 w1 st sm k m1⟩
theorem wK{o:Own}{x1}(h:QA X Z q cs es)(hz:autoParam (cs.length<=1000) ŕ):QE X Z q (v5 o cs) (.Tuple es x1 pos):=kz (vzp h) fun σ H Q au=>ex8 au λE L r m w hc xc k=>
 vwc m w (show bnd (kW cs E) _=some r from hc) xc λE1 ys h1 hl xs L1 H1 e1 m1 w1 st sm=>⟨vx0 e1 hl hz,λp hp=>by
  by_cases ho:o=.dp
  ·rw[X7 ho]at h1
   by_cases ht:ys.all vz=true
   ·rw[X7 ht]at h1;cases oq9 h1;obtain⟨w2,s2⟩:=qqp (d:=.tup (xs.map Sl.d)) (v:=.ref p) (ps:=[]) w1 (kx4 e1 ht) (λb hb=>(nomatch hb)) (by simp) (qv (o:=.tup (xs.map Sl.v)) hp) (λbs r=>by
     unfold RepL;exact⟨p,_,rfl,SqT.of v6,r.kp (Kp.of_same (qv hp))⟩)
    exact k _ _ rfl ⟨.dp,.tup (xs.map Sl.d),.ref p,_⟩ L1 _ rfl (by rw[wqj e1]) m1 w2 (st.trans s2) λhq=>⟨k4 (sm hq).1 (qv hp),λb hb=>(sm hq).2 b hb⟩
   ·rw[X9 ht]at h1;cases h1
  ·rw[X9 ho]at h1;cases oq9 h1;obtain⟨bs,w2,s2⟩:=qz7 w1 hp;exact k _ _ rfl ⟨.no,.tup (xs.map Sl.d),.ref p,bs⟩ L1 _ rfl (by rw[wqj e1]) m1 w2 (st.trans s2) λhq=>⟨k4 (sm hq).1 (qv hp),λb hb=>(nomatch hb)⟩⟩
end
noncomputable def spF(K:Frag)(mg:Str->Option Value)(n:Nat)(f:Fn):Sp:=λvs H Q E=>∃(xs:List Sl) (r:Res Sd),vs=xs.map Sl.v/\xs.length=n/\World K H (xs.map some)/\f (xs.map Sl.sd)=some r /\
 (∀E' c,r=.exc E' c->∀C H',mg c=some (.ref C)->Step H (xs.map some) H' []->E (.ref C) none H') /\
 ∀E' a,r=.ok E' a->∀(x:Sl) H',x.o=a.1->x.d=a.2->World K H' [some x]->Step H (xs.map some) H' [some x]->Q x.v H'
theorem qQ{K:Frag}{mg:Str->Option Value}{n:Nat}{f:Fn}{ps:List Str}(hn:ps.length=n):∀vs H Q E,spF K mg n f vs H Q E->vs.length=ps.length:=λvs H Q E ⟨xs,r,e,hl,_⟩=>by rw[e,X3,hl,hn]
theorem kke:∀(xs:List Sl) (k:Nat),Mt (xs.map (λx=>some x.sd)++List.replicate k none) (xs.map (λx=>some x.v)++List.replicate k none) (xs.map some++List.replicate k none)
 |[],0=>.nil
 |[],k+1=>by
  rw[List.map_nil,List.map_nil,List.map_nil,List.replicate_succ,List.replicate_succ,List.replicate_succ];exact .un (kke [] k)
 |x::xs,k=>.cons (x:=x) (kke xs k)
theorem qZ{X:Cx}{K:Frag}{mg:Str->Option Value}{N:List Str}{n nn:Nat}{B:Sm}{body:List Stmt}{H:Hp}{vs:List V}{Q:VK}{E:XK}(hN:N.length=nn)(t:QSs X ⟨K,mg,E⟩ [] B body)(h:spF K mg n (fn nn B) vs H Q E):
  ∃t,PSs X body t/\t { nx:=λ_ H'=>Q .non H',rt:=Q } (L2.start N vs) H:=by
 refine⟨_,t,?_⟩;obtain⟨xs,r,rfl,hl,w,hf,hx,hk⟩:=h;unfold fn at hf;rw[X3,Xh]at hf;have m:=kke xs (nn - xs.length);have e1:L2.start N (xs.map Sl.v)=xs.map (λx=>some x.v)++List.replicate (nn - xs.length) none:=by
  unfold L2.start;rw[Xh,X3,hN];rfl
 have wL:World K H (xs.map some++List.replicate (nn - xs.length) none):=w.same (by simp);have sL:Step H (xs.map some) H (xs.map some++List.replicate (nn - xs.length) none):=Step.refl.same (List.Perm.refl _) (by simp);cases hB:B (xs.map (λx=>some x.sd)++List.replicate (nn - xs.length) none)with
 | none=>rw[show(some∘Sl.sd)=(λx:Sl=>some x.sd)from rfl,hB]at hf;cases hf
 | some g=>
  rw[show(some∘Sl.sd)=(λx:Sl=>some x.sd)from rfl,hB]at hf;refine⟨_,_,g,e1▸m,wL,hB,?_⟩;cases g with
  |nx E1=>
   cases oq9 hf;intro σ' L' H' _ m' w' s';exact hk _ _ rfl ⟨.dp,.non,.non,[]⟩ H' rfl rfl (World.consPu (x:=⟨.dp,.non,.non,[]⟩) (L:=[]) ⟨λ_ z=>(nomatch z),Y4,λ_ z=>(nomatch z)⟩ (show RepL K H' false .non .non []from qke) rfl) (VZ (x:=⟨.dp,.non,.non,[]⟩) ((sL.trans s').sub (by simp)) (λb hb=>(nomatch hb)) rfl)
  |rt E1 a=>
   cases oq9 hf;intro x σ' L' H' e2 e3 _ m' w' s';exact hk _ _ rfl x H' e2 e3 (w'.sub (by simp)) ((sL.trans s').sub (by simp))
  |xc E1 c=>
   cases oq9 hf;intro C σ' L' H' hm _ m' w' s';exact hx _ _ rfl C H' hm ((sL.trans s').sub (by simp))
  |ct E1=>cases hf|bk E1=>cases hf
section
variable {X:Cx}{Z:Fx0}{q:Bool}{cs:List Ex}{e:Expr}{es:List Expr}{pos p:Pos}{x:Str}{ps:List Str}{k n:Nat}{f:Fn}
theorem V6:∀xs:List Sl,j6 ((xs.map Sl.let).map some)=[]
 |[]=>rfl|x::xs=>by rw[List.map_cons,List.map_cons,jZ,V6 xs];rfl
theorem jvy:∀xs:List Sl,jz ((xs.map Sl.let).map some)=xs.flatMap Sl.as
 |[]=>rfl|x::xs=>by rw[List.map_cons,List.map_cons,qk,jvy xs,Yw];rfl
theorem qqx(xs:List Sl):(xs.map Sl.let).map Sl.sd=letAll (xs.map Sl.sd):=by
 unfold letAll;rw[Xh,Xh];rfl
theorem kj3{K:Frag}{H:Hp}{xs:List Sl}{L:Ls}(w:World K H (xs.map some++L)):World K H ((xs.map Sl.let).map some++L)/\Step H (xs.map some++L) H ((xs.map Sl.let).map some++L):=by
 have nd:=w.nd;rw[jx,Xk]at nd;have cl:∀a∈xs.flatMap Sl.as,a∈j6 (xs.map some)\/a∈jz (xs.map some):=λa ha=>by
  obtain⟨x,hx,hax⟩:=List.mem_flatMap.mp ha;exact(Sl.as_of hax).imp (λz=>mem_owned.mpr ⟨x,Xr hx,z⟩) λz=>mem_frozen.mpr ⟨x,Xr hx,z⟩
 refine⟨⟨λx hx=>?_,by rw[jx,V6];exact nd.2.1,λa ha hf=>?_⟩,λ_ _ h _=>h,λa ha=>?_,λa ha=>?_⟩
 ·rcases aA hx with hx|hx
  ·obtain⟨y,hy,e⟩:=aE hx;cases e;obtain⟨z,hz,rfl⟩:=aE hy;exact Vq (w.ok z (ll9 _ (Xr hz)))
  ·exact w.ok x (lr9 _ hx)
 ·rw[jx,V6]at ha;rw[k6,jvy]at hf;rcases aA hf with z|z
  ·rcases cl a z with z|z
   ·exact nd.2.2 a z a ha rfl
   ·exact w.ds a (by rw[jx];exact lr9 _ ha) (by rw[k6];exact ll9 _ z)
  ·exact w.ds a (by rw[jx];exact lr9 _ ha) (by rw[k6];exact lr9 _ z)
 ·rw[jx,V6]at ha;exact .inl (by rw[jx];exact lr9 _ ha)
 ·rw[k6,jvy]at ha;rw[k6,jx];rcases aA ha with z|z
  ·rcases cl a z with z|z
   ·exact .inr (.inl (ll9 _ z))
   ·exact .inl (ll9 _ z)
  ·exact .inl (lr9 _ z)
theorem vz4(D:kQ X.prog X.w X.K X.mg X.base k x ps (spF Z.K Z.mg n f))(hr:Room k X.A)(g:wV X Z.EX)(ha:QA X Z q cs (e::es))(hn:autoParam (cs.length=n) Ŕ)(hg:autoParam (Gl X x) Ŕ)(d8:autoParam ((x==("__debug__":Str))=false) ŕ)
  (he:autoParam (starEach (e::es) X.env=(false,eval e X.env)::starEach es X.env) Ŕ) (b9:autoParam ((backTo pos (starEach es X.env)).any (·.1)=false) Ŕ):
  QE X Z q (jQ f cs) (.Call (.Name x p) (e::es) [] pos):=kz (vzw D hr g ha hg d8 he b9) fun σ H Q au=>ex8 au λE L r m w hc xc kk=>
 vwc m w (show bnd (kW cs E) _=some r from hc) xc λE1 ys h1 hl xs L1 H1 e1 m1 w1 st sm=>by
  rw [Xs];have ah:xs.length=n:=by rw[<-hn,<-hl,<-e1,X3]
  cases hf:f (letAll ys)with
  | none=>rw[hf]at h1;cases h1
  | some fr=>
   rw[hf]at h1;obtain⟨wl,sl⟩:=kj3 w1;have ev:xs.map Sl.v=(xs.map Sl.let).map Sl.v:=by rw[Xh];rfl
   rw[ev];refine⟨xs.map Sl.let,fr,rfl,by rw[X3];exact ah,wl.left,by rw[<-e1]at hf;rw[qqx];exact hf,λE' c ee C H' hm s'=>?_,λE' a ee y H' e2 e3 w' s'=>?_⟩
   ·subst ee;cases oq9 h1;obtain⟨w2,s2⟩:=stay wl s' ⟨λ_ z=>(nomatch z),Y4,λ_ z=>(nomatch z)⟩;exact xc _ _ rfl C L1 H' hm m1 w2 ((st.trans sl).trans s2)
   ·subst ee;cases oq9 h1;obtain⟨w2,s2⟩:=stay wl s' w';refine kk _ _ rfl y L1 H' e2 e3 m1 w2 ((st.trans sl).trans s2) λhq=>?_
    obtain⟨a1,a2⟩:=sm hq;refine⟨λb ob hb=>s'.keep b ob (a1 b ob hb) λz=>?_,λb hb=>?_⟩
    ·rw[V6]at z;exact nomatch z
    ·rcases s'.own b (by rw[jZ];exact ll9 _ hb)with z|z
     ·rw[V6]at z;exact nomatch z
     ·exact zQ a1 z
end
def vxi(K:Frag):R2:=λx y H Q=>∃l k xs,x=.ref l/\y=.int k/\LsR K H l xs/\-(2 ^ 63)<=k/\k<2 ^ 63/\xs.length*k.toNat<=sizeLine /\
 ∀p,H p=none->Q (.ref p) (upd H p (.lst (List.replicate k.toNat xs).flatten))
theorem op_repR{X:Cx}:OpR X (binaryOp .Mult) (vxi X.K):=by
 intro pins s σ H x y v u Q I rx ry h;obtain⟨l,k,xs,rfl,rfl,hH,h1,h2,hz,q⟩:=h;cases rx;obtain⟨t,rfl⟩:=ry;obtain⟨z,ac,n,r,e⟩:=hH.is I;have hl:=r.length;have ah:ac.toArray.size*k.toNat<=sizeLine:=by rw[X8,<-hl];exact hz
 have hcap:¬ac.toArray.size*k.toNat>(2 ^ 63 - 1) / 8:=by
  have:(sizeLine:Nat)<=(2 ^ 63 - 1) / 8:=⋯
  lia
 have ie:¬(!Builtin.List.listFitsIndex k)=true:=by
  rw[fitsIndex_both h1 h2];exact Bool.false_ne_true
 have ju:¬Builtin.List.listTooLong (ac.toArray.size*k.toNat)=true:=by
  rw[kxm ah];exact Bool.false_ne_true
 have fi:List.foldl (λx1 x2=>x1++x2) #[] (List.replicate (if ac.toArray.isEmpty=true then 0 else k.toNat) ac.toArray)=(List.replicate k.toNat ac).flatten.toArray:=by
  have f0:∀m:Nat,List.foldl (λx1 x2=>x1++x2) #[] (List.replicate m ac.toArray)=(List.replicate m ac).flatten.toArray:=λm=>by
   have:=jzl ac m [];rw[List.nil_append]at this;exact this
  rw[f0];cases ac with|nil=>simp|cons a r'=>rw[X9 (by simp)]
 refine wpAny_binaryOp_repeat_ref (T:="list") (U:="int") ⋯ ⟨_,e,rfl⟩ (λs'=>typeIs_int s' k t) noFill_list_mul F.fills_int_mul F.slot_int_rmul repeat_list F.slot_int_index.lookup
  (call_meets F.slot_int_rmul (typeIs_int s k t) F.entry_int_rmul (F.args_int_rmul_2 _ _) (int___rmul___int_list k t l ac.toArray n)
   ⟨e,rfl,⟨_,e,rfl⟩,call_meets F.slot_list_mul ⟨_,e,rfl⟩ F.entry_list_mul (F.args_list_mul_2 _ _) (AutoListH.list___mul___list_int_3 l ac.toArray n k t ie hcap ju) ⟨e,?_⟩⟩)
 rw[fi];exact⟨.ref _,_,I.lnew (t':=s.toks) (r.rep k.toNat) (by rw[qqy,Nat.mul_comm];exact hz),rfl,q _ I.fresh⟩
def vky(K:Frag):R2:=λx y H Q=>rI IntMulOk (λi j=>.int (i*j)) x y H Q\/vxi K x y H Q\/vxh x y H Q
theorem wj6{X:Cx}{K:Frag}(hK:autoParam (X.K=K) Ŕ):OpR X (binaryOp .Mult) (vky K):=by subst hK;exact op_mulI.or (op_repR.or vqq)
theorem kxr{a:Int}(h:a.natAbs.log2<2000000):Builtin.Int.intBits a<=2000000:=by
 unfold Builtin.Int.intBits
 split
 ·exact Yh _
 ·omega
theorem mulOk_of{a b:Int}(h:Jz a b=true):IntMulOk a b:=by
 unfold Jz ZY at h;simp only[Bool.or_eq_true,Bool.and_eq_true,decide_eq_true_eq]at h;rcases h with(h|h)|h
 ·exact .of_left (intBits_le_64 h.1 h.2)
 ·exact .of_right (intBits_le_64 h.1 h.2)
 ·have h1:=kxr h.1;have h2:=kxr h.2;unfold IntMulOk Builtin.Int.intTooBig;have e:(2:Nat) ^ 27=134217728:=⋯
  have hb:bitsLine=134217728:=e;simp only[Bool.and_eq_true,decide_eq_true_eq,not_and];intro _ _;omega
theorem RepA.reps{K:Frag}{H:Hp}{ds:List D}{xs:List V}{bs:List Addr}(h:RepA K H true ds xs bs):∀k:Nat,∃cs,RepA K H true (List.replicate k ds).flatten (List.replicate k xs).flatten cs/\∀b∈cs,b∈bs
 |0=>⟨[],by simp only[List.replicate_zero,List.flatten_nil];unfold RepA;exact⟨rfl,rfl⟩,λ_ z=>(nomatch z)⟩
 |k+1=>by
  obtain⟨cs,r,hc⟩:=RepA.reps h k;rw[List.replicate_succ,List.replicate_succ,Ze,Ze];exact⟨bs++cs,r.app h,λb hb=>(aA hb).elim id (hc b)⟩
theorem vkc{K:Frag}:Ad2 K (vky K) Qz:=by
 intro H x y s Q ox oy hf k;unfold Qz at hf;dsimp only at hf
 split at hf
 ·rename_i i j e1 e2
  split at hf
  ·rename_i hm;cases oq9 hf;exact .inl ⟨i,j,kw ox e1,kw oy e2,mulOk_of hm,k ⟨.dp,.int _,.int _,[]⟩ H rfl rfl K8⟩
  ·cases hf
 ·rename_i a n e1 e2
  split at hf
  ·rename_i hc;cases oq9 hf;obtain⟨l,xs,bs,e3,q3,r3,h3⟩:=xV ox (.inl e1) hc.2.2.2;have q3:LsR K H l xs:=by rcases q3 with⟨_,z⟩|⟨z,_⟩;exact z;rw[e1]at z;cases z
   obtain⟨cs,r4,h4⟩:=r3.reps n.toNat;refine .inr (.inl ⟨l,n,xs,e3,kw oy e2,q3,hc.1,hc.2.1,by rw[<-r3.len];exact hc.2.2.1,λp hp=>?_⟩);exact k ⟨.rt,.lst _,.ref p,p::cs⟩ _ rfl rfl (zZ hp r4 λb hb=>ll9 _ (h3 b (h4 b hb)))
  ·cases hf
 ·rename_i z n e1 e2
  split at hf
  ·rename_i hc;cases oq9 hf;exact .inr (.inr ⟨z,n,(v7 ox e1).1,kw oy e2,hc.1,k ⟨.dp,.str _,.str _,[]⟩ H rfl rfl (ww2 hc.2)⟩)
  ·cases hf
 ·cases hf
def dec(h:Heap)(u:Value):D:=open Classical in if e:∃d,j5 h d u then e.choose else .non
theorem qvz{h:Heap}{u:Value}{d:D}(r:j5 h d u):dec h u=d:=by
 unfold dec;have e:∃d,j5 h d u:=⟨d,r⟩;rw[dif_pos e];exact jxr e.choose_spec r
theorem jzt{h:Heap}{d:D}:∀{ds:List D} {us:List Value},CReps h ds us->us.any (λu=>peq (dec h u) d)=ds.any λz=>peq z d
 |[],_,r=>by unfold CReps at r;rw[r];rfl
 |z::ds,_,r=>by
  unfold CReps at r;obtain⟨u,rr,rfl,h1,h2⟩:=r;rw[List.any_cons,List.any_cons,qvz h1,jzt h2]
theorem kkf{h:Heap}:∀{ds:List D} {us:List Value} {u:Value},CReps h ds us->u∈us->∃d∈ds,j5 h d u
 | [],_,_,r,hu=>by unfold CReps at r;rw[r]at hu;cases hu
 | z::ds,_,u,r,hu=>by
  unfold CReps at r;obtain⟨u',rr,rfl,h1,h2⟩:=r;rcases aD hu with rfl|hu
  ·exact⟨z,X6,h1⟩
  ·obtain⟨d,hd,c⟩:=kkf h2 hu;exact⟨d,lc9 _ hd,c⟩
theorem jzm:∀{n:Nat} {ds:List D} {d:D},D.flats n ds=true->d∈ds->d.flat n=true
 |_,[],_,_,h=>by cases h
 |n,z::ds,d,f,h=>by
  unfold D.flats at f;rw[Bool.and_eq_true]at f;rcases aD h with rfl|h
  ·exact f.1
  ·exact jzm f.2 h
section
variable {X:Cx}{Z:Fx0}{K:Frag}{q qa qb:Bool}{a b c:Ex}{u v:Ts}{e ea eb:Expr}{es:List Expr}{pos p:Pos}{σ:L2.St}{H:Hp}{L:Ls}{E:En}
def qko(K:Frag)(ib:Bool):R2:=λx y H Q=>∃d ds as bs p xs,RepL K H true d x as/\y=.ref p/\(SqL K H p xs\/SqT K H p xs)/\RepA K H true ds xs bs/\d.flat 30=true/\D.flats 30 ds=true/\Q (.bl (if ib then !(ds.any λz=>peq z d)else ds.any λz=>peq z d)) H
theorem vqs(hu:X.A.units+64<cLine):OpR X (compareOp .In) (qko X.K false):=by
 intro pins s σ H x y v u Q I rx ry h;obtain⟨d,ds,as,bs,p,xs,h1,rfl,hq,ra,f1,f2,q⟩:=h;cases ry;have c1:=Q4 I h1 f1 rx;have he:∀{us:List Value},CReps s.heap ds us->∀w,w∈us.toArray->SeqAt.EqAt X.A.in1 s w v (peq (dec s.heap w) d):=fun {us} cr w hw=>by
  obtain⟨d',hd,c⟩:=kkf cr (by simpa using hw);rw[qvz c];exact K9 30 (jzm f2 hd) c c1 (by have:=L3.in1_units X.A;omega)
 rcases hq with hq|hq
 ·obtain⟨ac,r,pl,hz⟩:=I.list hq;have cr:=creps_of I ra f2 r;refine SeqAt.in_listAt _ pl.isList (he cr) ⟨.bl _,H,I,rfl,?_⟩;rw[List.any_toArray,jzt cr];exact q
 ·obtain⟨ac,r,pl,hz⟩:=I.tuple hq;have cr:=creps_of I ra f2 r;refine SeqAt.in_tupleAt _ pl (he cr) ⟨.bl _,H,I,rfl,?_⟩;rw[List.any_toArray,jzt cr];exact q
theorem kzw(hu:X.A.units+64<cLine):OpR X (compareOp .NotIn) (qko X.K true):=by
 intro pins s σ H x y v u Q I rx ry h;obtain⟨d,ds,as,bs,p,xs,h1,rfl,hq,ra,f1,f2,q⟩:=h;cases ry;have c1:=Q4 I h1 f1 rx;have he:∀{us:List Value},CReps s.heap ds us->∀w,w∈us.toArray->SeqAt.EqAt X.A.in1 s w v (peq (dec s.heap w) d):=fun {us} cr w hw=>by
  obtain⟨d',hd,c⟩:=kkf cr (by simpa using hw);rw[qvz c];exact K9 30 (jzm f2 hd) c c1 (by have:=L3.in1_units X.A;omega)
 rcases hq with hq|hq
 ·obtain⟨ac,r,pl,hz⟩:=I.list hq;have cr:=creps_of I ra f2 r;refine SeqAt.notIn_listAt _ pl.isList (he cr) ⟨.bl _,H,I,rfl,?_⟩;rw[List.any_toArray,jzt cr];exact q
 ·obtain⟨ac,r,pl,hz⟩:=I.tuple hq;have cr:=creps_of I ra f2 r;refine SeqAt.notIn_tupleAt _ pl (he cr) ⟨.bl _,H,I,rfl,?_⟩;rw[List.any_toArray,jzt cr];exact q
def qkn(ib:Bool):R2:=λx y H Q=>∃i j,x=.str i/\y=.str j/\Q (.bl (if ib then !wwn i j else wwn i j)) H
theorem opInStr:OpR X (compareOp .In) (qkn false):=λpins s σ H x y v u Q I rx ry ⟨i,j,e1,e2,q⟩=>qqd pins s σ H x y v u Q I rx ry ⟨i,j,e1,e2,q⟩
theorem opNotInStr:OpR X (compareOp .NotIn) (qkn true):=λpins s σ H x y v u Q I rx ry ⟨i,j,e1,e2,q⟩=>kqc pins s σ H x y v u Q I rx ry ⟨i,j,e1,e2,q⟩
def YK(K:Frag)(ib:Bool):R2:=λx y H Q=>qkn ib x y H Q\/qko K ib x y H Q
theorem wj7(hu:X.A.units+64<cLine)(hK:autoParam (X.K=K) Ŕ):OpR X (compareOp .In) (YK K false):=by subst hK;exact opInStr.or (vqs hu)
theorem kxj(hu:X.A.units+64<cLine)(hK:autoParam (X.K=K) Ŕ):OpR X (compareOp .NotIn) (YK K true):=by subst hK;exact opNotInStr.or (kzw hu)
theorem wJ{H:Hp}{l:Addr}{xs:List V}(h:LsR K H l xs):SqL K H l xs:=h.sq
theorem kkk{x y:Sl}{ys:List D}{ib:Bool}{Q:VK}(ox:x.ok K H)(oy:y.ok K H)(hy:y.d=.lst ys\/y.d=.tup ys)(hc:(x.d.flat 30&&D.flats 30 ys)=true)
  (k:Q (.bl (if ib then !(ys.any λz=>peq z x.d)else ys.any λz=>peq z x.d)) H):YK K ib x.v y.v H Q:=by
 rw[Bool.and_eq_true]at hc;obtain⟨l,xs,bs,e3,q3,r3,_⟩:=items oy hy;have r3':RepA K H true ys xs bs:=by
  cases ho:(y.o != .dp)with|true=>rw[ho]at r3;exact r3|false=>rw[ho]at r3;exact r3.wk
 refine .inr ⟨x.d,ys,x.as,bs,l,xs,RepO.wk ox,e3,?_,r3',hc.1,hc.2,k⟩;rcases q3 with⟨_,z⟩|⟨_,z⟩
 ·exact .inl (wJ z)
 ·exact .inr z
theorem wq9:Ad2 K (YK K false) (pu2 QQ):=by
 intro H x y s Q ox oy hf k;unfold pu2 QQ fIn at hf;dsimp only at hf;cases hy:y.d with
 | lst ys=>
  rw[hy]at hf;dsimp only at hf
  split at hf
  ·rename_i hc;cases oq9 hf;exact kkk ox oy (.inl hy) hc (k ⟨.dp,.bl _,.bl _,[]⟩ H rfl rfl v8)
  ·cases hf
 | tup ys=>
  rw[hy]at hf;dsimp only at hf
  split at hf
  ·rename_i hc;cases oq9 hf;exact kkk ox oy (.inr hy) hc (k ⟨.dp,.bl _,.bl _,[]⟩ H rfl rfl v8)
  ·cases hf
 | str b=>
  rw[hy]at hf;dsimp only at hf
  split at hf
  ·rename_i a hx;cases oq9 hf;exact .inl ⟨a,b,(v7 ox hx).1,(v7 oy hy).1,k ⟨.dp,.bl _,.bl _,[]⟩ H rfl rfl v8⟩
  ·cases hf
 |_=>rw[hy]at hf;cases hf
theorem kze:Ad2 K (YK K true) (pu2 JZ):=by
 intro H x y s Q ox oy hf k;unfold pu2 JZ WQ fIn at hf;dsimp only at hf;cases hy:y.d with
 | lst ys=>
  rw[hy]at hf;dsimp only at hf
  split at hf
  ·rename_i hc;cases oq9 hf;exact kkk ox oy (.inl hy) hc (k ⟨.dp,.bl _,.bl _,[]⟩ H rfl rfl v8)
  ·cases hf
 | tup ys=>
  rw[hy]at hf;dsimp only at hf
  split at hf
  ·rename_i hc;cases oq9 hf;exact kkk ox oy (.inr hy) hc (k ⟨.dp,.bl _,.bl _,[]⟩ H rfl rfl v8)
  ·cases hf
 | str b=>
  rw[hy]at hf;dsimp only at hf
  split at hf
  ·rename_i a hx;cases oq9 hf;exact .inl ⟨a,b,(v7 ox hx).1,(v7 oy hy).1,k ⟨.dp,.bl _,.bl _,[]⟩ H rfl rfl v8⟩
  ·cases hf
 |_=>rw[hy]at hf;cases hf
theorem vkb:Ad1 K (rU λi=>.int (-i)) (pu1 Vv):=by
 intro H x s Q ox hf k;unfold pu1 Vv at hf;dsimp only at hf
 split at hf
 ·rename_i i e;cases oq9 hf;exact⟨i,kw ox e,k ⟨.dp,.int _,.int _,[]⟩ H rfl rfl K8⟩
 ·cases hf
theorem qva(n:Nat)(i:Int):_root_.Q.ixN n i=L2.ixN n i:=rfl
theorem vvd{x y:Sl}{d:D}{Q:VK}(ox:x.ok K H)(oy:y.ok K H)(hf:kY x.d y.d=some d)(k:∀z:Sl,z.o=sub x.o->z.d=d->z.ok K H->(∀b∈z.frz,b∈x.frz)->(∀b∈z.as,b∈x.as)->Q z.v H):rIx K x.v y.v H Q:=by
 have seq:∀ds:List D,(x.d=.lst ds\/x.d=.tup ds)->∀i:Int,y.d=.int i->((_root_.Q.ixN ds.length i).bind λj=>ds[j]?)=some d->rIx K x.v y.v H Q:=by
  intro ds hx i hy hd;obtain⟨l,xs,bs,e3,q3,r3,h3,h4⟩:=items ox hx;cases hj:_root_.Q.ixN ds.length i with
  | none=>rw[hj]at hd;cases hd
  | some j=>
   rw [hj]at hd;obtain⟨v,cs,e4,r4,h5⟩:=r3.get (show ds[j]?=some d from hd);have lq:atI xs i=some v:=by
    unfold atI;rw[<-r3.len,<-qva,hj];exact e4
   have fin:Q v H:=by
    cases ho:x.o with
    | dp=>
     rw[ho]at r4;exact k ⟨.dp,d,v,cs⟩ (by rw[ho];rfl) rfl r4 (λb hb=>(nomatch hb)) λb hb=>h3 b (h5 b hb)
    | no=>
     rw[ho]at r4;exact k ⟨.no,d,v,cs⟩ (by rw[ho];rfl) rfl r4 (λb hb=>h4 (by rw[ho];exact(λz=>nomatch z)) b (h5 b hb)) λb hb=>h3 b (h5 b hb)
    | rt=>
     rw[ho]at r4;exact k ⟨.no,d,v,cs⟩ (by rw[ho];rfl) rfl r4 (λb hb=>h4 (by rw[ho];exact(λz=>nomatch z)) b (h5 b hb)) λb hb=>h3 b (h5 b hb)
   rcases q3 with⟨_,z⟩|⟨_,z⟩
   ·exact .inl ⟨l,xs,i,v,e3,kw oy hy,wJ z,lq,fin⟩
   ·exact .inr (.inl ⟨l,xs,i,v,e3,kw oy hy,z,lq,fin⟩)
 unfold kY at hf;cases hx:x.d with
 | lst ds=>
  rw [hx]at hf;cases hy:y.d with| int i=>rw[hy]at hf;exact seq ds (.inl hx) i hy hf| _=>rw[hy]at hf;cases hf
 | tup ds=>
  rw [hx]at hf;cases hy:y.d with| int i=>rw[hy]at hf;exact seq ds (.inr hx) i hy hf| _=>rw[hy]at hf;cases hf
 | str z=>
  rw [hx]at hf;cases hy:y.d with
  | int i=>
   rw [hy]at hf;have hf:((_root_.Q.ixN z.cps.size i).bind λj=>(z.cps.toList[j]?).map λc=>D.str ⟨#[c]⟩)=some d:=hf;cases hj:_root_.Q.ixN z.cps.size i with
   | none=>rw[hj]at hf;cases hf
   | some j=>
    rw[hj]at hf;cases hc:z.cps.toList[j]? with
    | none=>rw[Option.bind_some,hc]at hf;cases hf
    | some c=>
     rw[Option.bind_some,hc]at hf;cases oq9 hf;have lq:atI z.cps.toList i=some c:=by
      unfold atI;rw[X4,<-qva,hj];exact hc
     obtain⟨e1,hz⟩:=v7 ox hx;refine .inr (.inr ⟨z,i,c,e1,kw oy hy,hz,lq,?_⟩);have rp:∀g,RepL K H g (.str ⟨#[c]⟩) (.str ⟨#[c]⟩) []:=λg=>Qq (show(1:Nat)<=sizeLine by decide)
     cases ho:x.o with|dp=>exact k ⟨.dp,.str ⟨#[c]⟩,.str ⟨#[c]⟩,[]⟩ (by rw[ho];rfl) rfl (rp false) (λb hb=>(nomatch hb)) λb hb=>(nomatch hb)|no=>exact k ⟨.no,.str ⟨#[c]⟩,.str ⟨#[c]⟩,[]⟩ (by rw[ho];rfl) rfl (rp true) (λb hb=>(nomatch hb)) λb hb=>(nomatch hb)|rt=>exact k ⟨.no,.str ⟨#[c]⟩,.str ⟨#[c]⟩,[]⟩ (by rw[ho];rfl) rfl (rp true) (λb hb=>(nomatch hb)) λb hb=>(nomatch hb)
  |_=>rw[hy]at hf;cases hf
 |non=>rw[hx]at hf;cases hf|bl _=>rw[hx]at hf;cases hf|int _=>rw[hx]at hf;cases hf|dct _=>rw[hx]at hf;cases hf|obj _ _=>rw[hx]at hf;cases hf
theorem q_ix(ha:QV X Z qa a ea)(hb:QV X Z true b eb)(hs:kwn eb)(hK:autoParam (X.K=Z.K) Ŕ):QV X Z qa (qX a b) (.Subscript ea eb pos):=
 kz (wvy (hK▸wjy) ha hb hs) fun σ H Q au=>ex8 au λE L r m w hc xc k=>by
  refine kZ m w (show bnd (a E) _=some r from hc) xc λE1 s h1 x L1 H1 e1 e2 m1 w1 ok fr sr st sm=>?_
  refine kZ m1 w1 h1 (xc.step st) λE2 s2 h2 y L2 H2 e3 e4 m2 w2 kg om nv bn fb=>?_
  obtain⟨z,hz,rfl⟩:=xK h2;cases hf:kY s.2 s2.2 with
  |none=>rw[hf]at hz;cases hz
  |some d=>
   rw[hf]at hz;cases oq9 hz;have kx:=Kk ok fr bn (fb rfl);refine vvd kx.1 kg (by rw[e2,e4];exact hf) λz zo zd pz zf za=>?_
   exact k _ _ rfl z L2 H2 (by rw[zo,e1]) zd m2 w2 pz (λb hb=>kx.2 b (zf b hb)) (Qk sr za) (st.trans bn) λhq=>k4 (sm hq) (fb rfl)
theorem vxt{op}(h:QE X Z q a ea):QE X Z q a (.BoolOp op [ea] pos):=vzr h
theorem wvt(ha:QV X Z q a ea)(hb:QE X Z q b (.BoolOp .And (eb::es) pos)):QE X Z q (wkv a b) (.BoolOp .And (ea::eb::es) pos):=kz (vzz ha hb) fun σ H Q au=>ex8 au λE L r m w hc xc k=>
 kZ m w (show bnd (a E) _=some r from hc) xc λE1 s h1 x L1 H1 e1 e2 m1 w1 ok fr sr st sm=>by
  cases hs:s.2 with
  | bl kk=>
   rw[hs]at h1;refine⟨kk,W6 ok (e2.trans hs),?_⟩;cases kk with
   |true=>
    rw[X7 rfl];exact⟨E1,L1,r,m1,w1,h1,xc.step st,λE' a z x L' H' e1 e2 m' w' cu ik=>k E' a z x L' H' e1 e2 m' w' (st.trans cu) λhq=>⟨k4 (sm hq) (ik hq).1,λb hb=>zQ (sm hq) ((ik hq).2 b hb)⟩⟩
   |false=>
    rw[X9 ⋯];cases oq9 h1;obtain⟨w3,cx⟩:=Jk w1 st (v8 (K:=Z.K) (H:=H1) (i:=false) (fr:=[])) (λ_ z=>(nomatch z)) (λ_ z=>(nomatch z)) (λ_ z=>(nomatch z));exact k _ _ rfl ⟨.dp,.bl false,.bl false,[]⟩ L1 H1 rfl rfl m1 w3 cx λhq=>⟨sm hq,λ_ z=>(nomatch z)⟩
  |_=>rw[hs]at h1;cases h1
theorem truV{x:Sl}{k:Bool}(ok:x.ok K H)(h:truth x.d=some k)(hd:∀aa,x.d≠.dct aa):wx5 K x.v H k:=by
 cases hx:x.d with
 |non=>rw[hx]at h;rw[vjn ok hx];exact(oq9 h).symm|bl b=>rw[hx]at h;rw[W6 ok hx];exact(oq9 h).symm|int i=>rw[hx]at h;rw[kw ok hx];exact(oq9 h).symm
 |str z=>
  rw[hx]at h;obtain⟨e,hz⟩:=v7 ok hx;rw[e];refine⟨hz,?_⟩;rw[<-oq9 h];show(z.cps.size != 0)=(((z.cps.size:Nat):Int) != 0);rw[Bool.eq_iff_iff];simp
 |lst ds=>
  rw[hx]at h;obtain⟨a,xs,bs,e,q,r,_⟩:=items ok (.inl hx);rw[e];have q':LsR K H a xs:=by rcases q with⟨_,z⟩|⟨z,_⟩;exact z;rw[hx]at z;cases z
  refine .inl ⟨xs,wJ q',?_⟩;rw[<-oq9 h];have:=r.len;cases ds<;>cases xs<;>simp_all
 |tup ds=>
  rw[hx]at h;obtain⟨a,xs,bs,e,q,r,_⟩:=items ok (.inr hx);rw[e];have q':SqT K H a xs:=by rcases q with⟨z,_⟩|⟨_,z⟩;rw[hx]at z;cases z;exact z
  refine .inr (.inl ⟨xs,q',?_⟩);rw[<-oq9 h];have:=r.len;cases ds<;>cases xs<;>simp_all
 |dct aa=>exact absurd hx (hd aa)|obj c f=>rw[hx]at h;cases h
theorem qjy{d:D}{k:Bool}(h:truthQ d=some k):truth d=some k/\∀aa,d≠.dct aa:=by
 cases d<;>first|exact⟨h,λ_ z=>nomatch z⟩|cases h
theorem kk1(h:QV X Z q a ea)(he:autoParam (∀en,isTrue ea X.env en=(do let v <-en;standAt ea.pos;holding [v] (truthy v))) Ŗ)(hK:autoParam (X.K=Z.K) Ŕ):QT X Z q (tEQ a) ea:=qq0 (qxv h he) fun σ H Q au=>ex8 au λE L r m w hc xc k=>
 kZ m w (show bnd (a E) _=some r from hc) xc λE1 s h1 x L1 H1 e1 e2 m1 w1 ok fr sr st sm=>by
  obtain⟨kk,hk,rfl⟩:=xK h1;obtain⟨h2,h3⟩:=qjy hk;exact⟨kk,hK▸truV ok (by rw[e2];exact h2) (by rw[e2];exact h3),k _ _ rfl L1 H1 m1 w1 st sm⟩
end
theorem jxs{α:Type}:∀{L:List α} {i:Nat} {q:α},L[i]?=some q->∃A B,L=A++q::B/\∀q',L.set i q'=A++q'::B
 |[],_,_,h=>by simp at h
 |a::L,0,q,h=>by
  have e:a=q:=by simpa using h
  subst e;exact⟨[],L,rfl,λ_=>rfl⟩
 |a::L,i+1,q,h=>by
  obtain⟨A,B,e,f⟩:=jxs (L:=L) (i:=i) (by simpa using h);exact⟨a::A,B,by rw[e];rfl,λq'=>by rw[List.set_cons_succ,f];rfl⟩
section
variable {K:Frag}{H:Hp}{M T L:Ls}{y y':Sl}{l:Addr}{ob:HO}
theorem World.write(w:World K H (some y::(T++M)))(hl:l∈y.own)(ok':y'.ok K (upd H l ob))(nd:y'.own.Nodup)(h1:∀a∈y'.own,a∈y.own\/a∈j6 T)(h2:∀a∈y'.frz,a∈y.as\/a∈j6 T\/a∈jz T)(h3:∀a∈y'.own,a∉y'.frz):
  World K (upd H l ob) (some y'::M)/\Step H (some y::(T++M)) (upd H l ob) (some y'::M):=by
 have wn:=w.nd;rw [jZ,jx,Xk,Xk]at wn;obtain⟨n1,⟨n2,n3,n4⟩,n5⟩:=wn;have oy:l∈j6 (some y::(T++M)):=by rw[jZ];exact ll9 _ hl
 have i4:=w.own_al oy;have ds:∀a,(a∈y.own\/a∈j6 T\/a∈j6 M)->¬(a∈y.frz\/a∈jz T\/a∈jz M):=λa ha hf=>by
  refine w.ds a ?_ ?_
  ·rw[jZ,jx];rcases ha with z|z|z
   ·exact ll9 _ z
   ·exact lr9 _ (ll9 _ z)
   ·exact lr9 _ (lr9 _ z)
  ·rw[qk,k6];rcases hf with z|z|z
   ·exact ll9 _ z
   ·exact lr9 _ (ll9 _ z)
   ·exact lr9 _ (lr9 _ z)
 have noM:∀z,some z∈M->l∉z.as:=λz hz ha=>by
  rcases Sl.as_of ha with q|q
  ·exact n5 l hl l (lr9 _ (mem_owned.mpr ⟨z,hz,q⟩)) rfl
  ·exact ds l (.inl hl) (.inr (.inr (mem_frozen.mpr ⟨z,hz,q⟩)))
 have ke:∀a o,H a=some o->a≠l->upd H l ob a=some o:=λa o e ne=>by rw[jX ne];exact e
 have kp:∀as:List Addr,l∉as->Kp H (upd H l ob) as:=λas hn=>by
  refine⟨λa xs e=>ke a _ e λz=>?_,λa o u e=>ke a _ e λz=>?_,λa ha o e=>ke a o e λz=>hn (z▸ha)⟩
  ·subst z;rcases i4 with⟨_,q⟩|⟨_,q⟩|⟨_,q⟩<;>(rw[e]at q;cases q)
  ·subst z;rcases i4 with⟨_,q⟩|⟨_,q⟩|⟨_,q⟩<;>(rw[e]at q;cases q)
 have wM:World K (upd H l ob) M:=by
  have w1:World K H M:=w.tail.right;exact⟨λz hz=>RepO.kp (w1.ok z hz) (kp _ (noM z hz)),w1.nd,w1.ds⟩
 refine⟨wM.cons ok' nd (λa ha hM=>?_) (λa ha hM=>?_) (λa ha hM=>?_) h3,λa o e hn=>ke a o e λz=>hn (z▸oy),λa ha=>?_,λa ha=>?_⟩
 ·rcases h1 a ha with z|z
  ·exact n5 a z a (lr9 _ hM) rfl
  ·exact n4 a z a hM rfl
 ·rcases h1 a ha with z|z
  ·exact ds a (.inl z) (.inr (.inr hM))
  ·exact ds a (.inr (.inl z)) (.inr (.inr hM))
 ·rcases h2 a ha with z|z|z
  ·rcases Sl.as_of z with z|z
   ·exact n5 a z a (lr9 _ hM) rfl
   ·exact ds a (.inr (.inr hM)) (.inl z)
  ·exact n4 a z a hM rfl
  ·exact ds a (.inr (.inr hM)) (.inr (.inl z))
 ·rw[jZ]at ha;rw[jZ,jx];rcases aA ha with z|z
  ·rcases h1 a z with z|z
   ·exact .inl (ll9 _ z)
   ·exact .inl (lr9 _ (ll9 _ z))
  ·exact .inl (lr9 _ (lr9 _ z))
 ·rw[qk]at ha;rw[jZ,jx,qk,k6];rcases aA ha with z|z
  ·rcases h2 a z with z|z|z
   ·rcases Sl.as_of z with z|z
    ·exact .inr (.inl (ll9 _ z))
    ·exact .inl (ll9 _ z)
   ·exact .inr (.inl (lr9 _ (ll9 _ z)))
   ·exact .inl (lr9 _ (ll9 _ z))
  ·exact .inl (lr9 _ (lr9 _ z))
theorem World.writeAt{i:Nat}(w:World K H (T++L))(hy:L[i]?=some (some y))(hl:l∈y.own)(ok':y'.ok K (upd H l ob))(nd:y'.own.Nodup)(h1:∀a∈y'.own,a∈y.own\/a∈j6 T)(h2:∀a∈y'.frz,a∈y.as\/a∈j6 T\/a∈jz T)(h3:∀a∈y'.own,a∉y'.frz):
  World K (upd H l ob) (L.set i (some y'))/\Step H (T++L) (upd H l ob) (L.set i (some y')):=by
 obtain⟨A,B,e,f⟩:=jxs hy;rw[f];subst e;have p:(T++(A++some y::B)).Perm (some y::(T++(A++B))):=by
  refine(List.Perm.append_left T (List.perm_middle (a:=some y) (l₁:=A) (l₂:=B))).trans List.perm_middle
 obtain⟨w2,s2⟩:=World.write (M:=A++B) (w.perm p) hl ok' nd h1 h2 h3;exact⟨w2.perm List.perm_middle.symm,s2.perm p.symm List.perm_middle.symm⟩
end
theorem RepA.snoc{K:Frag}{H:Hp}{g:Bool}{d:D}{x:V}{cs:List Addr}(h:RepL K H g d x cs){ds:List D}{xs:List V}{bs:List Addr}(r:RepA K H g ds xs bs):RepA K H g (ds++[d]) (xs++[x]) (bs++cs):=by
 refine RepA.app ?_ r;unfold RepA;exact⟨x,[],cs,[],rfl,by simp,h,by unfold RepA;exact⟨rfl,rfl⟩⟩
theorem kk7{K:Frag}{H:Hp}{y:Sl}{ds:List D}(ok:y.ok K H)(hd:y.d=.lst ds)(ho:y.o≠.no):∃l xs bs,y.v=.ref l/\H l=some (.lst xs)/\y.as=l::bs/\l∈y.own/\RepA K H (y.o != .dp) ds xs bs:=by
 obtain⟨o,d,v,as⟩:=y;dsimp only at hd ho;subst hd;cases o with
 |no=>exact absurd rfl ho
 |rt=>
  obtain⟨a,xs,bs,rfl,r,q,rfl⟩:=(show RepR K H (.lst ds) v as from ok);exact⟨a,xs,bs,rfl,q,rfl,by simp[Sl.own],r⟩
 |dp=>
  have ok:RepL K H false (.lst ds) v as:=ok;unfold RepL at ok;obtain⟨a,xs,bs,rfl,r,q⟩:=ok;rcases q with⟨q,rfl⟩|⟨z,_⟩
  ·exact⟨a,xs,bs,rfl,q,rfl,by simp[Sl.own],r⟩
  ·cases z
theorem kk2{K:Frag}{H:Hp}{T L:Ls}{i:Nat}{y:Sl}{l:Addr}{xs xs':List V}{bs cs:List Addr}{o':Own}{ds':List D}(w:World K H (T++L))(hy:L[i]?=some (some y))(hH:H l=some (.lst xs))(ha:y.as=l::bs)(hl:l∈y.own)(hv:y.v=.ref l)
  (r:RepA K H (o' != .dp) ds' xs' cs) (hc:(o'=.rt/\∀a∈cs,a∈bs\/a∈j6 T\/a∈jz T)\/(o'=.dp/\y.o=.dp/\cs.Nodup/\∀a∈cs,a∈bs\/a∈j6 T)):
  World K (upd H l (.lst xs')) (L.set i (some ⟨o',.lst ds',y.v,l::cs⟩))/\Step H (T++L) (upd H l (.lst xs')) (L.set i (some ⟨o',.lst ds',y.v,l::cs⟩)):=by
 have oL:l∈j6 L:=mem_owned.mpr ⟨y,vZ hy,hl⟩;have oy:l∈j6 (T++L):=by rw[jx];exact lr9 _ oL
 have nd:=w.nd;rw [jx,Xk]at nd;have nT:l∉j6 T:=λz=>nd.2.2 l z l oL rfl
 have nF:l∉jz T:=λz=>w.ds l oy (by rw[k6];exact ll9 _ z)
 have yn:y.own.Nodup:=by
  obtain⟨A,B,e,_⟩:=jxs hy;have:=nd.2.1;rw[e,jx,jZ,Xk]at this;exact(List.nodup_append.mp this.2.1).1
 have nb:l∉bs:=λz=>by
  cases ho:y.o with
  | no=>unfold Sl.own at hl;rw[ho]at hl;exact nomatch hl
  | rt=>
   have:l∈y.frz:=by unfold Sl.frz;rw[ho,ha];exact z
   exact w.ds l oy (by rw[k6];exact lr9 _ (mem_frozen.mpr ⟨y,vZ hy,this⟩))
  | dp=>
   unfold Sl.own at yn;rw[ho,ha]at yn;exact(List.nodup_cons.mp yn).1 z
 have nc:l∉cs:=λz=>by
  rcases hc with⟨_,hc⟩|⟨_,_,_,hc⟩
  ·rcases hc l z with q|q|q
   ·exact nb q
   ·exact nT q
   ·exact nF q
  ·rcases hc l z with q|q
   ·exact nb q
   ·exact nT q
 have kp:Kp H (upd H l (.lst xs')) cs:=by
  have k2:∀a o,H a=some o->a≠l->upd H l (.lst xs') a=some o:=λa o e ne=>by rw[jX ne];exact e
  refine⟨λa zs e=>k2 a _ e λz=>?_,λa o u e=>k2 a _ e λz=>?_,λa ha o e=>k2 a o e λz=>nc (z▸ha)⟩
  ·subst z;rw[hH]at e;cases e
  ·subst z;rw[hH]at e;cases e
 have r':=r.kp kp;rcases hc with⟨rfl,hc⟩|⟨rfl,hdp,dy,hc⟩
 ·refine World.writeAt w hy hl (y':=⟨.rt,.lst ds',y.v,l::cs⟩) ⟨l,xs',cs,hv,r',v6,rfl⟩ (by simp[Sl.own]) (λa h=>?_) (λa h=>?_) (λa h z=>?_)
  ·have:a=l:=by simpa [Sl.own]using h
   subst this;exact .inl hl
  ·rcases hc a (by simpa [Sl.frz]using h)with q|q
   ·exact .inl (by rw[ha];exact lc9 _ q)
   ·exact .inr q
  ·have:a=l:=by simpa [Sl.own]using h
   subst this;exact nc (by simpa [Sl.frz]using z)
 ·have oa:y.own=y.as:=by unfold Sl.own;rw[hdp]
  refine World.writeAt w hy hl (y':=⟨.dp,.lst ds',y.v,l::cs⟩) ?_ (List.nodup_cons.mpr ⟨nc,dy⟩) (λa h=>?_) (λa h=>(nomatch h)) (λa h z=>(nomatch z))
  ·show RepL K _ false (.lst ds') y.v (l::cs);unfold RepL;exact⟨l,xs',cs,hv,r',.inl ⟨v6,rfl⟩⟩
  ·rcases aD (show a∈l::cs from h)with q|q
   ·subst q;exact .inl hl
   ·rcases hc a q with q|q
    ·exact .inl (by rw[oa,ha];exact lc9 _ q)
    ·exact .inr q
section
variable {X:Cx}{Z:Fx0}{pn:List Nat}{q:Bool}{c:Ex}{e:Expr}{σ:L2.St}{H:Hp}{L:Ls}{E:En}
theorem vjp{K:Frag}{x:Sl}{ds:List D}(ok:x.ok K H)(hd:x.d=.lst ds):tyV K "list" x.v H:=by
 obtain⟨a,xs,bs,e1,q1,_⟩:=items ok (.inl hd);rw[e1];rcases q1 with⟨_,z⟩|⟨z,_⟩
 ·exact .inl ⟨rfl,xs,z.sq⟩
 ·rw[hd]at z;cases z
theorem wwj{K:Frag}{x:Sl}(ok:x.ok K H)(b:Bool)(hb:b=false->vz x.sd=true):∃cs,RepL K H b x.d x.v cs/\(∀a∈cs,a∈x.as)/\(b=false->∀a∈cs,a∈x.own)/\(b=false->x.own.Nodup->cs.Nodup):=by
 cases b with
 | true=>exact⟨x.as,RepO.wk ok,λ_ h=>h,(λz=>by cases z),(λz=>by cases z)⟩
 | false=>
  have t:=hb rfl;unfold vz at t
  by_cases ho:x.o=.dp
  ·have e:x.own=x.as:=by unfold Sl.own;rw[ho]
   refine⟨x.as,?_,λ_ h=>h,λ_ a h=>by rw[e];exact h,λ_ n=>by rw[e]at n;exact n⟩;have:=ok;unfold Sl.ok at this;rw[ho]at this;exact this
  ·have hp:x.d.pure=true:=by
    rcases Bool.or_eq_true_iff.mp t with z|z
    ·exact absurd (by simpa using z) ho
    ·exact z
   obtain⟨z,rp⟩:=RepL.pu (g':=false) (RepO.wk ok) hp;exact⟨[],rp,λ_ h=>(nomatch h),λ_ _ h=>(nomatch h),λ_ _=>Y4⟩
theorem V9{α:Type}{l:List α}{i:Nat}{x:α}(h:l[i]?=some x):l.set i x=l:=by
 obtain⟨h1,h2⟩:=List.getElem?_eq_some_iff.mp h;rw[<-h2];simp
theorem mut1 {D':Ends} {f:List D->D->Option (List D)} {i:Nat} {r:Fl} {G:V->V->Hp->Prop} (m:Mt E σ L) (w:World Z.K H L) (hc:z3 f i c E=some r) (k:FlP Z pn D' σ H L r)
  (g:∀ (l:Addr) (x:V) (xs:List V) (ds ds':List D) (d:D) (bs cs:List Addr) (H1:Hp) (gg:Bool),f ds d=some ds'->H1 l=some (.lst xs)->RepA Z.K H1 gg ds xs bs->RepL Z.K H1 gg d x cs ->
   (∀ xs' es,RepA Z.K H1 gg ds' xs' es->(∀a∈es,a∈bs\/a∈cs)->((bs++cs).Nodup->es.Nodup)->D'.nx σ (upd H1 l (.lst xs')))->G (.ref l) x H1):
  ∃ v,σ[i]?=some (some v)/\tyV Z.K "list" v H/\tQ Z q c σ H (G v):=by
 unfold z3 at hc;cases h0:E[i]? with
 | none=>rw[h0]at hc;cases hc
 | some s0 =>
  cases s0 with
  | none=>rw[h0]at hc;cases hc
  | some s0=>
   obtain ⟨o0,d0⟩:=s0;cases d0 with
   | lst ds0=>
    rw [h0,X7 (show Kv (some (some (o0,D.lst ds0)))=true from rfl)]at hc;obtain ⟨x0,a1,a2,a3,a4⟩:=m.get h0;refine ⟨x0.v,a4,vjp (w.ok x0 (vZ a1)) a3,?_⟩;refine KZ m w hc k λE1 s h1 x L1 H1 e1 e2 m1 w1 st _=>?_
    cases hE:E1[i]? with
    | none=>rw[hE]at h1;cases h1
    | some s1=>
     cases s1 with
     | none=>rw[hE]at h1;cases h1
     | some s1=>
      obtain⟨oo,dd⟩:=s1;rw [hE]at h1;cases dd with
      | lst ds=>
       dsimp only at h1
       by_cases fy:oo=.no
       ·rw [X7 fy]at h1;cases h1
       ·rw [X9 fy]at h1;cases hfd:f ds s.2 with
        | none=>rw[hfd]at h1;cases h1
        | some ds'=>
         rw[hfd]at h1;obtain⟨y,b1,b2,b3,b4⟩:=m1.get hE;have hv:y.v=x0.v:=by rw[a4]at b4;exact(oq9 (oq9 b4)).symm
         obtain⟨l,xs,bs,c1,c2,c3,c4,c5⟩:=kk7 (w1.ok y (lc9 _ (vZ b1))) b3 (by rw[b2];exact fy);have ex0:x0.v=.ref l:=hv▸c1;rw[ex0];have wT:World Z.K H1 ([some x]++L1):=w1;have okx:=w1.head;have nd:=w1.nd;rw[jZ,Xk]at nd;have oT:j6 [some x]=x.own:=by simp
         have fT:jz [some x]=x.frz:=by simp
         by_cases hd:oo=.dp/\vz s=true
         ·rw[X7 hd]at h1;cases oq9 h1;have hyo:y.o=.dp:=b2.trans hd.1;rw[hyo]at c5;obtain⟨cs,r1,h3,h4,h5⟩:=wwj okx false λ_=>by rw[show x.sd=s from by simp[Sl.sd,e1,e2]];exact hd.2
          refine g l x.v xs ds ds' s.2 bs cs H1 false hfd c2 c5 (by rw[<-e2];exact r1) λxs' es re he hn=>?_
          have ynd:(bs++cs).Nodup:=by
           have yo:y.own=l::bs:=by unfold Sl.own;rw[hyo,c3]
           obtain⟨A,B,e,_⟩:=jxs b1;have q:=nd.2.1;rw[e,jx,jZ,Xk]at q;have q2:=(List.nodup_append.mp q.2.1).1;rw[yo]at q2;rw[Xk];refine⟨(List.nodup_cons.mp q2).2,h5 rfl nd.1,λa ha b hb ip=>?_⟩;subst ip;exact nd.2.2 a (h4 rfl a hb) a (mem_owned.mpr ⟨y,vZ b1,by rw[yo];exact lc9 _ ha⟩) rfl
          obtain⟨w3,s3⟩:=kk2 (o':=.dp) (ds':=ds') (xs':=xs') wT b1 c2 c3 c4 c1 re (.inr ⟨rfl,hyo,hn ynd,λa ha=>(he a ha).imp id λz=>by rw[oT];exact h4 rfl a z⟩);refine k σ _ _ Pn.refl ?_ w3 (st.trans s3);have:=m1.set (x:=⟨.dp,.lst ds',y.v,l::es⟩) i;rw[V9 b4]at this;exact this
         ·rw[X9 hd]at h1;cases oq9 h1;have c6:RepA Z.K H1 true ds xs bs:=by
           cases hb:(y.o != .dp)with|true=>rw[hb]at c5;exact c5|false=>rw[hb]at c5;exact c5.wk
          refine g l x.v xs ds ds' s.2 bs x.as H1 true hfd c2 c6 (by rw[<-e2];exact RepO.wk okx) λxs' es re he hn=>?_
          obtain⟨w3,s3⟩:=kk2 (o':=.rt) (ds':=ds') (xs':=xs') wT b1 c2 c3 c4 c1 re (.inl ⟨rfl,λa ha=>(he a ha).imp id λz=>by rw[oT,fT];exact Sl.as_of z⟩);refine k σ _ _ Pn.refl ?_ w3 (st.trans s3);have:=m1.set (x:=⟨.rt,.lst ds',y.v,l::es⟩) i;rw[V9 b4]at this;exact this
      |_=>cases h1
   |_=>rw[h0]at hc;cases hc
theorem wvs{i:Nat}{o:Expr}{aw am pos:Pos}(hb:PE X (.Call (.Attribute o "append" aw) [e] [] am) (tBM Z.K "list" kvv (Jx i) (vkl (tQ Z q c) wv2)))(hs:autoParam (swapsWith (.Call (.Attribute o "append" aw) [e] [] am) none pos.line X.env=pure false) Ŕ):
  QS X Z pn (z3 z5 i c) (.Expr (.Call (.Attribute o "append" aw) [e] [] am) pos):=zK (qq3 hb hs) λD σ H au=>ex7 au λE L r m w hc k=>
 mut1 (G:=λv x H1=>kvv v [x] H1 λ_ H2=>D.nx σ H2) m w hc k λl x xs ds ds' d bs cs H1 gg hf hH ra rx fin=>by
  unfold z5 at hf
  by_cases hl:ds.length<big
  ·rw[X7 hl]at hf;cases oq9 hf;exact⟨l,xs,x,rfl,rfl,hH,by rw[<-ra.len];exact hl,fin (xs++[x]) (bs++cs) (RepA.snoc rx ra) (λa ha=>aA ha) λh=>h⟩
  ·rw[X9 hl]at hf;cases hf
end
section
variable {X:Cx}{Z:Fx0}{pn:List Nat}{q:Bool}{a b c:Ex}{tg e ea eb:Expr}{σ:L2.St}{H:Hp}{L:Ls}{E:En}{pos p:Pos}
theorem vx1{pins:LA9}{H1:Hp}{s1:Shared}{x:Str}{t:Tok}{R:It->Hp->Prop}(I1:L2.Inv X pins σ H1 s1)(q:R (Its x) H1):wpAny (model X.prog X.w) X.A (pyIter (.str x t)) (PIE X pins σ tg R) X.xe s1:=by
 have fp:∀b∈[s1.heap.objs.size],qw X pins H1 b:=λb hb=>by
  have e:b=s1.heap.objs.size:=by simpa using hb
  subst e;exact I1.fpOk (Xa _) (I1.hok.fresh (Xa _))
 cases ha:x.cps.all (· < 128)
 ·exact wpAny_pyIter_wide ha ⟨s1.heap.objs.size,[s1.heap.objs.size],_,_,H1,rfl,I1.kept (t':=s1.toks) λb o e=>X2 _ e,kwr (λA' hA=>PySem.Walks.strWide hA _ x t) (λ_ _ _ _ _ st h=>wpAny_pyIter_striter_wide st h) ⋯,⟨_,Xb _ rfl,rfl,rfl⟩,fp,q⟩
 ·exact wpAny_pyIter_ascii ha ⟨s1.heap.objs.size,[s1.heap.objs.size],_,_,H1,rfl,I1.kept (t':=s1.toks) λb o e=>X2 _ e,kwr (λA' hA=>PySem.Walks.strAscii hA _ x t) (λ_ _ _ _ _ st h=>wpAny_pyIter_striter_ascii st h) ⋯,⟨_,Xb _ rfl,rfl,rfl⟩,fp,q⟩
theorem wjb{K:Frag}{H:Hp}(c:Nat):Sl.ok K H ⟨.no,.str ⟨#[c]⟩,.str ⟨#[c]⟩,[]⟩:=by
 show RepL K H true _ _ _;exact Qq (show(1:Nat)<=sizeLine by decide)
theorem wja{K:Frag}{H:Hp}(i:Int):Sl.ok K H ⟨.no,.int i,.int i,[]⟩:=by
 show RepL K H true _ _ _;exact xx
def iAny(K:Frag)(tl:TE):TI:=fun σ H R=>tl σ H λx H1=>(∃a xs,x=.ref a/\SqL K H1 a xs/\(xs.length<=sizeLine->R (Itl K a) H1))\/(∃a xs,x=.ref a/\SqT K H1 a xs/\(xs.length<=sizeLine->R (Itt K a) H1))\/∃z,x=.str z/\R (Its z) H1
theorem vzl{l:Expr}{tl:TE}(hl:PE X l tl):PI X tg l (iAny X.K tl):=by
 intro pins s σ H R I h;have h':tl σ H λx H1=>(∃a xs,x=.ref a/\SqL X.K H1 a xs/\(xs.length<=sizeLine->R (Itl X.K a) H1))\/(∃a xs,x=.ref a/\SqT X.K H1 a xs/\(xs.length<=sizeLine->R (Itt X.K a) H1))\/∃z,x=.str z/\R (Its z) H1:=h
 refine thn (hl pins s σ H _ I h') λv s1 ⟨x,H1,I1,r1,q1⟩=>?_
 rcases q1 with⟨a,xs,rfl,hq,q⟩|⟨a,xs,rfl,hq,q⟩|⟨z,rfl,q⟩
 ·cases r1;obtain⟨ac,rv,p,hz⟩:=I1.list hq;refine Zf p.isList ?_;refine⟨s1.heap.objs.size,[s1.heap.objs.size],_,_,H1,rfl,I1.kept (t':=s1.toks) λb o e=>X2 _ e,qjv a _,⟨_,Xb _ rfl,rfl,rfl⟩,λb hb=>?_,q hz⟩;have e:b=s1.heap.objs.size:=by simpa using hb
  subst e;exact I1.fpOk (Xa _) (I1.hok.fresh (Xa _))
 ·cases r1;obtain⟨ac,rv,p,hz⟩:=I1.tuple hq;refine wpAny_pyIter_tuple (show s1.heap.IsTuple a ac.toArray from p) ?_;refine⟨s1.heap.objs.size,[s1.heap.objs.size],_,_,H1,rfl,I1.kept (t':=s1.toks) λb o e=>X2 _ e,kzi a _,⟨_,Xb _ rfl,rfl,rfl⟩,λb hb=>?_,q hz⟩;have e:b=s1.heap.objs.size:=by simpa using hb
  subst e;exact I1.fpOk (Xa _) (I1.hok.fresh (Xa _))
 ·obtain⟨t,rfl⟩:=r1;exact vx1 I1 q
theorem vw(h:QE X Z q c e)(hK:autoParam (X.K=Z.K) Ŕ):QI X Z q tg (itS c) e:=λpins s σ H R I au=>ex8 au λE L r m w hc xc k=>by
 refine(hK▸vzl h) pins s σ H R I ?_;refine qxs m w (show bnd (c E) _=some r from hc) xc λE1 s h1 x L1 H1 e1 e2 m1 w1 st sm=>?_
 obtain⟨ds,hd,rfl⟩:=xK h1;have ok:=w1.head;have wT:World Z.K H1 (L1++[x.let].map some):=by
  refine World.comm (L:=[some x.let]) ?_;exact w1.tail.consNo (Vq ok) rfl λb hb=>w1.apart b hb
 have sT:Step H L H1 (L1++[x.let].map some):=by
  refine⟨st.keep,λb hb=>?_,λb hb=>?_⟩
  ·have:b∈j6 L1:=by simpa [KQ]using hb
   exact st.own b (by rw[jZ];exact lr9 _ this)
  ·have:b∈jz L1\/b∈x.as:=by simpa [KQ]using hb
   rcases this with z|z
   ·exact st.frz b (by rw[qk];exact lr9 _ z)
   ·exact kjw st b z
 cases hx:x.d with
 | lst es=>
  rw[<-e2,hx]at hd;have kd:es=ds:=oq9 hd;subst kd;obtain⟨a,xs,bs,ev,q3,r3,h3,_⟩:=items ok (.inl hx);have q3:LsR Z.K H1 a xs:=by rcases q3 with⟨_,z⟩|⟨z,_⟩;exact z;rw[hx]at z;cases z
  have again:∀H2:Hp,(∀t∈[x.let],t.ok Z.K H2)->∃ys cs,SqL Z.K H2 a ys/\RepA Z.K H2 true es ys cs/\∀b∈cs,b∈x.as:=λH2 hok=>by
   obtain⟨a',ys,cs,pq,q4,r4,h4,_⟩:=items (hok x.let (aB rfl)) (.inl hx);have:a'=a:=by have:=pq.symm.trans ev;exact V.ref.inj this
   subst this;rcases q4 with⟨_,z⟩|⟨z,_⟩
   ·exact⟨ys,cs,z.sq,r4,h4⟩
   ·rw[show x.let.d=D.lst es from hx]at z;cases z
  refine .inl ⟨a,xs,ev,q3.sq,λah=>k _ _ rfl (Itl Z.K a) [x.let] L1 H1 m1 wT sT (by rw[r3.len];exact ah) (λhq=>(sm hq).1) ⟨λt ht=>by rw[aC ht];rfl,λi H2 hok hi=>?_,λH2 hok=>?_,λi H2 v H3 d hok hy io=>?_⟩⟩
  ·obtain⟨ys,cs,s1,s2,_⟩:=again H2 hok;have hl:=s2.len;exact⟨ys,ys[i]'⋯,s1,X5 ⋯⟩
  ·obtain⟨ys,cs,s1,s2,_⟩:=again H2 hok;exact⟨ys,s1,by rw[s2.len];exact Xa _⟩
  ·obtain⟨ys,cs,s1,s2,s3⟩:=again H2 hok;obtain⟨e3,hy⟩:=hy;subst e3;obtain⟨v',gz,f1,f2,f3⟩:=s2.get io;have:v'=v:=by have:=hy ys s1;rw[f1]at this;exact oq9 this
   subst this;exact⟨⟨.no,d,v',gz⟩,rfl,rfl,rfl,wx,f2,λb hb=>⟨x.let,aB rfl,s3 b (f3 b hb)⟩⟩
 | tup es=>
  rw[<-e2,hx]at hd;have kd:es=ds:=oq9 hd;subst kd;obtain⟨a,xs,bs,ev,q3,r3,h3,_⟩:=items ok (.inr hx);have q3:SqT Z.K H1 a xs:=by rcases q3 with⟨z,_⟩|⟨_,z⟩;rw[hx]at z;cases z;exact z
  have again:∀H2:Hp,(∀t∈[x.let],t.ok Z.K H2)->∃ys cs,SqT Z.K H2 a ys/\RepA Z.K H2 true es ys cs/\∀b∈cs,b∈x.as:=λH2 hok=>by
   obtain⟨a',ys,cs,pq,q4,r4,h4,_⟩:=items (hok x.let (aB rfl)) (.inr hx);have:a'=a:=by have:=pq.symm.trans ev;exact V.ref.inj this
   subst this;rcases q4 with⟨z,_⟩|⟨_,z⟩
   ·rw[show x.let.d=D.tup es from hx]at z;cases z
   ·exact⟨ys,cs,z,r4,h4⟩
  refine .inr (.inl ⟨a,xs,ev,q3,λah=>k _ _ rfl (Itt Z.K a) [x.let] L1 H1 m1 wT sT (by rw[r3.len];exact ah) (λhq=>(sm hq).1) ⟨λt ht=>by rw[aC ht];rfl,λi H2 hok hi=>?_,λH2 hok=>?_,λi H2 v H3 d hok hy io=>?_⟩⟩)
  ·obtain⟨ys,cs,s1,s2,_⟩:=again H2 hok;have hl:=s2.len;exact⟨ys,ys[i]'⋯,s1,X5 ⋯⟩
  ·obtain⟨ys,cs,s1,s2,_⟩:=again H2 hok;exact⟨ys,s1,by rw[s2.len];exact Xa _⟩
  ·obtain⟨ys,cs,s1,s2,s3⟩:=again H2 hok;obtain⟨e3,hy⟩:=hy;subst e3;obtain⟨v',gz,f1,f2,f3⟩:=s2.get io;have:v'=v:=by have:=hy ys s1;rw[f1]at this;exact oq9 this
   subst this;exact⟨⟨.no,d,v',gz⟩,rfl,rfl,rfl,wx,f2,λb hb=>⟨x.let,aB rfl,s3 b (f3 b hb)⟩⟩
 | str z=>
  rw[<-e2,hx]at hd;have hd:(if z.cps.size<=big then some (z.cps.toList.map λc=>D.str ⟨#[c]⟩)else none)=some ds:=hd
  split at hd
  ·rename_i hz;cases oq9 hd;refine .inr (.inr ⟨z,(v7 ok hx).1,k _ _ rfl (Its z) [] L1 H1 m1 (by simpa using w1.tail) (by simpa using (st.trans Step.drop)) (by rw[X3,X4];exact hz) (λhq=>(sm hq).1) ⟨λt ht=>(nomatch ht),λi H2 _ hi=>?_,λH2 _=>?_,λi H2 v H3 d _ hy io=>?_⟩⟩)
   ·show i<z.cps.size
    simpa using hi
   ·show(z.cps.toList.map λc=>D.str ⟨#[c]⟩).length=z.cps.size;simp
   ·obtain⟨e3,cc,hc,rfl⟩:=hy;subst e3;rw[Xp,Xq,hc]at io;cases oq9 io;exact⟨⟨.no,.str ⟨#[cc]⟩,.str ⟨#[cc]⟩,[]⟩,rfl,rfl,rfl,wx,wjb cc,λb hb=>(nomatch hb)⟩
  ·cases hd
 |non=>rw[<-e2,hx]at hd;cases hd|bl _=>rw[<-e2,hx]at hd;cases hd|int _=>rw[<-e2,hx]at hd;cases hd|dct _=>rw[<-e2,hx]at hd;cases hd|obj _ _=>rw[<-e2,hx]at hd;cases hd
theorem kzg{K:Frag}(lo hi:Int):Walks K (Itr lo (hi - lo).toNat) [] (jY lo hi):=by
 have hl:(jY lo hi).length=(hi - lo).toNat:=by simp[jY]
 refine⟨λt ht=>(nomatch ht),λi H _ jo=>by rw[hl]at jo;exact jo,λH _=>by rw[hl];exact Xa _,λi H v H' d _ hy hd=>?_⟩;obtain⟨e,rfl⟩:=hy;subst e;unfold jY at hd;rw[Xp]at hd;cases hr:(List.range (hi - lo).toNat)[i]? with
 | none=>rw[hr]at hd;cases hd
 | some j=>
  rw[hr]at hd;have:j=i:=by
   obtain⟨_,h2⟩:=List.getElem?_eq_some_iff.mp hr
   simpa using h2.symm
  subst this;cases oq9 hd;exact⟨⟨.no,.int (lo+(j:Int)),.int (lo+(j:Int)),[]⟩,rfl,rfl,rfl,wx,wja _,λb hb=>(nomatch hb)⟩
theorem jwr{i:Int}(h:vj i=true):-(2 ^ 62)<=i/\i<2 ^ 62:=by
 unfold vj at h
 simpa using h
theorem Kj(ha:QV X Z q a ea)(hg:Gl X "range")(hm:X.mg "range"=none)(bj:autoParam (starEach [ea] X.env=[(false,eval ea X.env)]) Ŕ):QI X Z q tg (xJ a) (.Call (.Name "range" p) [ea] [] pos):=λpins s σ H R I au=>ex8 au λE L r m w hc xc k=>by
 refine(qq6 hg hm (qq ha v3 bj) bj) pins s σ H R I ?_;refine kZ m w (show bnd (a E) _=some r from hc) xc λE1 s h1 x L1 H1 e1 e2 m1 w1 ok fr sr st sm=>?_
 cases hx:s.2 with
 | int j=>
  rw[hx]at h1;dsimp only at h1
  split at h1
  ·rename_i hj;cases oq9 h1;obtain⟨j1,j2⟩:=jwr hj.1;have hv:=kw ok (e2.trans hx);refine⟨j,by rw[hv],j1,j2,?_⟩;have wk:=kzg (K:=Z.K) 0 j;rw[Int.sub_zero]at wk;exact k _ _ rfl (Itr 0 j.toNat) [] L1 H1 m1 (by simpa using w1) (by simpa using st) (by simp only[jY,X3,Y1,Int.sub_zero];exact hj.2) sm wk
  ·cases h1
 |_=>rw[hx]at h1;cases h1
theorem Mt.clr:∀{R:List Nat} {E:En} {L:Ls},Mt E σ L->Mt (Q.clr R E) σ (Q.clr R L)
 | [],_,_,m=>m
 | j::R,E,L,m=>by
  have un:∀{E:En} {σ:L2.St} {L:Ls} (j:Nat),Mt E σ L->Mt (E.set j none) σ (L.set j none):=by
   intro E σ L j m
   induction m generalizing j with
   |nil=>exact .nil
   |un m ih=>cases j with|zero=>exact .un m|succ j=>exact .un (ih j)
   |cons m ih=>cases j with|zero=>exact .un m|succ j=>exact .cons (ih j)
  show Mt (Q.clr R (E.set j none)) σ (Q.clr R (L.set j none));exact Mt.clr (un j m)
theorem Mt.drop:∀{E:En} {σ:L2.St} {L:Ls} (k:Nat),Mt E σ L->Mt (E.drop k) (σ.drop k) (L.drop k)
 |_,_,_,0,m=>m|_,_,_,k+1,.nil=>.nil|_,_,_,k+1,.un m=>m.drop k|_,_,_,k+1,.cons m=>m.drop k
theorem Mt.none_at:∀{E:En} {σ:L2.St} {L:Ls} {j:Nat},Mt E σ L->E[j]?=some none->L[j]?=some none
 |_,_,_,_,.nil,h=>by simp at h|_,_,_,0,.un _,_=>by simp|_,_,_,j+1,.un m,h=>by simpa using m.none_at (j:=j) (by simpa using h)|_,_,_,0,.cons _,h=>by simp at h|_,_,_,j+1,.cons m,h=>by simpa using m.none_at (j:=j) (by simpa using h)
theorem Mt.pick:∀{R:List Nat},Mt E σ L->Mt (R.map (at' E)) (R.map (at' σ)) (R.map (at' L))
 | [],_=>.nil
 | j::R,m=>by
  rw[List.map_cons,List.map_cons,List.map_cons];cases hE:E[j]? with
  | none=>
   have hl:=m.len;have:L[j]?=none:=by rw[List.getElem?_eq_none_iff]at hE ⊢;lia
   rw[show at' E j=none from by unfold at';rw[hE];rfl,show at' L j=none from by unfold at';rw[this];rfl];exact .un m.pick
  | some s=>
   cases s with
   |none=>
    have:L[j]?=some none:=m.none_at hE;rw[show at' E j=none from by unfold at';rw[hE];rfl,show at' L j=none from by unfold at';rw[this];rfl];exact .un m.pick
   |some s=>
    obtain⟨o,d⟩:=s;obtain⟨x,h1,h2,h3,h4⟩:=m.get hE;rw[show at' E j=some (x.o,x.d)from by unfold at';rw[hE,h2,h3];rfl,show at' L j=some x from by unfold at';rw[h1];rfl,show at' σ j=some x.v from by unfold at';rw[h4];rfl];exact .cons m.pick
theorem Mt.rep:∀{k:Nat},Mt E σ L->Mt (List.replicate k none++E) (List.replicate k none++σ) (List.replicate k none++L)
 |0,m=>by simpa using m
 |k+1,m=>by
  rw[List.replicate_succ,List.replicate_succ,List.replicate_succ];exact .un m.rep
theorem Mt.back:∀{R:List Nat} {B:En} {τ:L2.St} {M:Ls} {E:En} {L:Ls},Mt E σ L->Mt B τ M->(∀(i j:Nat) (v:V),R[i]?=some j->τ[i]?=some (some v)->σ[j]?=some (some v))->Mt (Q.back R B E) σ (Q.back R M L)
 | [],B,τ,M,E,L,m,_,_=>by simpa [Q.back]using m| j::R,_,_,_,E,L,m,.nil,_=>by simpa [Q.back]using m
 | j::R,_,_,_,E,L,m,.un mB,h=>by
  have un:∀{E:En} {σ:L2.St} {L:Ls} (j:Nat),Mt E σ L->Mt (E.set j none) σ (L.set j none):=by
   intro E σ L j m
   induction m generalizing j with
   |nil=>exact .nil
   |un m ih=>cases j with|zero=>exact .un m|succ j=>exact .un (ih j)
   |cons m ih=>cases j with|zero=>exact .un m|succ j=>exact .cons (ih j)
  show Mt (Q.back R _ (E.set j none)) σ (Q.back R _ (L.set j none));exact Mt.back (un j m) mB λi jj v e1 e2=>h (i+1) jj v (by simpa using e1) (by simpa using e2)
 |j::R,_,_,_,E,L,m,.cons (x:=x) mB,h=>by
  have h0:=h 0 j x.v (by simp) (by simp);have m1:=m.set (x:=x) j;rw[V9 h0]at m1;show Mt (Q.back R _ (E.set j _)) σ (Q.back R _ (L.set j _));exact Mt.back m1 mB λi jj v e1 e2=>h (i+1) jj v (by simpa using e1) (by simpa using e2)
section
variable {ao dn:Expr}{dk:List Expr}{scope:Scope}{N:List Str}{k:Nat}{R:List Nat}{it:Ev (List D)}{tt:Tg}{u:Ts}{o:Own}{q1 q2:Bool}
theorem vv8:z9 k R σ=List.replicate k none++R.map (at' σ):=rfl
theorem wwa{K:Frag}{M:Ls}(hR:R.Nodup)(w:World K H (L++M)):World K H ((List.replicate k none++R.map (at' L))++(Q.clr R L++M))/\Step H (L++M) H ((List.replicate k none++R.map (at' L))++(Q.clr R L++M)):=by
 have p:(sls (L++M)).Perm (sls ((List.replicate k none++R.map (at' L))++(Q.clr R L++M))):=by
  have:=kz8 (R:=R) (L:=L) hR;rw[Kq]at this;simp only[Kq,vkp,List.nil_append];rw[<-Yb];exact(this.append_right _).symm
 exact⟨w.same p,Step.refl.same (List.Perm.refl _) p⟩
theorem wjm{K:Frag}{B:Ls}{M:Ls}{H2:Hp}(hR:R.Nodup)(hr:∀j∈R,j<L.length)(hB:B.length=k+R.length)(w:World K H2 (B++(Q.clr R L++M))):World K H2 (Q.back R (B.drop k) (Q.clr R L)++M)/\Step H2 (B++(Q.clr R L++M)) H2 (Q.back R (B.drop k) (Q.clr R L)++M):=by
 have p:=kvc (R:=R) (B:=B.drop k) (L:=Q.clr R L) hR (λj hj=>qw9 hj) (λj hj=>by rw[qw8];exact hr j hj) (by rw[Ys,hB];lia);have p2:(sls (Q.back R (B.drop k) (Q.clr R L)++M)).Perm (sls (B.drop k++(Q.clr R L++M))):=by
  rw[Kq,<-Yb,Kq (B.drop k++Q.clr R L)];exact p.append_right _
 have sub:(sls (B.drop k++(Q.clr R L++M))).Sublist (sls (B++(Q.clr R L++M))):=by
  rw[Kq,Kq B];refine List.Sublist.append ?_ (Zg _);unfold sls;exact(List.drop_sublist k B).filterMap _
 exact⟨(w.sub sub).same p2.symm,(Step.refl.sub sub).same (List.Perm.refl _) p2.symm⟩
theorem jxw:∀{is:List Nat} {es:List D} {E E':En},setAll is es E=some E'->E'.length=E.length
 |[],[],_,_,h=>by cases oq9 h;rfl|[],_::_,_,_,h=>by cases h|_::_,[],_,_,h=>by cases h|i::is,d::es,E,E',h=>by rw[jxw (E:=E.set i (some (.no,d))) h,Zd]
theorem vq5{t:Tg}{d:D}{E E':En}(h:t.put d E=some E'):E'.length=E.length:=by
 cases t with
 |n i=>cases oq9 h;rw[Zd]
 |t is=>
  cases d with|tup es=>exact jxw (show setAll is es E=some E' from h)|lst es=>exact jxw (show setAll is es E=some E' from h)|_=>cases h
theorem qv1{nN:Nat}{Q:VK}(hσ:σ.length=nN)(hR:R.Nodup)(hr:∀j∈R,j<nN)(h:tQ Z q (cLC o k R it tt u c) σ H Q):tLC (tIS Z q it) (tG Z ((List.range R.length).map (k + ·)) tt) (tT Z q u) (tQ Z q c) k R σ H Q:=by
 obtain⟨E,L,r,m,w,ff,xc,kk⟩:=h;have ff:bnd (it E) (λE ds=>match lcL tt u c ds (Q5 k R E) []with
  | some (.ok B xs)=>mkL o (xz k R B E) xs| some (.exc B e)=>some (.exc (xz k R B E) e)
  | none=>none)=some r:=ff
 rcases xk ff with⟨E1,ds,h1,h2⟩|⟨E1,cc,h1,h2⟩
 rotate_left
 ·exact⟨E,L,_,m,w,h1,xc.map h2,λE' s' z=>by cases z⟩
 refine⟨E,L,_,m,w,h1,(λ_ _ z=>by cases z),λE' ds' z J T L1 H1 m1 w1 st hz sm wk=>?_⟩;injection z with z1 z2;subst z1 z2;have hL1:∀j∈R,j<L1.length:=λj hj=>by have:=m1.len;have:=hr j hj;lia
 obtain⟨wB,sB⟩:=wwa (k:=k) hR w1;cases hrB:lcL tt u c ds (Q5 k R E1) []with
 | none=>rw[hrB]at h2;cases h2
 | some rB=>
  rw [hrB]at h2;have okT:∀{H2:Hp} {A B:Ls},World Z.K H2 (A++(B++(_root_.Q.clr R L1++T.map some)))->∀t∈T,t.ok Z.K H2:=λw2 t ht=>w2.ok t (lr9 _ (lr9 _ (lr9 _ (Xr ht))))
  have mB0:Mt (Q5 k R E1) (z9 k R σ) (List.replicate k none++R.map (at' L1)):=(m1.pick (R:=R)).rep;have qg:∀{B:En} {LB:Ls} {τ:L2.St} {H2:Hp} {A:Ls},Mt B τ LB->τ.length=k+R.length->Pn ((List.range R.length).map (k + ·)) (z9 k R σ) τ->World Z.K H2 (LB++(A++(_root_.Q.clr R L1++T.map some))) ->
    Mt (xz k R B E1) σ (_root_.Q.back R (LB.drop k) (_root_.Q.clr R L1))/\World Z.K H2 (A++_root_.Q.back R (LB.drop k) (_root_.Q.clr R L1))/\Step H2 (LB++(A++(_root_.Q.clr R L1++T.map some))) H2 (A++_root_.Q.back R (LB.drop k) (_root_.Q.clr R L1)):=fun {B LB τ H2 A} mB lB pB wB2=>by
   have hl:LB.length=k+R.length:=by rw[mB.len.2];exact lB
   have pm:(LB++(A++(_root_.Q.clr R L1++T.map some))).Perm (LB++(_root_.Q.clr R L1++(A++T.map some))):=by
    refine List.Perm.append_left _ ?_;rw [<-Yb,<-Yb];exact List.Perm.append_right _ List.perm_append_comm
   obtain⟨w3,s3⟩:=wjm (k:=k) hR hL1 hl (wB2.perm pm);have pm2:(_root_.Q.back R (LB.drop k) (_root_.Q.clr R L1)++(A++T.map some)).Perm ((A++_root_.Q.back R (LB.drop k) (_root_.Q.clr R L1))++T.map some):=by
    rw [<-Yb];exact List.Perm.append_right _ List.perm_append_comm
   refine⟨?_,(w3.perm pm2).left,(s3.perm pm.symm pm2).trans Step.dropT⟩;refine Mt.back (m1.clr) (mB.drop k) λi j v e1 e2=>?_
   have hi:i<R.length:=(List.getElem?_eq_some_iff.mp e1).1;have e3:=pB (k+i) (List.mem_map.mpr ⟨i,List.mem_range.mpr hi,rfl⟩);rw [List.getElem?_drop,e3,vv8,List.getElem?_append_right (by simp),Z2,show k+i - k=i from by lia,Xp,e1]at e2;have e4:at' σ j=some v:=by simpa using e2
   unfold at' at e4;cases hh:σ[j]? with| none=>rw[hh]at e4;cases e4| some s=>rw[hh]at e4;rw[show s=some v from e4]
  refine⟨λi n ys τ H2=>∃(B:En) (LB:Ls) (af:List Sl),Mt B τ LB/\τ.length=k+R.length/\Pn ((List.range R.length).map (k + ·)) (z9 k R σ) τ/\World Z.K H2 (LB++(af.map some++(_root_.Q.clr R L1++T.map some)))/\Step H L H2 (LB++(af.map some++(_root_.Q.clr R L1++T.map some))) /\
   ys=af.map Sl.v/\lcL tt u c (ds.drop i) B (af.map Sl.sd)=some rB/\i<=ds.length/\af.length<=i/\n=ds.length - i/\(q=true->jJ H H2/\∀b∈j6 (af.map some),H b=none),⟨_,Q5 k R E1,_,[],mB0,by simp[z9],Pn.refl,wB,st.trans sB,rfl,hrB,Yh _,Yh _,rfl,λhq=>⟨sm hq,λ_ z=>(nomatch z)⟩⟩,?_⟩
  rintro i n ys τ H2 ⟨B,LB,af,mB,lB,pB,wB2,sB2,rfl,f1,hi,df,rfl,smB⟩
  by_cases c9:i<ds.length
  rotate_left
  ·have e:i=ds.length:=⋯
   subst e;rw [List.drop_length]at f1;cases oq9 f1;obtain⟨m3,w3,s3⟩:=qg mB lB pB wB2;refine .inl ⟨wk.stop H2 (okT wB2) (λhq=>(smB hq).1),by rw[X3];lia,?_⟩;exact kxp (σ:=σ) (Q:=Q) (o:=o) (xs:=af) h2 rfl w3 (sB2.trans s3) smB kk m3
  ·have hd:ds.drop i=ds[i]::ds.drop (i+1):=List.drop_eq_getElem_cons c9;rw [hd]at f1;unfold lcL at f1;cases bq:tt.put ds[i] B with
   | none=>rw[bq]at f1;cases f1
   | some B2=>
    rw [bq]at f1;dsimp only at f1;refine .inr ⟨wk.go i H2 (okT wB2) (λhq=>(smB hq).1) c9,λv H3 hy=>?_⟩;obtain⟨z,zo,zd,zv,smz,pz,zas⟩:=wk.yld i H2 v H3 ds[i] (okT wB2) (λhq=>(smB hq).1) hy (X5 c9);have pm:(LB++(af.map some++(_root_.Q.clr R L1++T.map some))).Perm ((LB++(af.map some++_root_.Q.clr R L1))++T.map some):=by
     rw[<-Yb (af.map some),<-Yb]
    obtain⟨wz,sz⟩:=kje (wB2.perm pm) wk.no smz pz zo zas;have wz':World Z.K H3 ((some z::LB)++(af.map some++(_root_.Q.clr R L1++T.map some))):=wz.perm (by
     rw[List.cons_append,List.cons_append];exact List.Perm.cons _ pm.symm)
    have sz':Step H2 (LB++(af.map some++(_root_.Q.clr R L1++T.map some))) H3 ((some z::LB)++(af.map some++(_root_.Q.clr R L1++T.map some))):=sz.perm pm.symm (by
     rw[List.cons_append,List.cons_append];exact List.Perm.cons _ pm.symm)
    refine⟨B,LB,z,B2,mB,wz'.left,zo,zv,by rw[zd];exact bq,fun τ2 LB2 p2 mB2 wB3 sB3=>?_⟩;obtain⟨w4,s4⟩:=stay wz' sB3 wB3;have lB2:τ2.length=k+R.length:=by
     have h1:=mB2.len.1;have h2:=mB.len.1;have h3:=vq5 bq;lia
    have p3:=pB.trans p2;have qp:Step H L H3 (LB2++(af.map some++(_root_.Q.clr R L1++T.map some))):=sB2.trans (sz'.trans s4);have gf:q=true->jJ H H3/\∀b∈j6 (af.map some),H b=none:=λhq=>⟨k4 (smB hq).1 smz,(smB hq).2⟩
    refine⟨λy H5=>∃(B:En) (LB:Ls) (bp:List Sl),Mt B τ2 LB/\World Z.K H5 (LB++(bp.map some++(_root_.Q.clr R L1++T.map some)))/\Step H L H5 (LB++(bp.map some++(_root_.Q.clr R L1++T.map some)))/\af.map Sl.v++[y]=bp.map Sl.v/\bp.length=af.length+1/\lcL tt u c (ds.drop (i+1)) B (bp.map Sl.sd)=some rB/\(q=true->jJ H H5/\∀b∈j6 (bp.map some),H b=none),
     λH5=>∃B LB,Mt B τ2 LB/\World Z.K H5 (LB++(af.map some++(_root_.Q.clr R L1++T.map some)))/\Step H L H5 (LB++(af.map some++(_root_.Q.clr R L1++T.map some)))/\lcL tt u c (ds.drop (i+1)) B (af.map Sl.sd)=some rB/\(q=true->jJ H H5/\∀b∈j6 (af.map some),H b=none),
     λy H5 ⟨B5,LB5,acc5,c1,c2,c3,c4,c5,c6,c7⟩=>⟨by rw[X3];lia,ds.length - (i+1),⋯,B5,LB5,acc5,c1,lB2,p3,c2,c3,c4,c6,c9,⋯,rfl,c7⟩,
     λH5 ⟨B5,LB5,c1,c2,c3,c6,c7⟩=>⟨ds.length - (i+1),⋯,B5,LB5,af,c1,lB2,p3,c2,c3,rfl,c6,c9,⋯,rfl,c7⟩,?_⟩
    have xcB:∀{α:Type} {H6:Hp} {L6:Ls} {B6:En} {cc:Str} {A:Ls},rB=.exc B6 cc->World Z.K H6 (L6++(A++(_root_.Q.clr R L1++T.map some)))->Step H L H6 (L6++(A++(_root_.Q.clr R L1++T.map some)))->Xc Z τ2 H6 L6 (.exc B6 cc:Res α):=fun {α H6 L6 B6 cc A} er w6 s6 E7 c7 e7 C L7 H7 hm m7 w7 s7=>by
     injection e7 with e8 e9;subst e8 e9;subst er;cases oq9 h2;obtain⟨w8,s8⟩:=stay w6 s7 w7;obtain⟨m9,w9,s9⟩:=qg m7 lB2 p3 w8;exact xc _ _ rfl C _ H7 hm m9 w9.right ((s6.trans (s8.trans s9)).trans ⟨λ_ _ h _=>h,λa ha=>.inl (by rw[jx];exact lr9 _ ha),λa ha=>.inl (by rw[k6];exact lr9 _ ha)⟩)
    rcases xk f1 with⟨B4,kb,g1,g2⟩|⟨B4,cc,g1,g2⟩
    rotate_left
    ·exact⟨B2,LB2,_,mB2,wB3,g1,xcB g2 w4 qp,λE' s' z=>by cases z⟩
    refine⟨B2,LB2,_,mB2,wB3,g1,(λ_ _ z=>by cases z),λE' s' z LB4 H4 mB4 wB4 sB4 sm4=>?_⟩;injection z with z1 z2;subst z1 z2;obtain⟨w5,s5⟩:=stay w4 sB4 wB4;have jd:=qp.trans s5;cases kb with
    | false=>
     rw[X9 ⋯]at g2 ⊢;exact⟨B4,LB4,mB4,w5,jd,g2,λhq=>⟨k4 (gf hq).1 (sm4 hq),(gf hq).2⟩⟩
    | true=>
     rw[X7 rfl]at g2 ⊢;rcases xk g2 with⟨B6,y,g3,g4⟩|⟨B6,cc,g3,g4⟩
     rotate_left
     ·exact⟨B4,LB4,_,mB4,wB4,g3,xcB g4 w5 jd,λE' s' z=>by cases z⟩
     refine⟨B4,LB4,_,mB4,wB4,g3,(λ_ _ z=>by cases z),λE' s' z x LB6 H6 ex ey mB6 wB6 sB6 sm6=>?_⟩;injection z with z1 z2;subst z1 z2;obtain⟨w7,s7⟩:=stay w5 sB6 wB6;have pm3:((some x::LB6)++(af.map some++(_root_.Q.clr R L1++T.map some))).Perm (LB6++((af++[x]).map some++(_root_.Q.clr R L1++T.map some))):=by
      rw[Xj,List.cons_append];have:(LB6++(af.map some++[x].map some++(_root_.Q.clr R L1++T.map some)))=(LB6++af.map some)++some x::(_root_.Q.clr R L1++T.map some):=by simp
      rw[this];refine List.Perm.trans ?_ List.perm_middle.symm;rw[Yb]
     refine⟨B6,LB6,af++[x],mB6,w7.perm pm3,(jd.trans s7).perm (List.Perm.refl _) pm3,by simp,by simp,?_,λhq=>⟨k4 (gf hq).1 (k4 (sm4 hq) (sm6 hq).1),λb hb=>?_⟩⟩
     ·rw[Xj,show[x].map Sl.sd=[y]from by simp[Sl.sd,ex,ey]];exact g4
     ·rw[Xj,jx]at hb;rcases aA hb with hb|hb
      ·exact(gf hq).2 b hb
      ·have hb:b∈x.own:=by simpa using hb
       exact zQ (k4 (gf hq).1 (sm4 hq)) ((sm6 hq).2 b hb)
theorem wxo(N:List Str)(hi:QI X Z q tg it ao)
  (hg:∀cl C s0 H0 fp,QG (lcE X scope N cl C s0 H0 fp Z.EX) Z ((List.range R.length).map (k + ·)) tt tg) (ht:∀cl C s0 H0 fp,PTs (lcE X scope N cl C s0 H0 fp Z.EX) dk (tT Z q u)) (he:∀cl C s0 H0 fp,QE (lcE X scope N cl C s0 H0 fp Z.EX) Z q c dn)
  (gx:wV X Z.EX) (top:xw X) (hR:R.Nodup) (hr:∀j∈R,j<X.N.length) (hc:autoParam (X.calm=true) Ŕ) (hk:autoParam (scope.kind=.function) Ŕ) (iq:autoParam (K1 X.N X.env.scope scope N k R=true) Ŕ) (hs:autoParam (∀x,foldedSetIterable ao X.env x=pure x) Ŗ):
  QE X Z q (cLC o k R it tt u c) (.ListComp dn [⟨tg,ao,dk,0⟩] scope pos):=λpins s σ H Q I hw=>
 vzu (EX:=Z.EX) N k R (wxm hi) hg ht he gx top hc hk iq hs pins s σ H Q I (qv1 I.len hR hr hw)
theorem qq2{EX:XK}{wi:TI}{g:TG}{tte:TT}{te:TE}{i:Nat}{y:Str}{py jm:Pos}(N:List Str)(k:Nat)(R:List Nat)(hN:X.N.Nodup)(hy:X.N[i]?=some y)(hx:Loc X.env.scope y)(hi:PI X tg ao wi)
  (hg:∀cl C s0 H0 fp,PG (lcE X scope N cl C s0 H0 fp EX) tg g) (ht:∀cl C s0 H0 fp,PTs (lcE X scope N cl C s0 H0 fp EX) dk tte) (he:∀cl C s0 H0 fp,PE (lcE X scope N cl C s0 H0 fp EX) dn te) (gx:wV X EX) (top:xw X)
  (kl:autoParam (swapsWith (.ListComp dn [⟨tg,ao,dk,0⟩] scope pos) (some (.Name y py)) jm.line X.env=pure true) Ŕ)
  (hc:autoParam (X.calm=true) Ŕ) (hk:autoParam (scope.kind=.function) Ŕ) (iq:autoParam (K1 X.N X.env.scope scope N k R=true) Ŕ) (hs:autoParam (∀x,foldedSetIterable ao X.env x=pure x) Ŗ)
  (hf:autoParam (X.fn y=true\/X.env.scope.names.lookup y=some .local) ś):
  PS X (.Assign [.Name y py] (.ListComp dn [⟨tg,ao,dk,0⟩] scope pos) jm) (λD σ H=>tLC wi g tte te k R σ H λv H1=>D.nx (σ.set i (some v)) H1):=by
 intro pins s σ H D I h;have sc:=kxt hk iq;obtain⟨cl,je,cp,b8⟩:=kjj (scope:=scope) (env:=X.env) λy hy e=>I.ok.has y.1 (sc.caps y hy e)
 rw[exec_Assign_Name_used _ _ _ _ kl];refine X0 (wpAny_standAt (X0 ?_));show wpAny _ X.A (do let _ <-comprehension (.ListComp dn [⟨tg,ao,dk,0⟩] scope pos) scope X.env _ (newList []) false (eval ao X.env) (some (assign (.Name y py) X.env))) _ _ s;refine X0 (thn (wpAny_comprehension_free (use:=some (assign (.Name y py) X.env)) (Q:=λ_ s'=>SP X pins D .next s') rfl hs je sc.kind sc.names
  (thn (hi pins s σ H _ I h) λv s1 h1=>thn h1 λitv s2 h2=>?_)) λ_ s' hq=>X1 (X1 hq))
 obtain⟨it,fp,tn,J,H2,e,I2,T,bn,f2,W,w0,fj⟩:=h2;subst e;refine kqi (EX:=EX) (RR:=λaf C=>compPost (model X.prog X.w) X.A X.xe (some (assign (.Name y py) X.env)) (λ_ s'=>SP X pins D .next s') af C) hc top sc cp b8 (hg cl) (ht cl) (he cl) I2 T bn f2 w0 fj ?_ ?_
 rotate_left
 ·intro D' C s' bw σ' H' x T Cc fl hC t q;exact vjr gx I2 f2 hC t q
 intro L C oC m ys H' s' I' eC nC fC q;show wpAny _ X.A (assign (.Name y py) X.env (.ref L)) _ _ s';refine wpAny_assign_Name (VW I' hN hy hx (v:=.ref L) rfl (λi9 I''=>?_) hf);have pC:=I''.pin (C,oC) (lr9 _ (lr9 _ (aB rfl)));refine⟨m,nC.at' λo e=>?_,λh' sb=>⟨_,_,I''.unpinned.turned (it:=C) (t':=i9.toks) (λb o hb e=>(sb.2 b hb).trans e) fC.1 fC.2.1 fC.2.2.2.1 fC.2.2.2.2.1 fC.2.2.2.2.2,q⟩⟩;rw[eC]at e;cases e;exact pC.1
theorem qku{i:Nat}{y:Str}{py jm:Pos}(N:List Str)(hN:X.N.Nodup)(hy:X.N[i]?=some y)(hx:Loc X.env.scope y)(hi:QI X Z q tg it ao)
  (hg:∀cl C s0 H0 fp,QG (lcE X scope N cl C s0 H0 fp Z.EX) Z ((List.range R.length).map (k + ·)) tt tg) (ht:∀cl C s0 H0 fp,PTs (lcE X scope N cl C s0 H0 fp Z.EX) dk (tT Z q u)) (he:∀cl C s0 H0 fp,QE (lcE X scope N cl C s0 H0 fp Z.EX) Z q c dn)
  (gx:wV X Z.EX) (top:xw X) (hR:R.Nodup) (hr:∀j∈R,j<X.N.length) (hp:autoParam (i∉pn) ŕ)
  (kl:autoParam (swapsWith (.ListComp dn [⟨tg,ao,dk,0⟩] scope pos) (some (.Name y py)) jm.line X.env=pure true) Ŕ)
  (hc:autoParam (X.calm=true) Ŕ) (hk:autoParam (scope.kind=.function) Ŕ) (iq:autoParam (K1 X.N X.env.scope scope N k R=true) Ŕ) (hs:autoParam (∀x,foldedSetIterable ao X.env x=pure x) Ŗ)
  (hf:autoParam (X.fn y=true\/X.env.scope.names.lookup y=some .local) ś):
  QS X Z pn (jw i (cLC o k R it tt u c)) (.Assign [.Name y py] (.ListComp dn [⟨tg,ao,dk,0⟩] scope pos) jm):=
 vz6 (q:=q) hp λpins s σ H D I hw=>qq2 N k R hN hy hx (wxm hi) hg ht he gx top kl hc hk iq hs hf pins s σ H D I (qv1 I.len hR hr hw)
end
end
section
variable {X:Cx}{Z:Fx0}{K:Frag}{pn:List Nat}{q qa qb:Bool}{a b c:Ex}{u:Ts}{tg e ea eb:Expr}{σ:L2.St}{H:Hp}{L:Ls}{E:En}{pos p:Pos}{x:Str}{id T:String}{r:List V->Hp->VK->Prop}{f:Sd->Option Sd}{g:Sd->Sd->Option Sd}
theorem Vw:PTs X [] (tT Z q _root_.Q.tYes):=λpins s σ H Q I au=>ex8 au λE L r m w hc xc k=>by
 cases oq9 hc;exact vq8 pins s σ H Q I (k _ _ rfl L H m w Step.refl λ_=>wx)
theorem vxq(h:QT X Z q u e):PTs X [e] (tT Z q u):=vq7 h
theorem ZW(hc:CallR X (.builtin id) r)(ad:Ad1 Z.K (λv H Q=>r [v] H Q) f)(ha:QV X Z q a ea)(hm:X.mg x=none)(hv:bootBuiltins x=some (.builtin id))(hg:autoParam (Gl X x) Ŕ)(hn:autoParam (x≠"__name__") ŕ)(d8:autoParam ((x==("__debug__":Str))=false) ŕ)
  (he:autoParam (starEach [ea] X.env=(false,eval ea X.env)::starEach [] X.env) Ŕ) (b9:autoParam ((backTo pos (starEach [] X.env)).any (·.1)=false) Ŕ):QE X Z q (cF1 f a) (.Call (.Name x p) [ea] [] pos):=
 kz (kk6 hc hg hm hv (qq ha v3 he) hn d8 he b9) fun σ H Q h=>K0 (r:=λv H Q=>r [v] H Q) ad h
theorem wvh(hc:CallR X (.type T) r)(ad:Ad1 Z.K (λv H Q=>r [v] H Q) f)(ha:QV X Z q a ea)(hm:X.mg x=none)(hv:bootBuiltins x=some (.type T))(hg:autoParam (Gl X x) Ŕ)(hn:autoParam (x≠"__name__") ŕ)(d8:autoParam ((x==("__debug__":Str))=false) ŕ)
  (he:autoParam (starEach [ea] X.env=(false,eval ea X.env)::starEach [] X.env) Ŕ) (b9:autoParam ((backTo pos (starEach [] X.env)).any (·.1)=false) Ŕ):QE X Z q (cF1 f a) (.Call (.Name x p) [ea] [] pos):=
 kz (qqa hc hg hm hv (qq ha v3 he) hn d8 he b9) fun σ H Q h=>K0 (r:=λv H Q=>r [v] H Q) ad h
theorem wq6:Ad1 K (λv H Q=>qkm K [v] H Q) (pu1 kX):=by
 intro H x s Q ok hf k;unfold pu1 at hf;have fin:∀n:Nat,kX x.d=some (.int n)->Q (.int n) H:=λn e=>by
  rw[show(x.o,x.d).2=x.d from rfl,e]at hf;cases oq9 hf;exact k ⟨.dp,.int n,.int n,[]⟩ H rfl rfl K8
 cases hx:x.d with
 |lst ds=>
  obtain⟨l,xs,bs,e,q,r,_⟩:=items ok (.inl hx);refine .inl ⟨l,xs,by rw[e],?_,by rw[<-r.len];exact fin ds.length (by rw[hx];rfl)⟩;rcases q with⟨_,z⟩|⟨_,z⟩
  ·exact .inl (wJ z)
  ·exact .inr z
 |tup ds=>
  obtain⟨l,xs,bs,e,q,r,_⟩:=items ok (.inr hx);refine .inl ⟨l,xs,by rw[e],?_,by rw[<-r.len];exact fin ds.length (by rw[hx];rfl)⟩;rcases q with⟨_,z⟩|⟨_,z⟩
  ·exact .inl (wJ z)
  ·exact .inr z
 |str z=>
  obtain⟨e,hz⟩:=v7 ok hx;exact .inr (.inl ⟨z,by rw[e],hz,fin z.length (by rw[hx];rfl)⟩)
 |_=>rw[show(x.o,x.d).2=x.d from rfl,hx]at hf;cases hf
def vkz(K:Frag):List V->Hp->VK->Prop:=λxs H Q=>wxi K xs H Q\/(∃p ys U,xs=[.ref p,.ty U]/\SqT K H p ys/\U∈kinds.tail/\Q (.bl (Zq "tuple" U)) H)\/∃p ys U,xs=[.ref p,.ty U]/\SqL K H p ys/\U∈kinds.tail/\Q (.bl (Zq "list" U)) H
theorem qwe(hK:autoParam (X.K=K) Ŕ):CallR X (.builtin "isinstance") (vkz K):=by
 subst hK;intro pins s σ H xs us Q I r h;rcases h with h|⟨p,ys,U,rfl,hq,hU,q⟩|⟨p,ys,U,rfl,hq,hU,q⟩
 ·exact qzv pins s σ H xs us Q I r h
 ·obtain⟨u,w',rfl,r1,r2⟩:=YW r;cases(show w'=Value.type U from r2);cases r1;obtain⟨ac,_,⟨o,h1,h2,_⟩,_⟩:=I.tuple hq;exact Y7 PySem.W.kitx_tuple I.kIn ⟨o,h1,h2⟩ (kwa (T:="tuple") ⋯ hU) (λz=>nomatch z) λtk=>⟨.bl _,H,I.tok _,rfl,q⟩
 ·obtain⟨u,w',rfl,r1,r2⟩:=YW r;cases(show w'=Value.type U from r2);cases r1;obtain⟨ac,_,⟨o,n,h1,h2,_⟩,_⟩:=I.list hq;exact Y7 PySem.W.kitx_list I.kIn ⟨o,h1,h2⟩ (kwa (T:="list") ⋯ hU) (λz=>nomatch z) λtk=>⟨.bl _,H,I.tok _,rfl,q⟩
theorem wq7{U:String}(hU:U∈kinds.tail):Ad1 K (λv H Q=>vkz K [v,.ty U] H Q) (pu1 (Wv U)):=by
 intro H x s Q ok hf k;unfold pu1 Wv at hf;have fin:∀(T:String),kind x.d=T->(∀c f,x.d≠.obj c f)->Q (.bl (Zq T U)) H:=λT e ho=>by
  cases hx:x.d with
  |obj c f=>exact absurd hx (ho c f)|dct aa=>rw[show(x.o,x.d).2=x.d from rfl,hx]at hf;cases hf
  |_=>
   rw[show(x.o,x.d).2=x.d from rfl,hx]at hf;cases oq9 hf;rw[<-e,hx];exact k ⟨.dp,.bl _,.bl _,[]⟩ H rfl rfl v8
 cases hx:x.d with
 |non=>exact .inl ⟨x.v,"NoneType",U,rfl,by rw[vjn ok hx];exact .non,⋯,hU,fin _ (by rw[hx];rfl) (by rw[hx];exact λ_ _ z=>nomatch z)⟩|bl k=>exact .inl ⟨x.v,"bool",U,rfl,by rw[W6 ok hx];exact .bl _,⋯,hU,fin _ (by rw[hx];rfl) (by rw[hx];exact λ_ _ z=>nomatch z)⟩|int k=>exact .inl ⟨x.v,"int",U,rfl,by rw[kw ok hx];exact .int _,⋯,hU,fin _ (by rw[hx];rfl) (by rw[hx];exact λ_ _ z=>nomatch z)⟩|str k=>exact .inl ⟨x.v,"str",U,rfl,by rw[(v7 ok hx).1];exact .str _,⋯,hU,fin _ (by rw[hx];rfl) (by rw[hx];exact λ_ _ z=>nomatch z)⟩
 |lst ds=>
  obtain⟨l,xs,bs,e,q,r,_⟩:=items ok (.inl hx);have f:=fin "list" (by rw[hx];rfl) (by rw[hx];exact λ_ _ z=>nomatch z);rcases q with⟨_,z⟩|⟨z,_⟩
  ·exact .inr (.inr ⟨l,xs,U,by rw[e],z.sq,hU,f⟩)
  ·rw[hx]at z;cases z
 |tup ds=>
  obtain⟨l,xs,bs,e,q,r,_⟩:=items ok (.inr hx);have f:=fin "tuple" (by rw[hx];rfl) (by rw[hx];exact λ_ _ z=>nomatch z);rcases q with⟨z,_⟩|⟨_,z⟩
  ·rw[hx]at z;cases z
  ·exact .inr (.inl ⟨l,xs,U,by rw[e],z,hU,f⟩)
 |dct aa=>
  rw[show(x.o,x.d).2=x.d from rfl,hx]at hf;cases hf
 |obj c f=>
  rw[show(x.o,x.d).2=x.d from rfl,hx]at hf;cases hf
theorem wvp{U:String}{y:Str}{p2:Pos}(ha:QV X Z q a ea)(hm:X.mg "isinstance"=none)(hmy:X.mg y=none)(hy:bootBuiltins y=some (.type U))(hK:X.K=Z.K)(hU:autoParam (U∈kinds.tail) ŕ)(hg:autoParam (Gl X "isinstance") Ŕ)(hgy:autoParam (Gl X y) Ŕ)(hny:autoParam (y≠"__name__") ŕ)(hdy:autoParam ((y==("__debug__":Str))=false) ŕ)
  (he:autoParam (starEach [ea,.Name y p2] X.env=(false,eval ea X.env)::starEach [.Name y p2] X.env) Ŕ) (he2:autoParam (starEach [.Name y p2] X.env=(false,eval (.Name y p2) X.env)::starEach [] X.env) Ŕ) (b9:autoParam ((backTo pos (starEach [.Name y p2] X.env)).any (·.1)=false) Ŕ):
  QE X Z q (cF1 (pu1 (Wv U)) a) (.Call (.Name "isinstance" p) [ea,.Name y p2] [] pos):=
 kz (kk6 (qwe hK) hg hm jwn (qq ha (qq (qqb (v:=.ty U) hgy hmy hy rfl hny hdy) v3 he2) he) ⋯ ⋯ he b9) fun σ H Q h=>K0 (r:=λv H Q=>vkz Z.K [v,.ty U] H Q) (wq7 hU) h
theorem vw9:Ad1 K (λv H Q=>qkl K [v] H Q) qzl:=by
 intro H x s Q ok hf k;unfold qzl at hf;dsimp only at hf
 split at hf
 ·rename_i ds e
  split at hf
  ·rename_i hl;cases oq9 hf;obtain⟨l,xs,bs,ev,q3,r3,h3⟩:=xV ok (.inl e) hl;have q3:LsR K H l xs:=by rcases q3 with⟨_,z⟩|⟨z,_⟩;exact z;rw[e]at z;cases z
   exact⟨l,xs,by rw[ev],.inl (wJ q3),λp hp=>k ⟨.rt,.lst ds,.ref p,p::bs⟩ _ rfl rfl (zZ hp r3 h3)⟩
  ·cases hf
 ·rename_i ds e
  split at hf
  ·rename_i hl;cases oq9 hf;obtain⟨l,xs,bs,ev,q3,r3,h3⟩:=xV ok (.inr e) hl;have q3:SqT K H l xs:=by rcases q3 with⟨z,_⟩|⟨_,z⟩;rw[e]at z;cases z;exact z
   exact⟨l,xs,by rw[ev],.inr q3,λp hp=>k ⟨.rt,.lst ds,.ref p,p::bs⟩ _ rfl rfl (zZ hp r3 h3)⟩
  ·cases hf
 ·cases hf
def kx8(K:Frag):List V->Hp->VK->Prop:=λxs H Q=>∃p ys,xs=[.ref p]/\((SqL K H p ys/\∀l,H l=none->Q (.ref l) (upd H l (.tup ys)))\/(SqT K H p ys/\Q (.ref p) H))
theorem qwf(hK:X.K=K):CallR X (.type "tuple") (kx8 K):=by subst hK;exact kko
theorem vj8:Ad1 K (λv H Q=>kx8 K [v] H Q) XZ:=by
 intro H x s Q ok hf k;unfold XZ at hf;dsimp only at hf
 split at hf
 ·rename_i ds e
  split at hf
  ·rename_i hl;cases oq9 hf;obtain⟨l,xs,bs,ev,q3,r3,h3⟩:=xV ok (.inl e) hl;have q3:LsR K H l xs:=by rcases q3 with⟨_,z⟩|⟨z,_⟩;exact z;rw[e]at z;cases z
   exact⟨l,xs,by rw[ev],.inl ⟨wJ q3,λp hp=>k ⟨.no,.tup ds,.ref p,bs⟩ _ rfl rfl (V7 hp r3 h3)⟩⟩
  ·cases hf
 ·rename_i ds e
  split at hf
  ·rename_i hl;cases oq9 hf;obtain⟨l,xs,bs,ev,q3,r3,h3⟩:=xV ok (.inr e) hl;have q3:SqT K H l xs:=by rcases q3 with⟨z,_⟩|⟨_,z⟩;rw[e]at z;cases z;exact z
   refine⟨l,xs,by rw[ev],.inr ⟨q3,k ⟨.no,.tup ds,.ref l,bs⟩ H rfl rfl ⟨wx,?_,λb hb=>(nomatch hb),Y4,λb hb=>h3 b hb⟩⟩⟩;show RepL K H true (.tup ds) (.ref l) bs;unfold RepL;exact⟨l,xs,rfl,q3,r3⟩
  ·cases hf
 ·cases hf
theorem qwj{g:Bool}:∀{ds:List D} {bs:List Bool} {xs:List V} {as:List Addr},bls ds=some bs->RepA K H g ds xs as->xs=bs.map V.bl
 | [],bs,xs,as,h,r=>by
  cases oq9 h;unfold RepA at r;exact r.1
 | d::ds,bs,xs,as,h,r=>by
  cases d with
  | bl b=>
   unfold bls at h;cases hb:bls ds with
   |none=>rw[hb]at h;cases h
   |some gz=>
    rw[hb]at h;cases oq9 h;unfold RepA at r;obtain⟨x,rr,c1,c2,rfl,rfl,h1,h2⟩:=r;unfold RepL at h1;rw[h1.1,qwj hb h2];rfl
  |_=>unfold bls at h;cases h
theorem vkd:Ad1 K (λv H Q=>wvg K [v] H Q) (pu1 W9):=by
 intro H x s Q ok hf k;unfold pu1 W9 at hf;dsimp only at hf
 split at hf
 ·rename_i ds e;cases hb:bls ds with
  |none=>rw[hb]at hf;cases hf
  |some bs=>
   rw[hb]at hf;cases oq9 hf;obtain⟨l,xs,cs,ev,q3,r3,_⟩:=items ok (.inl e);have q3:LsR K H l xs:=by rcases q3 with⟨_,z⟩|⟨z,_⟩;exact z;rw[e]at z;cases z
   exact⟨l,bs,by rw[ev],by rw[<-qwj hb r3];exact wJ q3,k ⟨.dp,.bl _,.bl _,[]⟩ H rfl rfl v8⟩
 ·cases hf
theorem wkw{g:Int->Int->Bool}:∀x y s,pu2 (c2 g) x y=some s->∃k,s.2=.bl k:=by
 intro x y s h;unfold pu2 c2 at h
 split at h
 ·cases oq9 h;exact⟨_,rfl⟩
 ·cases h
theorem vj5:∀x y s,pu2 fEq x y=some s->∃k,s.2=.bl k:=by
 intro x y s h;unfold pu2 fEq at h
 split at h
 ·cases oq9 h;exact⟨_,rfl⟩
 ·cases h
theorem Zw:∀x y s,pu2 fNe x y=some s->∃k,s.2=.bl k:=by
 intro x y s h;unfold pu2 fNe at h
 split at h
 ·cases oq9 h;exact⟨_,rfl⟩
 ·cases h
theorem wkf{x y d:D}(h:fIn x y=some d):∃k,d=.bl k:=by
 unfold fIn at h
 split at h
 ·split at h
  ·cases oq9 h;exact⟨_,rfl⟩
  ·cases h
 ·split at h
  ·cases oq9 h;exact⟨_,rfl⟩
  ·cases h
 ·split at h
  ·cases oq9 h;exact⟨_,rfl⟩
  ·cases h
 ·cases oq9 h;exact⟨_,rfl⟩
 ·cases h
theorem kza:∀x y s,pu2 JZ x y=some s->∃k,s.2=.bl k:=by
 intro x y s h;unfold pu2 JZ WQ at h
 split at h
 ·cases h
 ·cases hf:fIn x.2 y.2 with
  |none=>rw[hf]at h;cases h
  |some d=>
   obtain⟨k,rfl⟩:=wkf hf;rw[hf]at h;cases oq9 h;exact⟨_,rfl⟩
theorem kjs:∀{xs:List V} {us:List Value},xs.length=us.length->(∀(i:Nat) (x:V) (u:Value),xs[i]?=some x->us[i]?=some u->RelV x u)->Vals xs us
 |[],[],_,_=>.nil|[],_::_,h,_=>by simp at h|_::_,[],h,_=>by simp at h|x::xs,u::us,h,f=>.cons (f 0 x u (by simp) (by simp)) (kjs (by simpa using h) λi x u e1 e2=>f (i+1) x u (by simpa using e1) (by simpa using e2))
theorem wvm{p2 b6:Pos}(ha:QV X Z q a ea)(hmr:X.mg "range"=none)(hml:X.mg "list"=none)(hc:autoParam (X.calm=true) Ŕ)(hgr:autoParam (Gl X "range") Ŕ)(rn:autoParam (Gl X "list") Ŕ)
  (bj:autoParam (starEach [ea] X.env=(false,eval ea X.env)::starEach [] X.env) Ŕ) (b9:autoParam ((backTo b6 (starEach [] X.env)).any (·.1)=false) Ŕ)
  (jl:autoParam (starEach [.Call (.Name "range" p2) [ea] [] b6] X.env=(false,eval (.Call (.Name "range" p2) [ea] [] b6) X.env)::starEach [] X.env) Ŕ) (mn:autoParam ((backTo pos (starEach [] X.env)).any (·.1)=false) Ŕ):
  QE X Z q (wqr a) (.Call (.Name "list" p) [.Call (.Name "range" p2) [ea] [] b6] [] pos):=by
 have hr:PE X (.Call (.Name "range" p2) [ea] [] b6) (fun σ H Q=>tV Z q a σ H λv H1=>∃j:Int,v=.int j/\∀pp,H1 pp=none->Q (.ref pp) (upd H1 pp (.rng 0 j))):=by
  intro pins s σ H Q I h;refine Call_ (xQ I hgr hmr boot_range (Y0 (thn (qq ha v3 bj b6 pins s σ H (λvs H1=>∃j:Int,vs=[.int j]/\∀pp,H1 pp=none->Q (.ref pp) (upd H1 pp (.rng 0 j))) I ?_) λus s1 ⟨vs,H1,I1,r1,j,e,q1⟩=>?_) bj b9))
  ·obtain⟨E,L,r,m,w,ff,xc,k⟩:=h;exact⟨E,L,r,m,w,ff,xc,λE' s' z x L' H' e1 e2 m' w' ok fr sr st sm=>by
    obtain⟨j,ej,qj⟩:=k E' s' z x L' H' e1 e2 m' w' ok fr sr st sm;exact⟨j,by rw[ej],qj⟩⟩
  ·subst e;obtain⟨u,rfl,t,rfl⟩:=r1.one;refine call_range_1 ⟨.ref s1.heap.objs.size,_,I1.laid (o:=.rng 0 j) (λb o e=>X2 _ e) (Xa _) ⟨_,_,_,Xb _ rfl⟩,rfl,q1 _ I1.fresh⟩
 intro pins s σ H Q I ⟨E,L,r,m,w,ff,xc,k⟩;refine Yj (xQ I rn hml qwi ?_);refine Y0 (thn (qq hr v3 jl pos pins s σ H (λvs H1=>∃pp j,vs=[.ref pp]/\H1 pp=some (.rng 0 j)/\vj j=true/\j.toNat<=big/\∀l,H1 l=none->Q (.ref l) (upd H1 l (.lst ((List.range j.toNat).map λ(i:Nat)=>V.int (0+(i:Int)))))) I ?_) λus s1 ⟨vs,H1,I1,r1,pp,j,e,hp,h62,gp,q1⟩=>?_) jl mn
 ·refine kZ m w (show bnd (a E) _=some r from ff) xc λE1 s h1 x L1 H1 e1 e2 m1 w1 ok fr sr st sm=>?_
  cases hx:s.2 with
  | int j=>
   rw [hx]at h1;dsimp only at h1
   split at h1
   ·rename_i hj;cases oq9 h1;refine⟨j,kw ok (e2.trans hx),λpp hpp=>⟨pp,j,rfl,v6,hj.1,hj.2,λl hl=>?_⟩⟩;have s1:jJ H1 (upd H1 pp (.rng 0 j)):=qv hpp;have w2:World Z.K (upd H1 pp (.rng 0 j)) L1:=⟨λx hx=>RepO.kp (w1.ok x hx) (Kp.of_same s1),w1.nd,w1.ds⟩;have bn:Step H L (upd H1 pp (.rng 0 j)) L1:=st.trans ⟨λb ob z _=>s1 b ob z,λb z=>.inl z,λb z=>.inl z⟩;have ra:∀(n:Nat) (ns:List Nat) (Hx:Hp),RepA Z.K Hx true (ns.map λ(i:Nat)=>D.int (0+(i:Int))) (ns.map λ(i:Nat)=>V.int (0+(i:Int))) []:=by
     intro n ns Hx
     induction ns with
     |nil=>unfold RepA;exact⟨rfl,rfl⟩
     |cons i ns ih=>
      rw[List.map_cons,List.map_cons];unfold RepA;exact⟨_,_,[],[],rfl,rfl,xx,ih⟩
    have o:=zZ (K:=Z.K) (H:=upd H1 pp (.rng 0 j)) (fr:=[]) hl (ra 0 (List.range j.toNat) (upd H1 pp (.rng 0 j))) (λ_ z=>(nomatch z));obtain⟨w3,cx⟩:=Jk w2 bn o (λ_ z=>(nomatch z)) (λ_ z=>(nomatch z)) (λ_ z=>(nomatch z));refine k _ _ rfl ⟨.rt,.lst (jY 0 j),.ref l,[l]⟩ L1 _ rfl rfl m1 (by simpa [jY]using w3) (by simpa [jY]using cx) λhq=>⟨k4 (sm hq) (k4 s1 o.same),λb hb=>?_⟩
    have:b=l:=by simpa [Sl.own]using hb
    subst this;exact zQ (k4 (sm hq) s1) hl
   ·cases h1
  | _=>rw[hx]at h1;cases h1
 ·subst e;obtain⟨u,rfl,rx⟩:=r1.one;cases rx;obtain⟨t1,t2,t3,hg⟩:=(show ObjOk X.prog X.w H1 s1.heap pp (.rng 0 j)from I1.hok pp _ hp);obtain⟨j1,j2⟩:=jwr h62;have e2:Builtin.Range.rangeSize 0 j 1=((j.toNat:Nat):Int):=by rw[rangeSize_one];split<;>lia
  refine call_list_range (n:=j.toNat) (I1.ok.hd hc) (show IsRange s1.heap pp 0 j 1 t1 t2 t3 from hg) (small_one ⋯ ⋯ j1 j2) e2 gp λh' tk bp c' kp e4 fz=>?_
  obtain⟨hs,jy⟩:=fz;have hv:Vals ((List.range j.toNat).map λ(i:Nat)=>V.int (0+(i:Int))) bp.toList:=kjs (by simp[hs]) λi x u ex eu=>by
   rw[Xq]at eu;obtain⟨t,rfl⟩:=jy i u eu;rw[Xp]at ex;cases hr:(List.range j.toNat)[i]? with
   | none=>rw[hr]at ex;cases ex
   | some m=>
    rw[hr]at ex;have hm:m=i:=by
     obtain⟨_,h2⟩:=List.getElem?_eq_some_iff.mp hr
     simpa using h2.symm
    subst hm;cases oq9 ex;exact⟨t,by rw[Int.mul_one]⟩
  refine⟨.ref s1.heap.objs.size,_,I1.laid (a:=s1.heap.objs.size) (o:=.lst ((List.range j.toNat).map λ(i:Nat)=>V.int (0+(i:Int)))) (t':=tk) kp (Xa _) ⟨by rw[X3,Y1];exact gp,bp.toList,c',hv,by simpa using e4⟩,rfl,q1 _ I1.fresh⟩
end
end Q
namespace Q
open PySem
def vq(n d:Nat):Option Int->Nat
 |none=>d|some v=>if v<0 then(v+(n:Int)).toNat else min v.toNat n
def J9(xs:List D)(lo hi:Option Int):List D:=(xs.drop (vq xs.length 0 lo)).take (vq xs.length xs.length hi - vq xs.length 0 lo)
noncomputable def fSl:Sd->Option Int->Option Int->Option Sd:=λx lo hi=>match x.2 with
 |.lst xs=>if k8 x then some (.rt,.lst (J9 xs lo hi))else none|.tup xs=>if k8 x/\¬(vq xs.length 0 lo=0/\vq xs.length xs.length hi=xs.length)then some (.no,.tup (J9 xs lo hi))else none|.str z=>if(Txt.slice z lo hi).length<=big then some (.dp,.str (Txt.slice z lo hi))else none|_=>none
def zW:Option Ex->Ev (Option Int)
 |none,E=>some (.ok E none)
 |some c,E=>bnd (c E) λE x=>match x.2 with
  |.int i=>some (.ok E (some i))|_=>none
def cSl(a:Ex)(lo hi:Option Ex):Ex:=λE=>bnd (a E) λE x=>bnd (zW lo E) λE l=>bnd (zW hi E) λE h=>val E (fSl x l h)
def xX:Nat->List D->List D
 |_,[]=>[]|k,d::ds=>.tup [.int k,d]::xX (k+1) ds
def lstOf:D->Option (List D)
 |.lst xs=>some xs|_=>none
def wqo(c:Ex):Ev (List D):=λE=>bnd (c E) λE x=>val E ((lstOf x.2).map (xX 0))
def wQ:List D->Option (List Str)
 |[]=>some []|.str z::ds=>(wQ ds).map (z :: ·)|_=>none
def zw:List D->Option (List Int)
 |[]=>some []|.int z::ds=>(zw ds).map (z :: ·)|_=>none
def JQ(a:Str):List Str->List Str
 |[]=>[a]|b::r=>if Spec.ltCps b.cps.toList a.cps.toList then b::JQ a r else a::b::r
def zJ:List Str->List Str
 |[]=>[]|a::r=>JQ a (zJ r)
def Q2(a:Int):List Int->List Int
 |[]=>[a]|b::r=>if b<a then b::Q2 a r else a::b::r
def Q7:List Int->List Int
 |[]=>[]|a::r=>Q2 a (Q7 r)
noncomputable def jzn:Sd->Option Sd:=λx=>match x.2 with
 | .lst ds=>(match wQ ds with
  |some ss=>if ss.length<64 then some (.rt,.lst ((zJ ss).map .str))else none
  |none=>(match zw ds with
   |some is=>if is.length<64 then some (.rt,.lst ((Q7 is).map .int))else none
   |none=>none))
 |_=>none
def vk:Sd->Sd->Option Sd:=λx y=>match x.2,y.2 with
 |.tup a,.int k=>if -(2 ^ 63)<=k/\k<2 ^ 63/\a.length*k.toNat<=big/\k8 x then some (.no,.tup (List.replicate k.toNat a).flatten)else none|_,_=>Qz x y
def sRz(c:Str):Sm:=λE=>some (.xc E c)
def Qw(f:Fn)(cs:List Ex):Ex:=λE=>match kW cs E with
 |some (.ok E xs)=>(match f (letAll xs)with
  |some (.ok _ y)=>some (.ok E y)|some (.exc _ c)=>some (.exc E c)
  |none=>none)
 |_=>none
def vje(i:Nat):Option Fl->Option Fl
 |some (.nx E)=>some (.nx (E.set i none))|some (.rt E x)=>some (.rt (E.set i none) x)|some (.ct E)=>some (.ct (E.set i none))|some (.bk E)=>some (.bk (E.set i none))|_=>none
def J7(cs:List Str)(i:Nat)(b h:Sm):Sm:=λE=>match b E with
 |some (.xc E c)=>if c∈cs then vje i (h (E.set i (some (.no,.obj c []))))else none|r=>r
def vK(t:List (Str×Bool)):D->Option D
 |.obj c _=>(t.lookup c).map .bl|_=>none
def wwe:D->Bool
 |.tup _=>true|_=>false
def wv(x:D):Bool:=j7 6 x&&wwe x
def Jj:D->D->Option D:=λx y=>match y with
 |.dct aa=>if wv x=true/\unm aa=true then some (.bl (!decide (x∈aa.map (·.1))))else none|_=>none
def vvf:Option (Option Sd)->Bool
 |some (some (.rt,.dct _))=>true|_=>false
noncomputable def wqk(i:Nat)(kc vc:Ex):Sm:=λE=>ofE (vc E) λE v=>if Kv E[i]?=true then ofE (kc E) λE k=>match E[i]?,k.2 with
 |some (some (o,.lst xs)),.int j=>if o=.no then none else(match ixN xs.length j with
  |some n=>some (.nx (E.set i (some (.rt,.lst (xs.set n v.2)))))
  |none=>none)
 |_,_=>none
 else none
def mkD:D×D:=(.str "",.non)
def vJ(kv:List (Int×Int)):D:=.dct (mkD::kv.map λp=>(.int p.1,.int p.2))
def K4 : List (D × D) -> Option (List (Int × Int))
  |[]=>some []|(.int k, .int v)::r=>(K4 r).map ((k, v):: ·)|_=>none
def z7:D->Option (List (Int×Int)):=λd=>match d with
 |.dct ((.str _,.non)::aa)=>K4 aa|_=>none
def qJ(kv:List (Int×Int))(k:Int):Option Int:=(kv.find? λp=>decide (p.1=k)).map (·.2)
def zj(kv:List (Int×Int))(k v:Int):List (Int×Int):=if(kv.any λp=>decide (p.1=k))=true then kv.map (λp=>if p.1=k then(p.1,v)else p)else kv++[(k,v)]
def vw4:Ex:=λE=>some (.ok E (.rt,vJ []))
def Jw:D->D->Option D:=λx y=>match x,z7 y with
 |.int k,some kv=>some (.bl (!(qJ kv k).isSome))|_,_=>none
def ZZ:D->D->Option D:=λy x=>match x,z7 y with
 |.int k,some kv=>(qJ kv k).map .int|_,_=>none
def wqi(a b:Ex):Ex:=λE=>bnd (a E) λE x=>bnd (b E) λE y=>val E ((ZZ x.2 y.2).map λd=>(.dp,d))
noncomputable def qxo(i:Nat)(kc vc:Ex):Sm:=λE=>ofE (vc E) λE v=>if vvf E[i]?=true then ofE (kc E) λE k=>match E[i]?,k.2,v.2 with
 |some (some (.rt,d)),.int a,.int b=>(match z7 d with
  |some kv=>if kv.length<big then some (.nx (E.set i (some (.rt,vJ (zj kv a b)))))else none
  |none=>none)
 |_,_,_=>none
 else none
def qvq(z:Str):D->Option D:=λd=>match d with
 |.lst ds=>(match wQ ds with
  |some ys=>if(ys.map (·.length)).sum+ys.length*z.length<=100000 then some (.str (Txt.join z ys))else none
  |none=>none)
 |_=>none
def qzz(z:Str)(c:Ex):Ex:=λE=>bnd (c E) λE x=>val E ((qvq z x.2).map λd=>(.dp,d))
def kxz:D->Bool
 |.str _=>true|_=>false
def ZJ:D->D->Option D:=λx y=>match x,y with
 |.str a,.str b=>(match Builtin.Str.occurrences a b 0 a.length 1 with
  |i::_=>some (.int i)
  |[]=>none)
 |_,_=>none
def vj0(a b:Ex):Ex:=λE=>bnd (a E) λE x=>if kxz x.2=true then bnd (b E) λE y=>val E ((ZJ x.2 y.2).map λd=>(.dp,d))else none
def Jv(aa:List (D×D))(k:D):Option D:=(aa.find? λp=>decide (p.1=k)).map (·.2)
def wqp(c:Ex):Ex:=λE=>bnd (c E) λE x=>match x.2 with
 |.int j=>if vj j/\j.toNat<=big then some (.ok E (.no,.tup (jY 0 j)))else none|_=>none
end Q
namespace Q
open PySem PySem.Spec PyProof.Rows L2 L3
section
variable {X:Cx}{Z:Fx0}{K:Frag}{pn:List Nat}{q qa qb:Bool}{a b c:Ex}{u:Ts}{tg e ea eb:Expr}{st:Stmt}{σ:L2.St}{H:Hp}{L:Ls}{E:En}{pos p p2:Pos}{x:Str}
theorem jzi(a:Str):∀r,(JQ a r).Perm (a::r)
 |[]=>List.Perm.refl _
 |b::r=>by
  unfold JQ
  split
  ·exact((jzi a r).cons b).trans (List.Perm.swap ..)
  ·exact List.Perm.refl _
theorem jqj:∀r,(zJ r).Perm r
 |[]=>List.Perm.refl _|a::r=>(jzi a _).trans ((jqj r).cons a)
def leS(a b:Str):Prop:=Spec.ltCps b.cps.toList a.cps.toList=false
theorem leS_iff{a b:Str}:leS a b↔a.cps.toList<=b.cps.toList:=by
 unfold leS;rw[ltCps_eq,decide_eq_false_iff_not,List.not_lt]
theorem kqh{a b c:Str}(h:leS a b)(h':leS b c):leS a c:=leS_iff.mpr (List.le_trans (leS_iff.mp h) (leS_iff.mp h'))
theorem qz9{a b:Str}(h:leS a b)(h':leS b a):a=b:=by
 have:=List.le_antisymm (leS_iff.mp h) (leS_iff.mp h');cases a;cases b;simp only at this
 congr 1
 exact Array.toList_inj.mp this
theorem qv0{a b:Str}(h:¬leS a b):leS b a:=by
 rw[leS_iff]at h ⊢;exact List.le_of_lt (List.not_le.mp h)
theorem kq4:∀{a:Str} {r:List Str},risingS a r=true->(a::r).Pairwise leS
 |a,[],_=>by simp
 |a,b::r,h=>by
  have h:(!(Spec.ltCps b.cps.toList a.cps.toList)&&risingS b r)=true:=h;rw[Bool.and_eq_true,Bool.not_eq_true']at h;have ih:=kq4 h.2;refine List.pairwise_cons.mpr ⟨λc hc=>?_,ih⟩;rcases aD hc with rfl|hc
  ·exact h.1
  ·exact kqh h.1 ((List.pairwise_cons.mp ih).1 c hc)
theorem qk4{r:List Str}(h:sortedS r=true):r.Pairwise leS:=by
 cases r with|nil=>exact .nil|cons a r=>exact kq4 h
theorem qvg{a:Str}:∀{r:List Str},r.Pairwise leS->(JQ a r).Pairwise leS
 | [],_=>by simp[JQ]
 | b::r,h=>by
  rw[List.pairwise_cons]at h;unfold JQ
  by_cases hl:Spec.ltCps b.cps.toList a.cps.toList=true
  ·rw[X7 hl];refine List.pairwise_cons.mpr ⟨λc hc=>?_,qvg h.2⟩;rcases aD ((jzi a r).mem_iff.mp hc)with rfl|hc
   ·exact qv0 (by unfold leS;rw[hl];exact λz=>nomatch z)
   ·exact h.1 c hc
  ·rw[X9 hl];have ip:leS a b:=by unfold leS;exact Bool.eq_false_iff.mpr hl
   refine List.pairwise_cons.mpr ⟨λc hc=>?_,List.pairwise_cons.mpr h⟩;rcases aD hc with rfl|hc
   ·exact ip
   ·exact kqh ip (h.1 c hc)
theorem kx1:∀{r:List Str},(zJ r).Pairwise leS
 |[]=>.nil|a::r=>qvg kx1
theorem qxd{r s:List Str}(p:s.Perm r)(h:sortedS s=true):s=zJ r:=
 List.Perm.eq_of_pairwise (λa b _ _ h1 h2=>qz9 h1 h2) (qk4 h) kx1 (p.trans (jqj r).symm)
theorem jzj(a:Int):∀r,(Q2 a r).Perm (a::r)
 |[]=>List.Perm.refl _
 |b::r=>by
  unfold Q2
  split
  ·exact((jzj a r).cons b).trans (List.Perm.swap ..)
  ·exact List.Perm.refl _
theorem jwq:∀r,(Q7 r).Perm r
 |[]=>List.Perm.refl _|a::r=>(jzj a _).trans ((jwq r).cons a)
theorem qvh{a:Int}:∀{r:List Int},r.Pairwise (·<=·)->(Q2 a r).Pairwise (·<=·)
 | [],_=>by simp[Q2]
 | b::r,h=>by
  rw[List.pairwise_cons]at h;unfold Q2
  by_cases hl:b<a
  ·rw[X7 hl];refine List.pairwise_cons.mpr ⟨λc hc=>?_,qvh h.2⟩;rcases aD ((jzj a r).mem_iff.mp hc)with rfl|hc
   ·exact Int.le_of_lt hl
   ·exact h.1 c hc
  ·rw[X9 hl];refine List.pairwise_cons.mpr ⟨λc hc=>?_,List.pairwise_cons.mpr h⟩;rcases aD hc with rfl|hc
   ·lia
   ·have:=h.1 c hc;lia
theorem kx2:∀{r:List Int},(Q7 r).Pairwise (·<=·)
 |[]=>.nil|a::r=>qvh kx2
theorem qxe{r s:List Int}(p:s.Perm r)(h:s.Pairwise (·<=·)):s=Q7 r:=
 List.Perm.eq_of_pairwise (λa b _ _ h1 h2=>Int.le_antisymm h1 h2) h kx2 (p.trans (jwq r).symm)
theorem kj4{ns:List Str}:∀{us:List Value},Vals (ns.map V.str) us->StrsAre us ns:=by
 induction ns with
 | nil=>intro us r;rw[List.map_nil]at r;cases r;exact .nil
 | cons n ns ih=>
  intro us r;rw[List.map_cons]at r;cases r with
  |cons r1 r2=>
   obtain⟨t,e⟩:=r1;subst e;exact .cons n t (ih r2)
theorem qjs{us:List Value}{ns:List Str}(h:StrsAre us ns):Vals (ns.map V.str) us:=by
 induction h with|nil=>exact .nil|cons y t _ ih=>exact .cons ⟨t,rfl⟩ ih
theorem kq0{us:List Value}{ns:List Int}(h:IntsAre us ns):Vals (ns.map V.int) us:=by
 induction h with|nil=>exact .nil|cons y t _ ih=>exact .cons ⟨t,rfl⟩ ih
noncomputable def qkj(K:Frag):List V->Hp->VK->Prop:=λxs H Q=>
 (∃p ss,xs=[.ref p]/\SqL K H p (ss.map V.str)/\ss.length<64/\∀l,H l=none->Q (.ref l) (upd H l (.lst ((zJ ss).map V.str)))) \/
 ∃p ss,xs=[.ref p]/\SqL K H p (ss.map V.int)/\ss.length<64/\∀l,H l=none->Q (.ref l) (upd H l (.lst ((Q7 ss).map V.int)))
theorem kwj(hK:X.K=K):CallR X (.builtin "sorted") (qkj K):=by
 subst hK;intro pins s σ H xs us Q I r h;rcases h with⟨p,ss,rfl,hq,hl,q⟩|⟨p,ss,rfl,hq,hl,q⟩
 ·obtain⟨u,rfl,rx⟩:=wY r;cases rx;obtain⟨ac,r',pl,hz⟩:=I.list hq;have ah:=r'.length;rw[X3]at ah hz;refine sorted_strs (vs:=ac) pl.isList (kj4 r') ⋯ λout ss' h1 h2 h3=>?_
  have e:=qxd h2 h3;subst e;obtain⟨n,hn⟩:=sortedAll_at s.heap ac out;have du:s.heap.objs.size<=s.heap.objs.size+1:=Nat.le_succ _;refine⟨.ref (s.heap.objs.size+1),_,I.laid (t':=s.toks) (o:=.lst ((zJ ss).map V.str)) (λb o e=>sortedAll_old e) du ?_,rfl,q _ (I.hok.fresh du)⟩;exact⟨by rw[X3,(jqj ss).length_eq];exact hz,out.toList,n,qjs h1,by simpa using hn⟩
 ·obtain⟨u,rfl,rx⟩:=wY r;cases rx;obtain⟨ac,r',pl,hz⟩:=I.list hq;have ah:=r'.length;rw[X3]at ah hz;refine sorted_ints (vs:=ac) pl.isList (kjg r') ⋯ λout ss' h1 h2 h3=>?_
  have e:=qxe h2 h3;subst e;obtain⟨n,hn⟩:=sortedAll_at s.heap ac out;have du:s.heap.objs.size<=s.heap.objs.size+1:=Nat.le_succ _;refine⟨.ref (s.heap.objs.size+1),_,I.laid (t':=s.toks) (o:=.lst ((Q7 ss).map V.int)) (λb o e=>sortedAll_old e) du ?_,rfl,q _ (I.hok.fresh du)⟩;exact⟨by rw[X3,(jwq ss).length_eq];exact hz,out.toList,n,kq0 h1,by simpa using hn⟩
theorem jxm{g:Bool}:∀{ds:List D} {bs:List Str} {xs:List V} {as:List Addr},wQ ds=some bs->RepA K H g ds xs as->xs=bs.map V.str/\∀z∈bs,z.length<=sizeLine
 | [],bs,xs,as,h,r=>by
  cases oq9 h;unfold RepA at r;exact⟨r.1,λ_ z=>nomatch z⟩
 | d::ds,bs,xs,as,h,r=>by
  cases d with
  | str b=>
   unfold wQ at h;cases hb:wQ ds with
   |none=>rw[hb]at h;cases h
   |some gz=>
    rw[hb]at h;cases oq9 h;unfold RepA at r;obtain⟨x,rr,c1,c2,rfl,rfl,h1,h2⟩:=r;unfold RepL at h1;obtain⟨i1,i2⟩:=jxm hb h2;exact⟨by rw[h1.1,i1];rfl,λz hz=>(aD hz).elim (λe=>e▸h1.2.2) (i2 z)⟩
  |_=>unfold wQ at h;cases h
theorem kki{g:Bool}:∀{ds:List D} {bs:List Int} {xs:List V} {as:List Addr},zw ds=some bs->RepA K H g ds xs as->xs=bs.map V.int
 | [],bs,xs,as,h,r=>by
  cases oq9 h;unfold RepA at r;exact r.1
 | d::ds,bs,xs,as,h,r=>by
  cases d with
  | int b=>
   unfold zw at h;cases hb:zw ds with
   |none=>rw[hb]at h;cases h
   |some gz=>
    rw[hb]at h;cases oq9 h;unfold RepA at r;obtain⟨x,rr,c1,c2,rfl,rfl,h1,h2⟩:=r;unfold RepL at h1;rw[h1.1,kki hb h2];rfl
  |_=>unfold zw at h;cases h
theorem kx6{g:Bool}:∀{bs:List Str},(∀z∈bs,z.length<=sizeLine)->RepA K H g (bs.map D.str) (bs.map V.str) []
 |[],_=>by unfold RepA;exact⟨rfl,rfl⟩
 |b::bs,h=>by
  rw[List.map_cons,List.map_cons];unfold RepA;exact⟨_,_,[],[],rfl,rfl,Qq (h b X6),kx6 λz hz=>h z (lc9 _ hz)⟩
theorem kx7{g:Bool}:∀{bs:List Int},RepA K H g (bs.map D.int) (bs.map V.int) []
 |[]=>by unfold RepA;exact⟨rfl,rfl⟩
 |b::bs=>by
  rw[List.map_cons,List.map_cons];unfold RepA;exact⟨_,_,[],[],rfl,rfl,xx,kx7⟩
theorem qws:Ad1 K (λv H Q=>qkj K [v] H Q) jzn:=by
 intro H x s Q ok hf k;unfold jzn at hf;dsimp only at hf;cases hx:x.d with
 | lst ds=>
  rw [hx]at hf;dsimp only at hf;obtain⟨l,xs,bs,ev,q3,r3,_⟩:=items ok (.inl hx);have q3:LsR K H l xs:=by rcases q3 with⟨_,z⟩|⟨z,_⟩;exact z;rw[hx]at z;cases z
  cases hs:wQ ds with
  | some ss=>
   rw[hs]at hf;dsimp only at hf
   split at hf
   ·rename_i hl;cases oq9 hf;obtain⟨e1,e2⟩:=jxm hs r3;subst e1;refine .inl ⟨l,ss,by rw[ev],wJ q3,hl,λp hp=>?_⟩;exact k ⟨.rt,.lst _,.ref p,p::[]⟩ _ rfl rfl (zZ hp (kx6 λz hz=>e2 z ((jqj ss).mem_iff.mp hz)) λb hb=>nomatch hb)
   ·cases hf
  | none=>
   rw[hs]at hf;dsimp only at hf;cases hi:zw ds with
   | none=>rw[hi]at hf;cases hf
   | some ss=>
    rw[hi]at hf;dsimp only at hf
    split at hf
    ·rename_i hl;cases oq9 hf;have e1:=kki hi r3;subst e1;refine .inr ⟨l,ss,by rw[ev],wJ q3,hl,λp hp=>?_⟩;exact k ⟨.rt,.lst _,.ref p,p::[]⟩ _ rfl rfl (zZ hp kx7 λb hb=>nomatch hb)
    ·cases hf
 |_=>rw[hx]at hf;cases hf
def tPo(Z:Fx0):Option Ex->TO
 |none=>qjz|some c=>vwx (tV Z true c)
theorem xW:PO X none (tPo Z none):=vqh
theorem ww(h:QV X Z true c e):PO X (some e) (tPo Z (some c)):=vqf h
theorem kk4{α:Type}{co:Option Ex}{F:En->Option Int->Option (Res α)}{r:Res α}{G:Option Int->Hp->Prop}(m:Mt E σ L)(w:World Z.K H L)(h:bnd (zW co E) F=some r)(xc:Xc Z σ H L r)
  (k:∀E1 l,F E1 l=some r->∀L1 H1,Mt E1 σ L1->World Z.K H1 L1->Step H L H1 L1->jJ H H1->G l H1):tPo Z co σ H G:=by
 cases co with
 | none=>exact k E none h L H m w Step.refl wx
 | some c=>
  have h:bnd (bnd (c E) λE x=>match x.2 with|.int i=>some (.ok E (some i))|_=>none) F=some r:=h;have h':bnd (c E) (λE x=>bnd (match x.2 with|.int i=>some (.ok E (some i))|_=>none) F)=some r:=by
   cases hc:c E with|none=>rw[hc]at h;exact h|some y=>rw[hc]at h;cases y<;>exact h
  show tV Z true c σ H λx H1=>∃i,x=.int i/\G (some i) H1
  refine kZ m w h' xc λE1 s h1 x L1 H1 e1 e2 m1 w1 ok fr sr st sm=>?_
  cases hs:s.2 with
  |int i=>
   rw[hs]at h1;exact⟨i,kw ok (e2.trans hs),k E1 (some i) h1 L1 H1 m1 w1 st (sm rfl)⟩
  |_=>rw[hs]at h1;cases h1
theorem V2(n d:Nat)(v:Option Int):HT.sIx n d v=vq n d v:=by
 cases v<;>rfl
theorem RepA.drop{K:Frag}{H:Hp}{g:Bool}:∀(n:Nat) {ds:List D} {xs:List V} {as:List Addr},RepA K H g ds xs as->∃bs,RepA K H g (ds.drop n) (xs.drop n) bs/\∀b∈bs,b∈as
 |0,ds,xs,as,h=>⟨as,h,λ_ h=>h⟩
 |n+1,[],xs,as,h=>by
  unfold RepA at h;obtain⟨rfl,rfl⟩:=h;exact⟨[],by simp only[List.drop_nil];unfold RepA;exact⟨rfl,rfl⟩,λ_ h=>h⟩
 |n+1,d::ds,xs,as,h=>by
  unfold RepA at h;obtain⟨x,r,bs,cs,rfl,rfl,h1,h2⟩:=h;obtain⟨es,r2,hb⟩:=RepA.drop n h2;exact⟨es,r2,λb h=>lr9 _ (hb b h)⟩
theorem RepA.take{K:Frag}{H:Hp}{g:Bool}:∀(n:Nat) {ds:List D} {xs:List V} {as:List Addr},RepA K H g ds xs as->∃bs,RepA K H g (ds.take n) (xs.take n) bs/\∀b∈bs,b∈as
 |0,ds,xs,as,h=>⟨[],by simp only[List.take_zero];unfold RepA;exact⟨rfl,rfl⟩,λ_ h=>nomatch h⟩
 |n+1,[],xs,as,h=>by
  unfold RepA at h;obtain⟨rfl,rfl⟩:=h;exact⟨[],by simp only[List.take_nil];unfold RepA;exact⟨rfl,rfl⟩,λ_ h=>h⟩
 |n+1,d::ds,xs,as,h=>by
  unfold RepA at h;obtain⟨x,r,bs,cs,rfl,rfl,h1,h2⟩:=h;obtain⟨es,r2,hb⟩:=RepA.take n h2;refine⟨bs++es,?_,λb h=>(aA h).elim (λz=>ll9 _ z) λz=>lr9 _ (hb b z)⟩;rw[List.take_succ_cons,List.take_succ_cons];unfold RepA;exact⟨x,r.take n,bs,es,rfl,rfl,h1,r2⟩
theorem RepA.cut{K:Frag}{H:Hp}{g:Bool}{ds:List D}{xs:List V}{as:List Addr}(h:RepA K H g ds xs as)(lo hi:Option Int):∃bs,RepA K H g (J9 ds lo hi) (Kx xs lo hi) bs/\∀b∈bs,b∈as:=by
 have hl:=h.len;unfold J9 Kx;rw[V2,V2,<-hl];obtain⟨bs,r,hb⟩:=h.drop (vq ds.length 0 lo);obtain⟨cs,r2,hc⟩:=r.take (vq ds.length ds.length hi - vq ds.length 0 lo);exact⟨cs,r2,λb h=>hb b (hc b h)⟩
theorem kvo{x:Sl}{s:Sd}{lo hi:Option Int}{Q:VK}(ok:x.ok K H)(hf:fSl (x.o,x.d) lo hi=some s)(k:∀(z:Sl) H',z.o=s.1->z.d=s.2->Out K H H' z x.frz->Q z.v H'):qkk K x.v lo hi H Q:=by
 unfold fSl at hf;dsimp only at hf;cases hx:x.d with
 | lst ds=>
  rw[hx]at hf;dsimp only at hf
  split at hf
  ·rename_i hl;cases oq9 hf;obtain⟨l,xs,bs,ev,q3,r3,h3⟩:=xV ok (.inl hx) (by rw[hx];exact hl);have q3:LsR K H l xs:=by rcases q3 with⟨_,z⟩|⟨z,_⟩;exact z;rw[hx]at z;cases z
   obtain⟨cs,r4,h4⟩:=r3.cut lo hi;exact .inl ⟨l,xs,ev,wJ q3,λp hp=>k ⟨.rt,.lst _,.ref p,p::cs⟩ _ rfl rfl (zZ hp r4 λb hb=>h3 b (h4 b hb))⟩
  ·cases hf
 | tup ds=>
  rw[hx]at hf;dsimp only at hf
  split at hf
  ·rename_i hl;cases oq9 hf;obtain⟨l,xs,bs,ev,q3,r3,h3⟩:=xV ok (.inr hx) (by rw[hx];exact hl.1);have q3:SqT K H l xs:=by rcases q3 with⟨z,_⟩|⟨_,z⟩;rw[hx]at z;cases z;exact z
   obtain⟨cs,r4,h4⟩:=r3.cut lo hi;refine .inr (.inl ⟨l,xs,ev,q3,?_,λp hp=>k ⟨.no,.tup _,.ref p,cs⟩ _ rfl rfl (V7 hp r4 λb hb=>h3 b (h4 b hb))⟩);rw[V2,V2,<-r3.len];exact hl.2
  ·cases hf
 | str z=>
  rw[hx]at hf;dsimp only at hf
  split at hf
  ·rename_i hl;cases oq9 hf;obtain⟨e,hz⟩:=v7 ok hx;exact .inr (.inr ⟨z,e,hz,k ⟨.dp,.str _,.str _,[]⟩ H rfl rfl (ww2 hl)⟩)
  ·cases hf
 |_=>rw[hx]at hf;cases hf
theorem xv{lo hi:Option Ex}{og oj:Option Expr}(ha:QV X Z q a ea)(hl:PO X og (tPo Z lo))(hh:PO X oj (tPo Z hi))(hK:autoParam (X.K=Z.K) Ŕ):QE X Z q (cSl a lo hi) (.Subscript ea (.Slice og oj none p2) pos):=
 kz (kxf (vx8 Z.K hK) ha hl hh) fun σ H Q au=>ex8 au λE L r m w hc xc k=>by
  refine kZ m w (show bnd (a E) _=some r from hc) xc λE1 s h1 x L1 H1 e1 e2 m1 w1 ok fr sr st sm=>?_
  refine kk4 m1 w1 h1 (xc.step st) λE2 l h2 L2 H2 m2 w2 bn fb=>?_
  refine kk4 m2 w2 h2 (xc.step (st.trans bn)) λE3 u h3 L3 H3 m3 w3 cx qo=>?_
  obtain⟨z,hz,rfl⟩:=xK h3;have k1:=Kk ok fr bn fb;have k2:=Kk k1.1 k1.2 cx qo;refine kvo k2.1 (by rw[e1,e2];exact hz) λy H' ho hd o=>?_
  obtain⟨w4,gu⟩:=Jk w3 ((st.trans bn).trans cx) o k2.2 (λb hb=>k2.1.some (Sl.frz_as hb)) (Qk sr λb hb=>Sl.frz_as hb);have ik:q=true->jJ H H3:=λhq=>k4 (sm hq) (k4 fb qo)
  exact k _ _ rfl y L3 H' ho hd m3 w4 gu λhq=>⟨k4 (ik hq) o.same,λb hb=>zQ (ik hq) (o.new b hb)⟩
end
theorem wvc{prog:Program}{w:PySem.World}{A:Around}{E:VP9}{s:Shared}{l:Addr}{items:Array Value}{k:Int}{t:Tok}{Q:VP9}
  (ht:IsTup s.heap l items) (h:Q .notImplemented s):wpAny (model prog w) A (call (.builtin "int.__rmul__") [.int k t,.ref l]) Q E s:=by
 refine Y9 PySem.F.slot_int_rmul (typeIs_int s k t) PySem.F.entry_int_rmul ?_ (PySem.F.args_int_rmul_2 _ _);obtain⟨o,e,c,n,hd⟩:=ht;show wpAny _ _ (asInt? (.ref l) >>= _) _ _ s;unfold asInt?;refine X0 (X0 (wpAny_load e ?_));rw[hd];refine X1 ?_;dsimp only;refine X0 (Zk ?_);exact X1 ⟨_,rfl,h⟩
theorem mulT{prog:Program}{w:PySem.World}{A:Around}{E:VP9}{s:Shared}{l:Addr}{items:Array Value}{k:Int}{t:Tok}{Q:VP9}
  (ht:IsTup s.heap l items) (h1:-(2 ^ 63)<=k) (h2:k<2 ^ 63) (hz:items.size*k.toNat<=sizeLine)
  (oe:(items.isEmpty=true\/k=1)->Q (.ref l) s)
  (hsz:(List.foldl (λx1 x2=>x1++x2) #[] (List.replicate k.toNat items)).size<=sizeLine)
  (fi:Q (.ref s.heap.objs.size) { s with heap:=s.heap.push { cls:=.type "tuple",data:=.seq (List.foldl (λx1 x2=>x1++x2) #[] (List.replicate k.toNat items)) } })
  : wpAny (model prog w) A (call (.builtin "tuple.__mul__") [.ref l,.int k t]) Q E s:=by
 refine Y9 PySem.F.slot_tuple_mul ht.typeIs PySem.F.entry_tuple_mul ?_ (PySem.F.args_tuple_mul_2 _ _);show wpAny _ _ (if(decide (k < -2 ^ 63)||decide (k>=2 ^ 63))=true then _ else _) _ _ s;rw [X9 (by simp;lia)];show wpAny _ _ (Builtin.Tuple.tupleItemsOf (.ref l) >>= _) _ _ s;refine X0 (tupleItemsOf_ ht ?_)
 by_cases hs:(items.isEmpty||k==1)=true
 ·rw[X7 hs];unfold Builtin.Tuple.tupleIsExact;refine X0 (X0 (Z8 ht.typeIs (X1 ?_)));rw[X7 ⋯];refine X0 (Zk ?_);refine X1 ⟨_,rfl,oe ?_⟩
  simpa using hs
 ·rw[X9 hs];have dj:items.isEmpty=false:=by
   cases h:items.isEmpty<;>simp_all
  have hm:((items.size:Int)*k)<=(sizeLine:Int)\/k<=0:=by
   by_cases hk:k<=0
   ·exact .inr hk
   ·refine .inl ?_;have e:((k.toNat:Nat):Int)=k:=Int.toNat_of_nonneg ⋯;have:((items.size*k.toNat:Nat):Int)<=(sizeLine:Int):=Int.ofNat_le.mpr hz;rw[Int.natCast_mul,e]at this;exact this
  dsimp only
  by_cases hk:k<=0
  ·rw[X7 (by simp[hk])];have e:k.toNat=0:=⋯
   rw[e]at fi;unfold Builtin.Tuple.tupleExact;exact X0 (Xy (X1 ⟨_,rfl,fi⟩) (show(0:Nat)<=sizeLine from Yh _))
  ·rw[X9 (by simp[hk,dj])];have hm:=hm.resolve_right hk;have kr:(sizeLine:Int)=16777216:=⋯
   rw[X9 ⋯];rw[X9 (by unfold Builtin.Tuple.tupleTooMany;simp;lia)];unfold Builtin.Tuple.tupleExact;exact X0 (Xy (X1 ⟨_,rfl,fi⟩) hsz)
section
variable {X:Cx}{Z:Fx0}{K:Frag}{pn:List Nat}{q qa qb:Bool}{a b c:Ex}{u:Ts}{tg e ea eb:Expr}{st:Stmt}{σ:L2.St}{H:Hp}{L:Ls}{E:En}{pos p p2:Pos}{x:Str}
def vxg(K:Frag):R2:=λx y H Q=>∃l k xs,x=.ref l/\y=.int k/\SqT K H l xs/\-(2 ^ 63)<=k/\k<2 ^ 63/\xs.length*k.toNat<=sizeLine/\((xs=[]\/k=1)->Q (.ref l) H)/\∀p,H p=none->Q (.ref p) (upd H p (.tup (List.replicate k.toNat xs).flatten))
theorem op_repT:OpR X (binaryOp .Mult) (vxg X.K):=by
 intro pins s σ H x y v u Q I rx ry h;obtain⟨l,k,xs,rfl,rfl,hq,h1,h2,hz,q1,q2⟩:=h;cases rx;obtain⟨t,rfl⟩:=ry;obtain⟨ac,r,ht,hl⟩:=I.tuple hq;have ah:=r.length;have f0:List.foldl (λx1 x2=>x1++x2) #[] (List.replicate k.toNat ac.toArray)=(List.replicate k.toNat ac).flatten.toArray:=by
  have:=jzl ac k.toNat [];rw[List.nil_append]at this;exact this
 have mh:(List.replicate k.toNat xs).flatten.length<=sizeLine:=by rw[qqy,Nat.mul_comm];exact hz
 refine wpAny_binaryOp_repeat_ref (T:="tuple") (U:="int") ⋯ ht.typeIs (λs'=>typeIs_int s' k t) rfl F.fills_int_mul F.slot_int_rmul (show seqRepeat? (Value.type "tuple")=pure (some (Value.builtin "tuple.__mul__"))from rfl) F.slot_int_index.lookup
  (wvc ht ⟨rfl,ht.typeIs,mulT ht h1 h2 (by rw[X8,<-ah];exact hz) (λhs=>?_) ?_ ?_⟩)
 ·refine⟨.ref l,H,I,rfl,q1 ?_⟩;rcases hs with hs|hs
  ·left;have:ac=[]:=by simpa using hs
   subst this
   simpa using ah
  ·exact .inr hs
 ·rw[f0,X8,<-(r.rep k.toNat).length];exact mh
 ·rw[f0];exact⟨.ref _,_,I.laid (t':=s.toks) (o:=.tup _) (λb o e=>X2 _ e) (Xa _) ⟨mh,_,r.rep k.toNat,IsTupD.new _ _⟩,rfl,q2 _ (I.hok.fresh (Xa _))⟩
def vxj(K:Frag):R2:=λx y H Q=>vxg K x y H Q\/vky K x y H Q
theorem wj5(hK:autoParam (X.K=K) Ŕ):OpR X (binaryOp .Mult) (vxj K):=by subst hK;exact op_repT.or wj6
theorem vw8:Ad2 K (vxj K) vk:=by
 intro H x y s Q ox oy hf k;cases hx:x.d with
 | tup ds=>
  cases hy:y.d with
  | int n=>
   unfold vk at hf;rw [show(x.o,x.d).2=x.d from rfl,show(y.o,y.d).2=y.d from rfl,hx,hy]at hf;dsimp only at hf
   split at hf
   ·rename_i hc;cases oq9 hf;obtain⟨l,xs,bs,e3,q3,r3,h3⟩:=xV ox (.inr hx) (by rw[hx];exact hc.2.2.2);have q3:SqT K H l xs:=by rcases q3 with⟨z,_⟩|⟨_,z⟩;rw[hx]at z;cases z;exact z
    obtain⟨cs,r4,h4⟩:=r3.reps n.toNat;refine .inl ⟨l,n,xs,e3,kw oy hy,q3,hc.1,hc.2.1,by rw[<-r3.len];exact hc.2.2.1,λhs=>?_,λp hp=>?_⟩
    ·refine k ⟨.no,.tup _,.ref l,cs⟩ H rfl rfl ⟨wx,?_,λb hb=>(nomatch hb),Y4,λb hb=>ll9 _ (h3 b (h4 b hb))⟩;show RepL K H true (.tup _) (.ref l) cs;unfold RepL;refine⟨l,xs,rfl,q3,?_⟩;have e:(List.replicate n.toNat xs).flatten=xs:=by
      rcases hs with hs|hs
      ·subst hs;simp
      ·subst hs;simp
     rw[e]at r4;exact r4
    ·exact k ⟨.no,.tup _,.ref p,cs⟩ _ rfl rfl (V7 hp r4 λb hb=>ll9 _ (h3 b (h4 b hb)))
   ·cases hf
  |_=>
   refine .inr (vkc H x y s Q ox oy ?_ k);unfold vk at hf;rw[show(x.o,x.d).2=x.d from rfl,show(y.o,y.d).2=y.d from rfl,hx,hy]at hf;rw[hx,hy];exact hf
 |_=>
  refine .inr (vkc H x y s Q ox oy ?_ k);unfold vk at hf;rw[show(x.o,x.d).2=x.d from rfl,hx]at hf;rw[hx];exact hf
end
def Ite(K:Frag)(l:Addr):It:=⟨λi H=>∃xs x,SqL K H l xs/\xs[i]?=some x,
 λi H v H'=>∃T x,H T=none/\v=.ref T/\H'=upd H T (.tup [.int i,x])/\∀xs,SqL K H l xs->xs[i]?=some x,
 λi H=>∃xs,SqL K H l xs/\xs.length<=i⟩
theorem qjw{P:Program}{w:PySem.World}{K:Frag}{fk:List Expr}{k1:Nat}{pos:Pos}{e it l:Addr}(n1:e≠it)(n2:l≠e)(n3:l≠it):
  Turn P w K (.Tuple fk k1 pos) (Ite K l) [e,it] e (λi h=>(∃cw,IsEnum h e it (i:Int) cw)/\h.IsListIter it l i) where
 mem:=by simp
 obj:=λi h st b hb=>by
  obtain⟨⟨cw,h1⟩,o4,e4,c4,d4⟩:=st;simp only[Y3,Y6,or_false]at hb;rcases hb with rfl|rfl
  ·exact⟨_,h1,λv z=>by cases z⟩
  ·exact⟨_,e4,λv z=>by rw[d4]at z;cases z⟩
 keep:=λi h h' st k=>by
  obtain⟨⟨cw,h1⟩,o4,e4,c4,d4⟩:=st;exact⟨⟨cw,k _ (by simp) _ h1⟩,o4,k _ (by simp) _ e4,c4,d4⟩
 item:=by
  intro X hP hw hK hc i pins s σ H E I hf st hg;subst hP hw hK;obtain⟨xs,x,q1,hx⟩:=hg;obtain⟨o8,rv1,p1,l6⟩:=I.list q1;obtain⟨u1,hu1,ru1⟩:=rv1.get hx;obtain⟨⟨cw,t1⟩,t2⟩:=st;refine wpAny_pyNext_enum_item t1 t2 p1.isList (x:=u1) (by simpa using hu1) n1 λh1 g1 g2 gT gs gk=>?_
  refine⟨_,rfl,wpAny_letOwnedTupleGo_enum (s:={ s with heap:=h1,toks:=s.toks+1 }) g1 λh2 f1 sb=>?_⟩;have fT:qw X pins H s.heap.objs.size:=I.fpOk (Xa _) (I.hok.fresh (Xa _));have nT:∀b∈[e,it],b≠s.heap.objs.size:=λb hb ee=>by
   obtain⟨o,eo,_⟩:∃o,s.heap.get? b=some o/\True:=by
    simp only[Y3,Y6,or_false]at hb;obtain⟨o4,e4,_⟩:=t2;rcases hb with rfl|rfl
    ·exact⟨_,t1,trivial⟩
    ·exact⟨_,e4,trivial⟩
   exact absurd (Xd eo) (by rw[ee];exact Yv _)
  have kk:∀b o,b∉[e,it]->s.heap.get? b=some o->h2.get? b=some o:=λb o hb ee=>by
   simp only[Y3,Y6,or_false,not_or]at hb;exact(sb.2 b hb.1).trans (gk b o hb.1 hb.2 ee)
  have I1:L2.Inv X pins σ H { s with heap:=h2,toks:=s.toks+1 }:=jze [e,it] I kk hf;have nz:s.heap.objs.size≠e:=λee=>nT e (by simp) ee.symm
  have I2:=kqn (a:=s.heap.objs.size) (o:=.tup [.int (i:Int),x]) I1 fT.1 fT.2.1 fT.2.2.2.1 fT.2.2.2.2.1 fT.2.2.2.2.2
   (show ObjOk X.prog X.w _ h2 _ (.tup [.int (i:Int),x])from⟨by show(2:Nat)<=sizeLine;decide,[.int i s.toks,u1],.cons ⟨_,rfl⟩ (.cons ru1 .nil),⟨_,(sb.2 _ nz).trans gT,rfl,rfl,0,rfl⟩⟩)
  refine⟨.ref s.heap.objs.size,_,I2,rfl,⟨_,x,fT.1,rfl,rfl,λzs hzs=>by rw[I.list_inj hzs q1];exact hx⟩,?_,λb hb=>by rw[jX (nT b hb)];exact(hf b hb).1⟩;exact⟨⟨u1,f1⟩,g2.at λo ee=>(sb.2 _ n1.symm).trans ee⟩
 done:=by
  intro X hP hw hK hc i pins s σ H E I hf st hg;subst hP hw hK;obtain⟨xs,q1,hx⟩:=hg;obtain⟨o8,rv1,p1,l6⟩:=I.list q1;obtain⟨⟨cw,t1⟩,t2⟩:=st;have kh:=rv1.length;refine wpAny_pyNext_enum_end (I.ok.hd hc) t1 t2 p1.isList (by simp;lia) λh' kk=>⟨rfl,?_⟩
  refine jze (t':=s.toks) [it] I (λb o hb ee=>kk b o (by simpa using hb) ee) λb hb=>hf b (by
   simp only[Y3,Y6,or_false]at hb ⊢;exact .inr hb)
 self:=λ_ _ _ _ _ st h=>by obtain⟨⟨cw,h1⟩,_⟩:=st;exact wpAny_pyIter_enum h1 h
abbrev wwh(K:Frag)(ta:TA):TI:=fun σ H R=>ta σ H λvs H1=>∃l,vs=[.ref l]/\(∃xs,SqL K H1 l xs/\(xs.length<=sizeLine->R (Ite K l) H1))
theorem kv7:bootBuiltins "enumerate"=some (.type "enumerate"):=boot_enumerate
section
variable {X:Cx}{Z:Fx0}{K:Frag}{pn:List Nat}{q qa qb:Bool}{a b c:Ex}{u:Ts}{tg e ea eb:Expr}{st:Stmt}{σ:L2.St}{H:Hp}{L:Ls}{E:En}{pos p p2 jc:Pos}{x:Str}{fk:List Expr}{k1:Nat}
theorem vqi(K:Frag){ta:TA}(hg:Gl X "enumerate")(hm:X.mg "enumerate"=none)(ha:PA X [e] ta)(hK:autoParam (X.K=K) Ŕ)
  (hs:autoParam (starEach [e] X.env=[(false,eval e X.env)]) Ŕ):PI X (.Tuple fk k1 jc) (.Call (.Name "enumerate" p) [e] [] pos) (wwh K ta):=by
 subst hK;intro pins s σ H R I h;refine Call_ (xQ I hg hm kv7 (Y0 (thn (ha pos pins s σ H _ I h) λus s1 ⟨vs,H1,I1,r1,q1⟩=>?_) (by rw[hs];rfl) rfl));obtain⟨l,rfl,xs,q1,q⟩:=q1;obtain⟨u1,rfl,e1⟩:=wY r1;cases e1;obtain⟨o8,rv1,p1,l6⟩:=I1.list q1;have lt:l<s1.heap.objs.size:=by obtain⟨_,ee,_⟩:=p1.isList;exact Xd ee
 refine call_enumerate_list p1.isList λh' g1 g2 gs gk=>?_
 refine wpAny_pyIter_enum g1 ⟨_,[_,s1.heap.objs.size],_,_,H1,rfl,I1.kept (t':=s1.toks) gk,
  qjw (e:=s1.heap.objs.size+1) (it:=s1.heap.objs.size) (l:=l) (Nat.succ_ne_self _) (Xi (Z4 lt)) (Xi lt),⟨⟨_,g1⟩,g2⟩,λb hb=>?_,q l6⟩
 have du:s1.heap.objs.size<=b:=by
  simp only[Y3,Y6,or_false]at hb;rcases hb with rfl|rfl<;>lia
 exact I1.fpOk du (I1.hok.fresh du)
theorem jwi:∀(ds:List D) (k:Nat),(xX k ds).length=ds.length
 |[],_=>rfl|d::ds,k=>by rw[xX,Xf,Xf,jwi ds]
theorem kv1:∀(ds:List D) (k i:Nat),(xX k ds)[i]?=(ds[i]?).map λd=>.tup [.int ((k+i:Nat):Int),d]
 |[],_,_=>by simp[xX]|d::ds,k,0=>by simp[xX]
 |d::ds,k,i+1=>by
  rw[xX,List.getElem?_cons_succ,List.getElem?_cons_succ,kv1 ds,show k+1+i=k+(i+1)from by lia]
theorem qqu{x:Sl}{es:List D}{l:Addr}{H1:Hp}(hx:x.d=.lst es)(ev:x.v=.ref l):∀H2:Hp,x.let.ok K H2->∃ys cs,SqL K H2 l ys/\RepA K H2 true es ys cs/\∀b∈cs,b∈x.as:=λH2 hok=>by
 obtain⟨a',ys,cs,pq,q4,r4,h4,_⟩:=items hok (.inl hx);have:a'=l:=by have:=pq.symm.trans ev;exact V.ref.inj this
 subst this;rcases q4 with⟨_,z⟩|⟨z,_⟩
 ·exact⟨ys,cs,z.sq,r4,h4⟩
 ·rw[show x.let.d=D.lst es from hx]at z;cases z
theorem qxq{H2:Hp}{T:Addr}{d1 d2:D}{v1 v2:V}{b1 b2:List Addr}(hT:H2 T=none)(r1:RepL K H2 true d1 v1 b1)(r2:RepL K H2 true d2 v2 b2):RepL K (upd H2 T (.tup [v1,v2])) true (.tup [d1,d2]) (.ref T) (b1++b2):=by
 have sm:jJ H2 (upd H2 T (.tup [v1,v2])):=qv hT;unfold RepL;refine⟨T,[v1,v2],rfl,.inl (.inl v6),?_⟩;unfold RepA;refine⟨v1,[v2],b1,b2,rfl,rfl,r1.kp (Kp.of_same sm),?_⟩;unfold RepA;refine⟨v2,[],b2,[],rfl,by simp,r2.kp (Kp.of_same sm),?_⟩;unfold RepA;exact⟨rfl,rfl⟩
theorem vxv(h:QE X Z q c e)(hg:Gl X "enumerate")(hm:X.mg "enumerate"=none)(hK:autoParam (X.K=Z.K) Ŕ)(hs:autoParam (starEach [e] X.env=[(false,eval e X.env)]) Ŕ):QI X Z q (.Tuple fk k1 jc) (wqo c) (.Call (.Name "enumerate" p) [e] [] pos):=λpins s σ H R I au=>ex8 au λE L r m w hc xc k=>by
 refine(vqi Z.K hg hm (qq h v3 hs) hK hs) pins s σ H R I ?_;refine qxs m w (show bnd (c E) _=some r from hc) xc λE1 s h1 x L1 H1 e1 e2 m1 w1 st sm=>?_
 obtain⟨ds,hd,rfl⟩:=xK h1;have ok:=w1.head;have wT:World Z.K H1 (L1++[x.let].map some):=by
  refine World.comm (L:=[some x.let]) ?_;exact w1.tail.consNo (Vq ok) rfl λb hb=>w1.apart b hb
 have sT:Step H L H1 (L1++[x.let].map some):=by
  refine⟨st.keep,λb hb=>?_,λb hb=>?_⟩
  ·have:b∈j6 L1:=by simpa [KQ]using hb
   exact st.own b (by rw[jZ];exact lr9 _ this)
  ·have:b∈jz L1\/b∈x.as:=by simpa [KQ]using hb
   rcases this with z|z
   ·exact st.frz b (by rw[qk];exact lr9 _ z)
   ·exact kjw st b z
 cases hx:x.d with
 | lst es=>
  rw[<-e2,hx]at hd;have kd:xX 0 es=ds:=oq9 hd;subst kd;obtain⟨a,xs,bs,ev,q3,r3,h3,_⟩:=items ok (.inl hx);have q3:LsR Z.K H1 a xs:=by rcases q3 with⟨_,z⟩|⟨z,_⟩;exact z;rw[hx]at z;cases z
  have again:=qqu (K:=Z.K) (H1:=H1) hx ev;refine⟨a,by rw[ev],xs,q3.sq,λah=>k _ _ rfl (Ite Z.K a) [x.let] L1 H1 m1 wT sT (by rw[jwi,r3.len];exact ah) (λhq=>(sm hq).1) ⟨λt ht=>by rw[aC ht];rfl,λi H2 hok hi=>?_,λH2 hok=>?_,λi H2 v H3 d hok hy io=>?_⟩⟩
  ·obtain⟨ys,cs,s1,s2,_⟩:=again H2 (hok _ (aB rfl));have hl:=s2.len;rw[jwi]at hi;exact⟨ys,ys[i]'⋯,s1,X5 ⋯⟩
  ·obtain⟨ys,cs,s1,s2,_⟩:=again H2 (hok _ (aB rfl));exact⟨ys,s1,by rw[jwi,s2.len];exact Xa _⟩
  ·obtain⟨ys,cs,s1,s2,s3⟩:=again H2 (hok _ (aB rfl));obtain⟨T,x',hT,rfl,rfl,hy⟩:=hy;rw[kv1]at io;cases mw:es[i]? with
   |none=>rw[mw]at io;cases io
   |some d0=>
    rw[mw]at io;cases oq9 io;obtain⟨v',gz,f1,f2,f3⟩:=s2.get mw;have:v'=x':=by have:=hy ys s1;rw[f1]at this;exact oq9 this
    subst this;have rp:=qxq (v1:=.int ((0+i:Nat):Int)) hT xx f2;rw[show((0+i:Nat):Int)=(i:Int)from by lia]at rp ⊢;exact⟨⟨.no,_,.ref T,[]++gz⟩,rfl,rfl,rfl,qv hT,rp,λb hb=>⟨x.let,aB rfl,s3 b (f3 b (by simpa using hb))⟩⟩
 |_=>rw[<-e2,hx]at hd;cases hd
end
end Q
namespace L3
open PySem PySem.Spec PyProof.Rows L2
def tX(X:Cx)(x:Addr):Cx:={ X with A:=X.A.mark (some (.ref x)),calm:=false,xe:=λ_ _=>False }
abbrev exO(o:Obj):HO:=.frz o (.ext λ_ _=>True)
section
variable {X:Cx}{pins:LA9}{σ:L2.St}{H:Hp}{s:Shared}{x:Addr}{ox:Obj}
theorem vju(I:Inv X pins σ H s):Inv (tX X x) pins σ H s:=
 ⟨⟨I.ok.mod,I.ok.kind,I.ok.glob,I.ok.blt,I.ok.above,I.ok.inj,I.ok.has,I.ok.cab,λz=>(by cases z),I.ok.frames,I.ok.stk,I.ok.exf,I.ok.bs,I.ok.bsz,I.ok.noex,I.ok.exfs,I.ok.funs,I.ok.frf⟩,I.os,I.bare,I.base,I.loc,I.cell,I.free,I.freeC,I.pin,I.hok,I.len⟩
theorem vvg(ok:X.Ok)(I:Inv (tX X x) pins σ H s):Inv X pins σ H s:=⟨ok,I.os,I.bare,I.base,I.loc,I.cell,I.free,I.freeC,I.pin,I.hok,I.len⟩
theorem vvh(I:Inv X pins σ H s)(e:s.heap.get? x=some ox)(f:FpX X pins H x):Inv X pins σ (upd H x (exO ox)) s:=by
 obtain⟨hn,f1,f2,f3,f4,f5⟩:=f;refine⟨I.ok,I.os,I.bare,⟨I.base.keep,I.base.slot,λb o q n hx=>?_,I.base.there,λb xs q=>?_,λb o u q=>?_,λb ps q=>?_⟩,I.loc,I.cell,?_,λy c q=>?_,λp hp=>?_,λb u q=>?_,I.len⟩
 ·have hb:b≠x:=by
   rintro rfl;rcases f3 with z|z
   ·exact hx z
   ·rw[z]at q;cases q
  rw[jX hb];exact I.base.free b o q n hx
 ·have:=I.base.tups b xs q;rw[jX (v9 this hn)];exact this
 ·have:=I.base.frzs b o u q;rw[jX (v9 this hn)];exact this
 ·obtain⟨more,this⟩:=I.base.tbls b ps q;exact⟨more,by rw[jX (v9 this hn)];exact this⟩
 ·rw[jX (Ne.symm f1)];exact I.free
 ·rw[jX (f4 y c q)];exact I.freeC y c q
 ·obtain⟨a1,a2,a3⟩:=I.pin p hp;exact⟨a1,by rw[jX (f5 p hp)];exact a2,a3⟩
 ·by_cases hb:b=x
  ·subst hb;rw[v6]at q;cases q;exact⟨e,trivial,⟨_,e⟩,λ_ _ _ _=>trivial⟩
  ·rw[jX hb]at q;exact(I.hok b u q).stay (λc v _ q=>q) (λc q=>by rw[jX (v9 q hn)];exact q) λc xs q=>by rw[jX (v9 q hn)];exact q
end
abbrev vwv(K:Frag)(UC:Addr)(i:Nat)(tb:XK->TS)(ts:TS):TS:=λD σ H=>∃E:XK,tb E D σ H/\∀x Cv H',E Cv none H'->H' x=none->∃C,Cv=.ref C/\PySem.W.exmOne K (.ref C) (.ref UC)=some true/\XCls K C /\
 ∀o,ExAt K x o C->ts { nx:=fun σ' H''=>D.nx (σ'.set i none) H'',rt:=D.rt,bk:=fun σ' H''=>D.bk (σ'.set i none) H'',ct:=fun σ' H''=>D.ct (σ'.set i none) H'' } (σ.set i (some (.ref x))) (upd H' x (exO o))
theorem vqd{X:Cx}{ux n:Str}{np jg pos:Pos}{UC:Addr}{i:Nat}{st b0:Stmt}{fv:List Stmt}{tb:XK->TS}{ts:TS}(hN:X.N.Nodup)(hi:X.N[i]?=some n)(hk:X.env.scope.names.lookup n=some .local)(top:xw X)(hU:X.mg ux=some (.ref UC))(hb:PSX X st tb)
  (hs:∀x,PSs (tX X x) (b0::fv) ts) (hg:autoParam (Gl X ux) Ŕ) (d8:autoParam ((ux==("__debug__":Str))=false) ŕ):
  PS X (.Try [st] [.ExceptHandler (some (.Name ux np)) (some n) (b0::fv) jg] [] [] pos) (vwv X.K UC i tb ts):=by
 intro pins s σ H D I ⟨E,h1,h2⟩;refine wpAny_Try_except (wpAny_execs_cons (Zj (hb E pins s σ H D I h1) (λf s1 q=>?_) (λe s1 q=>?_)))
 ·cases f with|next=>exact wpAny_execs_nil (wpAny_execs_nil q)|ret v=>exact q|brk=>exact q|cont=>exact q
 ·obtain⟨H',x,Cv,rfl,I1,f1,q1⟩:=q;refine kxl top rfl I1 f1 λL T s2 _ t2=>XW t2 λs3 t3=>?_
  obtain⟨C,rfl,hm,xc,ht⟩:=h2 x Cv H' q1 t3.fx.1;refine wpAny_handleBy_cons (codeAny_handlers_test ?_) (λz=>nomatch z);obtain⟨vs,ho,hv⟩:=t3.f.ex;have I3:Inv (tX X x) pins σ H' s3:=vju t3.inv;refine ZX I3 hg hU ?_ d8;have at3:PySem.W.InstAt s3.heap x { cls:=.ref C,data:=.fields vs } C none:=⟨ho,rfl,rfl,trivial⟩;refine Lk (PySem.W.exm_one t3.inv.kIn at3.type hm) ?_;show codeAny _ _ _ _ s3;refine codeAny_handlers_suite_as (XW t3 λs4 t4=>?_);obtain⟨vs4,ho4,hv4⟩:=t4.f.ex;have I4:Inv (tX X x) pins σ (upd H' x (exO { cls:=.ref C,data:=.fields vs4 })) s4:=vju (vvh t4.inv ho4 t4.fx);refine VW (X:=tX X x) I4 hN hi (.inl hk) (v:=.ref x) (u:=.ref x) rfl (λs5 I5=>?_) (.inr hk);refine Zj (hs x pins s5 _ _ _ I5 (ht _ ⟨rfl,rfl,rfl,xc⟩)) (λf s6 q=>?_) λ_ _ z=>z.elim
  have bk:∀{σ6:L2.St} {H6:Hp},Inv (tX X x) pins σ6 H6 s6->Inv X pins σ6 H6 s6:=λz=>vvg I.ok z
  show wpAny _ _ _ _ _ s6;cases f with
  |next=>
   obtain⟨σ6,H6,I6,q6⟩:=q;exact jwc (bk I6) hN hi hk λs7 I7=>⟨_,_,I7,q6⟩
  |brk=>
   obtain⟨σ6,H6,I6,q6⟩:=q;exact jwc (bk I6) hN hi hk λs7 I7=>⟨_,_,I7,q6⟩
  |cont=>
   obtain⟨σ6,H6,I6,q6⟩:=q;exact jwc (bk I6) hN hi hk λs7 I7=>⟨_,_,I7,q6⟩
  |ret v=>
   obtain⟨v',σ6,H6,I6,r6,q6⟩:=q;exact jwc (bk I6) hN hi hk λs7 I7=>⟨v',_,_,I7,r6,q6⟩
def wqm(K:Frag):List V->Hp->VK->Prop:=λxs H Q=>∃x o C b,ExAt K x o C/\H x=some (exO o)/\((∃U,xs=[.ref x,.ref U]/\kitOne K (.ref C) (.ref U)=some b)\/∃U,xs=[.ref x,.ty U]/\kitOne K (.ref C) (.type U)=some b)/\Q (.bl b) H
theorem qzw{X:Cx}:CallR X (.builtin "isinstance") (wqm X.K):=by
 intro pins s σ H xs us Q I r ⟨x,o,C,b,a,e,h,q⟩;have px:s.heap.get? x=some o:=(show ObjOk X.prog X.w H s.heap x (exO o)from I.hok x _ e).1;have f8:∃o,PySem.W.InstAt s.heap x o C none:=⟨o,px,a.cls,a.no,by rw[a.di];trivial⟩;rcases h with⟨U,rfl,hk⟩|⟨U,rfl,hk⟩
 ·obtain⟨u1,u2,rfl,e1,e2⟩:=YW r;cases e1;cases e2;exact Y7 (kxv a.xc) I.kIn f8 hk (λz=>nomatch z) λtk=>⟨.bl b,H,I.tok _,rfl,q⟩
 ·obtain⟨u1,u2,rfl,e1,e2⟩:=YW r;cases e1;cases(show u2=Value.type U from e2);exact Y7 (kxv a.xc) I.kIn f8 hk (λz=>nomatch z) λtk=>⟨.bl b,H,I.tok _,rfl,q⟩
end L3
namespace Q
open PySem PySem.Spec PyProof.Rows L2 L3
theorem kkq:bootBuiltins "ValueError"=some (.type "ValueError"):=by decide +kernel
theorem qjm{K:Frag}{C:Addr}(ga:findIn K (.ref C) "__getattribute__"=some (some (.builtin "BaseException.__getattribute__")))(gt:findIn K (.ref C) "__getattr__"=some none)(fa:findIn K (.ref C) "__class__"=some (some (.builtin "object.__class__")))
  (fg:PySem.W.specialIn K (.builtin "object.__class__") "__get__"=some (some (.builtin "getset_descriptor.__get__"))) (ft:PySem.W.takesIn K (.builtin "object.__class__")=some true) (ob:PySem.W.mroIn K C (.type "object")=some true) (bx:PySem.W.mroIn K C (.type "BaseException")=some true) (cl:PySem.W.isClsIn K C=true):XCls K C:=
 ⟨ga,gt,by
  obtain⟨cd,hc⟩:=Option.isSome_iff_exists.mp (show(PySem.W.clsIn K C).isSome=true from cl);unfold PySem.W.findObj;rw[hc,Option.bind_some,fa,Option.bind_some];simp[fg,ft],ob,bx,cl⟩
def JY(K:Frag)(u:V)(t:List (Str×Bool)):Prop:=∀c b,t.lookup c=some b->∃C,nsIn K mainGlobals c=some (some (.ref C))/\((∃U,u=.ref U/\kitOne K (.ref C) (.ref U)=some b)\/∃U,u=.ty U/\kitOne K (.ref C) (.type U)=some b)
theorem kkh{K:Frag}{u:V}:JY K u []:=λ_ _ z=>nomatch z
theorem kxy{K:Frag}{u:V}{c:Str}{b:Bool}{C:Addr}{t:List (Str×Bool)}(h:nsIn K mainGlobals c=some (some (.ref C)))(k:(∃U,u=.ref U/\kitOne K (.ref C) (.ref U)=some b)\/∃U,u=.ty U/\kitOne K (.ref C) (.type U)=some b)(r:JY K u t):JY K u ((c,b)::t):=λc' b' z=>by
 rw[Zb]at z
 split at z
 ·rename_i e;cases eq_of_beq e;cases z;exact⟨C,h,k⟩
 ·exact r c' b' z
theorem Qv{K:Frag}{c:Str}{b:Bool}{C U:Addr}{t:List (Str×Bool)}(h:nsIn K mainGlobals c=some (some (.ref C)))(k:kitOne K (.ref C) (.ref U)=some b)(r:JY K (.ref U) t):JY K (.ref U) ((c,b)::t):=kxy h (.inl ⟨U,rfl,k⟩) r
theorem vjt{K:Frag}{c:Str}{b:Bool}{C:Addr}{U:String}{t:List (Str×Bool)}(h:nsIn K mainGlobals c=some (some (.ref C)))(k:kitOne K (.ref C) (.type U)=some b)(r:JY K (.ty U) t):JY K (.ty U) ((c,b)::t):=kxy h (.inr ⟨U,rfl,k⟩) r
theorem wq8{K:Frag}{u:V}{t:List (Str×Bool)}(ht:JY K u t):Ad1 K (λv H Q=>wqm K [v,u] H Q) (pu1 (vK t)):=by
 intro H x s Q ok hf k;have ok:=RepO.wk ok;unfold pu1 at hf;obtain⟨o,d,v,as⟩:=x;cases d with
 | obj c fs=>
  unfold vK at hf;cases hl:t.lookup c with
  |none=>simp only[hl]at hf;cases hf
  |some b=>
   simp only[hl]at hf;cases oq9 hf;dsimp only at ok;unfold RepL at ok;obtain⟨e0,x,ob,C,rfl,h1,h2,h3⟩:=ok;obtain⟨C',h4,h5⟩:=ht c b hl;rw[h3]at h4;cases oq9 (oq9 h4);refine⟨x,ob,C,b,h2,h1,?_,k ⟨.dp,.bl b,.bl b,[]⟩ H rfl rfl v8⟩;rcases h5 with⟨U,rfl,h5⟩|⟨U,rfl,h5⟩
   ·exact .inl ⟨U,rfl,h5⟩
   ·exact .inr ⟨U,rfl,h5⟩
 |_=>cases hf
section
variable {X:Cx}{Z:Fx0}{pn:List Nat}{q:Bool}{a b c:Ex}{e ea eb:Expr}{es:List Expr}{pos p p2:Pos}{t:List (Str×Bool)}{y:Str}{u:V}
theorem qxu(ha:QV X Z q a ea)(hm:X.mg "isinstance"=none)(hu:PE X (.Name y p2) (tC u))(hK:X.K=Z.K)(ht:JY X.K u t)(hg:autoParam (Gl X "isinstance") Ŕ)
  (he:autoParam (starEach [ea,.Name y p2] X.env=(false,eval ea X.env)::starEach [.Name y p2] X.env) Ŕ) (he2:autoParam (starEach [.Name y p2] X.env=(false,eval (.Name y p2) X.env)::starEach [] X.env) Ŕ) (b9:autoParam ((backTo pos (starEach [.Name y p2] X.env)).any (·.1)=false) Ŕ):
  QE X Z q (cF1 (pu1 (vK t)) a) (.Call (.Name "isinstance" p) [ea,.Name y p2] [] pos):=by
 rw[hK]at ht;have hc:CallR X (.builtin "isinstance") (wqm Z.K):=hK▸qzw;exact kz (kk6 hc hg hm jwn (qq ha (qq hu v3 he2) he) ⋯ ⋯ he b9) fun σ H Q h=>K0 (r:=λv H Q=>wqm Z.K [v,u] H Q) (wq8 ht) h
theorem qkv{x:Str}{C:Addr}{z:Str}{np am:Pos}(c:ECls X.K X.mg x C)(hm:Z.mg x=some (.ref C))(g:wV X Z.EX)(hz:PE X e (tC (.str z)))(hg:autoParam (Gl X x) Ŕ)(hc:autoParam (X.calm=true) Ŕ)(d8:autoParam ((x==("__debug__":Str))=false) ŕ)
  (he:autoParam (starEach [e] X.env=(false,eval e X.env)::starEach [] X.env) Ŕ) (b9:autoParam (((backTo am (starEach [e] X.env)).any (·.1))=false) Ŕ):
  QS X Z pn (sRz x) (.Raise (some (.Call (.Name x np) [e] [] am)) none pos):=zK (qxx c g (qq hz v3 he) hg hc d8 he b9) λD σ H au=>ex7 au λE L r m w hr k=>by
 cases oq9 hr;exact⟨show(1:Nat)<=sizeLine by decide,k C σ L H hm Pn.refl m w Step.refl⟩
def QEX(X:Cx)(Z:Fx0)(q:Bool)(c:Ex)(e:Expr):Prop:=PEX X e λEX=>tQ ⟨Z.K,Z.mg,EX⟩ q c
theorem vqj{t t':XK->TE}(h:PEX X e t)(w:∀E σ H Q,t' E σ H Q->t E σ H Q):PEX X e t':=λE pins s σ H Q I q=>h E pins s σ H Q I (w E σ H Q q)
theorem vq3{k n:Nat}{x:Str}{ps:List Str}{f:Fn}{cs:List Ex}(D:kQ X.prog X.w X.K X.mg X.base k x ps (spF Z.K Z.mg n f))(hr:Room k X.A)(ha:QA X.nox ⟨Z.K,Z.mg,λ_ _ _=>False⟩ q cs (e::es))(hn:autoParam (cs.length=n) Ŕ)(hg:autoParam (Gl X x) Ŕ)(d8:autoParam ((x==("__debug__":Str))=false) ŕ)
  (he:autoParam (starEach (e::es) X.env=(false,eval e X.env)::starEach es X.env) Ŕ) (b9:autoParam ((backTo pos (starEach es X.env)).any (·.1)=false) Ŕ):
  QEX X Z false (Qw f cs) (.Call (.Name x p) (e::es) [] pos):=vqj (qxz D hr ha hg d8 he b9) λEX σ H Q au=>ex8 au λE L r m w hc xc kk=>by
 have hc:Qw f cs E=some r:=hc;unfold Qw at hc
 split at hc
 ·rename_i E1 ys hA;refine⟨E,L,_,m,w,hA,(λ_ _ z=>by cases z),λE' ys' z xs L1 H1 e1 m1 w1 st sm=>?_⟩;injection z with z1 z2;subst z1 z2;show spF _ _ _ _ _ _ _ _;rw[Xs];have ah:xs.length=n:=by
   rw[<-hn];have:ys.length=cs.length:=jzs hA;rw[<-this,<-e1,X3]
  cases hf:f (letAll ys)with
  | none=>rw[hf]at hc;cases hc
  | some fr=>
   rw[hf]at hc;obtain⟨wl,sl⟩:=kj3 w1;have ev:xs.map Sl.v=(xs.map Sl.let).map Sl.v:=by rw[Xh];rfl
   rw[ev];refine⟨xs.map Sl.let,fr,rfl,by rw[X3];exact ah,wl.left,by rw[<-e1]at hf;rw[qqx];exact hf,λE' c ee C H' hm s'=>?_,λE' a ee y H' e2 e3 w' s'=>?_⟩
   ·subst ee;cases oq9 hc;obtain⟨w2,s2⟩:=stay wl s' ⟨λ_ z=>(nomatch z),Y4,λ_ z=>(nomatch z)⟩;exact xc _ _ rfl C L1 H' hm m1 w2 ((st.trans sl).trans s2)
   ·subst ee;cases oq9 hc;obtain⟨w2,s2⟩:=stay wl s' w';exact kk _ _ rfl y L1 H' e2 e3 m1 w2 ((st.trans sl).trans s2) λhq=>nomatch hq
 ·cases hc
theorem Mt.unset:∀{E:En} {σ:L2.St} {L:Ls} (i:Nat),Mt E σ L->Mt (E.set i none) (σ.set i none) (L.set i none)
 |_,_,_,_,.nil=>.nil|_,_,_,0,.un m=>.un m|_,_,_,0,.cons m=>.un m|_,_,_,i+1,.un m=>.un (Mt.unset i m)|_,_,_,i+1,.cons m=>.cons (Mt.unset i m)
theorem QK:∀(L:Ls) (i:Nat),(sls (L.set i none)).Sublist (sls L)
 |[],_=>Zg _|none::L,0=>Zg _|some x::L,0=>List.Sublist.cons _ (Zg _)|none::L,i+1=>QK L i|some x::L,i+1=>List.Sublist.cons_cons _ (QK L i)
theorem World.unset{K:Frag}{H:Hp}{L:Ls}{i:Nat}(w:World K H L):World K H (L.set i none):=w.sub (QK L i)
theorem Step.unset{H H':Hp}{L L':Ls}{i:Nat}(s:Step H L H' L'):Step H L H' (L'.set i none):=s.sub (QK L' i)
theorem World.unset1{K:Frag}{H:Hp}{L:Ls}{x:Sl}{i:Nat}(w:World K H (some x::L)):World K H (some x::L.set i none):=w.sub (List.Sublist.cons_cons _ (QK L i))
theorem Step.unset1{H H':Hp}{L L':Ls}{x:Sl}{i:Nat}(s:Step H L H' (some x::L')):Step H L H' (some x::L'.set i none):=s.sub (List.Sublist.cons_cons _ (QK L' i))
def ZQ(K:Frag)(mg:Str->Option Value)(UC:Addr)(cs:List Str):Prop:=∀c∈cs,∃C,mg c=some (.ref C)/\nsIn K mainGlobals c=some (some (.ref C))/\PySem.W.exmOne K (.ref C) (.ref UC)=some true/\XCls K C
theorem qjc{K:Frag}{mg:Str->Option Value}{UC:Addr}:ZQ K mg UC []:=λ_ z=>nomatch z
theorem jzq{K:Frag}{mg:Str->Option Value}{UC C:Addr}{c:Str}{cs:List Str}(e:ECls K mg c C)(h:nsIn K mainGlobals c=some (some (.ref C)))(k:PySem.W.exmOne K (.ref C) (.ref UC)=some true)(r:ZQ K mg UC cs):ZQ K mg UC (c::cs):=λc' hc=>by
 rcases aD hc with rfl|hc
 ·exact⟨C,e.bd,h,k,e.xc⟩
 ·exact r c' hc
theorem qx4{UC:Addr}{i:Nat}{cs:List Str}{B h:Sm}{tb:XK->TS}{D:Ends}{σ:L2.St}{H:Hp}(hK:X.K=Z.K)(ca:ZQ X.K Z.mg UC cs)(hp:i∉pn)
  (hb:∀(EX:XK) E L r,Mt E σ L->World Z.K H L->B E=some r->(∀E' c,r=.xc E' c->∀C L' H',Z.mg c=some (.ref C)->Mt E' σ L'->World Z.K H' L'->Step H L H' L'->EX (.ref C) none H')->((∀E' c,r≠.xc E' c)->FlP Z pn D σ H L r)->tb EX D σ H)
  (hr:tS Z pn (J7 cs i B h) D σ H):vwv X.K UC i tb (tS ⟨Z.K,Z.mg,λ_ _ _=>False⟩ pn h) D σ H:=by
 obtain⟨E,L,r,m,w,hr,k⟩:=hr;have hr:J7 cs i B h E=some r:=hr;cases hB:B E with
 | none=>unfold J7 at hr;rw[hB]at hr;cases hr
 | some rb=>
  refine⟨λCv _ H'=>∃E1 c C L1,rb=.xc E1 c/\Cv=.ref C/\Z.mg c=some (.ref C)/\Mt E1 σ L1/\World Z.K H' L1/\Step H L H' L1,hb _ E L rb m w hB (λE' c e C L' H' hm m' w' st=>⟨E',c,C,L',e,rfl,hm,m',w',st⟩) (λdj=>?_),?_⟩
  ·unfold J7 at hr;rw [hB]at hr;cases rb with| xc E1 c1=>exact absurd rfl (dj E1 c1)| nx E1=>cases oq9 hr;exact k| ct E1=>cases oq9 hr;exact k| bk E1=>cases oq9 hr;exact k| rt E1 x=>cases oq9 hr;exact k
  ·rintro x Cv H' ⟨E1,c,C,L1,rfl,rfl,hm,m1,w1,ij⟩ hx;unfold J7 at hr;rw [hB]at hr;dsimp only at hr
   by_cases hc:c∈cs
   ·rw[X7 hc]at hr;obtain⟨C',g1,g2,g3,g4⟩:=ca c hc;rw[hm]at g1;cases oq9 g1;refine⟨C,rfl,g3,g4,λo f8=>?_⟩;have sm:jJ H' (upd H' x (exO o)):=qv hx
    let y:Sl:=⟨.no,.obj c [],.ref x,[]⟩
    have wy:World Z.K (upd H' x (exO o)) (some y::L1):=by
     refine World.consPu ⟨λt ht=>RepO.kp (w1.ok t ht) (Kp.of_same sm),w1.nd,w1.ds⟩ ?_ rfl;show RepL Z.K _ true (.obj c []) (.ref x) [];unfold RepL;exact⟨rfl,x,o,C,rfl,v6,hK▸f8,hK▸g2⟩
    have sy:Step H L (upd H' x (exO o)) (some y::L1):=by
     refine⟨λb ob q hn=>sm b ob (ij.keep b ob q hn),λb hb=>ij.own b (by rw[jZ]at hb;exact hb),λb hb=>ij.frz b (by rw[qk]at hb;exact hb)⟩
    cases h2:h (E1.set i (some (.no,.obj c [])))with
    | none=>rw[h2]at hr;cases hr
    | some r2=>
     rw[h2]at hr;refine⟨_,_,r2,QZ (x:=y) m1 rfl rfl,wy.set,h2,?_⟩;have sy2:Step H L (upd H' x (exO o)) (L1.set i (some y)):=sy.trans Step.set;have pp:Pn pn σ (σ.set i (some (V.ref x))):=Pn.refl.set hp;cases r2 with
     |nx E2=>
      cases oq9 hr;intro σ' L' H2 p' m' w' cu;exact k _ _ H2 ((pp.trans p').set hp) (Mt.unset i m') w'.unset (sy2.trans cu).unset
     |ct E2=>
      cases oq9 hr;intro σ' L' H2 p' m' w' cu;exact k _ _ H2 ((pp.trans p').set hp) (Mt.unset i m') w'.unset (sy2.trans cu).unset
     |bk E2=>
      cases oq9 hr;intro σ' L' H2 p' m' w' cu;exact k _ _ H2 ((pp.trans p').set hp) (Mt.unset i m') w'.unset (sy2.trans cu).unset
     |rt E2 a2=>
      cases oq9 hr;intro z σ' L' H2 e1 e2 p' m' w' cu;exact k z _ _ H2 e1 e2 ((pp.trans p').set hp) (Mt.unset i m') w'.unset1 (sy2.trans cu).unset1
     |xc E2 c2=>cases hr
   ·rw[X9 hc]at hr;cases hr
theorem vxr{ux n y:Str}{np jg jc yp:Pos}{UC:Addr}{i j:Nat}{b0:Stmt}{fv:List Stmt}{cs:List Str}{h:Sm}(hN:X.N.Nodup)(hi:X.N[i]?=some n)(hk:X.env.scope.names.lookup n=some .local)(top:xw X)(hU:X.mg ux=some (.ref UC))(hK:X.K=Z.K)(ca:ZQ X.K Z.mg UC cs)(hj:X.N[j]?=some y)(hy:Loc X.env.scope y)(hb:QEX X Z q b e)
  (hs:∀x,QSs (tX X x) ⟨Z.K,Z.mg,λ_ _ _=>False⟩ pn h (b0::fv)) (hp:autoParam (i∉pn) ŕ) (hpj:autoParam (j∉pn) ŕ) (kl:autoParam (swapsWith e (some (.Name y yp)) pos.line X.env=pure false) Ŕ) (hf:autoParam (X.fn y=true\/X.env.scope.names.lookup y=some .local) Ř) (hg:autoParam (Gl X ux) Ŕ) (d8:autoParam ((ux==("__debug__":Str))=false) ŕ):
  QS X Z pn (J7 cs i (jw j b) h) (.Try [.Assign [.Name y yp] e pos] [.ExceptHandler (some (.Name ux np)) (some n) (b0::fv) jg] [] [] jc):=
 zK (vqd hN hi hk top hU (vqa hN hj hy hb kl hf) hs hg d8) λD σ H hr=>qx4 hK ca hp (λEX E L r m w hB hx hk=>by
  have hB:ofE (b E) (λE x=>some (.nx (E.set j (some x))))=some r:=hB;rcases QX hB with⟨E1,s,h1,h2⟩|⟨E1,c,h1,rfl⟩
  ·cases oq9 h2;refine⟨E,L,_,m,w,h1,(λ_ _ z=>by cases z),λE' s' z x L' H' e1 e2 m' w' st sm=>?_⟩;injection z with z1 z2;subst z1 z2;exact hk (λ_ _ z=>nomatch z) (σ.set j (some x.v)) (L'.set j (some x)) H' (Pn.refl.set hpj) (QZ m' e1 e2) w'.set (st.trans Step.set)
  ·exact⟨E,L,_,m,w,h1,(λE' c' e C L' H' hm m' w' st=>by injection e with z1 z2;subst z1 z2;exact hx _ _ rfl C L' H' hm m' w' st),λE' s' z=>by cases z⟩) hr
end
section
variable {X:Cx}{pins:LA9}{σ:L2.St}{H:Hp}{s:Shared}{a b:Addr}{es:List Ent}{A:Around}{E:VP9}{k:Kd}
mutual
theorem Vz(I:Inv X pins σ H s):∀{d:D} {v:V} {u:Value},PuR X.K H d v->RelV v u->j5 s.heap d u
 |.non,_,_,h,r=>by unfold PuR at h;rw[h]at r;unfold j5;exact r|.int _,_,_,h,r=>by unfold PuR at h;rw[h]at r;unfold j5;exact r
 |.tup ds,_,_,h,r=>by
  unfold PuR at h;obtain⟨a,xs,rfl,q,ra⟩:=h;cases r;obtain⟨ac,rv,p,_⟩:=I.tuple q;unfold j5;exact⟨a,ac,rfl,p,purs_creps I ra rv⟩
 |.bl _,_,_,h,_=>by unfold PuR at h;exact h.elim|.str _,_,_,h,r=>by unfold PuR at h;rw[h.1]at r;unfold j5;exact r|.lst _,_,_,h,_=>by unfold PuR at h;exact h.elim|.dct _,_,_,h,_=>by unfold PuR at h;exact h.elim|.obj _ _,_,_,h,_=>by unfold PuR at h;exact h.elim
theorem purs_creps(I:Inv X pins σ H s):∀{ds:List D} {xs:List V} {us:List Value},PuRs X.K H ds xs->Vals xs us->CReps s.heap ds us
 | [],_,_,h,r=>by unfold PuRs at h;rw[h]at r;cases r;unfold CReps;rfl
 | d::ds,_,_,h,r=>by
  unfold PuRs at h;obtain⟨x,rr,rfl,h1,h2⟩:=h;cases r with
  |cons r1 r2=>
   unfold CReps;exact⟨_,_,rfl,Vz I h1 r1,purs_creps I h2 r2⟩
end
mutual
theorem kx9{K:Frag}{g:Bool}:∀{n:Nat} {d:D} {v:V} {as:List Addr},j7 n d=true->RepL K H g d v as->PuR K H d v
 |_,.non,_,_,_,h=>by unfold RepL at h;unfold PuR;exact h.1|_,.int _,_,_,_,h=>by unfold RepL at h;unfold PuR;exact h.1|0,.tup _,_,_,hk,_=>by unfold j7 at hk;cases hk
 |n+1,.tup ds,_,_,hk,h=>by
  unfold j7 at hk;unfold RepL at h;obtain⟨a,xs,e,q,ra⟩:=h;unfold PuR;exact⟨a,xs,e,q,purs_of hk ra⟩
 |n,.bl _,_,_,hk,_=>by cases n<;>(unfold j7 at hk;cases hk)|_,.str _,_,_,_,h=>by unfold RepL at h;unfold PuR;exact⟨h.1,h.2.2⟩|n,.lst _,_,_,hk,_=>by cases n<;>(unfold j7 at hk;cases hk)|n,.dct _,_,_,hk,_=>by cases n<;>(unfold j7 at hk;cases hk)|n,.obj _ _,_,_,hk,_=>by cases n<;>(unfold j7 at hk;cases hk)
theorem purs_of{K:Frag}{g:Bool}:∀{n:Nat} {ds:List D} {xs:List V} {as:List Addr},keyDs n ds=true->RepA K H g ds xs as->PuRs K H ds xs
 |_,[],_,_,_,h=>by unfold RepA at h;unfold PuRs;exact h.1
 |n,d::ds,_,_,hk,h=>by
  unfold keyDs at hk;rw[Bool.and_eq_true]at hk;unfold RepA at h;obtain⟨x,r,bs,cs,rfl,rfl,h1,h2⟩:=h;unfold PuRs;exact⟨x,r,rfl,kx9 hk.1 h1,purs_of hk.2 h2⟩
end
theorem vjx{ep:Nat}(I:Inv X pins σ H s)(h:H a=some (Q1 a es ep))(hn:(es.map (·.1)).Nodup)(hk:∀x∈es,PuR X.K H x.1.1 (.ref x.2.1)):s.heap.DictOfH (K6 X.prog X.w) a es:=by
 obtain⟨⟨o,ds,h1,h2,h3,h4⟩,_⟩:=(show ObjOk X.prog X.w H s.heap a (Q1 a es ep)from I.hok a _ h);exact⟨o,ds,ep,h1,h2,h3,h4,λx hx=>Vz I (hk x hx) rfl,hn⟩
theorem vk8:∀(es:List Ent) (k:Kd),(atKey es k).isSome=decide (k.1∈es.map (·.1.1))
 | [],k=>by simp[atKey]
 | x::es,k=>by
  have ih:=vk8 es k
  by_cases h:x.1=k
  ·have:k.1∈(x::es).map (·.1.1):=by rw[<-h];simp
   rw[Xe this];simp[atKey,Yk,h]
  ·have e1:atKey (x::es) k=atKey es k:=by simp[atKey,Yk,h]
   have e2:(k.1∈(x::es).map (·.1.1))↔k.1∈es.map (·.1.1):=by
    rw[List.map_cons,Y3];exact⟨λz=>z.elim (λq=>absurd (Subtype.ext q.symm) h) id,.inr⟩
   rw[e1,ih];exact decide_eq_decide.mpr e2.symm
theorem qkc(hu:A.units+64<cLine):(K6 X.prog X.w).room A.in1:=by show A.units+1+40<cLine;lia
theorem qvx{ks:List D}{vs:List V}{Q:VP9}(hu:A.units+64<cLine)(I:Inv X pins σ H s)(d:DcN X.K H a ks vs)(hk:PuR X.K H k.1 (.ref b))(h:∀s',Inv X pins σ H s'->Q (.bool (!decide (k.1∈ks))) s'):wpAny (model X.prog X.w) A (compareOp .NotIn (.ref b) (.ref a)) Q E s:=by
 obtain⟨es,ep,e,h1,h2,h3,rfl,h5,h6⟩:=d;refine wpAny_notIn_heap (knd:=K6 X.prog X.w) (qkc hu) (Vz I hk rfl) h1 (vjx I e h3 h5) ?_;rw[vk8];exact h _ (I.tok _)
end
def wxk(K:Frag)(ib:Bool):R2:=λx y H Q=>∃(k:Kd) (b a:Addr) (ks:List D) (vs:List V),x=.ref b/\y=.ref a/\PuR K H k.1 (.ref b)/\DcN K H a ks vs/\Q (.bl (if ib then !decide (k.1∈ks)else decide (k.1∈ks))) H
theorem qz4{X:Cx}{K:Frag}(hu:X.A.units+64<cLine)(hK:autoParam (X.K=K) Ŕ):OpR X (compareOp .NotIn) (wxk K true):=by
 subst hK;intro pins s σ H x y u v Q I rx ry ⟨k,b,a,ks,vs,e1,e2,hk,hd,q⟩;subst e1 e2;cases rx;cases ry;exact qvx hu I hd hk λs' I'=>⟨.bl _,H,I',rfl,q⟩
theorem wkq{K:Frag}{H:Hp}{y:Sl}{aa:List (D×D)}(ok:y.ok K H)(hd:y.d=.dct aa)(hu:unm aa=true):∃a xs,y.v=.ref a/\DcN K H a (aa.map (·.1)) xs:=by
 have h:=RepO.wk ok;rw[hd]at h;unfold RepL at h;obtain⟨a,xs,bs,e,_,q,_⟩:=h;exact⟨a,xs,e,DcA.un q hu⟩
theorem kjd{K:Frag}{H:Hp}{x:Sl}(ok:x.ok K H)(hk:wv x.d=true):∃b,x.v=.ref b/\PuR K H x.d (.ref b):=by
 unfold wv at hk;rw[Bool.and_eq_true]at hk;have h:=kx9 hk.1 (RepO.wk ok);cases hd:x.d with
 |tup ds=>
  rw[hd]at h;have h':=h;unfold PuR at h;obtain⟨a,xs,e,_⟩:=h;exact⟨a,e,e▸h'⟩
 |_=>rw[hd]at hk;cases hk.2
theorem qwu{K:Frag}:Ad2 K (wxk K true) (pu2 Jj):=by
 intro H x y s Q ox oy hf k;unfold pu2 Jj at hf;dsimp only at hf;cases hy:y.d with
 | dct aa=>
  rw[hy]at hf;dsimp only at hf
  by_cases hk:wv x.d=true/\unm aa=true
  ·rw[X7 hk]at hf;cases oq9 hf;obtain⟨a,xs,e,q⟩:=wkq oy hy hk.2;obtain⟨b,eb,pb⟩:=kjd ox hk.1;have nq:j7 6 x.d=true:=by have hk:=hk.1;unfold wv at hk;rw[Bool.and_eq_true]at hk;exact hk.1
   exact⟨⟨x.d,nq⟩,b,a,_,xs,eb,e,pb,q,k ⟨.dp,.bl _,.bl _,[]⟩ H rfl rfl v8⟩
  ·rw[X9 hk]at hf;cases hf
 |_=>rw[hy]at hf;cases hf
theorem qwl(x y s:Sd)(h:pu2 Jj x y=some s):∃k,s.2=.bl k:=by
 unfold pu2 Jj at h;cases hy:y.2 with
 |dct aa=>
  rw[hy]at h;dsimp only at h
  by_cases hk:wv x.2=true/\unm aa=true
  ·rw[X7 hk]at h;cases oq9 h;exact⟨_,rfl⟩
  ·rw[X9 hk]at h;cases h
 |_=>rw[hy]at h;cases h
mutual
theorem qkd{K:Frag}{H:Hp}:∀{d:D} {v:V},PuR K H d v->RepL K H true d v []
 |.non,_,h=>by unfold PuR at h;unfold RepL;exact⟨h,rfl⟩|.int _,_,h=>by unfold PuR at h;unfold RepL;exact⟨h,rfl⟩
 |.tup ds,_,h=>by
  unfold PuR at h;obtain⟨a,xs,e,s,r⟩:=h;unfold RepL;exact⟨a,xs,e,s,rep_purs r⟩
 |.bl _,_,h=>by unfold PuR at h;exact h.elim|.str _,_,h=>by unfold PuR at h;unfold RepL;exact⟨h.1,rfl,h.2⟩|.lst _,_,h=>by unfold PuR at h;exact h.elim|.dct _,_,h=>by unfold PuR at h;exact h.elim|.obj _ _,_,h=>by unfold PuR at h;exact h.elim
theorem rep_purs{K:Frag}{H:Hp}:∀{ds:List D} {xs:List V},PuRs K H ds xs->RepA K H true ds xs []
 |[],_,h=>by unfold PuRs at h;unfold RepA;exact⟨h,rfl⟩
 |d::ds,_,h=>by
  unfold PuRs at h;obtain⟨x,r,e,h1,h2⟩:=h;unfold RepA;exact⟨x,r,[],[],e,rfl,qkd h1,rep_purs h2⟩
end
theorem RepA.put{K:Frag}{H:Hp}{g:Bool}{d:D}{x:V}{cs:List Addr}(hx:RepL K H g d x cs):∀{ds:List D} {xs:List V} {bs:List Addr} (n:Nat),RepA K H g ds xs bs->∃es,RepA K H g (ds.set n d) (xs.set n x) es/\∀a∈es,a∈bs\/a∈cs
 | [],_,bs,n,h=>by
  have h0:=h;unfold RepA at h0;obtain⟨rfl,rfl⟩:=h0;exact⟨[],by simpa using h,λ_ z=>nomatch z⟩
 | e::ds,_,_,n,h=>by
  unfold RepA at h;obtain⟨y,r,b1,b2,rfl,rfl,h1,h2⟩:=h;cases n with
  | zero=>
   refine⟨cs++b2,?_,λa ha=>?_⟩
   ·rw[List.set_cons_zero,List.set_cons_zero];unfold RepA;exact⟨x,r,cs,b2,rfl,rfl,hx,h2⟩
   ·rcases aA ha with z|z
    ·exact .inr z
    ·exact .inl (lr9 _ z)
  | succ n=>
   obtain⟨es,i1,i2⟩:=RepA.put hx n h2;refine⟨b1++es,?_,λa ha=>?_⟩
   ·rw[List.set_cons_succ,List.set_cons_succ];unfold RepA;exact⟨y,r.set n x,b1,es,rfl,rfl,h1,i1⟩
   ·rcases aA ha with z|z
    ·exact .inl (ll9 _ z)
    ·exact(i2 a z).imp (lr9 _) id
section
variable {X:Cx}{Z:Fx0}{pn:List Nat}{q:Bool}{kc vc:Ex}{o ke ve:Expr}{pos az:Pos}
theorem wvl {i:Nat} (ho:PE X o (Jx i)) (hk:QV X Z true kc ke) (hv:QE X Z q vc ve) (hs:autoParam (swapsWithSole [.Subscript o ke az] ve pos.line X.env=pure false) Ŕ) (hw:autoParam (swappedStores [.Subscript o ke az] ve X.env=pure none) Ŕ)
  (h1:autoParam ((assignEach [.Subscript o ke az] X.env).map (·.2)=[assign (.Subscript o ke az) X.env]) Ŕ)
  (ha:autoParam (∀ v,assign (.Subscript o ke az) X.env v=(do
   let ov <-holding [v] (eval o X.env)
   let iv <-holding [v,ov] (eval ke X.env)
   standAt az
   holding [v,ov,iv] (setItem ov iv v)
   release [v,ov,iv] [])) Ŗ):
  QS X Z pn (wqk i kc vc) (.Assign [.Subscript o ke az] ve pos):=zK (vzf hv (vzm ho hk qxm ha) hs hw h1) λD σ H au=>ex7 au λE L r m w hr k=>
 KZ m w hr k λE1 s1 h1 x L1 H1 e1 e2 m1 w1 ij _=>by
  by_cases hd:Kv E1[i]?=true
  ·rw [X7 hd]at h1;obtain ⟨s0,hd0⟩:∃s0,E1[i]?=some (some s0):=by
    cases h0:E1[i]? with
    | none=>rw[h0]at hd;cases hd
    | some s0=>
     cases s0 with| none=>rw[h0]at hd;cases hd| some s0=>exact⟨s0,rfl⟩
   obtain ⟨y0,a1,a2,a3,a4⟩:=m1.get hd0;refine ⟨y0.v,a4,?_⟩;have stL:Step H L H1 L1:=ij.trans Step.drop;rcases QX h1 with⟨E2,ky,hk1,hk2⟩|⟨E2,c,hk1,rfl⟩
   ·refine ⟨E1,L1,_,m1,w1.tail,hk1,(λ_ _ z=>by cases z),λE' s' z zk L2 H2 f1 f2 m2 w2 okz frz _ bn sm=>?_⟩;injection z with z1 z2;subst z1 z2;cases hE:E2[i]? with
    | none=>rw[hE]at hk2;cases hk2
    | some s2=>
     cases s2 with
     | none=>rw[hE]at hk2;cases hk2
     | some s2=>
      obtain⟨oo,dd⟩:=s2;rw [hE]at hk2;cases dd with
      | lst ds=>
       cases hkd:ky.2 with
       | int j=>
        rw [hkd]at hk2;dsimp only at hk2
        by_cases fy:oo=.no
        ·rw[X7 fy]at hk2;cases hk2
        ·rw[X9 fy]at hk2;cases hj:ixN ds.length j with
         | none=>rw[hj]at hk2;cases hk2
         | some n=>
          rw[hj]at hk2;cases oq9 hk2;obtain⟨y,b1,b2,b3,b4⟩:=m2.get hE;have hyv:y.v=y0.v:=by rw[a4]at b4;exact(oq9 (oq9 b4)).symm
          obtain⟨w3,cx⟩:=wwi (T:=[some x]) w1 bn w2;obtain⟨l,xs,bs,c1,c2,c3,c4,c5⟩:=kk7 (w2.ok y (vZ b1)) b3 (by rw[b2];exact fy);have c6:RepA Z.K H2 true ds xs bs:=by
           cases hb:(y.o != .dp)with|true=>rw[hb]at c5;exact c5|false=>rw[hb]at c5;exact c5.wk
          have rx:RepL Z.K H2 true s1.2 x.v x.as:=by rw[<-e2];exact RepO.wk (w3.ok x X6)
          obtain⟨es,g1,g2⟩:=RepA.put rx n c6;obtain⟨w4,gu⟩:=kk2 (T:=[some x]) (o':=.rt) (ds':=ds.set n s1.2) (xs':=xs.set n x.v) w3 b1 c2 c3 c4 c1 g1 (.inl ⟨rfl,λa ha=>(g2 a ha).imp id λz=>by
           rcases Sl.as_of z with z|z
           ·exact .inl (by simpa using z)
           ·exact .inr (by simpa using z)⟩)
          have hkz:zk.v=.int j:=kw okz (by rw[f2];exact hkd);refine⟨l,xs,j,n,hyv▸c1,hkz,c2,by rw[<-c6.len,<-qva];exact hj,?_⟩;have jt:Step H L _ _:=(ij.trans cx).trans gu;refine k σ _ _ Pn.refl ?_ w4 jt;have:=m2.set (x:=⟨.rt,.lst (ds.set n s1.2),y.v,l::es⟩) i;rw[V9 b4]at this;exact this
       |_=>rw[hkd]at hk2;cases hk2
      |_=>cases hk2
   ·exact⟨E1,L1,_,m1,w1.tail,hk1,(λE' c' e C L' H' hm m' w' st=>by injection e with z1 z2;subst z1 z2;exact k C σ L' H' hm Pn.refl m' w' (stL.trans st)),λE' s' z=>by cases z⟩
  ·rw[X9 hd]at h1;cases h1
end
abbrev dkI(kv:List (Int×Int)):List (Key×V):=kv.map λp=>(Sum.inl p.1,V.int p.2)
theorem vws(kv:List (Int×Int))(k:Int):xq (dkI kv) (Sum.inl k)=(qJ kv k).map V.int:=by
 induction kv with
 | nil=>rfl
 | cons p r ih=>
  unfold xq qJ at ih ⊢;rw[show dkI (p::r)=(Sum.inl p.1,V.int p.2)::dkI r from rfl,Yk,Yk]
  by_cases h:p.1=k
  ·have h1:decide ((Sum.inl p.1:Key)=Sum.inl k)=true:=Xe (by rw[h]);have h2:decide (p.1=k)=true:=Xe h;simp only[h1,h2];rfl
  ·have h1:decide ((Sum.inl p.1:Key)=Sum.inl k)=false:=Xl λz=>h (Sum.inl.inj z)
   have h2:decide (p.1=k)=false:=Xl h;simp only[h1,h2];exact ih
theorem vza(kv:List (Int×Int))(k v:Int):x9 (dkI kv) (Sum.inl k) (V.int v)=dkI (zj kv k v):=by
 have ha:((dkI kv).any λp=>decide (p.1=(Sum.inl k:Key)))=kv.any λp=>decide (p.1=k):=by
  unfold dkI;rw[List.any_map]
  congr 1
  funext p;show decide ((Sum.inl p.1:Key)=Sum.inl k)=decide (p.1=k);exact decide_eq_decide.mpr ⟨λz=>Sum.inl.inj z,λz=>by rw[z]⟩
 unfold x9 zj;rw[ha]
 by_cases h:(kv.any λp=>decide (p.1=k))=true
 ·rw[X7 h,X7 h];unfold dkI;rw[Xh,Xh];refine Yl λp _=>?_
  show(if(Sum.inl p.1:Key)=Sum.inl k then _ else _)=_
  by_cases z:p.1=k
  ·rw[X7 (by rw[z])];show _=(Sum.inl (if p.1=k then(p.1,v)else p).1,V.int (if p.1=k then(p.1,v)else p).2);rw[X7 z]
  ·rw[X9 λq=>z (Sum.inl.inj q)];show _=(Sum.inl (if p.1=k then(p.1,v)else p).1,V.int (if p.1=k then(p.1,v)else p).2);rw[X9 z]
 ·rw[X9 h,X9 h];unfold dkI;rw[Xj];rfl
theorem kqq : ∀{aa : List (D × D)} {kv : List (Int × Int)}, K4 aa = some kv -> aa = kv.map λp=>(D.int p.1, D.int p.2)
  | [], kv, h=>by cases oq9 h; rfl
  | (a, b)::r, kv, h=>by
    cases a with
    | int k=>
      cases b with
      | int v=>
        have h : (K4 r).map ((k, v):: ·) = some kv:= h;cases hr : K4 r with
        | none=>rw[hr]at h; cases h
        | some q=>
          rw[hr]at h;cases oq9 h;rw[List.map_cons, <-kqq hr]
      |_=>cases h
    |_=>cases b <;> cases h
theorem kqp : ∀(kv : List (Int × Int)), K4 (kv.map λp=>(D.int p.1, D.int p.2)) = some kv
  | []=>rfl
  | (a, b)::r=>by
    show(K4 (r.map λp=>(D.int p.1, D.int p.2))).map ((a, b):: ·) = _;rw[kqp r]; rfl
theorem kz2(kv:List (Int×Int)):z7 (vJ kv)=some kv:=kqp kv
theorem kq6{K:Frag}{H:Hp}{g:Bool}:∀{kv:List (Int×Int)} {xs:List V} {bs:List Addr},RepP K H g (kv.map λp=>(D.int p.1,D.int p.2)) xs bs->xs=kv.map λp=>V.int p.2
 |[],_,_,h=>by
  have h:RepP K H g [] _ _:=h;unfold RepP at h;exact h.1
 |p::r,_,_,h=>by
  rw[List.map_cons]at h;unfold RepP at h;obtain⟨y,rr,b1,b2,rfl,_,h1,h2⟩:=h;unfold RepL at h1;rw[h1.1,kq6 h2,List.map_cons]
theorem kqo{K:Frag}{H:Hp}{g:Bool}:∀(kv:List (Int×Int)),RepP K H g (kv.map λp=>(D.int p.1,D.int p.2)) (kv.map λp=>V.int p.2) []
 |[]=>by show RepP K H g [] [] [];unfold RepP;exact⟨rfl,rfl⟩
 |p::r=>by
  rw[List.map_cons,List.map_cons];unfold RepP;exact⟨_,_,[],[],rfl,rfl,xx,kqo r⟩
theorem qqn{K:Frag}{H:Hp}{g:Bool}(kv:List (Int×Int)):RepP K H g (mkD::kv.map λp=>(D.int p.1,D.int p.2)) (V.non::kv.map λp=>V.int p.2) []:=by
 unfold mkD RepP;exact⟨_,_,[],[],rfl,rfl,by unfold RepL;exact⟨rfl,rfl⟩,kqo kv⟩
theorem kz1:∀{a:List (Int×V)} {kv:List (Int×Int)},(kv.map λp=>D.int p.1)=a.map (λp=>D.int p.1)->(kv.map λp=>V.int p.2)=a.map (·.2)->(a.map λp=>((Sum.inl p.1:Key),p.2))=dkI kv
 |[],[],_,_=>rfl|[],_::_,h,_=>by simp at h|_::_,[],h,_=>by simp at h
 |p::a,q::kv,h,h'=>by
  rw[List.map_cons,List.map_cons]at h h';injection h with h1 h2;injection h' with h3 h4;injection h1 with h1;unfold dkI;rw[List.map_cons,List.map_cons,kz1 h2 h4,<-h1,<-h3]
theorem kz6{K:Frag}{H:Hp}{y:Sl}{kv:List (Int×Int)}(ok:y.ok K H)(hd:z7 y.d=some kv):∃a,y.v=.ref a/\H a=some (.dK (dkI kv))/\∃bs,y.as=a::bs:=by
 have h:=RepO.wk ok;cases hy:y.d with
 | dct aa=>
  rw [hy]at hd h;cases aa with
  | nil=>cases hd
  | cons e aa=>
   obtain⟨a,b⟩:=e;cases a with
   | str m=>
    cases b with
    | non=>
     have hd:K4 aa=some kv:=hd;have e:=kqq hd;subst e;unfold RepL at h;obtain⟨a,xs,bs,ev,rp,qa,eas⟩:=h;rcases qa with⟨es,ep,_,_,_,_,g5,g6,_⟩|⟨kvn,mm,g1,g2,g3⟩
     ·exfalso;rw[List.map_cons]at g5;cases es with
      |nil=>cases g5
      |cons n es=>
       rw[List.map_cons]at g5;injection g5 with g5 _;have:=g6 n X6;rw[<-g5]at this;unfold PuR at this;cases this.1
     ·refine⟨a,ev,?_,bs,eas⟩;rw[g1]
      congr 2
      unfold RepP at rp;obtain⟨y1,rr,_,_,rfl,_,_,r2⟩:=rp;have e1:=kq6 r2;rw[List.map_cons,Xh]at g2;injection g2 with _ g2;injection g3 with _ g3;refine kz1 g2 ?_;rw[<-e1];exact g3
    |_=>cases hd
   |_=>cases b<;>cases hd
 |_=>rw[hy]at hd;cases hd
section
def wxj(ib:Bool):R2:=λx y H Q=>∃(k:Int) (a:Addr) (kv:List (Int×Int)),x=.int k/\y=.ref a/\H a=some (.dK (dkI kv))/\Q (.bl (if ib then !(qJ kv k).isSome else(qJ kv k).isSome)) H
theorem vjy{H:Hp}{a:Addr}{kv:List (Int×Int)}(k:Int)(e:H a=some (.dK (dkI kv))):DGet H a (.int k) ((qJ kv k).map V.int):=by
 rw[<-vws];exact DGet.k (k:=Sum.inl k) e
theorem qz3{X:Cx}(hu:X.A.units+64<cLine):OpR X (compareOp .NotIn) (wxj true):=by
 intro pins s σ H x y u v Q I rx ry ⟨k,a,kv,e1,e2,hd,q⟩;subst e1 e2;cases ry;refine vvz ⋯ I (vjy k hd) rx λs' I'=>⟨.bl _,H,I',rfl,?_⟩
 rw[Option.isSome_map];exact q
theorem qwt{K:Frag}:Ad2 K (wxj true) (pu2 Jw):=by
 intro H x y s Q ox oy hf k;unfold pu2 Jw at hf;dsimp only at hf;cases hx:x.d with
 | int j=>
  rw[hx]at hf;cases hi:z7 y.d with
  |none=>rw[hi]at hf;cases hf
  |some kv=>
   rw[hi]at hf;cases oq9 hf;obtain⟨a,e,q,_⟩:=kz6 oy hi;exact⟨j,a,kv,kw ox hx,e,q,k ⟨.dp,.bl _,.bl _,[]⟩ H rfl rfl v8⟩
 |_=>rw[hx]at hf;cases hf
theorem qwk(x y s:Sd)(h:pu2 Jw x y=some s):∃k,s.2=.bl k:=by
 unfold pu2 Jw at h;cases hx:x.2 with
 |int j=>
  rw[hx]at h;cases hi:z7 y.2 with|none=>rw[hi]at h;cases h|some kv=>rw[hi]at h;cases oq9 h;exact⟨_,rfl⟩
 |_=>rw[hx]at h;cases h
end
section
variable {X:Cx}{Z:Fx0}{pn:List Nat}{q qa:Bool}{a b c kc vc:Ex}{o ea eb ec ke ve:Expr}{pos az am:Pos}
theorem wvo(hu:X.A.units+64<cLine)(ha:QV X Z qa a ea)(hb:QV X Z true b eb)(hs:W4 eb):QV X Z qa (wqi a b) (.Subscript ea eb pos):=
 kz (vqk ⋯ ha hb hs) fun σ H Q au=>ex8 au λE L r m w hc xc k=>by
  refine kZ m w (show bnd (a E) _=some r from hc) xc λE1 s h1 x L1 H1 e1 e2 m1 w1 ok fr sr st sm=>?_
  refine kZ m1 w1 h1 (xc.step st) λE2 s2 h2 y L2 H2 e3 e4 m2 w2 kg om nv bn fb=>?_
  obtain⟨z,hz,rfl⟩:=xK h2;have kx:=Kk ok fr bn (fb rfl);unfold ZZ at hz;cases hy:s2.2 with
  | int j=>
   rw [hy]at hz;cases hi:z7 s.2 with
   | none=>rw[hi]at hz;cases hz
   | some kv=>
    rw[hi]at hz;dsimp only at hz;cases hv:qJ kv j with
    | none=>rw[hv]at hz;cases hz
    | some v=>
     rw[hv]at hz;cases oq9 hz;obtain⟨l,e,q,_⟩:=kz6 kx.1 (by rw[e2];exact hi);refine⟨l,.int v,e,?_,?_⟩
     ·rw[kw kg (by rw[e4];exact hy)];have:=vjy j q;rw[hv]at this;exact this
     ·exact k _ _ rfl ⟨.dp,.int v,.int v,[]⟩ L2 H2 rfl rfl m2 w2 (show RepL Z.K H2 false (.int v) (.int v) []from xx) (λ_ hb=>nomatch hb) (λ_ hb=>nomatch hb) (st.trans bn) λhq=>k4 (sm hq) (fb rfl)
  |_=>rw[hy]at hz;cases hz
theorem vz3:QE X Z true vw4 (.Dict [] [] pos):=kz qz0 fun σ H Q au=>ex8 au λE L r m w hc xc k=>by
 intro p hp;cases oq9 hc;have sm:jJ H (upd H p (.dK [])):=qv hp;refine k _ _ rfl ⟨.rt,vJ [],.ref p,[p]⟩ L _ rfl rfl m ?_ ?_ λ_=>⟨sm,λb hb=>?_⟩
 ·refine World.cons ⟨λt ht=>RepO.kp (w.ok t ht) (Kp.of_same sm),w.nd,w.ds⟩ ?_ ?_ ?_ ?_ ?_ ?_
  ·exact⟨p,_,[],rfl,qqn [],.inr ⟨[],"",v6,rfl,rfl⟩,rfl⟩
  ·simp[Sl.own]
  ·intro b hb ho;have:b=p:=by simpa [Sl.own]using hb
   subst this;exact w.own_some ho hp
  ·intro b hb ho;have:b=p:=by simpa [Sl.own]using hb
   subst this;exact w.frz_some ho hp
  ·intro b hb;simp[Sl.frz]at hb
  ·intro b _ hb;simp[Sl.frz]at hb
 ·refine⟨λb ob h _=>sm b ob h,λb hb=>?_,λb hb=>?_⟩
  ·rw[jZ]at hb;rcases aA hb with z|z
   ·have:b=p:=by simpa [Sl.own]using z
    exact .inr (this▸hp)
   ·exact .inl z
  ·rw[qk]at hb;rcases aA hb with z|z
   ·simp[Sl.frz]at z
   ·exact .inl z
 ·have:b=p:=by simpa [Sl.own]using hb
  exact this▸hp
theorem vxw {i:Nat} (hu:X.A.units+64<cLine) (ho:PE X o (Jx i)) (hk:QV X Z true kc ke) (hv:QE X Z q vc ve) (hs:autoParam (swapsWith ve (some (.Subscript o ke az)) pos.line X.env=pure false) Ŕ):
  QS X Z pn (qxo i kc vc) (.Assign [.Subscript o ke az] ve pos):=zK (vqe ⋯ ho hk hv hs) λD σ H au=>ex7 au λE L r m w hr k=>
 KZ m w hr k λE1 s1 h1 x L1 H1 e1 e2 m1 w1 ij _=>by
  by_cases hd:vvf E1[i]?=true
  ·rw [X7 hd]at h1;obtain ⟨s0,hd0⟩:∃s0,E1[i]?=some (some s0):=by
    cases h0:E1[i]? with
    | none=>rw[h0]at hd;cases hd
    | some s0=>
     cases s0 with| none=>rw[h0]at hd;cases hd| some s0=>exact⟨s0,rfl⟩
   obtain ⟨y0,a1,a2,a3,a4⟩:=m1.get hd0;refine ⟨y0.v,a4,?_⟩;have stL:Step H L H1 L1:=ij.trans Step.drop;rcases QX h1 with⟨E2,ky,hk1,hk2⟩|⟨E2,c,hk1,rfl⟩
   ·refine ⟨E1,L1,_,m1,w1.tail,hk1,(λ_ _ z=>by cases z),λE' s' z zk L2 H2 f1 f2 m2 w2 okz frz _ bn sm=>?_⟩;injection z with z1 z2;subst z1 z2;cases hE:E2[i]? with
    | none=>rw[hE]at hk2;cases hk2
    | some s2=>
     cases s2 with
     | none=>rw[hE]at hk2;cases hk2
     | some s2=>
      obtain ⟨oo,dd⟩:=s2;rw [hE]at hk2;cases oo with
      | no=>cases hk2| dp=>cases hk2
      | rt =>
       cases hkd:ky.2 with
       | int j=>
        cases hvd:s1.2 with
        | int vv=>
         rw [hkd,hvd]at hk2;dsimp only at hk2;cases hi:z7 dd with
         | none=>rw[hi]at hk2;cases hk2
         | some kv=>
          rw [hi]at hk2;dsimp only at hk2
          by_cases hl:kv.length<big
          ·rw[X7 hl]at hk2;cases oq9 hk2;obtain⟨y,b1,b2,b3,b4⟩:=m2.get hE;have hyv:y.v=y0.v:=by rw[a4]at b4;exact(oq9 (oq9 b4)).symm
           obtain⟨w3,cx⟩:=wwi (T:=[some x]) w1 bn w2;obtain⟨l,c1,c2,bs,c3⟩:=kz6 (w2.ok y (vZ b1)) (by rw[b3];exact hi);have hkz:zk.v=.int j:=kw okz (by rw[f2];exact hkd);have hxv:x.v=.int vv:=kw (w3.ok x X6) (by rw[e2];exact hvd);refine⟨l,upd H2 l (.dK (dkI (zj kv j vv))),hyv▸c1,?_,?_⟩
           ·rw[hkz,hxv,<-vza];exact DPut.k (k:=Sum.inl j) c2 (by show(kv.map _).length<sizeLine;rw[X3];exact hl)
           ·have hlo:l∈y.own:=by unfold Sl.own;rw[b2,c3];simp
            obtain⟨w4,gu⟩:=World.writeAt (ob:=.dK (dkI (zj kv j vv))) (T:=[some x]) w3 b1 hlo (y':=⟨.rt,vJ (zj kv j vv),y.v,[l]⟩) ⟨l,_,[],c1,qqn _,.inr ⟨(zj kv j vv).map λp=>(p.1,V.int p.2),"",by rw[v6,Xh];rfl,by unfold mkD;rw[List.map_cons,Xh,Xh];rfl,by rw[Xh];rfl⟩,rfl⟩ (by simp[Sl.own]) (λa h=>by
             have:a=l:=by simpa [Sl.own]using h
             subst this;exact .inl hlo) (λa h=>by simp[Sl.frz]at h) (λa h z=>by simp[Sl.frz]at z)
            have jt:Step H L _ _:=(ij.trans cx).trans gu;refine k σ _ _ Pn.refl ?_ w4 jt;have:=m2.set (x:=⟨.rt,vJ (zj kv j vv),y.v,[l]⟩) i;rw[V9 b4]at this;exact this
          ·rw[X9 hl]at hk2;cases hk2
        |_=>rw[hkd,hvd]at hk2;cases hk2
       |_=>rw[hkd]at hk2;cases hk2
   ·exact⟨E1,L1,_,m1,w1.tail,hk1,(λE' c' e C L' H' hm m' w' st=>by injection e with z1 z2;subst z1 z2;exact k C σ L' H' hm Pn.refl m' w' (stL.trans st)),λE' s' z=>by cases z⟩
  ·rw[X9 hd]at h1;cases h1
end
end Q
namespace PySem
theorem kzn:typeLookup (.type "list") "keys"=pure none:=am_miss_of_fast (by decide +kernel)
theorem kkl{prog:Program}{w:World}{A:Around}{E:VP9}{s:Shared}{a:Addr}{o:Obj}{xs:Array Value}{k:Nat}{Q:Option Value->Shared->Prop}
  (hx:s.heap.get? a=some o) (hc:o.cls=.type "list") (fh:o.data=.seq xs k) (hd:o.dict=none) (hA:A.handled=none)
  (h:∀h' tk,(∀b ob,s.heap.get? b=some ob->h'.get? b=some ob)->Q none { s with heap:=h',toks:=tk }):
  wpAny (model prog w) A (getAttr? (.ref a) "keys") Q E s:=by
 obtain⟨c,dct,dat,sl⟩:=o;simp only at hc fh hd;subst hc fh hd;obtain⟨hp,g,d,tk,os⟩:=s;have hT:∀lb,(⟨hp,g,d,lb,os⟩:Shared).TypeIs (.ref a) "list":=λ_=>⟨_,hx,rfl⟩
 have f1:=sub_AttributeError;have f3:=F.slot_list_getattribute.lookup;have f4:=F.slot_list_getattribute.bind (.ref a);have f5:=am_list_getattr_none;unfold getAttr? getAttrBy? getAttrBy
 repeat (any_goals (first|assumption|exact hT _|((with_reducible show wpAny _ _ (call (Value.builtin "list.__getattribute__") _ _) _ _ _);refine call_meets F.slot_list_getattribute (hT _) am_entry_list_getattribute (F.args_list_getattribute_2 _ _) (meets_getattribute_miss_list a xs k sl "keys" _ kzn ⋯ ⋯) ⟨hx,hA,λh' lb e hx'=>?_⟩)|wp_step))
 obtain⟨t',u',he⟩:=hx'.there;show wpAny _ _ (getattributeRaised _ _ _ _ _ _ _) _ _ _;unfold getattributeRaised
 repeat (any_goals (first|assumption|wp_step))
 exact h _ _ hx'.keeps
namespace F
theorem entry_dict_update_loop:entryFor table "dict.update.loop"=some Builtin.«dict.update.loop»:=entryFor_of_tree (by kernel_rfl)
theorem plain_dict_update_loop:plainId "dict.update.loop"=true:=by decide +kernel
end F
section
variable {prog:Program}{w:World}{A:Around}{R:Result->Shared->Prop}{I:Addr}{fp wr:List Addr}{G:Array GenState->Array GenState->Prop}{n:Nat}{P:Nat->Value->Prop}{St:Nat->Shared->Prop}{K:Type}[DecidableEq K]{knd:KeyKind prog w K}
theorem kzt{s:Shared}{T:Addr}{u v:Value}{E:VP9}{Q:List Value->Shared->Prop}(h:s.heap.IsTuple T #[u,v])(hq:Q [u,v] s):wpAny (model prog w) A (Builtin.Dict.pairItems (.ref T)) Q E s:=by
 obtain⟨o,ho,hc,m,hd⟩:=h;have hT:s.TypeIs (.ref T) "tuple":=⟨o,ho,hc⟩;unfold Builtin.Dict.pairItems;refine X0 (Z8 hT ?_);obtain⟨hp,g,d,tk,os⟩:=s;obtain⟨cls,dct,dat,sl⟩:=o;simp only at hc hd;subst hc hd
 repeat (any_goals (first|assumption|wp_step))
end
end PySem
namespace Q
open PySem PySem.Spec PyProof.Rows L2 L3
theorem vxu{X:Cx}{Z:Fx0}{q:Bool}{c:Ex}{o e:Expr}{z:Str}{aw am:Pos}(ho:PE X o (tC (.str z)))(hc:QV X Z q c e)(hK:autoParam (X.K=Z.K) Ŕ)
  (bh:autoParam (attributeBase o "join" X.env (eval o X.env)=eval o X.env) Ŕ)
  (dg:autoParam (((backTo am (starEach [e] X.env)).all (λx=>!x.1)&&(backToKw am (keywordEach [] X.env)).all (λx=>x.1.isSome)
   && decide ([e].length+([]:List Keyword).length+(if([]:List Keyword).isEmpty then 0 else 1)<30))=true) Ŕ)
  (be:autoParam ((aw.endLine==am.line)=true) Ŕ) (hs:autoParam (starEach [e] X.env=(false,eval e X.env)::starEach [] X.env) Ŕ) (bg:autoParam ((backTo am (starEach [] X.env)).any (·.1)=false) Ŕ):
  QE X Z q (qzz z c) (.Call (.Attribute o "join" aw) [e] [] am):=
 kz (vqn PySem.F.plainAttrs_str PySem.F.slot_str_join PySem.F.type_str_join vv1 ho (qq hc v3 hs) bh dg be hs bg) fun σ H Q au=>ex8 au λE L r m w ff xc k=>by
  refine⟨?_,?_⟩
  ·rfl
  ·refine kZ m w (show bnd (c E) _=some r from ff) xc λE1 s h1 x L1 H1 e1 e2 m1 w1 ok fr sr st sm=>?_
   obtain⟨y,hz,rfl⟩:=xK h1;unfold qvq at hz;cases hx:s.2 with
   | lst ds=>
    rw [hx]at hz;dsimp only at hz;cases hp:wQ ds with
    | none=>rw[hp]at hz;cases hz
    | some ys=>
     rw[hp]at hz;dsimp only at hz
     by_cases hl:(ys.map (·.length)).sum+ys.length*z.length<=100000
     ·rw[X7 hl]at hz;cases oq9 hz;obtain⟨a,xs,bs,ev,q1,ra⟩:=items ok (.inl (by rw[e2];exact hx));have hq:SqL Z.K H1 a xs:=by
       rcases q1 with⟨_,t⟩|⟨t,_⟩
       ·exact t.sq
       ·rw[e2,hx]at t;cases t
      have ex:=(jxm hp ra.1).1;subst ex;have ah:(Txt.join z ys).length<=sizeLine:=joinOk_length (joinOk_of ⋯);refine⟨z,a,ys,rfl,by rw[ev],by rw[hK];exact hq,⋯,?_⟩;exact k _ _ rfl ⟨.dp,.str (Txt.join z ys),.str (Txt.join z ys),[]⟩ L1 H1 rfl rfl m1 (w1.consPu (x:=⟨.dp,.str (Txt.join z ys),.str (Txt.join z ys),[]⟩) (show RepL Z.K H1 false (.str _) (.str _) []from Qq ah) rfl) (VZ (x:=⟨.dp,.str (Txt.join z ys),.str (Txt.join z ys),[]⟩) st (λb hb=>nomatch hb) rfl) λhq=>⟨sm hq,λ_ t=>(nomatch t)⟩
     ·rw[X9 hl]at hz;cases hz
   |_=>rw[hx]at hz;cases hz
section
variable {X:Cx}{Z:Fx0}{pn:List Nat}{q:Bool}{a b:Ex}{o e:Expr}{aw am:Pos}
theorem vxx(ha:QV X Z q a o)(hb:QV X Z true b e)(hK:autoParam (X.K=Z.K) Ŕ)
  (bh:autoParam (attributeBase o "index" X.env (eval o X.env)=eval o X.env) Ŕ)
  (dg:autoParam (((backTo am (starEach [e] X.env)).all (λx=>!x.1)&&(backToKw am (keywordEach [] X.env)).all (λx=>x.1.isSome)
   && decide ([e].length+([]:List Keyword).length+(if([]:List Keyword).isEmpty then 0 else 1)<30))=true) Ŕ)
  (be:autoParam ((aw.endLine==am.line)=true) Ŕ) (hs:autoParam (starEach [e] X.env=(false,eval e X.env)::starEach [] X.env) Ŕ) (bg:autoParam ((backTo am (starEach [] X.env)).any (·.1)=false) Ŕ):
  QE X Z q (vj0 a b) (.Call (.Attribute o "index" aw) [e] [] am):=
 kz (vqn PySem.F.plainAttrs_str PySem.F.slot_str_index PySem.F.type_str_index vv2 ha (qq hb v3 hs) bh dg be hs bg) fun σ H Q au=>ex8 au λE L r m w ff xc k=>by
  refine kZ m w (show bnd (a E) _=some r from ff) xc λE1 s h1 x L1 H1 e1 e2 m1 w1 ok fr sr st sm=>?_
  by_cases bj:kxz s.2=true
  ·rw [X7 bj]at h1;cases hx:s.2 with
   | str z=>
    have ev:x.v=.str z:=(v7 ok (by rw[e2];exact hx)).1;refine⟨by rw[ev];rfl,?_⟩;refine kZ m1 w1 h1 (xc.step st) λE2 s2 h2 y L2 H2 e3 e4 m2 w2 kg om nv bn fb=>?_
    obtain⟨d,hz,rfl⟩:=xK h2;rw[hx]at hz;unfold ZJ at hz;cases hy:s2.2 with
    | str y'=>
     rw[hy]at hz;dsimp only at hz;cases ho:Builtin.Str.occurrences z y' 0 z.length 1 with
     |nil=>rw[ho]at hz;cases hz
     |cons i ai=>
      rw[ho]at hz;cases oq9 hz;have ey:y.v=.str y':=(v7 kg (by rw[e4];exact hy)).1;refine⟨z,y',i,ai,ev,by rw[ey],ho,?_⟩;exact k _ _ rfl ⟨.dp,.int (i:Nat),.int (i:Nat),[]⟩ L2 H2 rfl rfl m2 (w2.consPu (x:=⟨.dp,.int (i:Nat),.int (i:Nat),[]⟩) (show RepL Z.K H2 false (.int _) (.int _) []from xx) rfl) (VZ (x:=⟨.dp,.int (i:Nat),.int (i:Nat),[]⟩) (st.trans bn) (λb hb=>nomatch hb) rfl) λhq=>⟨k4 (sm hq) (fb rfl),λ_ t=>(nomatch t)⟩
    |_=>rw[hy]at hz;cases hz
   |_=>rw[hx]at bj;cases bj
  ·rw[X9 bj]at h1;cases h1
end
end Q
namespace PySem
section
variable {prog:Program}{w:World}{A:Around}{E:VP9}{s:Shared}
def qwy(h:Heap)(d:Addr)(n:Nat):Prop:=∃o es ep,h.get? d=some o/\o.cls=.type "dict"/\o.data=.dict es ep/\es.size=n
theorem jz7(d:Addr)(hd:(d==sysModules)=false):
  MeetsIn prog w (Builtin.«dict.__len__» ⟨[.ref d],[]⟩) (λ_ R s=>∃n,qwy s.heap d n/\R (.ok (.ret (.int n s.toks))) { s with toks:=s.toks+1 }):=
 .of_wp λA R s ⟨n,⟨o,es,ep,ho,hc,fh,hz⟩,h⟩=>by
  show wpAny _ _ (dictSize d >>= _) _ _ s;unfold dictSize;refine X0 (X0 (wpAny_dictEntries ho fh (X1 ?_)));show wpAny _ _ (Builtin.Dict.pendingCount d >>= _) _ _ s;refine X0 (wpAny_pendingCount_other hd ?_);refine wpAny_ret_mkInt ?_;rw[Nat.add_zero,hz];exact h
theorem kj0{d:Addr}{n:Nat}{Q:VP9}(hd:(d==sysModules)=false)(hm:qwy s.heap d n)(ie:(n:Int)<2 ^ 63)
  (h:Q (.int n (s.toks+1)) { s with toks:=s.toks+1+1 }):wpAny (model prog w) A (Builtin.«len» ⟨[.ref d],[]⟩) (λfin s'=>∃r,fin=.done (.ret r)/\Q r s') E s:=by
 have ht:s.TypeIs (.ref d) "dict":=by obtain⟨o,es,ep,ho,hc,_⟩:=hm;exact⟨o,ho,hc⟩
 unfold Builtin.«len»;refine X0 (m:=oneArg "len" _) (X1 ?_);refine X0 (m:=callSpecial? (.ref d) (Str.ofString "__len__")) (Yp (name:=Str.ofString "__len__") ht F.slot_dict_len
  (call_meetsIn F.slot_dict_len ht F.entry_dict_len (F.args_dict_len_1 _) (jz7 d hd) ⟨n,hm,?_⟩))
 show wpAny _ _ _ _ _ { s with toks:=s.toks+1 };refine X0 (Xw (X1 ?_));refine X0 (wpAny_letGo ?_);show wpAny _ _ (if((n:Nat):Int)<0 then _ else _) _ _ _;rw[X9 ⋯];show wpAny _ _ (if((n:Nat):Int)>=2 ^ 63 then _ else _) _ _ _;rw[X9 ⋯];exact X0 (wpAny_mkInt (X1 ⟨_,rfl,h⟩))
theorem kj2{d:Addr}{n:Nat}{Q:VP9}(hd:(d==sysModules)=false)(hm:qwy s.heap d n)(ie:(n:Int)<2 ^ 63)
  (h:Q (.int n (s.toks+1)) { s with toks:=s.toks+1+1 }):wpAny (model prog w) A (call (.builtin "len") [.ref d]) Q E s:=
 Calls.call_function_entry kind_len plain_len entry_len (args_len1 _) (kj0 hd hm ie h)
end
end PySem
namespace Q
open PySem PySem.Spec PyProof.Rows L2 L3
theorem qvk {K : Frag} {H : Hp} {k : Kd}: ∀{aa : List (D × D)} {xs : List V} {bs : List Addr} {es : List Ent}, RepP K H true aa xs bs -> aa.map (·.1) = es.map (·.1.1) -> Vals xs (es.map (·.2.2)) -> D.pures (aa.map (·.2)) = true ->
    (∀ p, atKey es k = some p -> ∃d v, Jv aa k.1 = some d /\ RelV v p.2 /\ RepL K H false d v [] /\ d.pure = true) /\ (atKey es k = none -> Jv aa k.1 = none)
  | [], _, _, [], _, _, _, _=>⟨λp h=>(by cases h), λ_=>rfl⟩| [], _, _, _::_, _, h, _, _=>by cases h| _ :: _, _, _, [], _, h, _, _=>by cases h
  | (q, d)::aa, xs, bs, e::es, hr, hk, hv, hp=>by
    unfold RepP at hr;obtain⟨x, r, b1, c1, rfl, _, h1, h2⟩:= hr;rw [List.map_cons, List.map_cons]at hk;injection hk with k1 k2;rw [List.map_cons]at hv hp;cases hv with
    | cons v1 v2=>
      unfold D.pures at hp;rw [Bool.and_eq_true]at hp;have ih:= qvk (k:= k) h2 k2 v2 hp.2;have k1 : q = e.1.1:= k1
      by_cases he : e.1 = k
      · have hq : q = k.1:= by rw[k1, he]
        have hg : Jv ((q, d)::aa) k.1 = some d:= by unfold Jv; rw[List.find?_cons_of_pos (by simp[hq])]; rfl
        have ha : atKey (e::es) k = some e.2:= by
          obtain⟨ek, ev⟩:= e;have he : ek = k:= he;simp[atKey, he]
        refine⟨λp hp'=> ?_, λhn=> ?_⟩
        · rw[ha]at hp'
          cases oq9 hp';exact⟨d, x, hg, v1, (RepL.pu (g':= false) h1 hp.1).2, hp.1⟩
        · rw[ha]at hn; cases hn
      · have hq : q≠k.1:= λz=>he (Subtype.ext (by rw[<-k1]; exact z))
        have hg : Jv ((q, d)::aa) k.1 = Jv aa k.1:= by unfold Jv; rw[List.find?_cons_of_neg (by simp[hq])]
        have ha : atKey (e::es) k = atKey es k:= by
          obtain⟨ek, ev⟩:= e;have he : ¬ek = k:= he;simp[atKey, he]
        rw[hg, ha];exact ih
end Q
namespace PySem
open Sem (wp)
open AutoSeq1 (wpAny_loadPart')
section
variable {prog:Program}{w:World}{A:Around}{E:VP9}{s:Shared}
theorem jwk{R:Result->Shared->Prop}{r:Addr}{a b c:Int}{t u v:Tok}{n:Nat}(hh:A.handled=none)(hr:IsRange s.heap r a b c t u v)(cg:Builtin.Range.small a b c=true)
  (hn:Builtin.Range.rangeSize a b c=n) (ah:n<=2 ^ 24)
  (hR:∀h' tk af c',(∀b o,s.heap.get? b=some o->h'.get? b=some o)->h'.get? s.heap.objs.size=some { cls:=.type "list",dict:=none,data:=.seq af c',slots:=#[] }->ItemsOf (λi v=>∃t,v=.int (a+i*c) t) af n->R (.ok (.ret (.ref s.heap.objs.size))) { s with heap:=h',toks:=tk }):
  codeAny (model prog w) A (.builtin "proto.collect" ⟨[.ref r],[]⟩) R s:=by
 refine Yg F.entry_proto_collect ?_;rw[Y5 F.plain_proto_collect _];show wpAny _ A.in1 (newList [] >>= λl=>again (.builtin "list.__iadd__" ⟨[l,.ref r],[]⟩)) _ _ s;refine X0 (Xy ?_);refine X1 ⟨Zl F.plain_list_iadd _,Yg F.entry_list_iadd ?_⟩;rw[Y5 F.plain_list_iadd _];show wpAny _ A.in1 (Builtin.List.listExtendWith (.ref s.heap.objs.size) (.ref r) (.ref s.heap.objs.size)) _ _ _;exact wpAny_extend_range (s:={ s with heap:=s.heap.push { cls:=.type "list",data:=.seq ([]:List Value).toArray } }) hh (X2 _ hr) cg hn ah s.heap.objs.size (.ref s.heap.objs.size) 0 (Xb _ rfl) λh' tk bp c' hk dq df=>hR h' tk bp c' (λb o e=>hk b o (Xi (Xd e)) (X2 _ e)) dq df
theorem jvq{Q:List Value->Shared->Prop}{r:Addr}{a b c:Int}{t u v:Tok}{n:Nat}(hh:A.handled=none)(hr:IsRange s.heap r a b c t u v)(cg:Builtin.Range.small a b c=true)
  (hn:Builtin.Range.rangeSize a b c=n) (ah:n<=2 ^ 24)
  (hQ:∀h' tk af,(∀b o,s.heap.get? b=some o->h'.get? b=some o)->ItemsOf (λi v=>∃t,v=.int (a+i*c) t) af n->Q af.toList { s with heap:=h',toks:=tk }):
  wpAny (model prog w) A (collect (.ref r)) Q E s:=by
 unfold collect;refine X0 (wpAny_runValue (jwk hh hr cg hn ah λh' tk bp c' hk dq df=>?_));show wpAny _ A (load s.heap.objs.size >>= _) _ _ _;refine X0 (wpAny_load dq ?_);exact X1 (hQ h' tk bp hk df)
theorem jv8(r:Addr)(a b c:Int)(n:Nat)(cg:Builtin.Range.small a b c=true)(hn:Builtin.Range.rangeSize a b c=n)(ah:n<=2 ^ 24):
  Meets (Builtin.«tuple.__new__» ⟨[.type "tuple",.ref r],[]⟩)
   (λA R s=>A.handled=none/\(∃t u v,IsRange s.heap r a b c t u v)/\∀(h':Heap) (tk:Nat) (af:Array Value),(∀b o,s.heap.get? b=some o->h'.get? b=some o)->ItemsOf (λi v=>∃t,v=.int (a+i*c) t) af n ->
    R (.ok (.ret (.ref h'.objs.size))) { s with heap:=h'.push { cls:=.type "tuple",data:=.seq af },toks:=tk }):=
 .of_wp λprog w A R s h=>by
  obtain⟨hh,⟨t,u,v,hr⟩,h⟩:=h;have dl:=sub_tuple_self;have hinit:=init_tuple_lookup;have hmh:=madeHere_tuple;have hT:s.TypeIs (.ref r) "range":=⟨_,hr,rfl⟩;have hh1:A.in1.handled=none:=hh
  wp_walk using Z8 hT,jvq hh1 hr cg hn ah
  intro h' tk af hk df;show wpAny _ _ (Builtin.Tuple.tupleExact af.toList.toArray >>= λv=>ret v) _ _ _;unfold Builtin.Tuple.tupleExact;refine X0 (Xy ?_ (show af.toList.toArray.size<=sizeLine by simp only[Array.toArray_toList];rw[df.1,Yr];lia));refine X1 ⟨_,rfl,?_⟩;have e:af.toList.toArray=af:=by simp
  rw[e];exact h h' tk af hk df
theorem jxk{Q:VP9}{r:Addr}{a b c:Int}{t u v:Tok}{n:Nat}(hh:A.handled=none)(hr:IsRange s.heap r a b c t u v)(cg:Builtin.Range.small a b c=true)(hn:Builtin.Range.rangeSize a b c=n)(ah:n<=2 ^ 24)
  (h:∀(h':Heap) (tk:Nat) (af:Array Value),(∀b o,s.heap.get? b=some o->h'.get? b=some o)->ItemsOf (λi v=>∃t,v=.int (a+i*c) t) af n->Q (.ref h'.objs.size) { s with heap:=h'.push { cls:=.type "tuple",data:=.seq af },toks:=tk }):
  wpAny (model prog w) A (call (.type "tuple") [.ref r]) Q E s:=by
 refine callType_new F.called_tuple ⋯ (F.typeCall_tuple_1 _) (F.newCall_tuple_1 _) (λobj=>F.args_object_init_2 obj _) F.entry_tuple_new
  (jv8 r a b c n cg hn ah) ⟨hh,⟨t,u,v,hr⟩,λh' tk af hk df=>⟨⟨_,Xb _ rfl,rfl⟩,?_⟩⟩
 exact h h' tk af hk df
end
end PySem
namespace Q
open PySem PySem.Spec PyProof.Rows L2 L3
section
variable {X:Cx}{Z:Fx0}{pn:List Nat}{q:Bool}{a b:Ex}{e ea:Expr}{p pos:Pos}
theorem wvi{p2 b6:Pos}(ha:QV X Z q a ea)(hmr:X.mg "range"=none)(hml:X.mg "tuple"=none)(hc:autoParam (X.calm=true) Ŕ)(hgr:autoParam (Gl X "range") Ŕ)(rn:autoParam (Gl X "tuple") Ŕ)
  (bj:autoParam (starEach [ea] X.env=(false,eval ea X.env)::starEach [] X.env) Ŕ) (b9:autoParam ((backTo b6 (starEach [] X.env)).any (·.1)=false) Ŕ)
  (jl:autoParam (starEach [.Call (.Name "range" p2) [ea] [] b6] X.env=(false,eval (.Call (.Name "range" p2) [ea] [] b6) X.env)::starEach [] X.env) Ŕ) (mn:autoParam ((backTo pos (starEach [] X.env)).any (·.1)=false) Ŕ):
  QE X Z q (wqp a) (.Call (.Name "tuple" p) [.Call (.Name "range" p2) [ea] [] b6] [] pos):=by
 have hr:PE X (.Call (.Name "range" p2) [ea] [] b6) (fun σ H Q=>tV Z q a σ H λv H1=>∃j:Int,v=.int j/\∀pp,H1 pp=none->Q (.ref pp) (upd H1 pp (.rng 0 j))):=by
  intro pins s σ H Q I h;refine Call_ (xQ I hgr hmr boot_range (Y0 (thn (qq ha v3 bj b6 pins s σ H (λvs H1=>∃j:Int,vs=[.int j]/\∀pp,H1 pp=none->Q (.ref pp) (upd H1 pp (.rng 0 j))) I ?_) λus s1 ⟨vs,H1,I1,r1,j,e,q1⟩=>?_) bj b9))
  ·obtain⟨E,L,r,m,w,ff,xc,k⟩:=h;exact⟨E,L,r,m,w,ff,xc,λE' s' z x L' H' e1 e2 m' w' ok fr sr st sm=>by
    obtain⟨j,ej,qj⟩:=k E' s' z x L' H' e1 e2 m' w' ok fr sr st sm;exact⟨j,by rw[ej],qj⟩⟩
  ·subst e;obtain⟨u,rfl,t,rfl⟩:=r1.one;refine call_range_1 ⟨.ref s1.heap.objs.size,_,I1.laid (o:=.rng 0 j) (λb o e=>X2 _ e) (Xa _) ⟨_,_,_,Xb _ rfl⟩,rfl,q1 _ I1.fresh⟩
 intro pins s σ H Q I ⟨E,L,r,m,w,ff,xc,k⟩;refine Yj (xQ I rn hml kkp ?_);refine Y0 (thn (qq hr v3 jl pos pins s σ H (λvs H1=>∃pp j,vs=[.ref pp]/\H1 pp=some (.rng 0 j)/\vj j=true/\j.toNat<=big/\∀l,H1 l=none->Q (.ref l) (upd H1 l (.tup ((List.range j.toNat).map λ(i:Nat)=>V.int (0+(i:Int)))))) I ?_) λus s1 ⟨vs,H1,I1,r1,pp,j,e,hp,h62,gp,q1⟩=>?_) jl mn
 ·refine kZ m w (show bnd (a E) _=some r from ff) xc λE1 s h1 x L1 H1 e1 e2 m1 w1 ok fr sr st sm=>?_
  cases hx:s.2 with
  | int j=>
   rw [hx]at h1;dsimp only at h1
   split at h1
   ·rename_i hj;cases oq9 h1;refine⟨j,kw ok (e2.trans hx),λpp hpp=>⟨pp,j,rfl,v6,hj.1,hj.2,λl hl=>?_⟩⟩;have s1:jJ H1 (upd H1 pp (.rng 0 j)):=qv hpp;have w2:World Z.K (upd H1 pp (.rng 0 j)) L1:=⟨λx hx=>RepO.kp (w1.ok x hx) (Kp.of_same s1),w1.nd,w1.ds⟩;have bn:Step H L (upd H1 pp (.rng 0 j)) L1:=st.trans ⟨λb ob z _=>s1 b ob z,λb z=>.inl z,λb z=>.inl z⟩;have ra:∀(n:Nat) (ns:List Nat) (Hx:Hp),RepA Z.K Hx true (ns.map λ(i:Nat)=>D.int (0+(i:Int))) (ns.map λ(i:Nat)=>V.int (0+(i:Int))) []:=by
     intro n ns Hx
     induction ns with
     |nil=>unfold RepA;exact⟨rfl,rfl⟩
     |cons i ns ih=>
      rw[List.map_cons,List.map_cons];unfold RepA;exact⟨_,_,[],[],rfl,rfl,xx,ih⟩
    have o:=V7 (K:=Z.K) (H:=upd H1 pp (.rng 0 j)) (fr:=[]) hl (ra 0 (List.range j.toNat) (upd H1 pp (.rng 0 j))) (λ_ z=>(nomatch z));obtain⟨w3,cx⟩:=Jk w2 bn o (λ_ z=>(nomatch z)) (λ_ z=>(nomatch z)) (λ_ z=>(nomatch z));exact k _ _ rfl ⟨.no,.tup (jY 0 j),.ref l,[]⟩ L1 _ rfl rfl m1 (by simpa [jY]using w3) (by simpa [jY]using cx) λhq=>⟨k4 (sm hq) (k4 s1 o.same),λb hb=>nomatch hb⟩
   ·cases h1
  | _=>rw[hx]at h1;cases h1
 ·subst e;obtain⟨u,rfl,rx⟩:=r1.one;cases rx;obtain⟨t1,t2,t3,hg⟩:=(show ObjOk X.prog X.w H1 s1.heap pp (.rng 0 j)from I1.hok pp _ hp);obtain⟨j1,j2⟩:=jwr h62;have e2:Builtin.Range.rangeSize 0 j 1=((j.toNat:Nat):Int):=by rw[rangeSize_one];split<;>lia
  refine jxk (n:=j.toNat) (I1.ok.hd hc) (show IsRange s1.heap pp 0 j 1 t1 t2 t3 from hg) (small_one ⋯ ⋯ j1 j2) e2 (by unfold big at gp;lia) λh' tk bp kp fz=>?_
  obtain⟨hs,jy⟩:=fz;have hv:Vals ((List.range j.toNat).map λ(i:Nat)=>V.int (0+(i:Int))) bp.toList:=kjs (by simp[hs]) λi x u ex eu=>by
   rw[Xq]at eu;obtain⟨t,rfl⟩:=jy i u eu;rw[Xp]at ex;cases hr:(List.range j.toNat)[i]? with
   | none=>rw[hr]at ex;cases ex
   | some m=>
    rw[hr]at ex;have hm:m=i:=by
     obtain⟨_,h2⟩:=List.getElem?_eq_some_iff.mp hr
     simpa using h2.symm
    subst hm;cases oq9 ex;exact⟨t,by rw[Int.mul_one]⟩
  have I2:=I1.kept (t':=tk) kp;have I3:=I2.laid (t':=tk) (λb o e=>X2 _ e) (Xa _) (show ObjOk X.prog X.w _ _ _ (.tup ((List.range j.toNat).map λ(i:Nat)=>V.int (0+(i:Int))))from⟨by rw[X3,Y1];exact gp,bp.toList,hv,by simpa using IsTupD.new h' bp⟩);exact⟨.ref h'.objs.size,_,I3,rfl,q1 _ (I2.hok.fresh (Xa _))⟩
end
theorem qv4{P:Program}{w:PySem.World}{K:Frag}{mg mb:Str->Option Value}{CX:CXT}{k:Nat}{fa a:Addr}{fd:FuncData}{x:Str}{sp:Sp}{s₁:Shared}{vs:List Value}{ns:List Int}
  (KX:K.In s₁.heap) (hns:s₁.heap.Ns mainGlobals mg) (hb:s₁.heap.Ns builtinsNs mb) (hbb:∀x:Str,x≠"__name__"->mb x=bootBuiltins x) (hlim:s₁.heap.NoLimit) (hg:s₁.gens=#[])
  (ha:s₁.heap.get? a=some { cls:=.type "list",data:=.seq vs.toArray }) (hi:IntsAre vs ns) (hl:ns.length<=sizeLine) (hr:Room k callerA)
  (F:∀base:Heap,K.In base->base.Ns mainGlobals mg->FnOk P w K mg base CX k fa fd [x] sp) (qi:∀(s:Shared) (u:Value),BindsTo s fd ⟨[u],[]⟩ [(x,u)])
  (jr:∀H:Hp,wx7 H->LsR K H a (ns.map V.int)->sp [.ref a] H (λv _=>v=.bl true) λ_ _ _=>False)
  (hCX:∀H e s',CX [] H s₁ (λ_ _ _=>False) e s'->False):
  codeAny (model P w) callerA (.call (.ref fa) ⟨[.ref a],[]⟩) (λr s'=>r=.ok (.ret (.bool true))/\OldK s₁.heap s'.heap/\s'.os=s₁.os/\AllBare s'.gens) s₁:=by
 have rv:=kq0 hi;have lenV:=hi.length;have rq:∀H:Hp,wx7 H->LsR K H a (ns.map V.int)->HOk P w H s₁.heap->(∀b,H b≠none->b=a)->(H a≠none->K.lookup a=none) ->
   codeAny (model P w) callerA (.call (.ref fa) ⟨[.ref a],[]⟩) (λr s'=>r=.ok (.ret (.bool true))/\OldK s₁.heap s'.heap/\s'.os=s₁.os/\AllBare s'.gens) s₁:=by
  intro H hO hS hok hA hK;have i6:∀{b:Addr} {o:Obj},s₁.heap.get? b=some o->H b=none->(JV s₁.heap H).get? b=some o:=λe n=>qzf e n
  have ph:∀{b:Addr} {o:Obj} {es:Array DictEntry} {ep:Nat},s₁.heap.get? b=some o->o.data=.dict es ep->H b=none:=fun {b o es ep} e d=>by
   cases q:H b with
   | none=>rfl
   | some u=>
    have e':b=a:=hA b (by rw[q];simp);subst e';rw[ha]at e;cases e;have d':Data.seq vs.toArray _=Data.dict es ep:=d;cases d'
  have nsK:∀{b:Addr} {m:Str->Option Value},s₁.heap.Ns b m->(JV s₁.heap H).Ns b m:=fun {b m} ⟨o,es,ep,e,d,r⟩=>⟨o,es,ep,i6 e (ph e d),d,r⟩
  have hKb:K.In (JV s₁.heap H):=λb o e=>i6 (KX b o e) (by
   cases q:H b with
   | none=>rfl
   | some u=>
    have e':b=a:=hA b (by rw[q];simp);subst e';rw[hK (by rw[q];simp)]at e;cases e)
  have hM:Mod K mg (JV s₁.heap H):=⟨hKb,nsK hns,⟨mb,nsK hb,hbb⟩,let ⟨mc,h1,h2⟩:=hlim;⟨mc,nsK h1,h2⟩⟩;have e0:Env0 P w K mg (JV s₁.heap H) callerA [] s₁ H:=⟨rfl,hM,λb o e=>vqv e,Nat.le_of_eq (qvj _ _),trivial,λb hb=>absurd (show b∈([]:List Addr)from hb) (by simp),hok,.of_eq hg⟩;refine Zp ((F _ hKb (nsK hns)).run callerA [] s₁ H ⟨[.ref a],[]⟩ [.ref a] [.ref a] _ _ hr e0 (qi s₁ (.ref a)) (.cons rfl .nil) (jr H hO hS)) λr s' h=>?_
  cases r with
  | error e=>exact(hCX H e s' h).elim
  | ok fl=>
   cases fl with
   | next=>exact False.elim h| brk=>exact False.elim h| cont=>exact False.elim h
   | ret u=>
    obtain⟨v,H',os,bare,un,hok',r',q⟩:=h;have q':v=.bl true:=q;subst q';obtain rfl:u=Value.bool true:=r';refine⟨rfl,OldK.of_keep λb o e=>?_,os,bare⟩;cases q:H b with
    | none=>exact un.keep b o e q (by intro z;exact absurd (show b∈([]:List Addr)from z) (by simp)) (by simp)
    | some u=>
     rcases hO b with z|⟨ob,xs,z⟩
     ·rw[q]at z;cases z
     ·have z2:=un.frzs b ob _ z;obtain⟨e1,_⟩:=hok b _ z;obtain⟨e2,_⟩:=hok' b _ z2;rw[e]at e1;cases e1;exact e2
 cases hk:K.lookup a with
 | some o=>
  have e:=KX a o hk;rw[ha]at e;cases e;refine rq (λ_=>none) (λ_=>.inl rfl) (.inr ⟨vs.toArray,_,hk,by rw[X8,lenV];exact hl,by simpa using rv⟩) (λb u z=>by have z':(none:Option HO)=some u:=z;cases z') (λb z=>absurd rfl z) λz=>absurd rfl z
 | none=>
  refine rq (λb=>if b=a then some (.frz { cls:=.type "list",data:=.seq vs.toArray } (.lst (ns.map V.int)))else none) (λb=>?_) (.inl (.inr ⟨{ cls:=.type "list",data:=.seq vs.toArray },X7 rfl⟩)) (λb u z=>?_) (λb z=>?_) λ_=>hk
  ·by_cases hb:b=a
   ·exact .inr ⟨_,_,X7 hb⟩
   ·exact .inl (X9 hb)
  ·by_cases hb:b=a
   ·have z':=(X7 hb).symm.trans z;cases z';subst hb;exact⟨ha,by rw[X3];exact hl,vs,_,rv,ha⟩
   ·have z':=(X9 hb).symm.trans z;cases z'
  ·by_cases hb:b=a
   ·exact hb
   ·exact absurd (X9 hb) z
@[elab_as_elim] theorem wxw {P:List Value->Prop}(us:List Value)(e:us.length=1)(h:∀a,P [a]):P us:=by
 cases us with|nil=>cases e|cons a us=>cases List.eq_nil_of_length_eq_zero (Nat.succ.inj e);exact h a
@[elab_as_elim] theorem wxv {P:List Value->Prop}(us:List Value)(e:us.length=2)(h:∀a b,P [a,b]):P us:=by
 cases us with|nil=>cases e|cons a us=>exact wxw (P:=λl=>P (a::l)) us (Nat.succ.inj e) λb=>h a b
@[elab_as_elim] theorem wxu {P:List Value->Prop}(us:List Value)(e:us.length=3)(h:∀a b c,P [a,b,c]):P us:=by
 cases us with|nil=>cases e|cons a us=>exact wxv (P:=λl=>P (a::l)) us (Nat.succ.inj e) λb c=>h a b c
@[elab_as_elim] theorem wxt {P:List Value->Prop}(us:List Value)(e:us.length=4)(h:∀a b c d,P [a,b,c,d]):P us:=by
 cases us with|nil=>cases e|cons a us=>exact wxu (P:=λl=>P (a::l)) us (Nat.succ.inj e) λb c d=>h a b c d
@[elab_as_elim] theorem wxs {P:List Value->Prop}(us:List Value)(e:us.length=5)(h:∀a b c d f,P [a,b,c,d,f]):P us:=by
 cases us with|nil=>cases e|cons a us=>exact wxt (P:=λl=>P (a::l)) us (Nat.succ.inj e) λb c d f=>h a b c d f
@[elab_as_elim] theorem len6 {P:List Value->Prop}(us:List Value)(e:us.length=6)(h:∀a b c d f g,P [a,b,c,d,f,g]):P us:=by
 cases us with|nil=>cases e|cons a us=>exact wxs (P:=λl=>P (a::l)) us (Nat.succ.inj e) λb c d f g=>h a b c d f g
theorem jws{K:Frag}{H:Hp}{g:Bool}:∀(ns:List Int),RepA K H g (ns.map D.int) (ns.map V.int) []
 |[]=>by unfold RepA;exact⟨rfl,rfl⟩
 |n::ns=>by
  rw[List.map_cons,List.map_cons];unfold RepA;exact⟨_,_,[],[],rfl,rfl,xx,jws ns⟩
theorem wjq{K:Frag}{mg:Str->Option Value}{f:Fn}{H:Hp}{a:Addr}{ns:List Int}(h:∃E o,f [(.no,.lst (ns.map D.int))]=some (.ok E (o,.bl true)))(hs:LsR K H a (ns.map V.int))(hO:wx7 H):
  spF K mg 1 f [.ref a] H (λv _=>v=.bl true) λ_ _ _=>False:=by
 obtain⟨E,o,h⟩:=h;have key:∃as,RepL K H true (.lst (ns.map D.int)) (.ref a) as/\(∀b∈as,False):=by
  rcases hs with(hs|⟨ob,hs⟩)|hs
  ·rcases hO a with z|⟨_,_,z⟩<;>(rw[hs]at z;cases z)
  ·refine⟨[],?_,λb hb=>nomatch hb⟩;unfold RepL;exact⟨a,ns.map V.int,[],rfl,jws ns,.inr ⟨rfl,.inl ⟨ob,hs⟩,rfl⟩⟩
  ·refine⟨[],?_,λb hb=>nomatch hb⟩;unfold RepL;exact⟨a,ns.map V.int,[],rfl,jws ns,.inr ⟨rfl,.inr hs,rfl⟩⟩
 obtain⟨as,r,hn⟩:=key;refine⟨[⟨.no,.lst (ns.map D.int),.ref a,as⟩],_,rfl,rfl,?_,h,(λE' c z=>by cases z),λE' s z x H' e1 e2 w' st=>?_⟩
 ·exact⟨λx hx=>by rw[oq9 (aC hx)];exact r,by simp[Sl.own],λb hb=>by simp[Sl.own]at hb⟩
 ·injection z with z1 z2;subst z2;exact W6 w'.head e2
section
open PySem.W PySem.Calls
theorem walkQ{l:OpenLaw}{n k:Nat}{q:Program}{k8:List Str}{XP:(Str->Option Value)->Heap->Prop}{YP:PySem.World->Heap->Prop}{d:DefRec}{K:Params->Frag}{f:Fn}{x:Str}
  (hn:l.most=some n) (qh:n<=sizeLine) (hdf:d.params.defaults=[]) (hr:Room k callerA)
  (hY:∀(w:PySem.World) (h:Heap),YP w h->(K w.params).In h)
  (F:∀(w:PySem.World) (mg:Str->Option Value) (fa:Addr) (h:Heap),(K w.params).In h->h.Ns mainGlobals mg->mg d.name=some (.ref fa) ->
   ∃fd:FuncData,(∀(s:Shared) (u:Value),BindsTo s fd ⟨[u],[]⟩ [(x,u)])/\∀base:Heap,(K w.params).In base->base.Ns mainGlobals mg->FnOk l.prog w (K w.params) mg base (CXE l.prog w) k fa fd [x] (spF (K w.params) mg 1 f))
  (jr:∀(ns:List Int),ns.length<=n->(∀i∈ns,Builtin.Int.intBits i<=1048576)->∃E o,f [(.no,.lst (ns.map D.int))]=some (.ok E (o,.bl true))):
  WalkO q k8 XP YP l.row.toRowW d [] (λf vs=>PySem.call f vs):=by
 intro w s0 s1 mg mb G Y fa o pm cd fq dV kV ho hd gc hD hmg hg args bv as la hlay hrd mr hlo;obtain rfl:dV=.none:=Dflts.none hD hdf;obtain rfl:kV=.none:=Dflts.noKw hD;obtain⟨a,vs,ns,rfl,rfl,hobj,oz,ah⟩:=Att.script_of hn la mr;have qr:=kwk hlay;have KX:=hY w _ Y;obtain⟨fd,hb,hF⟩:=F w mg fa _ KX G.T.g hmg;refine enter_call (Zp (qv4 KX G.T.g G.T.b G.T.builtins G.T.nolimit hg hobj oz (Yn ah qh) hr hF hb (λH hO hS=>wjq (jr ns ah qr) hS hO) (λ_ _ _ ⟨_,_,_,_,_,_,_,_,_,_,_,_,_,_,_,z⟩=>z)) λr s' hq=>?_);obtain⟨rfl,h2,h3,h4⟩:=hq;exact⟨.inl ⟨.bool true,.bool true,[],rfl,λ_=>rfl,.bool true,Att.post_true l _,λ_=>⟨List.Pairwise.nil,λ_ hm=>(nomatch hm)⟩⟩,h2,h3,h4⟩
end
section
variable {P:Program}{w:PySem.World}{K:Frag}{mg:Str->Option Value}{base h:Heap}{x:Str}{st:Stmt}{ps:List Str}{k:Nat}{sp:Sp}
noncomputable def Gf(K:Frag)(x:Str)(st:Stmt):Prop:=∃(f:Addr) (oc:Value) (od:Option Addr) (kV dc pm:Value) (an:Option Addr) (cd ct:Value) (sl:Array (Option Value)),nsIn K mainGlobals x=some (some (.ref f))/\K.lookup f=some ⟨oc,od,.func (PySem.W.fnOf x x (K3 st) (JK st) (kq st) .none kV dc pm an cd ct),sl⟩/\PySem.W.codeIn K cd x=true/\PySem.W.keepIn K (.ref f)=true
theorem Gf.mk{f:Addr}{oc:Value}{od:Option Addr}{kV dc pm:Value}{an:Option Addr}{cd ct:Value}{sl:Array (Option Value)}(a:nsIn K mainGlobals x=some (some (.ref f)))(l:K.lookup f=some ⟨oc,od,.func (PySem.W.fnOf x x (K3 st) (JK st) (kq st) .none kV dc pm an cd ct),sl⟩)(c:PySem.W.codeIn K cd x=true)(k:PySem.W.keepIn K (.ref f)=true):Gf K x st:=⟨f,oc,od,kV,dc,pm,an,cd,ct,sl,a,l,c,k⟩
theorem Gf.d(g:Gf K x st)(X:K.In h)(G:h.Ns mainGlobals mg)(ok:∀{f:Addr} {fd:FuncData},Fun K x x st f fd->FnOk P w K mg base (CXE P w) k f fd ps sp)
  (hb:∀(kV fq pm:Value) (an:Option Addr) (bi ct:Value) (us:List Value),us.length=ps.length->bindArgs (PySem.W.fnOf x x (K3 st) (JK st) (kq st) .none kV fq pm an bi ct) ⟨us,[]⟩=pure (ps.zip us):=by
   intro _ _ _ _ _ _ us hl
   first
   |exact wxw us hl λ_=>rfl|exact wxv us hl λ_ _=>rfl|exact wxu us hl λ_ _ _=>rfl|exact wxt us hl λ_ _ _ _=>rfl|exact wxs us hl λ_ _ _ _ _=>rfl
   |exact len6 us hl λ_ _ _ _ _ _=>rfl):kQ P w K mg base k x ps sp:=by
 obtain⟨f,oc,od,kV,dc,pm,an,cd,ct,sl,a,l,c,kp⟩:=g;exact⟨f,_,ok (qvm l c kp),(qvm l c kp).binds hb,kp,Za X G a⟩
theorem Gf.law{fa:Addr}{y:Str}(g:Gf K "law" st)(X:K.In h)(G:h.Ns mainGlobals mg)(hfa:mg "law"=some (.ref fa))(ok:∀{base:Heap} {f:Addr} {fd:FuncData},Fun K "law" "law" st f fd->FnOk P w K mg base (CXE P w) k f fd [y] sp)
  (hb:∀(kV fq pm:Value) (an:Option Addr) (bi ct:Value) (s:Shared) (v:Value),BindsTo s (PySem.W.fnOf "law" "law" (K3 st) (JK st) (kq st) .none kV fq pm an bi ct) ⟨[v],[]⟩ [(y,v)]:=by
   intros
   exact .of_eq rfl):
  ∃fd:FuncData,(∀(s:Shared) (v:Value),BindsTo s fd ⟨[v],[]⟩ [(y,v)])/\∀base:Heap,K.In base->base.Ns mainGlobals mg->FnOk P w K mg base (CXE P w) k fa fd [y] sp:=by
 obtain⟨f,oc,od,kV,dc,pm,an,cd,ct,sl,a,l,c,kp⟩:=g;have e:=hfa.symm.trans (Za X G a);cases e;exact⟨_,hb kV dc pm an cd ct,λbase _ _=>ok (qvm l c kp)⟩
end
end Q
namespace Q
open PySem L2
theorem mkS{N P:List Str}{sc:Scope}(h1:autoParam (sc.kind=.function) Ŕ)(h2:autoParam (sc.isCoroutine=false) Ŕ)(h3:autoParam (sc.isGenerator=false) Ŕ)(h4:autoParam (N.Nodup) ŗ)(h5:autoParam (N.take P.length=P) Ŕ)(h6:autoParam (∀x∈P,sc.names.lookup x=some .local\/sc.names.lookup x=some .cell) ŗ)(h7:autoParam (∀y∈sc.names,y.2≠.free) ŗ):FnScope N P sc:=⟨h1,h2,h3,h4,h5,h6,h7⟩
end Q
namespace Q
open PySem PySem.Spec PyProof.Rows L2 L3
section
variable {X:Cx}{Z:Fx0}{pn:List Nat}{q qa:Bool}{a b c:Ex}{e ea eb:Expr}{pos p:Pos}
theorem kI{z:Int}{j}:QE X Z true (cC (.int z)) (.Constant (.int z) j p):=q_C vzv λ_=>xx
theorem ki{z:Int}{j}:QV X Z true (vE (cC (.int z))) (.Constant (.int z) j p):=j3 kI
theorem kN{j}:QE X Z true (cC .non) (.Constant .none j p):=q_C vzs λ_=>qke
theorem kS{z:Str}{j}(h:autoParam (z.length<=sizeLine) ŕ):QE X Z true (cC (.str z)) (.Constant (.str z) j p):=q_C kxe λ_=>Qq h
theorem ks{z:Str}{j}(h:autoParam (z.length<=sizeLine) ŕ):QV X Z true (vE (cC (.str z))) (.Constant (.str z) j p):=j3 (kS h)
theorem vv(i:Nat){x:Str}(hN:autoParam (X.N[i]?=some x) Ŕ)(hv:autoParam (Vis X.env.scope x) ř)(hd:autoParam ((x==("__debug__":Str))=false) ŕ)
  (gc:autoParam ((x==("__classdict__":Str))=false) ŕ):QV X Z true (vV i) (.Name x pos):=q_vV (pv i hN hv hd gc)
theorem cv(i:Nat){x:Str}(hN:autoParam (X.N[i]?=some x) Ŕ)(hv:autoParam (Vis X.env.scope x) ř)(hd:autoParam ((x==("__debug__":Str))=false) ŕ)
  (gc:autoParam ((x==("__classdict__":Str))=false) ŕ):QE X Z true (cV i) (.Name x pos):=q_V (pv i hN hv hd gc)
theorem kx(ha:QV X Z qa a ea)(hb:QV X Z true b eb)(hs:kwn eb:=by exact λ_ _=>rfl)(hK:autoParam (X.K=Z.K) Ŕ):QV X Z qa (qX a b) (.Subscript ea eb pos):=q_ix ha hb hs hK
theorem qA{i:Nat}{y:Str}{az:Pos}(hN:X.N.Nodup)(h:QE X Z q a ea)(hi:autoParam (X.N[i]?=some y) Ŕ)(hx:autoParam (Loc X.env.scope y) Ś)(hp:autoParam (i∉pn) ŕ)(hs:autoParam (swapsWith ea (some (.Name y az)) pos.line X.env=pure false) Ŕ)(hf:autoParam (X.fn y=true\/X.env.scope.names.lookup y=some .local) Ř):
  QS X Z pn (jw i a) (.Assign [.Name y az] ea pos):=wvr hN hi hx h hp hs hf
theorem gn{i:Nat}{x:Str}(hN:X.N.Nodup)(hi:autoParam (X.N[i]?=some x) Ŕ)(hx:autoParam (Loc X.env.scope x) Ś)(hf:autoParam (X.fn x=true\/X.env.scope.names.lookup x=some .local) Ř):PG X (.Name x pos) (V8 i):=wW hN hi hx hf
theorem gN{i:Nat}{x:Str}(hN:X.N.Nodup)(hi:autoParam (X.N[i]?=some x) Ŕ)(hx:autoParam (Loc X.env.scope x) Ś)(hf:autoParam (X.fn x=true\/X.env.scope.names.lookup x=some .local) Ř)(hp:autoParam (i∉pn) ŕ):QG X Z pn (.n i) (.Name x pos):=ZV (wW hN hi hx hf) hp
theorem qC{k m n:Nat}{x:Str}{ps:List Str}{f:Fn}{cs:List Ex}{es:List Expr}(D:kQ X.prog X.w X.K X.mg X.base k x ps (spF Z.K Z.mg n f))(hr:Room m X.A)(ha:QA X Z q cs (e::es))(g:wV X Z.EX:=by exact KW)(du:autoParam (k<=m) ŕ)(hn:autoParam (cs.length=n) Ŕ)(hg:autoParam (Gl X x) Ŕ)(d8:autoParam ((x==("__debug__":Str))=false) ŕ)
  (he:autoParam (starEach (e::es) X.env=(false,eval e X.env)::starEach es X.env) Ŕ) (b9:autoParam ((backTo pos (starEach es X.env)).any (·.1)=false) Ŕ):
  QE X Z q (jQ f cs) (.Call (.Name x p) (e::es) [] pos):=vz4 D (hr.mono du) g ha hn hg d8 he b9
theorem qF{tg ao:Expr}{ss:List Stmt}{it:Ev (List D)}{t:Tg}{B:Sm}(hi:QI X Z q tg it ao)(hg:QG X Z pn t tg)(hb:QSs X Z pn B ss)(hp:PassesOwn (model X.prog X.w) X.A X.env X.xe:=by exact ww1 ⟨_,_,rfl,rfl⟩)(hc:autoParam (X.calm=true) Ŕ)(hs:autoParam (∀x,foldedSetIterable ao X.env x=pure x) Ŗ):QS X Z pn (zq it t B) (.For tg ao ss [] pos):=wvq hp hc hi hg hb hs
theorem oA(ha:QV X Z qa a ea)(hb:QV X Z true b eb)(hK:autoParam (X.K=Z.K) Ŕ):QE X Z qa (cF2 jv a b) (.BinOp ea .Add eb pos):=k9 (wj8 hK) wqa ha hb
theorem oX(ha:QV X Z qa a ea)(hb:QV X Z true b eb)(hK:autoParam (X.K=Z.K) Ŕ):QE X Z qa (cF2 vk a b) (.BinOp ea .Mult eb pos):=k9 (wj5 hK) vw8 ha hb
theorem oM(ha:QV X Z qa a ea)(hb:QV X Z true b eb):QE X Z qa (cF2 (pu2 jW) a b) (.BinOp ea .Mod eb pos):=k9 wj3 wq5 ha hb
theorem qP{i:Nat}{x:Str}{aw am xp:Pos}(h:QE X Z q c e)(hN:autoParam (X.N[i]?=some x) Ŕ)(hv:autoParam (Vis X.env.scope x) ř)(hd:autoParam ((x==("__debug__":Str))=false) ŕ)
  (gc:autoParam ((x==("__classdict__":Str))=false) ŕ) (bh:autoParam (attributeBase (.Name x xp) "append" X.env (eval (.Name x xp) X.env)=eval (.Name x xp) X.env) Ŕ)
  (dg:autoParam (((backTo am (starEach [e] X.env)).all (λx=>!x.1)&&(backToKw am (keywordEach [] X.env)).all (λx=>x.1.isSome)
   && decide ([e].length+([]:List Keyword).length+(if([]:List Keyword).isEmpty then 0 else 1)<30))=true) Ŕ)
  (be:autoParam ((aw.endLine==am.line)=true) Ŕ) (hs:autoParam (starEach [e] X.env=(false,eval e X.env)::starEach [] X.env) Ŕ) (bg:autoParam ((backTo am (starEach [] X.env)).any (·.1)=false) Ŕ) (hK:autoParam (X.K=Z.K) Ŕ)
  (kl:autoParam (swapsWith (.Call (.Attribute (.Name x xp) "append" aw) [e] [] am) none pos.line X.env=pure false) Ŕ):
  QS X Z pn (z3 z5 i c) (.Expr (.Call (.Attribute (.Name x xp) "append" aw) [e] [] am) pos):=wvs (vjk Z.K PySem.F.plainAttrs_list PySem.F.slot_list_append PySem.F.type_list_append qqm (pv i hN hv hd gc) (qq h v3 hs) bh dg be hs bg hK) kl
theorem qL(ha:QV X Z q a ea)(hm:X.mg "len"=none)(hK:autoParam (X.K=Z.K) Ŕ)(hg:autoParam (Gl X "len") Ŕ)(he:autoParam (starEach [ea] X.env=(false,eval ea X.env)::starEach [] X.env) Ŕ)(b9:autoParam ((backTo pos (starEach [] X.env)).any (·.1)=false) Ŕ):QE X Z q (cF1 (pu1 kX) a) (.Call (.Name "len" p) [ea] [] pos):=ZW (hK▸vw3 X.K) wq6 ha hm vk4 hg ⋯ ⋯ he b9
theorem qT(ha:QV X Z q a ea)(hm:X.mg "tuple"=none)(hK:autoParam (X.K=Z.K) Ŕ)(hg:autoParam (Gl X "tuple") Ŕ)(he:autoParam (starEach [ea] X.env=(false,eval ea X.env)::starEach [] X.env) Ŕ)(b9:autoParam ((backTo pos (starEach [] X.env)).any (·.1)=false) Ŕ):QE X Z q (cF1 XZ a) (.Call (.Name "tuple" p) [ea] [] pos):=wvh (qwf hK) vj8 ha hm kkp hg ⋯ ⋯ he b9
variable {ao dn tg:Expr}{dk:List Expr}{scope:Scope}{it:Ev (List D)}{tt:Tg}{u:Ts}
theorem qm(o:Own)(k:Nat)(R:List Nat)(m:Nat)(N:List Str)(hi:QI X Z q tg it ao)
  (hg:N.Nodup->∀cl C s0 H0 fp,QG (lcE X scope N cl C s0 H0 fp Z.EX) Z ((List.range R.length).map (k + ·)) tt tg) (ht:∀cl C s0 H0 fp,PTs (lcE X scope N cl C s0 H0 fp Z.EX) dk (tT Z q u)) (he:∀cl C s0 H0 fp,QE (lcE X scope N cl C s0 H0 fp Z.EX) Z q c dn)
  (hN:autoParam (N.Nodup) ŗ) (gx:wV X Z.EX:=by exact KW) (top:xw X:=by exact⟨_,_,rfl,rfl⟩) (hR:autoParam (R.Nodup) ŕ) (hm:autoParam (X.N.length=m) Ŕ) (hr:autoParam (∀j∈R,j<m) ŕ) (hc:autoParam (X.calm=true) Ŕ) (hk:autoParam (scope.kind=.function) Ŕ) (iq:autoParam (K1 X.N X.env.scope scope N k R=true) Ŕ) (hs:autoParam (∀x,foldedSetIterable ao X.env x=pure x) Ŗ):
  QE X Z q (cLC o k R it tt u c) (.ListComp dn [⟨tg,ao,dk,0⟩] scope pos):=wxo N hi (hg hN) ht he gx top hR (hm▸hr) hc hk iq hs
theorem qM{x:Str}{p':Pos}(o:Own)(k:Nat)(R:List Nat)(m:Nat)(N:List Str)(hi:QI X Z q (.Name x p') it ao)(he:∀cl C s0 H0 fp,QE (lcE X scope N cl C s0 H0 fp Z.EX) Z q c dn)
  (hN:autoParam (N.Nodup) ŗ) (gx:wV X Z.EX:=by exact KW) (top:xw X:=by exact⟨_,_,rfl,rfl⟩) (hR:autoParam (R.Nodup) ŕ) (hm:autoParam (X.N.length=m) Ŕ) (hr:autoParam (∀j∈R,j<m) ŕ) (hc:autoParam (X.calm=true) Ŕ) (hk:autoParam (scope.kind=.function) Ŕ) (iq:autoParam (K1 X.N X.env.scope scope N k R=true) Ŕ) (hs:autoParam (∀x,foldedSetIterable ao X.env x=pure x) Ŗ)
  (hg:N.Nodup->∀cl C s0 H0 fp,QG (lcE X scope N cl C s0 H0 fp Z.EX) Z ((List.range R.length).map (k + ·)) (.n 0) (.Name x p'):=by exact λh _ _ _ _ _=>ZV (wW (i:=0) h rfl (by trivial))):
  QE X Z q (cLC o k R it (.n 0) tYes c) (.ListComp dn [⟨.Name x p',ao,[],0⟩] scope pos):=wxo N hi (hg hN) (λ_ _ _ _ _=>Vw) he gx top hR (hm▸hr) hc hk iq hs
end
end Q
namespace Q
def ddS(ss:List PySem.Str):List PySem.Str:=ss.foldl (λl k=>if l.any (· == k)then l else l++[k]) []
def ddI(ss:List Int):List Int:=ss.foldl (λl k=>if l.any (· == k)then l else l++[k]) []
def QJ:D->Option D:=λx=>match x with
 | .lst ds=>(match wQ ds with
  |some ss=>if ss.length<4000 then some (.int (ddS ss).length)else none
  |none=>(match zw ds with
   |some is=>if is.length<4000 then some (.int (ddI is).length)else none
   |none=>none))
 |_=>none
end Q
namespace Sw
open PySem PyProof.Rows
section
variable {prog:Program}{w:World}{A:Around}{E:VP9}{s:Shared}
def tx(w:World):Bool:=w.params.followText "set-order"
structure Ok (prog:Program)(w:World)(o:Obj)(es:Array (Int×Value))(ep:Nat)(t:SetTable):Prop where
 ex:o.ExactSet
 d:o.data=.set es ep t
 el:ElemsOf (PySem.strKind prog w) es.toList
 b:es.size<scanBound
 f:t.fits es.size=true
 led:t.led=!tx w
 pl:t.plain=false\/es.size=0
def KY(es:List (Int×Value)):List Str:=es.map λe=>strOf e.2
def Has(prog:Program)(w:World)(h:Heap)(a:Addr)(ls:List Str):Prop:=∃o es ep t,h.get? a=some o/\Ok prog w o es ep t/\(KY es.toList).Perm ls
theorem wkk{l:List (Int×Value)}(h:ElemsOf (PySem.strKind prog w) l){e:Int×Value}(he:e∈l):∃k t,e.2=.str k t:=by
 obtain⟨⟨k,hk,_⟩,_⟩:=h e he;obtain⟨t,ht⟩:=Value.isStrOf_shape hk;exact⟨k,t,ht⟩
theorem wk5{l:List (Int×Value)}(h:ElemsOf (PySem.strKind prog w) l)(k:Str):(∃e∈l,(PySem.strKind prog w).is k e.2=true)↔k∈KY l:=by
 unfold KY;rw[List.mem_map];constructor
 ·rintro ⟨e,he,hk⟩;obtain⟨t,ht⟩:=Value.isStrOf_shape hk;exact⟨e,he,by rw[ht];rfl⟩
 ·rintro ⟨e,he,hk⟩;obtain⟨k',t,ht⟩:=wkk h he;rw[ht]at hk;cases(show k'=k from hk);exact⟨e,he,by rw[ht];exact strKind_is _ _ _ _⟩
theorem vvb(t:SetTable)(es:Array (Int×Value))(h:Int)(x:Value):(layNew t es h x).2.1.led=t.led/\((layNew t es h x).2.1.plain=true->t.plain=true):=by
 unfold layNew
 split
 ·rename_i slot wd _;show((t.put slot).1.orStandIn _).led=_/\(((t.put slot).1.orStandIn _).plain=true->_);unfold SetTable.orStandIn
  split
  ·exact⟨rfl,λh=>h⟩
  ·exact⟨rfl,λh=>nomatch h⟩
 ·exact⟨rfl,λh=>nomatch h⟩
theorem qkg(t:SetTable)(es:Array (Int×Value))(n:Nat):(relayAll t es n).2.1.led=t.led/\((relayAll t es n).2.1.plain=true->t.plain=true):=by
 unfold relayAll
 split
 ·rename_i t' ce hr;dsimp only
  split
  ·unfold SetTable.relaid SetTable.laid at hr;rw[Option.bind_eq_bind,Option.bind_eq_some_iff]at hr;obtain⟨ow,_,e⟩:=hr;cases oq9 e;exact⟨rfl,λh=>h⟩
  ·exact⟨rfl,λh=>nomatch h⟩
 ·exact⟨rfl,λh=>nomatch h⟩
theorem qxa{h:Heap}{a:Addr}{o:Obj}{es es':Array (Int×Value)}{ep:Nat}{t t':SetTable}(ho:h.get? a=some o)(hd:o.data=.set es ep t):(h.update a (Obj.putSet es' t')).get? a=some { o with data:=.set es' (ep+1) t' }:=by
 have:=Y8 (Obj.putSet es' t') ho (by rw[putSet_of es' t' hd];rfl)
 rwa [putSet_of es' t' hd]at this
theorem tail{g:Bool->Sem Unit}(hg:∀(b:Bool) (s₁:Shared) (Q':Unit->Shared->Prop),Q' () s₁->wpAny (model prog w) A (g b) Q' E s₁)
  {a:Addr} {o:Obj} {es bc:Array (Int×Value)} {ep:Nat} {t t2:SetTable} {ls:List Str} {jp:Bool} {R:Option Bool->Shared->Prop} (ho:s.heap.get? a=some o) (hd:o.data=.set es ep t) (hex:o.ExactSet)
  (oq:ElemsOf (PySem.strKind prog w) bc.toList) (hb:bc.size<scanBound) (hf:t2.fits bc.size=true) (ny:t2.led=!tx w) (b9:t2.plain=false) (hp:(KY bc.toList).Perm ls)
  (h:∀h',Heap.SameBut a s.heap h'->Has prog w h' a ls->R (some true) { s with heap:=h' }):
  wpAny (model prog w) A (do
    storeSet a bc t2
    if(!jp&&t2.tooFull)=true then do
      g (relayAll t2 bc (SetTable.grown bc.size)).2.2
      storeSet a (relayAll t2 bc (SetTable.grown bc.size)).1 (relayAll t2 bc (SetTable.grown bc.size)).2.1
      pure (some true)
     else pure (some true)) R E s:=by
 refine X0 (wpAny_storeSet_of ho hd ?_ (fits_of_scanBound hb));have ef:=qxa (es':=bc) (t':=t2) ho hd;have fu:=Yf s.heap a (Obj.putSet bc t2)
 split
 ·have r1:=relayAll_perm t2 bc (SetTable.grown bc.size);have r2:=relayAll_fits t2 bc (SetTable.grown bc.size);obtain⟨r3,r4⟩:=qkg t2 bc (SetTable.grown bc.size);generalize relayAll t2 bc (SetTable.grown bc.size)=V at r1 r2 r3 r4 ⊢;obtain⟨es2,t3,gv⟩:=V;dsimp only at r1 r2 r3 r4 ⊢;have hz:es2.size=bc.size:=by rw[<-X4,r1.length_eq,X4]
  refine X0 (hg _ _ _ ?_);refine X0 (wpAny_storeSet_of ef rfl ?_ (fits_of_scanBound (by rw[hz];exact hb)));refine X1 (h _ (fu.trans (Yf _ a _)) ⟨_,es2,_,t3,qxa ef rfl,⟨hex,rfl,oq.perm r1,by rw[hz];exact hb,r2,r3.trans ny,.inl ?_⟩,(r1.map _).trans hp⟩);cases hq:t3.plain with|false=>rfl|true=>rw[r4 hq]at b9;cases b9
 ·exact X1 (h _ fu ⟨_,bc,_,t2,ef,⟨hex,rfl,oq,hb,hf,ny,.inl b9⟩,hp⟩)
theorem add{a:Addr}{k:Str}{tk:Tok}{ls:List Str}{Q:Bool->Shared->Prop}(hS:Has prog w s.heap a ls)(hl:ls.length+1<scanBound)
  (h:∀b h',Heap.SameBut a s.heap h'->Has prog w h' a (step_dedup ls k)->Q b { s with heap:=h' }):wpAny (model prog w) A (setAddHashed a (.str k tk) ((PySem.strKind prog w).hash k)) Q E s:=by
 obtain⟨o,es,ep,t,ho,hk,hp⟩:=hS;have hsz:es.size=ls.length:=by rw[<-hp.length_eq];unfold KY;rw[X3,X4]
 have ig:(PySem.strKind prog w).is k (.str k tk)=true:=strKind_is _ _ _ _;have hmk:(∃e∈es.toList,(PySem.strKind prog w).is k e.2=true)↔k∈ls:=(wk5 hk.el k).trans hp.mem_iff;unfold setAddHashed setAddHashedIn;refine Xw (X0 (Yc ho hk.d hk.f ?_));dsimp only;rw[byScan_of rfl hk.b hk.el];simp only[↓reduceIte];unfold setAddByScan;refine X0 ?_;refine X0 (Zk ?_);refine X0 (wpAny_setScan_of ig ho hk.d hk.f hk.el ?_);cases hr:List.findIdx? (λe=>(PySem.strKind prog w).is k e.2) es.toList with
 | some j=>
  dsimp only;obtain⟨hj,hpj,_⟩:=List.findIdx?_eq_some_iff_getElem.mp hr;have ic:k∈ls:=hmk.mp ⟨_,Y2 hj,hpj⟩;have bj:step_dedup ls k=ls:=by unfold step_dedup;rw[X7 (List.any_eq_true.mpr ⟨k,ic,by simp⟩)]
  refine X1 (X1 ?_);have:=h false s.heap (Heap.SameBut.refl a s.heap) (by rw[bj];exact⟨o,es,ep,t,ho,hk,hp⟩);exact this
 | none=>
  dsimp only;have oi:k∉ls:=λic=>by
   obtain⟨e,he,hq⟩:=hmk.mpr ic;have:=List.findIdx?_eq_none_iff.mp hr e he;rw[hq]at this;cases this
  have bj:step_dedup ls k=ls++[k]:=by
   unfold step_dedup;rw[X9];intro hh;obtain⟨y,hy,e⟩:=List.any_eq_true.mp hh;rw[eq_of_beq e]at hy;exact oi hy
  rw[bj]at h;have hgw:∀(b:Bool) {s₁:Shared} {Q':Unit->Shared->Prop},Q' () s₁->wpAny (model prog w) A (match b with|true=>PySem.rule "set.scan.the-table-gave-way" | false=>pure ()) Q' E s₁:=
   λb s₁ Q' hq=>by cases b<;>first|exact X1 hq|exact Zk hq
  have l1:=layNew_perm t es ((PySem.strKind prog w).hash k) (.str k tk);have l2:=layNew_fits t es ((PySem.strKind prog w).hash k) (.str k tk);obtain⟨l3,l4⟩:=vvb t es ((PySem.strKind prog w).hash k) (.str k tk);generalize layNew t es ((PySem.strKind prog w).hash k) (.str k tk)=V at l1 l2 l3 l4 ⊢;obtain⟨bc,t1,wd,gv⟩:=V;dsimp only at l1 l2 l3 l4 ⊢;rw[Array.toList_push]at l1;have p8:ElemsOf (PySem.strKind prog w) bc.toList:=(hk.el.push ig rfl).perm l1;have l6:bc.size=ls.length+1:=by rw[<-X4,l1.length_eq,Xv,X4,hsz];rfl
  have hp1:(KY bc.toList).Perm (ls++[k]):=by
   refine(l1.map λe=>strOf e.2).trans ?_;rw[Xj];exact hp.append (List.Perm.refl _)
  refine X0 (hgw _ ?_)
  split
  ·refine X0 ?_;rw[hashByValue_scannable 8 rfl];refine X1 ?_;refine tail ?_ ho hk.d hk.ex p8 (by rw[l6];exact hl) (SetTable.fits_plain_off l2) (l3.trans hk.led) rfl hp1 λh' a1 a2=>?_
   ·intro b s₁ Q' hq;cases b<;>first|exact X1 hq|exact Zk hq
   ·exact X1 (h true h' a1 a2)
  ·rename_i b9;refine X0 (X1 ?_);refine tail ?_ ho hk.d hk.ex p8 (by rw[l6];exact hl) l2 (l3.trans hk.led) (show t1.plain=false from Bool.eq_false_iff.mpr b9) hp1 λh' a1 a2=>?_
   ·intro b s₁ Q' hq;cases b<;>first|exact X1 hq|exact Zk hq
   ·exact X1 (h true h' a1 a2)
def dd(ss:List Str):List Str:=ss.foldl step_dedup []
theorem vvw{ss:List Str}{i:Nat}{x:Str}(h:ss[i]?=some x):dd (ss.take (i+1))=step_dedup (dd (ss.take i)) x:=by
 obtain⟨hl,e⟩:=List.getElem?_eq_some_iff.mp h;unfold dd;rw[List.take_succ,h,Zh];rfl
theorem wwv(ss:List Str):(dd ss).length<=ss.length:=foldl_step_dedup_nil_length_le ss
theorem qk2:∀{vs:List Value} {ss:List Str},StrsAre vs ss->∀(i:Nat) (v:Value),vs[i]?=some v->∃x t,v=.str x t/\ss[i]?=some x
 |_,_,.nil,i,v,h=>by cases i<;>cases h|_,_,.cons x t r,0,v,h=>by cases oq9 h;exact⟨x,t,rfl,rfl⟩|_,_,.cons x t r,i+1,v,h=>qk2 r i v h
theorem kwy:∀{vs:List Value} {ss:List Str},StrsAre vs ss->vs.length=ss.length
 |_,_,.nil=>rfl|_,_,.cons x t r=>congrArg (· + 1) (kwy r)
theorem Has.same{h h':Heap}{a:Addr}{ls:List Str}(x:Has prog w h a ls)(e:∀o,h.get? a=some o->h'.get? a=some o):Has prog w h' a ls:=by
 obtain⟨o,es,ep,t,ho,r⟩:=x;exact⟨o,es,ep,t,e _ ho,r⟩
theorem loop{R:Result->Shared->Prop}{I:Addr}{fp wr:List Addr}{G:Array GenState->Array GenState->Prop}{n:Nat}{P:Nat->Value->Prop}{St:Nat->Shared->Prop}(W:WalksS prog w A.in1 I fp wr G n P St)(S:Addr)(js:S∉fp)
  {ss:List Str} (hn:ss.length=n) (f7:∀i v,P i v->∃x t,v=.str x t/\ss[i]?=some x) (hb:n+1<scanBound):∀(k i:Nat) (s:Shared),n - i=k->i<=n->St i s->Has prog w s.heap S (dd (ss.take i)) ->
   (∀s',Moved (S::wr) G s s'->Has prog w s'.heap S (dd ss)->R (.ok (.ret .none)) s')->codeAny (model prog w) A (.builtin "set.update.loop" ⟨[.ref S,.ref I],[]⟩) R s:=by
 have lu:S∉wr:=λh=>js (W.sub _ h)
 have dl:∀b∈wr,b∈S::wr:=λb hb=>lc9 _ hb
 intro k
 induction k with
 | zero=>
  intro i s hk hi bj hS hR;cases(show i=n by lia);refine Yg F.entry_set_update_loop ?_;rw[Y5 Yt _];show wpAny _ A.in1 (pyNext (.ref I) >>= _) _ _ s;refine X0 (W.done s _ _ bj λs' hm=>?_);refine X1 (hR s' (hm.mono dl) ?_);rw[<-hn,List.take_length]at hS;exact hS.same λo e=>hm.heap S _ lu e
 | succ k ih=>
  intro i s hk hi bj hS hR;refine Yg F.entry_set_update_loop ?_;rw[Y5 Yt _];show wpAny _ A.in1 (pyNext (.ref I) >>= _) _ _ s;refine X0 (W.item i s _ _ ⋯ bj λv s' hP ji hm=>?_);obtain⟨x,t,rfl,hx⟩:=f7 i v hP;have dq:Has prog w s'.heap S (dd (ss.take i)):=hS.same λo e=>hm.heap S _ lu e
  show wpAny _ A.in1 (holding [Value.str x t] (setAdd S (.str x t)) >>= _) _ _ s';refine X0 (Xw ?_);unfold setAdd;refine Xw ?_;refine X0 ((PySem.strKind prog w).pyHash (k:=x) (strKind_is _ _ _ _) ?_);have du:(dd (ss.take i)).length+1<scanBound:=by have:=wwv (ss.take i);rw[Xx]at this;lia
  refine add dq du λb h' a1 a2=>?_
  rw[<-vvw hx]at a2;refine X1 ⟨Zl Yt _,ih (i+1) _ ⋯ ⋯ (W.frame _ s' _ _ ji (Nat.le_succ _) λb hb o e=>?_) a2 λi9 jf iz=>?_⟩
  ·rw[a1.2 b (λh:b=S=>js (by rw[<-h];exact hb))];exact e
  ·refine hR i9 (Moved.trans W.gtrans ((hm.mono dl).then_heap (Nat.le_succ _) λb o hb e=>?_) jf) iz;rw[a1.2 b (λh:b=S=>hb (by rw[h];exact X6))];exact e
def fresh(w:World):Obj:={ cls:=.type "set",dict:=none,data:=.set #[] 0 (.fresh 0 0 (!tx w)) }
theorem qvn{h:Heap}{a:Addr}(e:h.get? a=some (fresh w)):Has prog w h a []:=
 ⟨_,#[],0,.fresh 0 0 (!tx w),e,⟨⟨rfl,rfl,rfl⟩,rfl,(λe he=>nomatch he),⋯,by rfl,rfl,.inr rfl⟩,.refl _⟩
theorem made(a:Value){Q₁:VP9}(h:Q₁ (.ref s.heap.objs.size) { s with heap:=s.heap.push (fresh w) }):
  codeAny (model prog w) A (.call (.builtin "set.__new__") ⟨[.type "set",a],[]⟩) (wants Q₁ E) s:=by
 refine codeAny_of_tree ?_;show wpAny _ A.in1 (do checkBuiltinCall "set.__new__" ⟨[.type "set",a],[]⟩;again (.builtin "set.__new__" ⟨[.type "set",a],[]⟩)) _ _ s;refine X0 (wpAny_of_eq (F.newCall_set_1 a) (X1 ⟨Zl F.plain_set_new _,Yg F.entry_set_new ?_⟩));rw[Y5 F.plain_set_new _];unfold Builtin.«set.__new__» Builtin.Frozenset.newClass;have dl:=sub_set_self;obtain⟨hp,g,d,tk,os⟩:=s;dsimp only
 wp_walk
 refine Zm (X1 ?_);dsimp only;simp only[newObj];refine X0 (wpAny_alloc (X1 ?_));exact X1 h
set_option maxHeartbeats 8000000 in
theorem qzu{l:Addr}{items:Array Value}{ss:List Str}{Q:VP9}(hh:A.handled=none)(hl:s.heap.IsList l items)(hi:StrsAre items.toList ss)(hb:items.size+1<scanBound)
  (h:∀(h':Heap) (tk:Nat),Has prog w h' s.heap.objs.size (dd ss)->(∀b o,b<s.heap.objs.size->s.heap.get? b=some o->h'.get? b=some o)->Q (.ref s.heap.objs.size) { s with heap:=h',toks:=tk }):
  wpAny (model prog w) A (call (.type "set") [.ref l]) Q E s:=by
 obtain⟨c,tl,hmro⟩:=F.called_set.mro;have qu:=F.called_set.made;have dl:=F.called_set.sub;refine wpAny_call (codeAny_of_tree ?_);show wpAny _ _ (callAny (.type "set") _) _ _ _;refine X1 ⟨Code.quiet_builtin _ (by decide +kernel),Yg F.entry_type_call ?_⟩;rw [Around.under_plain (weight_type_call_type "set" [.ref l] []) rfl];have h1:=F.called_set.notType;have h2:=F.called_set.canCreate;have hct:=F.typeCall_set_1 (.ref l)
 repeat (any_goals (first|assumption|wp_step))
 refine Zp (made (.ref l) (E:=E) (Q₁:=λobj s₁=>obj=.ref s.heap.objs.size/\s₁={ s with heap:=s.heap.push (fresh w) }) ⟨rfl,rfl⟩) λr s₁ hr=>?_
 cases r with
 | error e=>exact hr
 | ok fl=>
 cases fl with
 | ret obj=>
  obtain⟨rfl,rfl⟩:=hr;have hS:(s.heap.push (fresh w)).get? s.heap.objs.size=some (fresh w):=Xb _ rfl;have hT:Shared.TypeIs { s with heap:=s.heap.push (fresh w) } (.ref s.heap.objs.size) "set":=⟨_,hS,rfl⟩;have hli:=F.called_set.init.lookup;have hbi:=F.called_set.init.bind (.ref s.heap.objs.size)
  repeat (any_goals (first|assumption|wp_step))
  refine Zp (codeAny_call_builtin (R:=wants (λr s₂=>r=.none/\∃h' tk,s₂={ s with heap:=h',toks:=tk }/\Has prog w h' s.heap.objs.size (dd ss) /\
    (∀b o,b<s.heap.objs.size->s.heap.get? b=some o->h'.get? b=some o)) E) F.called_set.init.plain F.entry_set_init (check_set_init_1 hT ?_)) λr₂ s₂ ms=>?_
  ·obtain⟨ol,mz,cp,nl,m8⟩:=hl;obtain⟨ocls,ja,pi,gl⟩:=ol;simp only at cp m8;subst cp;subst m8;have md:(s.heap.push (fresh w)).get? l=some { cls:=.type "list",dict:=ja,data:=.seq items nl,slots:=gl }:=X2 _ mz;have hsls:=F.sub_list_set;have hslf:=F.sub_list_frozenset;have dj:(Value.type "list" == Value.type "dict")=false:=⋯
   have kh:(s.heap.push (fresh w)).IsList l items:=⟨_,md,rfl,nl,rfl⟩;have lm:l<s.heap.objs.size:=Xd mz;have ma:({ cls:=.type "set",dict:=none,data:=.set #[] 0 (.fresh 0 0 (!tx w)) }:Obj)=fresh w:=rfl;unfold Builtin.«set.__init__» noKeywords Builtin.Frozenset.updateFrom;generalize hPI:pyIter=PI
   wp_walk
   subst hPI;refine Zf kh ?_;refine X0 (wpAny_runValue ?_);have hh3:A.in1.in1.in1.handled=none:=by simp[hh]
   have hsz:(s.heap.push (fresh w)).objs.size=s.heap.objs.size+1:=Heap.size_push ..;refine loop ((Walks.list hh3 _ l (by rw[hsz];exact Xi (Z4 lm)) items).toS) s.heap.objs.size (by rw[hsz];simp only[Y3,Y6,or_false,not_or];exact⟨Xi (Nat.lt_succ_self _),Nat.ne_of_gt lm⟩) (ss:=ss) ?_ (λi v hv=>qk2 hi i v (by rw[Xq];exact hv)) hb (items.size - 0) 0 _ ⋯ (Yh _)
    ⟨⟨_,Xb _ rfl,rfl,rfl⟩,kh.push _⟩ ?_ ?_
   ·rw[<-kwy hi,X4]
   ·exact qvn (X2 _ hS)
   ·intro s' hm dq;obtain⟨h',g',d',lb,n9⟩:=s';have eg:g'=s.gens:=hm.gens;have ed:d'=s.drawn:=hm.drawn;have eo:n9=s.os:=hm.os;subst eg;subst ed;subst eo;show wpAny _ _ _ _ _ _;refine X1 ?_;show wpAny _ _ (ret Value.none) _ _ _;refine X1 ⟨rfl,h',lb,rfl,dq,λb o hb e=>?_⟩;exact hm.heap b o (by simp only[Y3,Y6,or_false,not_or];rw[hsz];exact⟨Xi hb,Xi (Z4 hb)⟩) (X2 _ (X2 _ e))
  ·cases r₂ with
   | error e=>exact ms
   | ok fl₂=>
    cases fl₂ with
    |ret r=>
     obtain⟨rfl,h',tk,rfl,dq,gh⟩:=ms
     repeat (any_goals (first|assumption|wp_step))
     exact h _ _ dq gh
    |_=>exact ms.elim
 |_=>exact hr.elim
end
theorem slot_next:Slot "set_iterator" "__next__" "set_iterator.__next__" :=
 .of (owner:="set_iterator") (n:="__next__") (by rw[typeLookup_type,builtinLookup_eq_fast];kernel_rfl) (by decide +kernel) (by decide +kernel) (by decide +kernel)
  (by first|exact .inl (by decide +kernel)|exact .inr (by decide +kernel)) (by rw[isSubtype_type];kernel_rfl)
theorem kq1:Slot "set_iterator" "__iter__" "set_iterator.__iter__" :=
 .of (owner:="set_iterator") (n:="__iter__") (by rw[typeLookup_type,builtinLookup_eq_fast];kernel_rfl) (by decide +kernel) (by decide +kernel) (by decide +kernel)
  (by first|exact .inl (by decide +kernel)|exact .inr (by decide +kernel)) (by rw[isSubtype_type];kernel_rfl)
theorem jvk:entryFor table "set_iterator.__next__"=some Builtin.«set_iterator.__next__»:=entryFor_of_tree (by kernel_rfl)
theorem qj9:entryFor table "set_iterator.__iter__"=some Builtin.«dict_keyiterator.__iter__»:=entryFor_alias (id':="dict_keyiterator.__iter__") (by kernel_rfl) rfl (by decide +kernel) (by kernel_rfl)
theorem qja:entryFor table "set.__iter__"=some Builtin.«frozenset.__iter__»:=entryFor_alias (id':="frozenset.__iter__") (by kernel_rfl) rfl (by decide +kernel) (by kernel_rfl)
theorem jwo(a:Value):argsOk "set_iterator.__next__" ⟨[a],[]⟩:=by unfold argsOk;kernel_rfl
theorem qwp(a:Value):argsOk "set_iterator.__iter__" ⟨[a],[]⟩:=by unfold argsOk;kernel_rfl
theorem qwq(a:Value):argsOk "set.__iter__" ⟨[a],[]⟩:=by unfold argsOk;kernel_rfl
section
variable {prog:Program}{w:World}{A:Around}{E:VP9}{s:Shared}
theorem wku{src:Source}{n:Nat}{Q:Nat->Shared->Prop}(hn:n≠0)(h:∀i d,i<n->Q i { s with drawn:=d }):wpAny (model prog w) A (choose src n) Q E s:=
 λ_ _ _=>⟨hn,h _ _ (Nat.mod_lt _ (Nat.pos_of_ne_zero hn))⟩
theorem jx5{α:Type}:∀{l:List α} {i:Nat} (h:i<l.length),(l[i]::l.eraseIdx i).Perm l
 |a::l,0,h=>List.Perm.refl _
 |a::l,i+1,h=>by
  have hi:i<l.length:=Nat.lt_of_succ_lt_succ h;exact(List.Perm.swap a (l[i]'hi) _).trans ((jx5 hi).cons a)
theorem drawn{α:Type}:∀(n:Nat) (xs:List α) (s:Shared) {Q:List α->Shared->Prop},xs.length=n->(∀ys d,ys.Perm xs->Q ys { s with drawn:=d })->wpAny (model prog w) A (drawOrder n xs) Q E s
 | 0,xs,s,Q,hl,h=>by
  cases xs with|nil=>exact X1 (h [] s.drawn (.refl _))|cons=>cases hl
 | n+1,xs,s,Q,hl,h=>by
  cases xs with
  |nil=>cases hl
  |cons x xs=>
   unfold drawOrder;refine X0 (wku (by simp) λi d hi=>?_);rw[X5 hi];refine X0 (drawn n _ _ (by rw[List.length_eraseIdx,X7 hi];exact Nat.succ.inj hl) λys d' hp=>?_);exact X1 (h _ d' ((hp.cons _).trans (jx5 hi)))
theorem qq5{α:Type}(f:Nat->Nat):∀(n k:Nat) (l:List α) (out:Array α),l.length=n->(pickOrder.go f n k l out).toList.Perm (out.toList++l)
 |0,k,l,out,hl=>by
  cases l with|nil=>unfold pickOrder.go;simp|cons=>cases hl
 |n+1,k,l,out,hl=>by
  have hi:f k % l.length<l.length:=Nat.mod_lt _ ⋯;unfold pickOrder.go;rw[X5 hi];refine(qq5 f n (k+1) _ _ (by rw[List.length_eraseIdx,X7 hi];lia)).trans ?_;rw[Array.toList_push,Yb];exact(List.Perm.refl _).append (jx5 hi)
theorem kq8{α:Type}(f:Nat->Nat)(xs:Array α):(pickOrder f xs).toList.Perm xs.toList:=by
 unfold pickOrder;exact qq5 f _ 0 _ #[] (by simp)
end
section
variable {prog:Program}{w:World}{A:Around}{E:VP9}{s:Shared}
def It(h:Heap)(I a:Addr)(f:Value)(i n ep:Nat):Prop:=∃o,h.get? I=some o/\o.cls=.type "set_iterator"/\o.data=.fields #[f,.int i 0,.ref a,.int n 0,.int ep 0]
theorem It.at'{h h':Heap}{I a:Addr}{f:Value}{i n ep:Nat}(x:It h I a f i n ep)(e:∀o,h.get? I=some o->h'.get? I=some o):It h' I a f i n ep:=by
 obtain⟨o,ho,r⟩:=x;exact⟨o,e _ ho,r⟩
def Stn(h:Heap)(a:Addr)(n ep:Nat):Prop:=∃o es t,h.get? a=some o/\o.data=.set es ep t/\t.fits es.size=true/\es.size=n
theorem qk8{I a:Addr}{f:Value}{i n ep:Nat}{Q:VP9}(fz:It s.heap I a f i n ep)(h:Q (.ref I) s):wpAny (model prog w) A (pyIter (.ref I)) Q E s:=by
 obtain⟨o,ho,hc,hd⟩:=fz;have hT:s.TypeIs (.ref I) "set_iterator":=⟨o,ho,hc⟩;refine wpAny_pyIter_slot hT kq1 (Y9 kq1 hT qj9 ?_ (qwp _));show wpAny _ _ (ret (.ref I)) _ _ s;exact X1 ⟨_,rfl,"set_iterator",_,hT,slot_next.lookup,h⟩
theorem wk3{I a:Addr}{sl nx i n ep:Nat}{v:Value}{Q:Option Value->Shared->Prop}(fz:It s.heap I a (.int sl 0) i n ep)(hs:Stn s.heap a n ep)
  (hN:∀(A':Around) (E':VP9) (R:Option (Value×Nat)->Shared->Prop),R (some (v,nx)) s->wpAny (model prog w) A' (setNext a sl i ep) R E' s)
  (hQ:∀h',It h' I a (.int nx 0) (i+1) n ep->Heap.SameBut I s.heap h'->Q (some v) { s with heap:=h' }):wpAny (model prog w) A (pyNext (.ref I)) Q E s:=by
 obtain⟨o,ho,hc,hd⟩:=fz;obtain⟨os,es,t,gq,ba,hf,hn⟩:=hs;have hT:s.TypeIs (.ref I) "set_iterator":=⟨o,ho,hc⟩;unfold pyNext;refine X0 (wpAny_attempt (Yp (name:=Str.ofString "__next__") hT slot_next (Y9 slot_next hT jvk ?_ (jwo _))));show wpAny _ _ (fieldsOf (.ref I) >>= _) _ _ s;refine X0 (wpAny_fieldsOf ho hd ?_);show wpAny _ _ (setEntries a >>= _) _ _ s;refine X0 (wpAny_setEntries_of gq ba hf ?_);rw[X9 (by rw[hn];simp)];show wpAny _ _ (setNext a ((sl:Int)).toNat ((i:Int)).toNat ((ep:Int)).toNat >>= _) _ _ s;rw[Yd,Yd,Yd];refine X0 (hN _ _ _ ?_);refine X0 (Z3 ho hd (by simp) ?_);have lz:=Obj.data_mapFields hd (·.setIfInBounds 0 (rawInt nx));have ef:=Y8 (Obj.mapFields (·.setIfInBounds 0 (rawInt nx))) ho (Obj.isFreed_of_fields lz);refine X0 (Z3 ef lz (by simp) (X1 ⟨v,rfl,X1 (hQ _ ?_ ((Yf ..).trans (Yf ..)))⟩));have gm:=Obj.data_mapFields lz (·.setIfInBounds 1 (rawInt (i+1)));refine⟨_,Y8 _ ef (Obj.isFreed_of_fields gm),(Obj.cls_mapFields ..).trans ((Obj.cls_mapFields ..).trans hc),?_⟩;rw[gm];simp[rawInt]
theorem wk2{I a T:Addr}{i n ep:Nat}{v:Value}{pl:List Nat}{p:Nat}{Q:Option Value->Shared->Prop}(fz:It s.heap I a (.ref T) i n ep)(hs:Stn s.heap a n ep)(pk:∃o k,s.heap.get? T=some o/\o.data=.seq (pl.map λ(j:Nat)=>rawInt j).toArray k)
  (hp:pl[i]?=some p)
  (hN:∀(A':Around) (E':VP9) (R:VP9),R v s->wpAny (model prog w) A' (setNextDrawn a p ep) R E' s)
  (hQ:∀h',It h' I a (.ref T) (i+1) n ep->Heap.SameBut I s.heap h'->Q (some v) { s with heap:=h' }):wpAny (model prog w) A (pyNext (.ref I)) Q E s:=by
 obtain⟨o,ho,hc,hd⟩:=fz;obtain⟨os,es,t,gq,ba,hf,hn⟩:=hs;obtain⟨oT,kT,hoT,nt⟩:=pk;have hT:s.TypeIs (.ref I) "set_iterator":=⟨o,ho,hc⟩;unfold pyNext;refine X0 (wpAny_attempt (Yp (name:=Str.ofString "__next__") hT slot_next (Y9 slot_next hT jvk ?_ (jwo _))));show wpAny _ _ (fieldsOf (.ref I) >>= _) _ _ s;refine X0 (wpAny_fieldsOf ho hd ?_);show wpAny _ _ (setEntries a >>= _) _ _ s;refine X0 (wpAny_setEntries_of gq ba hf ?_);rw[X9 (by rw[hn];simp)];show wpAny _ _ (seqItems? (.ref T) >>= _) _ _ s;refine X0 (wpAny_seqItems hoT nt ?_);have hg:(pl.map λ(j:Nat)=>rawInt j).toArray[((i:Int)).toNat]?=some (.int p 0):=by
  rw[Yd,List.getElem?_toArray,Xp,hp];rfl
 dsimp only;rw[hg];show wpAny _ _ (setNextDrawn a ((p:Int)).toNat ((ep:Int)).toNat >>= _) _ _ s;rw[Yd,Yd];refine X0 (hN _ _ _ ?_);have gm:=Obj.data_mapFields hd (·.setIfInBounds 1 (rawInt (i+1)));refine X0 (Z3 ho hd (by simp) (X1 ⟨v,rfl,X1 (hQ _ ?_ (Yf ..))⟩));refine⟨_,Y8 _ ho (Obj.isFreed_of_fields gm),(Obj.cls_mapFields ..).trans hc,?_⟩;rw[gm];simp[rawInt]
theorem wwr{I a:Addr}{sl i n ep:Nat}{Q:Option Value->Shared->Prop}(hh:A.handled=none)(fz:It s.heap I a (.int sl 0) i n ep)(hs:Stn s.heap a n ep)
  (hN:∀(A':Around) (E':VP9) (R:Option (Value×Nat)->Shared->Prop),R none s->wpAny (model prog w) A' (setNext a sl i ep) R E' s)
  (hQ:∀h',Heap.ExtBut I s.heap h'->Q none { s with heap:=h' }):wpAny (model prog w) A (pyNext (.ref I)) Q E s:=by
 obtain⟨o,ho,hc,hd⟩:=fz;obtain⟨os,es,t,gq,ba,hf,hn⟩:=hs;have hT:s.TypeIs (.ref I) "set_iterator":=⟨o,ho,hc⟩;unfold pyNext;refine X0 (wpAny_attempt (Yp (name:=Str.ofString "__next__") hT slot_next (Y9 slot_next hT jvk ?_ (jwo _))));show wpAny _ _ (fieldsOf (.ref I) >>= _) _ _ s;refine X0 (wpAny_fieldsOf ho hd ?_);show wpAny _ _ (setEntries a >>= _) _ _ s;refine X0 (wpAny_setEntries_of gq ba hf ?_);rw[X9 (by rw[hn];simp)];show wpAny _ _ (setNext a ((sl:Int)).toNat ((i:Int)).toNat ((ep:Int)).toNat >>= _) _ _ s;rw[Yd,Yd,Yd];refine X0 (hN _ _ _ ?_);refine X0 (Z3 ho hd (by simp) ?_);show wpAny _ _ (newExc (.type "StopIteration") [] >>= _) _ _ _;refine X0 ?_;simp only[newExc,newTuple];refine X0 (Xy ?_ (by size_fits));refine X0 (m:=firstArgMember _ _) (wpAny_of_eq (a:=Value.none) (by first|rfl|(simp only[firstArgMember];rfl)) ?_);refine Xy ?_ (by size_fits);simp only[raiseNew];refine X0 (wpAny_handled ?_);rw[show A.in1.handled=none from hh];refine X0 (X1 (wpAny_throw ?_));refine X0 (wpAny_isInstance (T:="StopIteration") (b:=true) ⟨_,Xb _ rfl,rfl⟩ isSubtype_stop ?_);exact X1 (hQ _ (((Yf ..).extBut.push _).push _))
theorem wwq{I a T:Addr}{i n ep:Nat}{pl:List Nat}{Q:Option Value->Shared->Prop}(hh:A.handled=none)(fz:It s.heap I a (.ref T) i n ep)(hs:Stn s.heap a n ep)(pk:∃o k,s.heap.get? T=some o/\o.data=.seq (pl.map λ(j:Nat)=>rawInt j).toArray k)
  (hp:pl[i]?=none) (hQ:∀h',Heap.ExtBut I s.heap h'->Q none { s with heap:=h' }):wpAny (model prog w) A (pyNext (.ref I)) Q E s:=by
 obtain⟨o,ho,hc,hd⟩:=fz;obtain⟨os,es,t,gq,ba,hf,hn⟩:=hs;obtain⟨oT,kT,hoT,nt⟩:=pk;have hT:s.TypeIs (.ref I) "set_iterator":=⟨o,ho,hc⟩;unfold pyNext;refine X0 (wpAny_attempt (Yp (name:=Str.ofString "__next__") hT slot_next (Y9 slot_next hT jvk ?_ (jwo _))));show wpAny _ _ (fieldsOf (.ref I) >>= _) _ _ s;refine X0 (wpAny_fieldsOf ho hd ?_);show wpAny _ _ (setEntries a >>= _) _ _ s;refine X0 (wpAny_setEntries_of gq ba hf ?_);rw[X9 (by rw[hn];simp)];show wpAny _ _ (seqItems? (.ref T) >>= _) _ _ s;refine X0 (wpAny_seqItems hoT nt ?_);have hg:(pl.map λ(j:Nat)=>rawInt j).toArray[((i:Int)).toNat]?=none:=by
  rw[Yd,List.getElem?_toArray,Xp,hp];rfl
 dsimp only;rw[hg];have lz:=Obj.data_mapFields hd (·.setIfInBounds 0 (rawInt 0));have ef:=Y8 (Obj.mapFields (·.setIfInBounds 0 (rawInt 0))) ho (Obj.isFreed_of_fields lz);refine X0 (Z3 ho hd (by simp) ?_);refine X0 (Z3 ef lz (by simp) ?_);show wpAny _ _ (newExc (.type "StopIteration") [] >>= _) _ _ _;refine X0 ?_;simp only[newExc,newTuple];refine X0 (Xy ?_ (by size_fits));refine X0 (m:=firstArgMember _ _) (wpAny_of_eq (a:=Value.none) (by first|rfl|(simp only[firstArgMember];rfl)) ?_);refine Xy ?_ (by size_fits);simp only[raiseNew];refine X0 (wpAny_handled ?_);rw[show A.in1.handled=none from hh];refine X0 (X1 (wpAny_throw ?_));refine X0 (wpAny_isInstance (T:="StopIteration") (b:=true) ⟨_,Xb _ rfl,rfl⟩ isSubtype_stop ?_);exact X1 (hQ _ ((((Yf ..).trans (Yf ..)).extBut.push _).push _))
end
section
variable {prog:Program}{w:World}{A:Around}{E:VP9}{s:Shared}
theorem qjr(hh:A.handled=none)(I a:Addr)(dj:a≠I){o:Obj}{es:Array (Int×Value)}{ep:Nat}{t:SetTable}(hd:o.data=.set es ep t)(hf:t.fits es.size=true){bv:List Value}(hl:bv.length=es.size)(sl:Nat->Nat)
  (hN:∀(i:Nat) (s:Shared) (A':Around) (E':VP9) (R:Option (Value×Nat)->Shared->Prop),s.heap.get? a=some o->i<=es.size->R (bv[i]?.map λv=>(v,sl (i+1))) s->wpAny (model prog w) A' (setNext a (sl i) i ep) R E' s):
  Walks prog w A I [I,a] [I] es.size (λi v=>bv[i]?=some v) (λi h=>It h I a (.int (sl i) 0) i es.size ep/\h.get? a=some o) where
 sub:=λb hb=>by simp at hb;simp[hb]
 frame:=λ_ _ _ st hk=>⟨st.1.at' λo e=>hk I (by simp) o e,hk a (by simp) _ st.2⟩
 item:=λi s Q E hi st hQ=>by
  have hv:bv[i]?=some (bv[i]'⋯):=X5 _;refine wk3 (nx:=sl (i+1)) (v:=bv[i]'⋯) st.1 ⟨o,es,t,st.2,hd,hf,rfl⟩ (λA' E' R hR=>hN i s A' E' R st.2 (Nat.le_of_lt hi) (by rw[hv];exact hR)) λh' mi im=>?_
  exact hQ _ h' s.toks hv ⟨mi,(im.extBut a o dj st.2)⟩ λb o hb e=>im.extBut b o (λh=>hb (by simp[h])) e
 done:=λs Q E st hQ=>by
  refine wwr hh st.1 ⟨o,es,t,st.2,hd,hf,rfl⟩ (λA' E' R hR=>hN es.size s A' E' R st.2 (Xa _) (by rw[Ym ⋯];exact hR)) λh' he=>?_
  exact hQ h' s.toks λb o hb e=>he b o (λh=>hb (by simp[h])) e
 self:=λ_ _ _ _ st hQ=>qk8 st.1 hQ
theorem vkf(hh:A.handled=none)(I a T:Addr)(dj:a≠I)(hneT:T≠I){o oT:Obj}{es:Array (Int×Value)}{ep k:Nat}{t:SetTable}(hd:o.data=.set es ep t)(hf:t.fits es.size=true){pl:List Nat}(hp:pl.Perm (List.range es.size))(nt:oT.data=.seq (pl.map λ(j:Nat)=>rawInt j).toArray k):
  Walks prog w A I [I,a,T] [I] es.size (λi v=>(pl.map λj=>(es.getD j (0,.none)).2)[i]?=some v) (λi h=>It h I a (.ref T) i es.size ep/\h.get? a=some o/\h.get? T=some oT) where
 sub:=λb hb=>by simp at hb;simp[hb]
 frame:=λ_ _ _ st hk=>⟨st.1.at' λo e=>hk I (by simp) o e,hk a (by simp) _ st.2.1,hk T (by simp) _ st.2.2⟩
 item:=λi s Q E hi st hQ=>by
  have ah:pl.length=es.size:=by rw[hp.length_eq,Y1]
  have hv:pl[i]?=some (pl[i]'⋯):=X5 _;have c9:pl[i]'⋯<es.size:=List.mem_range.mp (hp.mem_iff.mp (Y2 _));refine wk2 (p:=pl[i]'⋯) (v:=(es.getD (pl[i]'⋯) (0,.none)).2) st.1 ⟨o,es,t,st.2.1,hd,hf,rfl⟩ ⟨oT,k,st.2.2,nt⟩ hv (λA' E' R hR=>?_) λh' mi im=>?_
  ·unfold setNextDrawn;refine X0 (Yc st.2.1 hd hf ?_);dsimp only;rw[X9 (by simp),Xg c9];refine X1 ?_;rw[Yo,Xg c9]at hR;exact hR
  ·exact hQ _ h' s.toks (by rw[Xp,hv];rfl) ⟨mi,(im.extBut a o dj st.2.1),(im.extBut T oT hneT st.2.2)⟩ λb o hb e=>im.extBut b o (λh=>hb (by simp[h])) e
 done:=λs Q E st hQ=>by
  have ah:pl.length=es.size:=by rw[hp.length_eq,Y1]
  refine wwq hh st.1 ⟨o,es,t,st.2.1,hd,hf,rfl⟩ ⟨oT,k,st.2.2,nt⟩ (Ym ⋯) λh' he=>?_
  exact hQ h' s.toks λb o hb e=>he b o (λh=>hb (by simp[h])) e
 self:=λ_ _ _ _ st hQ=>qk8 st.1 hQ
theorem qqj(ku:tx w=true){a:Addr}{o:Obj}{es:Array (Int×Value)}{ep:Nat}{t:SetTable}(hd:o.data=.set es ep t)(hf:t.fits es.size=true):
  ∀(i:Nat) (s:Shared) (A':Around) (E':VP9) (R:Option (Value×Nat)->Shared->Prop),s.heap.get? a=some o->i<=es.size->R (((pickOrder (w.params.setOrder a ep) es).toList.map (·.2))[i]?.map λv=>(v,0)) s->wpAny (model prog w) A' (setNext a 0 i ep) R E' s:=by
 intro i s A' E' R ho hi hR;unfold setNext;refine X0 (Yc ho hd hf ?_);unfold setsByText;refine X0 (X0 (Zm (X1 ?_)));show wpAny _ _ (if tx w=true then _ else _) _ _ _;rw[X7 ku];rw[X9 (by simp)];unfold setWalk;refine X0 (X0 (Yc ho hd hf ?_));unfold setsByText;refine X0 (X0 (Zm (X1 ?_)));show wpAny _ _ (if tx w=true then _ else _) _ _ _;rw[X7 ku];refine X0 (Zm (X1 ?_));refine X1 ?_;rw[Xp,Xq,Option.map_map]at hR;exact hR
end
section
variable {prog:Program}{w:World}{A:Around}{E:VP9}{s:Shared}
theorem qvp{t:SetTable}{n:Nat}(h:t.fits n=true):t.place.size=n:=by
 simp only[SetTable.fits,Bool.and_eq_true,beq_iff_eq]at h;exact h.1
theorem qjt{es:Array (Int×Value)}{pl:List Nat}(hp:pl.Perm (List.range es.size)):(pl.map λj=>(es.getD j (0,.none)).2).Perm (es.toList.map (·.2)):=by
 refine(hp.map _).trans (.of_eq ?_);apply List.ext_getElem
 ·simp
 ·intro i h1 h2;simp at h1;simp[Yo,h1]
end
section
variable {prog:Program}{w:World}{A:Around}{E:VP9}{s:Shared}
theorem vvn{a:Addr}{Q:Bool->Shared->Prop}(hT:s.TypeIs (.ref a) "set")(h:Q false s):wpAny (model prog w) A (Builtin.List.listLengthHint (.ref a)) Q E s:=by
 unfold Builtin.List.listLengthHint;refine X0 (Z0 hT F.slot_set_len.lookup ?_);generalize kt:("set.__len__":String)=id0
 wp_delta
 rw[show splitId id0=some ("set","__len__")from by subst kt;decide +kernel];subst kt;refine X0 (wpAny_isInstance (T:="set") (b:=true) hT sub_set_self ?_);refine wpAny_ite_split (λip=>absurd ip ⋯) (λ_=>?_);refine wpAny_ite_split (λ_=>?_) (λip=>absurd (by decide +kernel) ip);refine X0 (Z8 hT ?_);exact X1 h
end
end Sw
namespace Q
open PySem PySem.Spec PyProof.Rows L2 L3 Sw
section
variable {X:Cx}{Z:Fx0}{K:Frag}{q:Bool}{a:Ex}{e ea:Expr}{σ:L2.St}{H:Hp}{pos p p2 b6:Pos}{x y:Str}{pins:LA9}{s:Shared}
theorem Inv.dr{d:Drawn}(I:L2.Inv X pins σ H s):L2.Inv X pins σ H { s with drawn:=d }:=⟨I.ok,I.os,I.bare,I.base,I.loc,I.cell,I.free,I.freeC,I.pin,I.hok,I.len⟩
noncomputable def SetR(X:Cx)(f:Value)(r:List Str->Hp->VK->Prop):Prop:=
 ∀(pins:LA9) (s:Shared) (σ:L2.St) (H:Hp) (b:Addr) (ls:List Str) (Q:VK),L2.Inv X pins σ H s->Has X.prog X.w s.heap b ls->r ls H Q->wpAny (model X.prog X.w) X.A (call f [.ref b]) (EP X pins σ Q) X.xe s
theorem vkt:SetR X (.builtin "len") (λls H Q=>Q (.int ls.length) H):=by
 intro pins s σ H b ls Q I hS h;obtain⟨o,es,ep,t,ho,hk,hp⟩:=hS;have hsz:es.size=ls.length:=by rw[<-hp.length_eq];unfold KY;rw[X3,X4]
 refine call_len_set ho hk.ex hk.d hk.f (by have:=hk.b;unfold scanBound at this;lia) ?_;refine⟨.int ls.length,H,?_,by rw[hsz];exact⟨_,rfl⟩,h⟩;exact I.kept (h':=s.heap) λb u q=>q
end
section
variable {X:Cx}{Z:Fx0}{K:Frag}{q:Bool}{a:Ex}{e ea:Expr}{σ:L2.St}{H:Hp}{pos p p2 b6:Pos}{x y:Str}{pins:LA9}{s:Shared}
theorem wk9(ns:List Int):∀i,i<=ns.length->firstMet (λi=>ns.getD i 0) i=(ns.take i).foldl step_dedup []
 |0,_=>rfl
 |i+1,h=>by
  rw[firstMet_succ,wk9 ns i (Nat.le_of_succ_le h),List.take_succ,Zh,Yx,X5 h];rfl
def rLS(K:Frag):List V->Hp->VK->Prop:=λxs H Q=>
 (∃p ss,xs=[.ref p]/\SqL K H p (ss.map V.str)/\ss.length<4000/\Q (.int (ddS ss).length) H)\/∃p ns,xs=[.ref p]/\SqL K H p (ns.map V.int)/\ns.length<4000/\Q (.int (ddI ns).length) H
theorem qq8{t:TE}(hc:X.calm=true)(hg:Gl X "len")(hm:X.mg "len"=none)(jy:Gl X "set")(ml:X.mg "set"=none)(ha:PE X e t)(he:autoParam (starEach [e] X.env=(false,eval e X.env)::starEach [] X.env) Ŕ):
  PE X (.Call (.Name "len" p) [.Call (.Name "set" p2) [e] [] b6] [] pos) (fun σ H Q=>t σ H λv H1=>rLS X.K [v] H1 Q):=by
 intro pins s σ H Q I h;refine Yj (xQ I hg hm (u:=.builtin "len") rfl ?_ ⋯ ⋯);refine PyProof.Rows.callWith_builtin1 ?_ rfl rfl;show wpAny _ _ (spliced ((false,eval (.Call (.Name "set" p2) [e] [] b6) X.env)::[])) _ _ s;refine Calls.spliced_cons ?_;refine Yj (xQ I jy ml (u:=.type "set") rfl ?_ ⋯ ⋯);refine Y0 (thn (qq ha v3 he b6 pins s σ H (λvs H1=>rLS X.K vs H1 Q) I ?_) λus s1 ⟨vs,H1,I1,r1,q1⟩=>?_) he rfl
 ·exact h
 rcases q1 with⟨b,ss,rfl,hq,hl,q⟩|⟨b,ss,rfl,hq,hl,q⟩
 ·obtain⟨u,rfl,rx⟩:=wY r1;cases rx;obtain⟨ac,r',pl,hz⟩:=I1.list hq;have ah:=r'.length;rw[X3]at ah hz;refine qzu (I1.ok.hd hc) pl.isList (by simpa using kj4 r') (by simp;unfold scanBound;lia) λh' tk hS cw=>?_
  have I2:L2.Inv X pins σ H1 { s1 with heap:=h',toks:=tk }:=I1.kept λb u q=>cw b u (Xd q) q
  exact Calls.spliced_nil (vkt pins _ σ H1 _ (dd ss) Q I2 hS q)
 ·obtain⟨u,rfl,rx⟩:=wY r1;cases rx;obtain⟨ac,r',pl,hz⟩:=I1.list hq;have ah:=r'.length;rw[X3]at ah hz;refine PySem.call_set_list (ns:=ss) (I1.ok.hd hc) pl.isList (by simpa using kjg r') (by simp;unfold scanBound;lia) λh' tk hS cw=>?_
  have I2:L2.Inv X pins σ H1 { s1 with heap:=h',toks:=tk }:=I1.kept λb u q=>cw b u (Xd q) q
  obtain⟨o,es,ep,t,ho,hex,hd,oq,hmem,hb,hf,hn⟩:=hS;have qh:es.size=(ddI ss).length:=by
   rw[hn,show ac.toArray.size=ss.length by simp;lia,wk9 ss _ (Xa _),List.take_length];rfl
  refine Calls.spliced_nil (call_len_set ho hex hd hf (by unfold scanBound at hb;lia) ?_);refine⟨.int (ddI ss).length,H1,?_,by rw[qh];exact⟨_,rfl⟩,q⟩;exact I2.kept (h':=h') λb u q=>q
theorem qww:Ad1 K (λv H Q=>rLS K [v] H Q) (pu1 QJ):=by
 intro H x s Q ok hf k;unfold pu1 QJ at hf;dsimp only at hf;cases hx:x.d with
 | lst ds=>
  rw [hx]at hf;dsimp only at hf;obtain⟨l,xs,bs,ev,q3,r3,_⟩:=items ok (.inl hx);have q3:LsR K H l xs:=by rcases q3 with⟨_,z⟩|⟨z,_⟩;exact z;rw[hx]at z;cases z
  cases hs:wQ ds with
  | some ss=>
   rw[hs]at hf;dsimp only at hf
   split at hf
   ·rename_i hl;cases oq9 hf;obtain⟨e1,e2⟩:=jxm hs r3;subst e1;exact .inl ⟨l,ss,by rw[ev],wJ q3,hl,k ⟨.dp,.int _,.int _,[]⟩ H rfl rfl K8⟩
   ·cases hf
  | none=>
   rw[hs]at hf;dsimp only at hf;cases hi:zw ds with
   | none=>rw[hi]at hf;cases hf
   | some ss=>
    rw[hi]at hf;dsimp only at hf
    split at hf
    ·rename_i hl;cases oq9 hf;have e1:=kki hi r3;subst e1;exact .inr ⟨l,ss,by rw[ev],wJ q3,hl,k ⟨.dp,.int _,.int _,[]⟩ H rfl rfl K8⟩
    ·cases hf
 |_=>rw[hx]at hf;cases hf
theorem qxt(hK:X.K=Z.K)(hc:X.calm=true)(ha:QV X Z q a ea)(hm:X.mg "len"=none)(ml:X.mg "set"=none)(hg:autoParam (Gl X "len") Ŕ)(jy:autoParam (Gl X "set") Ŕ)(he:autoParam (starEach [ea] X.env=(false,eval ea X.env)::starEach [] X.env) Ŕ):
  QE X Z q (cF1 (pu1 QJ) a) (.Call (.Name "len" p) [.Call (.Name "set" p2) [ea] [] b6] [] pos):=
 kz (qq8 hc hg hm jy ml ha (he:=he)) fun σ H Q h=>by
  have:=K0 (r:=λv H Q=>rLS Z.K [v] H Q) qww h;rw[hK];exact this
end
end Q
namespace Q
open PySem
def Q9(i:Nat)(c:Ex):Sm:=λE=>if Kv E[i]? then ofE (c E) λE x=>match E[i]?,x.2 with
 |some (some (o,.lst xs)),.lst ys=>if o=.no\/x.1=.no\/¬xs.length+ys.length<big then none else some (.nx (E.set i (some (.rt,.lst (xs++ys)))))|_,_=>none
 else none
end Q
namespace Q
open PySem PySem.Spec PyProof.Rows L2 L3
section
variable {X:Cx}{Z:Fx0}{K:Frag}{q:Bool}{a:Ex}{e:Expr}{p2 pos:Pos}
variable {pn:List Nat}{c:Ex}
theorem vz1 {i:Nat} {o:Expr} {aw am:Pos} (hb:PE X (.Call (.Attribute o "extend" aw) [e] [] am) (tBM Z.K "list" qkp (Jx i) (vkl (tQ Z q c) wv2))) (hs:autoParam (swapsWith (.Call (.Attribute o "extend" aw) [e] [] am) none pos.line X.env=pure false) Ŕ):
  QS X Z pn (Q9 i c) (.Expr (.Call (.Attribute o "extend" aw) [e] [] am) pos):=zK (qq3 hb hs) λD' σ H au=>ex7 au λE L r m w hc k=>by
 unfold Q9 at hc;cases h0:E[i]? with
 | none=>rw[h0]at hc;cases hc
 | some s0=>
  cases s0 with
  | none=>rw[h0]at hc;cases hc
  | some s0=>
   obtain ⟨o0,d0⟩:=s0;cases d0 with
   | lst ds0=>
    rw [h0,X7 (show Kv (some (some (o0,D.lst ds0)))=true from rfl)]at hc;obtain⟨x0,a1,a2,a3,a4⟩:=m.get h0;refine⟨x0.v,a4,vjp (w.ok x0 (vZ a1)) a3,?_⟩;refine KZ m w hc k λE1 s h1 x L1 H1 e1 e2 m1 w1 st _=>?_
    cases hE:E1[i]? with
    | none=>rw[hE]at h1;cases h1
    | some s1=>
     cases s1 with
     | none=>rw[hE]at h1;cases h1
     | some s1=>
      obtain⟨oo,dd⟩:=s1;rw [hE]at h1;cases dd with
      | lst ds=>
       obtain⟨so,sd⟩:=s;cases sd with
       | lst ys=>
        dsimp only at h1
        by_cases fy:oo=.no\/so=.no\/¬ds.length+ys.length<big
        ·rw[X7 fy]at h1;cases h1
        ·rw[X9 fy]at h1;cases oq9 h1;have ni:oo≠.no:=λz=>fy (.inl z)
         have qh:so≠.no:=λz=>fy (.inr (.inl z))
         have hn3:ds.length+ys.length<big:=Decidable.byContradiction λz=>fy (.inr (.inr z))
         obtain⟨y,b1,b2,b3,b4⟩:=m1.get hE;have hv:y.v=x0.v:=by rw[a4]at b4;exact(oq9 (oq9 b4)).symm
         obtain⟨l,xs,bs,c1,c2,c3,c4,c5⟩:=kk7 (w1.ok y (lc9 _ (vZ b1))) b3 (by rw[b2];exact ni);have okx:=w1.head;obtain⟨l2,zs,bs2,g1,g2,g3,g4,g5⟩:=kk7 okx e2 (by rw[e1];exact qh);have ex0:x0.v=.ref l:=hv▸c1;rw[ex0];have wT:World Z.K H1 ([some x]++L1):=w1;have oT:j6 [some x]=x.own:=by simp
         have fT:jz [some x]=x.frz:=by simp
         have wk:∀{b:Bool} {ds:List D} {xs:List V} {bs:List Addr},RepA Z.K H1 b ds xs bs->RepA Z.K H1 true ds xs bs:=fun {b} {ds} {xs} {bs} h=>by
          cases b with|true=>exact h|false=>exact h.wk
         have re:=RepA.app (wk g5) (wk c5);refine⟨l,l2,xs,zs,rfl,by rw[g1],c2,g2,?_,?_⟩
         ·have:=(wk c5).len;have:=(wk g5).len;have hb:big=sizeLine:=rfl;omega
         obtain⟨w3,s3⟩:=kk2 (o':=.rt) (ds':=ds++ys) (xs':=xs++zs) wT b1 c2 c3 c4 c1 re (.inl ⟨rfl,λa ha=>(aA ha).imp id λz=>by rw[oT,fT];exact Sl.as_of (by rw[g3];exact lc9 _ z)⟩);refine k σ _ _ Pn.refl ?_ w3 (st.trans s3);have:=m1.set (x:=⟨.rt,.lst (ds++ys),y.v,l::(bs++bs2)⟩) i;rw[V9 b4]at this;exact this
       |_=>cases h1
      |_=>obtain⟨so,sd⟩:=s;cases sd<;>cases h1
   |_=>rw[h0]at hc;cases hc
theorem vz2{i:Nat}{x:Str}{aw am xp:Pos}(h:QE X Z q c e)(hN:autoParam (X.N[i]?=some x) Ŕ)(hv:autoParam (Vis X.env.scope x) ř)(hd:autoParam ((x==("__debug__":Str))=false) ŕ)
  (gc:autoParam ((x==("__classdict__":Str))=false) ŕ) (bh:autoParam (attributeBase (.Name x xp) "extend" X.env (eval (.Name x xp) X.env)=eval (.Name x xp) X.env) Ŕ)
  (dg:autoParam (((backTo am (starEach [e] X.env)).all (λx=>!x.1)&&(backToKw am (keywordEach [] X.env)).all (λx=>x.1.isSome)
   && decide ([e].length+([]:List Keyword).length+(if([]:List Keyword).isEmpty then 0 else 1)<30))=true) Ŕ)
  (be:autoParam ((aw.endLine==am.line)=true) Ŕ) (hs:autoParam (starEach [e] X.env=(false,eval e X.env)::starEach [] X.env) Ŕ) (bg:autoParam ((backTo am (starEach [] X.env)).any (·.1)=false) Ŕ) (hK:autoParam (X.K=Z.K) Ŕ)
  (kl:autoParam (swapsWith (.Call (.Attribute (.Name x xp) "extend" aw) [e] [] am) none pos.line X.env=pure false) Ŕ):
  QS X Z pn (Q9 i c) (.Expr (.Call (.Attribute (.Name x xp) "extend" aw) [e] [] am) pos):=vz1 (vjk Z.K PySem.F.plainAttrs_list PySem.F.slot_list_extend PySem.F.type_list_extend qql (pv i hN hv hd gc) (qq h v3 hs) bh dg be hs bg hK) kl
end
end Q
namespace Q
open PySem
def XY:D->D->Option D:=λy x=>match y with
 |.dct aa=>if wv x=true/\unm aa=true/\D.pures (aa.map (·.2))=true then Jv aa x else none|_=>none
def wqh(a b:Ex):Ex:=λE=>bnd (a E) λE x=>bnd (b E) λE y=>val E ((XY x.2 y.2).map λd=>(.dp,d))
end Q
namespace Q
open PySem PySem.Spec PyProof.Rows L2 L3
abbrev vwz(K:Frag)(td ty:TE):TE:=fun σ H Q=>td σ H λx H1=>ty σ H1 λy H2=>∃(a b:Addr) (k:Kd) (es:List Ent) (ep:Nat) (v:V) (p:Addr×Value),x=.ref a/\y=.ref b/\H2 a=some (Q1 a es ep)/\(es.map (·.1)).Nodup/\(∀x∈es,PuR K H2 x.1.1 (.ref x.2.1))/\PuR K H2 k.1 (.ref b)/\atKey es k=some p/\RelV v p.2/\Q v H2
section
variable {X:Cx}{Z:Fx0}{q qa:Bool}{a b:Ex}{td ty:TE}{o i ea eb:Expr}{pos:Pos}
theorem qz1(hu:X.A.units+64<cLine)(ho:PE X o td)(hi:PE X i ty)(hs:W4 i):PE X (.Subscript o i pos) (vwz X.K td ty):=by
 intro pins s σ H Q I h;refine qk0 PySem.F.slot_dict_getitem.lookup hs (thn (ho pins s σ H _ I h) λu s1 ⟨x,H1,I1,rx,q1⟩=>thn (hi pins s1 σ H1 _ I1 q1) λiv s2 ⟨y,H2,I2,ry,a,b,k,es,ep,v,p,ex,ey,d,hn,hks,hk,hp,rv,q2⟩=>?_);subst ex ey;obtain rfl:u=Value.ref a:=rx;obtain rfl:iv=Value.ref b:=ry;have dd:=vjx I2 d hn hks;exact⟨dd.typeIs,wpAny_getItem_heap (qkc hu) (Vz I2 hk rfl) dd hp ⟨v,H2,I2.tok _,rv,q2⟩⟩
theorem wvn(hu:X.A.units+64<cLine)(ha:QV X Z qa a ea)(hb:QV X Z true b eb)(hs:W4 eb)(hK:autoParam (X.K=Z.K) Ŕ):QV X Z qa (wqh a b) (.Subscript ea eb pos):=
 kz (hK▸qz1 hu ha hb hs) fun σ H Q au=>ex8 au λE L r m w hc xc k=>by
  refine kZ m w (show bnd (a E) _=some r from hc) xc λE1 s h1 x L1 H1 e1 e2 m1 w1 ok fr sr st sm=>?_
  refine kZ m1 w1 h1 (xc.step st) λE2 s2 h2 y L2 H2 e3 e4 m2 w2 kg om nv bn fb=>?_
  obtain⟨z,hz0,rfl⟩:=xK h2;have kx:=Kk ok fr bn (fb rfl);obtain⟨d,hz,rfl⟩:=Option.map_eq_some_iff.mp hz0;unfold XY at hz;cases hy:s.2 with
  | dct aa=>
   rw[hy]at hz;dsimp only at hz
   by_cases hc:wv s2.2=true/\unm aa=true/\D.pures (aa.map (·.2))=true
   ·rw[X7 hc]at hz;obtain⟨b,eb,pb⟩:=kjd kg (by rw[e4];exact hc.1);have nq:j7 6 y.d=true:=by
     have:wv y.d=true:=by rw[e4];exact hc.1
     unfold wv at this;rw[Bool.and_eq_true]at this;exact this.1
    have h:=RepO.wk kx.1;rw[e2,hy]at h;unfold RepL at h;obtain⟨l,xs,bs,e,rp,dc,_⟩:=h;obtain⟨es,ep,d1,d2,d3,d4,d5,d6,d7⟩:=DcA.un dc hc.2.1;obtain⟨g1,g2⟩:=qvk (k:=⟨y.d,nq⟩) rp d5 d7 hc.2.2;have hyk:(⟨y.d,nq⟩:Kd).1=s2.2:=e4;cases lq:atKey es ⟨y.d,nq⟩with
    |none=>
     have:=g2 lq;rw[hyk,hz]at this;cases this
    |some p=>
     obtain⟨d',v',q1,q2,q3,q4⟩:=g1 p lq;rw[hyk,hz]at q1;cases oq9 q1;exact⟨l,b,⟨y.d,nq⟩,es,ep,v',p,e,eb,d1,d4,d6,pb,lq,q2,k _ _ rfl ⟨.dp,d,v',[]⟩ L2 H2 rfl rfl m2 w2 q3 (λ_ hb=>nomatch hb) (λ_ hb=>nomatch hb) (st.trans bn) λhq=>k4 (sm hq) (fb rfl)⟩
   ·rw[X9 hc]at hz;cases hz
  |_=>rw[hy]at hz;cases hz
end
@[irreducible] noncomputable def ShE (X:Cx) (Z:Fx0) (q:Bool) (c:Ex) (e:Expr):Prop:=QE X Z q c e
@[irreducible] noncomputable def ShA (X:Cx) (Z:Fx0) (q:Bool) (cs:List Ex) (es:List Expr):Prop:=QA X Z q cs es
@[irreducible] noncomputable def ShS (X:Cx) (Z:Fx0) (pn:List Nat) (c:Sm) (st:Stmt):Prop:=QS X Z pn c st
@[irreducible] noncomputable def ShB (X:Cx) (Z:Fx0) (pn:List Nat) (c:Sm) (ss:List Stmt):Prop:=QSs X Z pn c ss
end Q
namespace Q
open PySem
def Qx:D->Option D:=λx=>match z7 x with
 |some kv=>some (.int kv.length)|none=>none
end Q
namespace Srt
open PySem PySem.W PyProof.Rows
def Ev(key:Nat->Int)(n:Nat){α:Type}:KasT α->α->Prop
 |.ret a,b=>a=b|.ask i j k,b=>i<n/\j<n/\Ev key n (k (decide (key i<key j))) b
theorem JW{key:Nat->Int}{n:Nat}{α β:Type}{f:α->KasT β}{a:α}{b:β}:∀{t:KasT α},Ev key n t a->Ev key n (f a) b->Ev key n (t.bind f) b
 |.ret _,h,g=>by
  have h:_=a:=h;subst h;exact g
 |.ask _ _ _,h,g=>⟨h.1,h.2.1,JW h.2.2 g⟩
section
variable {key:Nat->Int}{n:Nat}
structure Ok (n:Nat)(p:Array Nat):Prop where
 sz:p.size=n
 pm:p.toList.Perm (List.range n)
def K(key:Nat->Int)(p:Array Nat)(k:Nat):Int:=key (p.getD k 0)
def Asc(key:Nat->Int)(p:Array Nat)(m:Nat):Prop:=∀k,k+1<m->K key p k<K key p (k+1)
def wx9(key:Nat->Int)(p:Array Nat)(m:Nat):Prop:=∀k,k+1<m->K key p (k+1)<K key p k
theorem Ok.at{p:Array Nat}(h:Ok n p){k:Nat}(hk:k<n):p[k]?=some (p.getD k 0)/\p.getD k 0<n:=by
 have hs:=h.sz;have e:p[k]?=some (p.getD k 0):=by
  rw[Yo,Xg ⋯];rfl
 refine⟨e,?_⟩;have hm:p.getD k 0∈p.toList:=Array.mem_toList_iff.mpr (Array.mem_of_getElem? e);exact List.mem_range.mp (h.pm.mem_iff.mp hm)
theorem Ok.ne{p:Array Nat}(h:Ok n p){i j:Nat}(hi:i<j)(hj:j<n):p.getD i 0≠p.getD j 0:=by
 have dy:p.toList.Nodup:=h.pm.nodup_iff.mpr List.nodup_range;have hs:p.toList.length=n:=by rw[X4];exact h.sz
 intro e;have e1:p.toList[i]?=some (p.getD i 0):=by rw[Xq];exact(h.at ⋯).1
 have e2:p.toList[j]?=some (p.getD j 0):=by rw[Xq];exact(h.at hj).1
 rw[e,<-e2]at e1;have:=(List.getElem?_inj ⋯ dy).mp e1;lia
variable (cz:∀i j,i<n->j<n->key i=key j->i=j)
include cz
theorem Ok.kne{p:Array Nat}(h:Ok n p){i j:Nat}(hi:i<n)(hj:j<n)(lc:i≠j):K key p i≠K key p j:=λe=>by
 have:=cz _ _ (h.at hi).2 (h.at hj).2 e;rcases Nat.lt_or_gt_of_ne lc with g|g
 ·exact h.ne g hj this
 ·exact h.ne g hi this.symm
theorem qwo{p:Array Nat}(h:Ok n p):∀(f m:Nat),1<=m->m+f<=n->Asc key p m->∃m',Ev key n (kas_asc p f m) m'/\m<=m'/\m'<=m+f/\Asc key p m'/\(m'<m+f->K key p m'<K key p (m' - 1))
 | 0,m,h1,h2,ha=>⟨m,rfl,Xa _,Xa _,ha,λh=>absurd h ⋯⟩
 | f + 1,m,h1,h2,ha=>by
  have a1:=h.at (k:=m) ⋯;have a2:=h.at (k:=m - 1) ⋯
  by_cases hc:key (p.getD m 0)<key (p.getD (m - 1) 0)
  ·refine⟨m,⟨a1.2,a2.2,?_⟩,Xa _,⋯,ha,λ_=>hc⟩;rw[Xe hc];rfl
  ·obtain⟨m',e1,e2,e3,e4,e5⟩:=qwo h f (m+1) ⋯ ⋯ (λk hk=>by
    by_cases hkm:k+1<m
    ·exact ha k hkm
    ·have e:k=m - 1:=⋯
     subst e;have e':m - 1+1=m:=⋯
     rw[e'];have:=h.kne cz (i:=m - 1) (j:=m) ⋯ ⋯ ⋯;have hc:¬K key p m<K key p (m - 1):=hc;lia)
   refine⟨m',⟨a1.2,a2.2,?_⟩,⋯,⋯,e4,λh=>e5 ⋯⟩;rw[Xl hc];exact e1
theorem qvy{p:Array Nat}(h:Ok n p):∀(f m:Nat),1<=m->m+f<=n->wx9 key p m->∃m',Ev key n (kas_desc f p m 0) (p,m',0)/\m<=m'/\m'<=m+f/\wx9 key p m'
 | 0,m,h1,h2,ha=>⟨m,rfl,Xa _,Xa _,ha⟩
 | f + 1,m,h1,h2,ha=>by
  have a1:=h.at (k:=m) ⋯;have a2:=h.at (k:=m - 1) ⋯
  by_cases hc:key (p.getD m 0)<key (p.getD (m - 1) 0)
  ·obtain⟨m',e1,e2,e3,e4⟩:=qvy h f (m+1) ⋯ ⋯ (λk hk=>by
    by_cases hkm:k+1<m
    ·exact ha k hkm
    ·have e:k=m - 1:=⋯
     subst e;have e':m - 1+1=m:=⋯
     rw[e'];exact hc)
   refine⟨m',⟨a1.2,a2.2,?_⟩,⋯,⋯,e4⟩;rw[Xe hc];exact e1
  ·refine⟨m,⟨a1.2,a2.2,?_⟩,Xa _,⋯,ha⟩;have:=h.kne cz (i:=m - 1) (j:=m) ⋯ ⋯ ⋯;have hd:key (p.getD (m - 1) 0)<key (p.getD m 0):=by
    have h1:K key p (m - 1)≠K key p m:=this;unfold K at h1;lia
   rw[Xl hc];refine⟨a2.2,a1.2,?_⟩;rw[Xe hd];rfl
omit cz in
theorem Asc.lt{p:Array Nat}{m:Nat}(h:Asc key p m):∀{i j:Nat},i<j->j<m->K key p i<K key p j
 | i,j+1,lc,hj=>by
  by_cases e:i=j
  ·subst e;exact h i hj
  ·have:=Asc.lt h (i:=i) (j:=j) ⋯ ⋯;have:=h j hj;lia
theorem kk5{p:Array Nat}(h:Ok n p){k:Nat}(hk:k<n)(ha:Asc key p k):∀(f l r:Nat),l<=r->r<=k->r - l<=f->(∀i,i<l->K key p i<K key p k)->(∀i,r<=i->i<k->K key p k<K key p i) ->
  ∃ l',Ev key n (kas_place p k f l r) l'/\l'<=k/\(∀i,i<l'->K key p i<K key p k)/\∀i,l'<=i->i<k->K key p k<K key p i
 | 0,l,r,h1,h2,h3,h4,h5=>⟨l,rfl,⋯,h4,λi hi=>h5 i ⋯⟩
 | f + 1,l,r,h1,h2,h3,h4,h5=>by
  by_cases hlr:l>=r
  ·refine⟨l,?_,⋯,h4,λi hi=>h5 i ⋯⟩;unfold kas_place;rw [X7 hlr];rfl
  ·have a1:=h.at hk;have a2:=h.at (k:=(l+r) / 2) ⋯
   by_cases hc:key (p.getD k 0)<key (p.getD ((l+r) / 2) 0)
   ·obtain⟨l',e1,e2,e3,e4⟩:=kk5 h hk ha f l ((l+r) / 2) ⋯ ⋯ ⋯ h4 (λi hi hik=>by
     have hc:K key p k<K key p ((l+r) / 2):=hc
     by_cases e:i=(l+r) / 2
     ·rw[e];exact hc
     ·have:=ha.lt (i:=(l+r) / 2) (j:=i) ⋯ hik;lia)
    refine⟨l',?_,e2,e3,e4⟩;unfold kas_place;rw[X9 hlr];refine⟨a1.2,a2.2,?_⟩;rw[Xe hc];exact e1
   ·obtain⟨l',e1,e2,e3,e4⟩:=kk5 h hk ha f ((l+r) / 2+1) r ⋯ ⋯ ⋯ (λi hi=>by
     have hn:=h.kne cz (i:=(l+r) / 2) (j:=k) ⋯ hk ⋯;have hc:¬K key p k<K key p ((l+r) / 2):=hc
     by_cases e:i=(l+r) / 2
     ·rw[e];lia
     ·have:=ha.lt (i:=i) (j:=(l+r) / 2) ⋯ ⋯;lia) h5
    refine⟨l',?_,e2,e3,e4⟩;unfold kas_place;rw[X9 hlr];refine⟨a1.2,a2.2,?_⟩;rw[Xl hc];exact e1
omit cz in
theorem Ok.bubble{p:Array Nat}(h:Ok n p)(k d:Nat):Ok n (bubble p k d):=⟨by rw[bubble_size];exact h.sz,((bubble_perm p k d).toList).trans h.pm⟩
omit cz in
theorem Ok.mirror{p:Array Nat}(h:Ok n p)(i j d:Nat):Ok n (mirror p i j d):=⟨by rw[mirror_size];exact h.sz,((mirror_perm p i j d).toList).trans h.pm⟩
omit cz in
theorem W8{p q:Array Nat}{i j:Nat}(h:p[i]?=q[j]?):K key p i=K key q j:=by
 unfold K;rw[Yo,Yo,h]
theorem vk7:∀(f:Nat) {p:Array Nat} (k:Nat),Ok n p->1<=k->k+f=n->Asc key p k->∃p',Ev key n (kas_bin f p k) p'/\Ok n p'/\Asc key p' n
 | 0,p,k,h,h1,h2,ha=>⟨p,rfl,h,by rw[<-h2];exact ha⟩
 | f + 1,p,k,h,h1,h2,ha=>by
  obtain⟨l,e1,e2,e3,e4⟩:=kk5 cz h (k:=k) ⋯ ha k 0 k ⋯ ⋯ ⋯ (λi hi=>absurd hi ⋯) (λi hi hk=>absurd hi ⋯);have hb:=λi=>getElem?_bubble (xs:=p) (src:=k) (by rw[h.sz];lia) (k - l) ⋯ i
  have ek:k - (k - l)=l:=⋯
  rw [ek]at hb;obtain⟨p',g1,g2,g3⟩:=vk7 f (k+1) (h.bubble k (k - l)) ⋯ ⋯ (λi hi=>by
   have q:∀i,K key (PyProof.Rows.bubble p k (k - l)) i=if i=l then K key p k else if l<i/\i<=k then K key p (i - 1)else K key p i:=λi=>by
    have:=hb i
    by_cases c1:i=l
    ·rw[X7 c1]at this ⊢;exact W8 this
    ·rw[X9 c1]at this ⊢
     by_cases c2:l<i/\i<=k
     ·rw[X7 c2]at this ⊢;exact W8 this
     ·rw[X9 c2]at this ⊢;exact W8 this
   rw [q i,q (i+1)]
   by_cases c1:i+1<l
   ·rw[X9 ⋯,X9 ⋯,X9 ⋯,X9 ⋯];exact ha i ⋯
   ·by_cases c2:i+1=l
    ·rw[X9 ⋯,X9 ⋯,X7 c2];exact e3 i ⋯
    ·by_cases c3:i=l
     ·rw[X7 c3,X9 ⋯,X7 ⋯];exact e4 _ ⋯ ⋯
     ·rw[X9 c3,X7 ⋯,X9 ⋯,X7 ⋯];exact ha.lt ⋯ ⋯)
  exact⟨p',JW e1 g1,g2,g3⟩
theorem vko(h2:2<=n):∃p,Ev key n (kas_sort n) p/\Ok n p/\Asc key p n:=by
 have h0:Ok n (List.range n).toArray:=⟨by simp,by simp⟩;have cnt:∃m p,Ev key n (kas_count n (List.range n).toArray) (m,p)/\1<=m/\m<=n/\Ok n p/\Asc key p m:=by
  obtain⟨m,e1,e2,e3,e4,e5⟩:=qwo cz h0 (n - 1) 1 ⋯ ⋯ (λk hk=>absurd hk ⋯)
  by_cases hm:m=n
  ·refine⟨m,_,JW e1 ?_,e2,⋯,h0,e4⟩;rw [X7 (by rw[hm];simp)];rfl
  ·have i7:¬(m==n)=true:=by simpa using hm
   by_cases h1:m>1
   ·refine⟨m,_,JW e1 ?_,e2,⋯,h0,e4⟩;rw[X9 i7,X7 h1];refine⟨(h0.at ⋯).2,(h0.at ⋯).2,?_⟩;have:key ((List.range n).toArray.getD 0 0)<key ((List.range n).toArray.getD (m - 1) 0):=e4.lt (i:=0) (j:=m - 1) ⋯ ⋯;rw[Xe this];rfl
   ·have e:m=1:=⋯
    subst e;have hd:wx9 key (List.range n).toArray 2:=λk hk=>by
     have:k=0:=⋯
     subst this;exact e5 ⋯
    obtain⟨q,g1,g2,g3,g4⟩:=qvy cz h0 (n - 2) 2 ⋯ ⋯ hd;have hr:=λk=>getElem?_mirror_all (xs:=(List.range n).toArray) (i:=0) (j:=q) (by rw[h0.sz];lia) k
    have hq:Asc key (kas_rev (List.range n).toArray 0 q) q:=λk hk=>by
     have a1:K key (kas_rev (List.range n).toArray 0 q) k=K key (List.range n).toArray (q - 1 - k):=W8 (by
      have:=hr k;rw[X7 ⋯]at this;show _=(List.range n).toArray[q - 1 - k]?;rw[show q - 1 - k=0+q - 1 - k by lia];exact this)
     have a2:K key (kas_rev (List.range n).toArray 0 q) (k+1)=K key (List.range n).toArray (q - 1 - (k+1)):=W8 (by
      have:=hr (k+1);rw[X7 ⋯]at this;show _=(List.range n).toArray[q - 1 - (k+1)]?;rw[show q - 1 - (k+1)=0+q - 1 - (k+1)by lia];exact this)
     rw[a1,a2,show q - 1 - k=q - 1 - (k+1)+1 by lia];exact g4 _ ⋯
    obtain⟨m',f1,f2,f3,f4,_⟩:=qwo cz (h0.mirror 0 q ((q - 0) / 2)) (n - q) q ⋯ ⋯ hq;refine⟨m',kas_rev (List.range n).toArray 0 q,JW e1 ?_,⋯,⋯,h0.mirror 0 q ((q - 0) / 2),f4⟩;rw[X9 i7,X9 h1];refine JW (a:=((List.range n).toArray,q,0)) (by rw[show n - (1+1)=n - 2 from rfl];exact g1) ?_;rw[X9 (show ¬(0:Nat)>0 by decide)];exact JW f1 rfl
 obtain⟨m,p,e1,e2,e3,e4,e5⟩:=cnt
 by_cases hm:m<n
 ·obtain⟨p',g1,g2,g3⟩:=vk7 cz (n - m) m e4 e2 ⋯ e5;refine⟨p',JW e1 ?_,g2,g3⟩;have:max m 1=m:=⋯
  show Ev key n (if m<n then kas_bin (n - max m 1) p (max m 1)else .ret p) p';rw[X7 hm,this];exact g1
 ·refine⟨p,JW e1 ?_,e4,by rw[show n=m by lia];exact e5⟩;show Ev key n (if m<n then kas_bin (n - max m 1) p (max m 1)else .ret p) p;rw[X9 hm];rfl
end
theorem wkj{key:Nat->Int}{n:Nat}{α:Type}{cmp:Nat->Nat->(Bool->Shared->Prop)->Shared->Prop}{Q:α->Shared->Prop}{a:α}{s:Shared}(hc:∀i j C,i<n->j<n->C (decide (key i<key j)) s->cmp i j C s):
  ∀{t:KasT α},Ev key n t a->Q a s->KasT.kasWp cmp t Q s
 |.ret _,h,g=>by
  have h:_=a:=h;subst h;exact g
 |.ask _ _ _,h,g=>hc _ _ _ h.1 h.2.1 (wkj hc h.2.2 g)
end Srt
namespace Q
open PySem PySem.Spec PyProof.Rows L2 L3
inductive F2 {α β:Type}(R:α->β->Prop):List α->List β->Prop
 |nil:F2 R [] []
 |cons {a:α} {b:β} {l:List α} {m:List β}:R a b->F2 R l m->F2 R (a::l) (b::m)
end Q
namespace Q
open PySem PySem.Spec PyProof.Rows L2 L3 Srt
theorem wkh{α β:Type}{R:α->β->Prop}{f:Nat->α}{g:Nat->β}:∀{p:List Nat},(∀i∈p,R (f i) (g i))->F2 R (p.map f) (p.map g)
 |[],_=>.nil|i::p,h=>.cons (h i X6) (wkh λj hj=>h j (lc9 _ hj))
theorem wki{α β:Type}{R:α->β->Prop}{l:List α}{m:List β}(h:F2 R l m):l.length=m.length:=by
 induction h with|nil=>rfl|cons _ _ ih=>simp[ih]
theorem kwo:∀(as:List Addr),Vals (as.map V.ref) (as.map Value.ref)
 |[]=>.nil|a::as=>.cons rfl (kwo as)
end Q
namespace Q
open PySem PySem.Spec PyProof.Rows L2 L3
theorem wwb{kv:List (Int×Int)}:∀{vs:List (Key×Value)},KV (dkI kv) vs->vs.length=kv.length/\∀(i:Nat) k x,vs[i]?=some (k,x)->∃p,kv[i]?=some p/\k=Sum.inl p.1:=by
 induction kv with
 | nil=>intro vs h;cases h;exact⟨rfl,λi k x h=>by simp at h⟩
 | cons p r ih=>
  intro vs h;cases h with
  | cons h1 h2=>
   obtain⟨g1,g2⟩:=ih h2;refine⟨by simp[g1],λi k x e=>?_⟩;cases i with
   |zero=>
    cases oq9 e;exact⟨p,rfl,h1.1.symm⟩
   |succ i=>exact g2 i k x (by simpa using e)
def vxk:List V->Hp->VK->Prop:=λxs H Q=>∃(a:Addr) (kv:List (Int×Int)),xs=[.ref a]/\H a=some (.dK (dkI kv))/\Q (.int kv.length) H
theorem qwc{X:Cx}:CallR X (.builtin "len") vxk:=by
 intro pins s σ H xs us Q I r h;obtain⟨a,kv,rfl,hH,q⟩:=h;obtain⟨u,rfl,rx⟩:=wY r;cases rx;obtain⟨hz,lo,vs,fe,o,es,ep,h1,h2,h3,h4,h5,h6⟩:=wkn I.hok hH;have hl:es.size=kv.length:=by
  have:=h5.length;rw[X4,(wwb fe).1]at this;exact this
 have hz:kv.length<=sizeLine:=by simpa [dkI]using hz
 exact kj2 (n:=kv.length) lo ⟨o,es,ep,h1,h2.1,h3,hl⟩ (by rw[Yr]at hz;lia) ⟨.int kv.length,H,I.tok _,⟨_,rfl⟩,q⟩
theorem vwa{K:Frag}:Ad1 K (λv H Q=>vxk [v] H Q) (pu1 Qx):=by
 intro H x s Q ok hf k;have hf:(Qx x.d).map (λd=>(Own.dp,d))=some s:=hf;unfold Qx at hf;cases hx:z7 x.d with
 |none=>rw[hx]at hf;cases hf
 |some kv=>
  rw[hx]at hf;cases oq9 hf;obtain⟨a,ev,hH,_⟩:=kz6 ok hx;exact⟨a,kv,by rw[ev],hH,k ⟨.dp,.int kv.length,.int kv.length,[]⟩ H rfl rfl (jxo (λ_ _ h=>h) xx)⟩
end Q
namespace Tb
open PySem PySem.SetTable
def it{α:Type}(f:α->α):Nat->α->α
 |0,a=>a|n+1,a=>it f n (f a)
theorem Jq{α:Type}(f:α->α):∀(m n:Nat) (a:α),it f (m+n) a=it f n (it f m a)
 |0,n,a=>by rw[Nat.zero_add];rfl|m+1,n,a=>by rw[Nat.succ_add];exact Jq f m n (f a)
theorem kkg{α:Type}(f:α->α)(n:Nat)(a:α):it f (n+1) a=f (it f n a):=Jq f n 1 a
def lp(mask:Nat)(q:Nat×Nat):Nat×Nat:=leap mask q.1 q.2
def f5(mask:Nat)(i:Nat):Nat:=(i*5+1) % (mask+1)
theorem vjq(mask:Nat):∀(k:Nat) (q:Nat×Nat),(it (lp mask) k q).2=q.2 / 32 ^ k
 |0,q=>by rw[Nat.pow_zero,Nat.div_one];rfl
 |k+1,q=>by
  show(it (lp mask) k (lp mask q)).2=_;rw[vjq mask k];show q.2 / 32 / 32 ^ k=_;rw[Nat.div_div_eq_div_mul,Nat.pow_succ,Nat.mul_comm]
theorem qqv(mask:Nat):∀(k i:Nat),it (lp mask) k (i,0)=(it (f5 mask) k i,0)
 |0,i=>rfl
 |k+1,i=>by
  show it (lp mask) k (leap mask i 0)=_;have:leap mask i 0=(f5 mask i,0):=by unfold leap f5;simp
  rw[this,qqv mask k];rfl
def vW(mask:Nat):Prop:=mask=7\/mask=31\/mask=127
def VX(mask:Nat):Nat->Nat->List Nat
 |0,_=>[]|n+1,i=>i::VX mask n (f5 mask i)
theorem kqb{mask:Nat}:∀{n i e:Nat},e∈VX mask n i->∃k,k<n/\it (f5 mask) k i=e
 | n+1,i,e,h=>by
  rcases aD h with rfl|h
  ·exact⟨0,Nat.succ_pos _,rfl⟩
  ·obtain⟨k,hk,e⟩:=kqb h;exact⟨k+1,Nat.succ_lt_succ hk,e⟩
theorem vwm:(List.range 32).all (λe=>(VX 31 32 0).contains e)=true/\it (f5 31) 32 0=0:=by decide +kernel
theorem wqv:(List.range 8).all (λe=>(VX 7 8 0).contains e)=true/\it (f5 7) 8 0=0:=by decide +kernel
theorem vke:(List.range 128).all (λe=>(VX 127 128 0).contains e)=true/\it (f5 127) 128 0=0:=by decide +kernel
theorem cyc{mask:Nat}(h:(List.range (mask+1)).all (λe=>(VX mask (mask+1) 0).contains e)=true/\it (f5 mask) (mask+1) 0=0){i e:Nat}(hi:i<=mask)(he:e<=mask):∃k,k<=mask/\it (f5 mask) k i=e:=by
 obtain⟨h1,h2⟩:=h;rw[Ya]at h1;have g:∀e,e<=mask->∃k,k<mask+1/\it (f5 mask) k 0=e:=λe he=>kqb (by simpa using h1 e (List.mem_range.mpr ⋯))
 obtain⟨a,ha,ea⟩:=g i hi;obtain⟨b,hb,eb⟩:=g e he
 by_cases ip:a<=b
 ·refine⟨b - a,⋯,?_⟩;rw[<-ea,<-Jq,show a+(b - a)=b by lia];exact eb
 ·refine⟨mask+1 - a+b,⋯,?_⟩;rw[<-ea,<-Jq,show a+(mask+1 - a+b)=mask+1+b by lia,Jq,h2];exact eb
theorem cyc'{mask:Nat}(hm:vW mask){i e:Nat}(hi:i<=mask)(he:e<=mask):∃k,k<=mask/\it (f5 mask) k i=e:=by
 rcases hm with rfl|rfl|rfl
 ·exact cyc wqv hi he
 ·exact cyc vwm hi he
 ·exact cyc vke hi he
theorem wkt{mask i b e:Nat}(hm:vW mask)(hi:i<=mask)(hb:b<2 ^ 64)(he:e<=mask):∃k,k<mask+15/\(it (lp mask) k (i,b)).1=e:=by
 have hp:(it (lp mask) 13 (i,b)).2=0:=by
  rw[vjq];exact Nat.div_eq_of_lt (Xm hb ⋯)
 have hl:(it (lp mask) 13 (i,b)).1<=mask:=by
  rw[show(13:Nat)=12+1 from rfl,kkg];show((it (lp mask) 12 (i,b)).1*5+1+(it (lp mask) 12 (i,b)).2 / 32) % (mask+1)<=mask;have:=Nat.mod_lt ((it (lp mask) 12 (i,b)).1*5+1+(it (lp mask) 12 (i,b)).2 / 32) (show 0<mask+1 by lia);lia
 obtain⟨k,hk,e1⟩:=cyc' hm hl he;refine⟨13+k,⋯,?_⟩;rw[Jq];have:it (lp mask) 13 (i,b)=((it (lp mask) 13 (i,b)).1,0):=Prod.ext rfl hp;rw[this,qqv];exact e1
noncomputable def adv(mask:Nat)(p:Probe):Probe:=
 if p.more>0 then { p with j:=p.j+1,more:=p.more - 1 }else { p with j:=(leap mask p.i p.perturb).1,more:=runEnd mask (leap mask p.i p.perturb).1 - (leap mask p.i p.perturb).1,i:=(leap mask p.i p.perturb).1,perturb:=(leap mask p.i p.perturb).2 }
theorem vk9(t:SetTable)(p:Probe):t.advance p=adv t.mask p:=rfl
def rs(mask:Nat)(q:Nat×Nat):Probe:=⟨q.1,runEnd mask q.1 - q.1,q.1,q.2,none⟩
def st0(mask:Nat)(h:Int):Nat×Nat:=(bits h % (mask+1),bits h)
theorem len9(mask i:Nat):runEnd mask i - i<=9:=by unfold runEnd;split<;>lia
theorem kwm(mask:Nat)(q:Nat×Nat):∀r,r<=runEnd mask q.1 - q.1->it (adv mask) r (rs mask q)=⟨q.1+r,runEnd mask q.1 - q.1 - r,q.1,q.2,none⟩
 |0,_=>rfl
 |r+1,h=>by
  rw[kkg,kwm mask q r ⋯];unfold adv;rw[X7 (by show runEnd mask q.1 - q.1 - r>0;lia)];simp only[Probe.mk.injEq,true_and,and_true];lia
theorem kku(mask:Nat)(q:Nat×Nat):it (adv mask) (runEnd mask q.1 - q.1+1) (rs mask q)=rs mask (lp mask q):=by
 rw[kkg,kwm mask q _ (Xa _)];unfold adv;rw[X9 (by show ¬runEnd mask q.1 - q.1 - (runEnd mask q.1 - q.1)>0;lia)];rfl
theorem vjf(mask:Nat):∀(k:Nat) (q:Nat×Nat),∃s,s<=10*k/\it (adv mask) s (rs mask q)=rs mask (it (lp mask) k q)
 |0,q=>⟨0,Xa _,rfl⟩
 |k+1,q=>by
  obtain⟨s,hs,e⟩:=vjf mask k (lp mask q);refine⟨runEnd mask q.1 - q.1+1+s,by have:=len9 mask q.1;lia,?_⟩;rw[Jq,kku,e];rfl
def jq(mask:Nat)(h:Int)(m:Nat):Nat:=(it (adv mask) m (rs mask (st0 mask h))).j
theorem qwn(h:Int):bits h<2 ^ 64:=by
 unfold bits;have h1:=Xu h (show(2 ^ 64:Int)≠0 by decide);have h2:=Xn h (show(0:Int)<2 ^ 64 by decide);lia
theorem qkh{mask:Nat}(hm:vW mask)(h:Int){e:Nat}(he:e<=mask):∃m,m<10*turns mask/\jq mask h m=e:=by
 have hi:(st0 mask h).1<=mask:=by
  have:=Nat.mod_lt (bits h) (show 0<mask+1 by lia);show bits h % (mask+1)<=mask;lia
 obtain⟨k,hk,e1⟩:=wkt hm hi (qwn h) he;obtain⟨s,hs,e2⟩:=vjf mask k (st0 mask h);refine⟨s,by unfold turns;lia,?_⟩;unfold jq;rw[e2];exact e1
theorem ww9{P:Nat->Prop}:∀{N:Nat},(∃m,m<N/\P m)->∃M,M<N/\P M/\∀m,m<M->¬P m:=by
 intro N h;obtain⟨m,hm,hp⟩:=h
 induction m using Nat.strongRecOn with
 | _ m ih=>
  by_cases c:∃m',m'<m/\P m'
  ·obtain⟨m',h1,h2⟩:=c;exact ih m' h1 ⋯ h2
  ·exact⟨m,hm,hp,λm' h1 h2=>c ⟨m',h1,h2⟩⟩
theorem qj7{mask:Nat}{oc:Nat->Prop}(hm:vW mask)(h:Int)(hf:∃e,e<=mask/\¬oc e):∃M,M<10*turns mask/\¬oc (jq mask h M)/\∀m,m<M->oc (jq mask h m):=by
 obtain⟨e,he,hn⟩:=hf;obtain⟨m,h1,h2⟩:=qkh hm h he;obtain⟨M,a,b,c⟩:=ww9 (P:=λm=>¬oc (jq mask h m)) ⟨m,h1,by rw[h2];exact hn⟩;exact⟨M,a,b,λm hm=>Classical.not_not.mp (c m hm)⟩
theorem qq4:∀(N:Nat) (xs:List Nat),xs.length<N->∃j,j<N/\j∉xs
 | 0,_,h=>absurd h ⋯
 | N + 1,xs,h=>by
  by_cases c:N∈xs
  ·have hl:(xs.filter (λx=>x != N)).length<N:=by
    have:(xs.filter (λx=>x != N)).length<xs.length:=by
     refine List.length_filter_lt_length_iff_exists.mpr ⟨N,c,by simp⟩
    lia
   obtain⟨j,h1,h2⟩:=qq4 N _ hl;refine⟨j,⋯,λz=>h2 (List.mem_filter.mpr ⟨z,?_⟩)⟩;simp;lia
  ·exact⟨N,⋯,c⟩
theorem kqv{mask:Nat}{owner:Array (Option Nat)}:∀{fuel:Nat} {q:Nat×Nat} {j:Nat},layClean.free mask owner fuel q.1 q.2=some j ->
  ∃ m,(it (adv mask) m (rs mask q)).j=j/\(owner.getD j (some 0)).isNone=true/\∀m',m'<m->(owner.getD (it (adv mask) m' (rs mask q)).j (some 0)).isNone=false
 | 0,q,j,h=>by cases h
 | fuel+1,q,j,h=>by
  unfold layClean.free at h;have run:∀r,r<=runEnd mask q.1 - q.1->(it (adv mask) r (rs mask q)).j=q.1+r:=λr hr=>by rw[kwm mask q r hr]
  have qe:runEnd mask q.1+1 - q.1=runEnd mask q.1 - q.1+1:=by
   have:q.1<=runEnd mask q.1:=by unfold runEnd;split<;>lia
   lia
  split at h
  ·rename_i k hk;cases oq9 h;obtain⟨h1,as,bs,h2,h3⟩:=List.find?_eq_some_iff_append.mp hk;have hkm:k<runEnd mask q.1 - q.1+1:=by
    have:k∈List.range (runEnd mask q.1+1 - q.1):=List.mem_of_find?_eq_some hk;rw[qe]at this;exact List.mem_range.mp this
   refine⟨k,run k ⋯,h1,λm' i7=>?_⟩;rw[run m' ⋯];have hl:as.length=k:=by
    have e:(List.range (runEnd mask q.1+1 - q.1))[as.length]?=(as++k::bs)[as.length]?:=by rw[h2]
    rw[List.getElem?_append_right (Xa _),Nat.sub_self,List.getElem?_cons_zero]at e;have c9:as.length<runEnd mask q.1+1 - q.1:=by
     have:=congrArg List.length h2;rw[Y1,Xv,Xf]at this;lia
    rw[List.getElem?_range c9]at e;exact oq9 e
   have hm:m'∈as:=by
    have e:(List.range (runEnd mask q.1+1 - q.1))[m']?=(as++k::bs)[m']?:=by rw[h2]
    rw[Yi ⋯,List.getElem?_range ⋯]at e;exact Xz e.symm
   exact Bool.eq_false_iff.mpr λz=>by
    have:=h3 m' hm;rw[z]at this;cases this
  ·rename_i hk;rw[List.find?_eq_none]at hk;have h:layClean.free mask owner fuel (lp mask q).1 (lp mask q).2=some j:=h;obtain⟨m,h1,h2,h3⟩:=kqv h;refine⟨runEnd mask q.1 - q.1+1+m,by rw[Jq,kku];exact h1,h2,λm' i7=>?_⟩
   by_cases c:m'<runEnd mask q.1 - q.1+1
   ·rw[run m' ⋯];exact Bool.eq_false_iff.mpr (hk m' (List.mem_range.mpr ⋯))
   ·have:=h3 (m' - (runEnd mask q.1 - q.1+1)) ⋯;rw[<-kku,<-Jq,show runEnd mask q.1 - q.1+1+(m' - (runEnd mask q.1 - q.1+1))=m' by lia]at this;exact this
theorem kqw{mask:Nat}{owner:Array (Option Nat)}:∀{fuel:Nat} {q:Nat×Nat},layClean.free mask owner fuel q.1 q.2=none->∀k,k<fuel->(owner.getD (it (lp mask) k q).1 (some 0)).isNone=false
 | fuel+1,q,h,k,hk=>by
  unfold layClean.free at h
  split at h
  ·cases h
  ·rename_i hn;rw[List.find?_eq_none]at hn;have h:layClean.free mask owner fuel (lp mask q).1 (lp mask q).2=none:=h;cases k with
   | zero=>
    have qe:0<runEnd mask q.1+1 - q.1:=by
     have:q.1<=runEnd mask q.1:=by unfold runEnd;split<;>lia
     lia
    exact Bool.eq_false_iff.mpr (hn 0 (List.mem_range.mpr qe))
   |succ k=>exact kqw h k ⋯
theorem vvo{mask:Nat}{owner:Array (Option Nat)}(hm:vW mask)(h:Int)(hf:∃e,e<=mask/\(owner.getD e (some 0)).isNone=true):
  ∃j m,layClean.free mask owner (turns mask) (bits h % (mask+1)) (bits h)=some j/\jq mask h m=j/\(owner.getD j (some 0)).isNone=true/\∀m',m'<m->(owner.getD (jq mask h m') (some 0)).isNone=false:=by
 cases hj:layClean.free mask owner (turns mask) (bits h % (mask+1)) (bits h)with
 | none=>
  obtain⟨e,he,hn⟩:=hf;have hi:bits h % (mask+1)<=mask:=by
   have:=Nat.mod_lt (bits h) (show 0<mask+1 by lia);lia
  obtain⟨k,hk,e1⟩:=wkt hm hi (qwn h) he;have:=kqw (q:=(bits h % (mask+1),bits h)) hj k (by unfold turns;lia);rw[e1,hn]at this;cases this
 |some j=>
  obtain⟨m,h1,h2,h3⟩:=kqv (q:=(bits h % (mask+1),bits h)) hj;exact⟨j,m,rfl,h1,h2,h3⟩
theorem kks(xs:Array Nat)(j:Nat)(hp:xs.toList.Pairwise (· < ·)):∀(fuel lo hi:Nat),lo<=hi->hi<=xs.size->hi - lo<=fuel->(∀i (h:i<xs.size),i<lo->xs[i]<j)->(∀i (h:i<xs.size),hi<=i->j<=xs[i]) ->
  below.go xs j fuel lo hi<=xs.size/\(∀i (h:i<xs.size),i<below.go xs j fuel lo hi->xs[i]<j)/\(∀i (h:i<xs.size),below.go xs j fuel lo hi<=i->j<=xs[i])
 | 0,lo,hi,h1,h2,h3,h4,h5=>by
  have:lo=hi:=⋯
  subst this;exact⟨h2,h4,h5⟩
 | fuel+1,lo,hi,h1,h2,h3,h4,h5=>by
  unfold below.go
  by_cases hl:lo<hi
  ·rw[X7 hl];dsimp only;have hm:(lo+hi) / 2<xs.size:=⋯
   have mono:∀i k (hi:i<xs.size) (hk:k<xs.size),i<k->xs[i]<xs[k]:=λi k hi hk hik=>by
    have:=List.pairwise_iff_getElem.mp hp i k (by simpa using hi) (by simpa using hk) hik
    simpa using this
   by_cases hc:xs.getD ((lo+hi) / 2) j<j
   ·rw[X7 hc];have il:xs[(lo+hi) / 2]<j:=by simpa [Array.getD,hm]using hc
    refine kks xs j hp fuel _ hi ⋯ h2 ⋯ (λi h jo=>?_) h5
    by_cases e:i=(lo+hi) / 2
    ·subst e;exact il
    ·have:=mono i ((lo+hi) / 2) h hm ⋯;lia
   ·rw[X9 hc];have il:j<=xs[(lo+hi) / 2]:=by
     have:¬xs[(lo+hi) / 2]<j:=by simpa [Array.getD,hm]using hc
     lia
    refine kks xs j hp fuel lo _ ⋯ ⋯ ⋯ h4 (λi h jo=>?_)
    by_cases e:i=(lo+hi) / 2
    ·subst e;exact il
    ·have:=mono ((lo+hi) / 2) i hm h ⋯;lia
  ·rw[X9 hl];have:lo=hi:=⋯
   subst this;exact⟨h2,h4,h5⟩
theorem kkr{xs:Array Nat}(j:Nat)(hp:xs.toList.Pairwise (· < ·)):below xs j<=xs.size/\(∀i (h:i<xs.size),i<below xs j->xs[i]<j)/\(∀i (h:i<xs.size),below xs j<=i->j<=xs[i]):=
 kks xs j hp xs.size 0 xs.size ⋯ (Xa _) ⋯ (λi _ h=>absurd h ⋯) (λi h hi=>absurd h ⋯)
theorem qk5{t:SetTable}(hp:t.place.toList.Pairwise (· < ·))(hd:t.dummies=#[])(j:Nat):(∃i,t.slot j=.live i/\t.place[i]?=some j)\/(t.slot j=.empty/\j∉t.place.toList):=by
 unfold slot;dsimp only
 by_cases h:(t.place[below t.place j]? == some j)=true
 ·rw [X7 h];exact .inl ⟨_,rfl,by simpa using h⟩
 ·rw [X9 h,hd];have:has #[] j=false:=by
   unfold has;simp
  rw [this,X9 ⋯];refine .inr ⟨rfl,λhj=>h ?_⟩;obtain⟨i,hi,e⟩:=List.mem_iff_getElem.mp hj;have hi:i<t.place.size:=by simpa using hi
  have e:t.place[i]=j:=by simpa using e
  obtain⟨b1,b2,b3⟩:=kkr j hp;have hb:below t.place j=i:=by
   by_cases c:i<below t.place j
   ·have:=b2 i hi c;lia
   ·by_cases c2:below t.place j<i
    ·have h1:=b3 (below t.place j) ⋯ (Xa _);have h2:=List.pairwise_iff_getElem.mp hp (below t.place j) i (by simp;lia) (by simpa using hi) c2;have h2:t.place[below t.place j]<t.place[i]:=by simpa using h2
     lia
    ·lia
  rw[hb,Xg hi,e];simp
theorem Zv{α:Type}(xs:Array α)(p:Nat)(x:α):(insertAt xs p x).toList=xs.toList.take p++x::xs.toList.drop p:=by
 unfold insertAt;simp[Array.toList_extract,List.extract_eq_drop_take];exact List.take_of_length_le (by simp)
theorem kkj{α:Type}(xs:List α)(p:Nat)(x:α):(xs.take p++x::xs.drop p).Perm (x::xs):=by
 refine List.perm_middle.trans (.of_eq ?_);rw[List.take_append_drop]
theorem wk6{xs:Array Nat}{j:Nat}(hp:xs.toList.Pairwise (· < ·))(hj:j∉xs.toList):(insertAt xs (below xs j) j).toList.Pairwise (· < ·):=by
 rw[Zv];obtain⟨b1,b2,b3⟩:=kkr j hp;have h1:∀a∈xs.toList.take (below xs j),a<j:=λa ha=>by
  obtain⟨i,hi,rfl⟩:=List.mem_iff_getElem.mp ha;rw[Xx]at hi;have:=b2 i (by simp at hi;lia) ⋯
  simpa using this
 have h2:∀a∈xs.toList.drop (below xs j),j<a:=λa ha=>by
  have hm:a∈xs.toList:=List.mem_of_mem_drop ha;obtain⟨i,hi,rfl⟩:=List.mem_iff_getElem.mp ha;rw[Ys]at hi;have:=b3 (below xs j+i) (by simp at hi;lia) ⋯;have e:(xs.toList.drop (below xs j))[i]=xs[below xs j+i]'(by simp at hi;lia):=by simp
  rw[e]at hm ⊢;have:j≠xs[below xs j+i]'(by simp at hi;lia):=λz=>hj (by rw[z];exact hm)
  lia
 refine List.pairwise_append.mpr ⟨hp.sublist (List.take_sublist _ _),List.pairwise_cons.mpr ⟨h2,hp.sublist (List.drop_sublist _ _)⟩,λa ha b hb=>?_⟩;rcases aD hb with rfl|hb
 ·exact h1 a ha
 ·exact Nat.lt_trans (h1 a ha) (h2 b hb)
theorem vvi{α β:Type}{xs:List α}{ys:List β}(p:Nat)(x:α)(y:β)(hl:xs.length=ys.length):((xs.take p++x::xs.drop p).zip (ys.take p++y::ys.drop p)).Perm ((x,y)::xs.zip ys):=by
 have hz:(xs.take p++x::xs.drop p).zip (ys.take p++y::ys.drop p)=(xs.zip ys).take p++(x,y)::(xs.zip ys).drop p:=by
  rw[List.zip_append (by rw[Xx,Xx,hl]),List.zip_cons_cons];unfold List.zip;rw[List.take_zipWith,List.drop_zipWith]
 rw[hz];exact kkj _ p _
abbrev Ent:=Int×Value
def Z(t:SetTable)(es:Array Ent):List (Nat×Ent):=t.place.toList.zip es.toList
structure TOk (t:SetTable)(es:Array Ent):Prop where
 m:vW t.mask
 d:t.dummies=#[]
 sz:t.place.size=es.size
 pw:t.place.toList.Pairwise (· < ·)
 le:∀j∈t.place.toList,j<=t.mask
 few:es.size*5<t.mask*3
 good:∀z∈Z t es,∃m,jq t.mask z.2.1 m=z.1/\∀m',m'<m->jq t.mask z.2.1 m'∈t.place.toList
theorem TOk.empty{t:SetTable}{es:Array Ent}(h:TOk t es):∃e,e<=t.mask/\¬e∈t.place.toList:=by
 have hs:t.place.toList.length<t.mask+1:=by
  rw[X4,h.sz];have:=h.few;lia
 obtain⟨j,h1,h2⟩:=qq4 _ _ hs;exact⟨j,⋯,h2⟩
def pr(mask:Nat)(h:Int)(m:Nat):Probe:=it (adv mask) m (rs mask (st0 mask h))
theorem kk3(mask:Nat)(h:Int)(m:Nat):adv mask (pr mask h m)=pr mask h (m+1):=(kkg _ _ _).symm
theorem kxc(mask:Nat)(h:Int):∀m,(pr mask h m).dummy=none
 |0=>rfl
 |m+1=>by
  rw[<-kk3];have:=kxc mask h m;unfold adv
  split<;>exact this
theorem kxb{t:SetTable}{es:Array Ent}(ok:TOk t es){g:Nat->Int}{h:Int}{M:Nat}(hM:jq t.mask h M∉t.place.toList)(hb:∀m,m<M->jq t.mask h m∈t.place.toList):
  ∀ (F m:Nat),m<=M->M - m<F ->
   (probe.go t g h F (pr t.mask h m)=some (.empty (jq t.mask h M) none)/\∀m' i,m<=m'->m'<M->t.place[i]?=some (jq t.mask h m')->g i≠h) \/
   ∃ m' i,m<=m'/\m'<M/\t.place[i]?=some (jq t.mask h m')/\g i=h/\probe.go t g h F (pr t.mask h m)=some (.candidate (jq t.mask h m') i (pr t.mask h (m'+1)))/\∀ix i',m<=ix->ix<m'->t.place[i']?=some (jq t.mask h ix)->g i'≠h
 | 0,m,_,h2=>absurd h2 ⋯
 | F + 1,m,h1,h2=>by
  have hj:(pr t.mask h m).j=jq t.mask h m:=rfl;unfold probe.go;rw [hj];rcases qk5 ok.pw ok.d (jq t.mask h m)with⟨i,e1,e2⟩|⟨e1,e2⟩
  ·rw [e1];dsimp only;have hmM:m<M:=by
    rcases Nat.lt_or_ge m M with c|c
    ·exact c
    ·have:m=M:=⋯
     subst this;exact absurd (Xz (by rw[Xq];exact e2)) hM
   have uni:∀i',t.place[i']?=some (jq t.mask h m)->i'=i:=λi' e3=>by
    have nd:t.place.toList.Nodup:=ok.pw.imp λh=>Xi h
    have jo:=(Array.getElem?_eq_some_iff.mp e3).1;refine(List.getElem?_inj (by simpa using jo) nd).mp ?_;rw[Xq,Xq,e3,e2]
   by_cases hg:g i=h
   ·rw[X7 (by simpa using hg),vk9,kk3];exact .inr ⟨m,i,Xa _,hmM,e2,hg,rfl,λix i' a b=>absurd a ⋯⟩
   ·rw[X9 (by simpa using hg),vk9,kk3];rcases kxb ok hM hb F (m+1) ⋯ ⋯with⟨q1,q2⟩|⟨m',i',q1,q2,q3,q4,q5,q6⟩
    ·refine .inl ⟨q1,λm' i' a b c=>?_⟩
     by_cases e:m'=m
     ·subst e;rw[uni i' c];exact hg
     ·exact q2 m' i' ⋯ b c
    ·refine .inr ⟨m',i',⋯,q2,q3,q4,q5,λix i'' a b c=>?_⟩
     by_cases e:ix=m
     ·subst e;rw[uni i'' c];exact hg
     ·exact q6 ix i'' ⋯ b c
  ·rw[e1];dsimp only;have hmM:m=M:=by
    rcases Nat.lt_or_ge m M with c|c
    ·exact absurd (hb m c) e2
    ·lia
   subst hmM;rw[kxc];exact .inl ⟨rfl,λm' i a b=>absurd a ⋯⟩
theorem vzg(mask:Nat)(h:Int):∀m,(pr mask h m).j+(pr mask h m).more<=mask
 | 0=>by
  show bits h % (mask+1)+(runEnd mask (bits h % (mask+1)) - bits h % (mask+1))<=mask;have:=Nat.mod_lt (bits h) (show 0<mask+1 by lia);unfold runEnd
  split<;>lia
 | m+1=>by
  have ih:=vzg mask h m;rw[<-kk3];unfold adv
  split
  ·show(pr mask h m).j+1+((pr mask h m).more - 1)<=mask;lia
  ·show(leap mask (pr mask h m).i (pr mask h m).perturb).1+(runEnd mask (leap mask (pr mask h m).i (pr mask h m).perturb).1 - (leap mask (pr mask h m).i (pr mask h m).perturb).1)<=mask;have:(leap mask (pr mask h m).i (pr mask h m).perturb).1<=mask:=by
    unfold leap;have:=Nat.mod_lt ((pr mask h m).i*5+1+(pr mask h m).perturb / 32) (show 0<mask+1 by lia);show((pr mask h m).i*5+1+(pr mask h m).perturb / 32) % (mask+1)<=mask;lia
   unfold runEnd
   split<;>lia
theorem kvx(mask:Nat)(h:Int)(m:Nat):jq mask h m<=mask:=by
 have:=vzg mask h m;have e:jq mask h m=(pr mask h m).j:=rfl;lia
structure OInv (mask:Nat)(hs:List Int)(owner:Array (Option Nat))(xs:List Nat):Prop where
 sz:owner.size=mask+1
 iff:∀(j k:Nat),owner[j]?=some (some k)↔xs[k]?=some j
 good:∀(k j:Nat),xs[k]?=some j->∃m,jq mask (hs.getD k 0) m=j/\∀m',m'<m->jq mask (hs.getD k 0) m'∈xs
theorem qz2{mask:Nat}{hs:List Int}{owner:Array (Option Nat)}{xs:List Nat}(hm:vW mask)(o:OInv mask hs owner xs)(hl:xs.length<mask)(h:Int)(hh:hs.getD xs.length 0=h):
  ∃ j,layClean.free mask owner (turns mask) (bits h % (mask+1)) (bits h)=some j/\OInv mask hs (owner.setIfInBounds j (some xs.length)) (xs++[j]):=by
 have qf:∀j,j<=mask->(owner.getD j (some 0)).isNone=false->j∈xs:=λj hj hn=>by
  have m6:j<owner.size:=by rw[o.sz];lia
  cases e:owner[j]with
  | none=>simp[Array.getD,m6,e]at hn
  | some k=>
   have:=(o.iff j k).mp (by rw[Xg m6,e]);exact Xz this
 have hf:∃e,e<=mask/\(owner.getD e (some 0)).isNone=true:=by
  obtain⟨j,h1,h2⟩:=qq4 (mask+1) xs ⋯;refine⟨j,⋯,?_⟩;cases hn:(owner.getD j (some 0)).isNone with| true=>rfl| false=>exact absurd (qf j ⋯ hn) h2
 obtain⟨j,m,h1,h2,h3,h4⟩:=vvo hm h hf;have hj:j<=mask:=by rw[<-h2];exact kvx mask h m
 have m6:j<owner.size:=by rw[o.sz];lia
 have hjn:owner[j]?=some none:=by
  rw [Xg m6];simp[Array.getD,m6]at h3;rw [h3]
 have hjx:j∉xs:=λz=>by
  obtain⟨k,hk⟩:=List.mem_iff_getElem?.mp z;rw [(o.iff j k).mpr hk]at hjn;cases hjn
 refine⟨j,h1,⟨by rw[Array.size_setIfInBounds];exact o.sz,λj' k=>?_,λk j' e=>?_⟩⟩
 ·rw [Array.getElem?_setIfInBounds]
  by_cases c:j=j'
  ·subst c;rw [X7 rfl,X7 m6];constructor
   ·intro e;have:xs.length=k:=by simpa using e
    subst this;simp
   ·intro e
    by_cases ck:k<xs.length
    ·rw[Yi ck]at e;exact absurd (Xz e) hjx
    ·have:k=xs.length:=by
      have:=(List.getElem?_eq_some_iff.mp e).1;simp at this;lia
     rw[this]
  ·rw [X9 c,o.iff];constructor
   ·intro e;rw[Yi (List.getElem?_eq_some_iff.mp e).1];exact e
   ·intro e
    by_cases ck:k<xs.length
    ·rw[Yi ck]at e;exact e
    ·have:k=xs.length:=by
      have:=(List.getElem?_eq_some_iff.mp e).1;simp at this;lia
     subst this;have:j=j':=by simpa using e
     exact absurd this c
 ·by_cases ck:k<xs.length
  ·rw[Yi ck]at e;obtain⟨m,g1,g2⟩:=o.good k j' e;exact⟨m,g1,λm' i7=>ll9 _ (g2 m' i7)⟩
  ·have:k=xs.length:=by
    have:=(List.getElem?_eq_some_iff.mp e).1;simp at this;lia
   subst this;have:j=j':=by simpa using e
   subst this;rw[hh];exact⟨m,h2,λm' i7=>ll9 _ (qf _ (kvx mask h m') (h4 m' i7))⟩
theorem kxu{mask:Nat}{hs:List Int}(hm:vW mask)(hl:hs.length<=mask):∀(ai done:List Int) (owner:Array (Option Nat)) (xs:List Nat),hs=done++ai->xs.length=done.length->OInv mask hs owner xs ->
  ∃fm xs',ai.foldl (λaf h=>do
   let (owner,k) <-af
   let j <-layClean.free mask owner (turns mask) (bits h % (mask+1)) (bits h)
   pure (owner.setIfInBounds j (some k),k+1)) (some (owner,xs.length))=some (fm,hs.length)/\xs'.length=hs.length/\OInv mask hs fm xs'
 |[],done,owner,xs,h1,h2,o=>by
  rw[Xs]at h1;subst h1;exact⟨owner,xs,by rw[h2];rfl,h2,o⟩
 |h::ai,done,owner,xs,h1,h2,o=>by
  have ah:hs.length=done.length+(ai.length+1):=by rw[h1];simp
  obtain⟨j,e1,e2⟩:=qz2 hm o ⋯ h (by rw[h1,h2];simp);obtain⟨fm,xs',f1,f2,f3⟩:=kxu hm hl ai (done++[h]) _ (xs++[j]) (by rw[h1];simp) (by simp[h2]) e2;refine⟨fm,xs',?_,f2,f3⟩;rw[Z5];rw[Xv]at f1;rw[<-f1]
  congr 1
  show(layClean.free mask owner (turns mask) (bits h % (mask+1)) (bits h)).bind _=_;rw[e1];rfl
theorem wjp{mask:Nat}{hs:Array Int}(hm:vW mask)(hl:hs.size<=mask):∃owner xs,layClean mask hs=some owner/\xs.length=hs.size/\OInv mask hs.toList owner xs:=by
 obtain⟨owner,xs,h1,h2,h3⟩:=kxu (hs:=hs.toList) hm (by simpa using hl) hs.toList [] (Array.replicate (mask+1) none) [] rfl rfl
  ⟨by simp,λj k=>by simp[Array.getElem?_replicate],λk j e=>by simp at e⟩
 refine⟨owner,xs,?_,by simpa using h2,h3⟩;unfold layClean;rw[<-Array.foldl_toList,show(some (Array.replicate (mask+1) none,0):Option (Array (Option Nat)×Nat))=some (Array.replicate (mask+1) none,([]:List Nat).length)from rfl];refine Eq.trans (congrArg (Option.map _) h1) ?_;rfl
theorem rng_getD{α:Type}(l:List α)(d:α):(List.range l.length).map (λi=>l.getD i d)=l:=by
 refine List.ext_getElem? λi=>?_
 by_cases hi:i<l.length
 ·simp[hi]
 ·simp[Nat.le_of_not_lt hi]
def qz(mask:Nat)(owner:Array (Option Nat)):List (Nat×Nat):=(List.range (mask+1)).filterMap λj=>(owner.getD j none).map (j,·)
theorem kxs{mask:Nat}{owner:Array (Option Nat)}(hs:owner.size=mask+1){j k:Nat}:(j,k)∈qz mask owner↔owner[j]?=some (some k):=by
 unfold qz;rw[List.mem_filterMap];constructor
 ·rintro ⟨j',h1,h2⟩;have h1:j'<owner.size:=by rw[hs];exact List.mem_range.mp h1
  cases e:owner.getD j' none with
  |none=>rw[e]at h2;cases h2
  |some k'=>
   rw[e]at h2;have h2:(j',k')=(j,k):=by simpa using h2
   cases h2;rw[Xg h1];simp[Array.getD,h1]at e;rw[e]
 ·intro h;have hj:=(Array.getElem?_eq_some_iff.mp h).1;refine⟨j,List.mem_range.mpr (by rw[<-hs];exact hj),?_⟩;have:owner.getD j none=some k:=by
   rw[Xg hj]at h;simp[Array.getD,hj];exact oq9 h
  rw[this];rfl
theorem kw7(owner:Array (Option Nat)):∀l:List Nat,l.Pairwise (· < ·)->((l.filterMap λj=>(owner.getD j none).map (j,·)).map (·.1)).Pairwise (· < ·)
 | [],_=>.nil
 | j :: l,h=>by
  obtain⟨h1,h2⟩:=List.pairwise_cons.mp h;rw [List.filterMap_cons]
  split
  ·exact kw7 owner l h2
  ·rename_i b hb;rw[List.map_cons];refine List.pairwise_cons.mpr ⟨λa ha=>?_,kw7 owner l h2⟩;obtain⟨p,hp,rfl⟩:=aE ha;obtain⟨j',m6,e⟩:=List.mem_filterMap.mp hp;cases e1:owner.getD j none with
   | none=>rw[e1]at hb;cases hb
   | some k=>
    rw[e1]at hb;cases oq9 hb;cases e2:owner.getD j' none with
    |none=>rw[e2]at e;cases e
    |some k'=>
     rw[e2]at e;cases oq9 e;exact h1 j' m6
theorem vqy{l:List Nat}{n:Nat}(h:l.Nodup)(hm:∀k,k∈l↔k<n):l.Perm (List.range n):=by
 refine(List.perm_ext_iff_of_nodup h List.nodup_range).mpr λk=>?_
 rw[hm,List.mem_range]
theorem vvc{mask:Nat}{es:Array Ent}(hm:vW mask)(hl:es.size*5<mask*3)(fg mv:Nat)(led plain:Bool):
  ∃ t2 ce,laid mask fg mv led plain (es.map (·.1))=some (t2,ce)/\t2.led=led/\t2.plain=plain/\(ce.filterMap (es[·]?)).toList.Perm es.toList/\TOk t2 (ce.filterMap (es[·]?)):=by
 obtain⟨owner,xs,h1,h2,o⟩:=wjp (hs:=es.map (·.1)) hm (by rw[Array.size_map];lia);rw [Array.size_map]at h2;refine⟨_,_,by unfold laid;rw[h1];rfl,rfl,rfl,?_⟩;have hL:(List.range (mask+1)).filterMap (λj=>(owner.getD j none).map (j,·))=qz mask owner:=rfl;rw [hL];have mem:∀j k,(j,k)∈qz mask owner↔xs[k]?=some j:=λj k=>(kxs o.sz).trans (o.iff j k)
 have pw:((qz mask owner).map (·.1)).Pairwise (· < ·):=kw7 owner _ List.pairwise_lt_range;have nd2:((qz mask owner).map (·.2)).Nodup:=by
  rw[List.Nodup,Yy];rw[Yy]at pw;refine List.Pairwise.imp_of_mem (fun {p q} hp hq lt e=>?_) pw;obtain⟨j,k⟩:=p;obtain⟨j',k'⟩:=q;have e:k=k':=e;subst e;have a:=(mem j k).mp hp;have b:=(mem j' k).mp hq;rw[a]at b;have lt:j<j':=lt;have:=oq9 b;lia
 have pm:((qz mask owner).map (·.2)).Perm (List.range es.size):=vqy nd2 λk=>by
  rw[List.mem_map];constructor
  ·rintro ⟨⟨j,k'⟩,hp,rfl⟩;have:=(List.getElem?_eq_some_iff.mp ((mem j k').mp hp)).1;show k'<es.size;lia
  ·intro hk;exact⟨(xs[k]'⋯,k),(mem _ k).mpr (X5 ⋯),rfl⟩
 have ic:∀p∈qz mask owner,p.2<es.size:=λp hp=>by
  have:=(List.getElem?_eq_some_iff.mp ((mem p.1 p.2).mp hp)).1;lia
 have mw:((((qz mask owner).map (·.2)).toArray).filterMap (es[·]?)).toList=(qz mask owner).map λp=>es.getD p.2 (0,.none):=by
  rw[Array.toList_filterMap];show((qz mask owner).map (·.2)).filterMap (es[·]?)=_;have:∀l:List (Nat×Nat),(∀p∈l,p.2<es.size)->(l.map (·.2)).filterMap (es[·]?)=l.map λp=>es.getD p.2 (0,.none):=by
   intro l
   induction l with
   |nil=>intro _;rfl
   |cons p l ih=>
    intro hp;have h0:=hp p X6;rw[List.map_cons,List.filterMap_cons,List.map_cons,Xg h0,ih λq hq=>hp q (lc9 _ hq)];simp[Array.getD,h0]
  exact this _ ic
 have dz:((((qz mask owner).map (·.2)).toArray).filterMap (es[·]?)).toList.Perm es.toList:=by
  rw[mw];have e1:(qz mask owner).map (λp=>es.getD p.2 (0,.none))=((qz mask owner).map (·.2)).map λk=>es.toList.getD k (0,.none):=by
   rw[Xh];refine Yl λp _=>?_
   show es.getD p.2 (0,.none)=es.toList.getD p.2 (0,.none);simp[Yo]
  rw[e1];refine(pm.map _).trans (.of_eq ?_);have:=rng_getD es.toList ((0,.none):Ent);rw[X4]at this;exact this
 have hsz:((((qz mask owner).map (·.2)).toArray).filterMap (es[·]?)).size=es.size:=by
  rw[<-X4,dz.length_eq,X4]
 refine⟨dz,hm,rfl,?_,pw,λj hj=>?_,?_,λz hz=>?_⟩
 ·show(((qz mask owner).map (·.1)).toArray).size=_;rw[<-X4 (xs:=Array.filterMap _ _),mw];simp
 ·have hj:j∈(qz mask owner).map (·.1):=hj;obtain⟨⟨j',k⟩,hp,rfl⟩:=aE hj;have:=(Array.getElem?_eq_some_iff.mp ((kxs o.sz).mp hp)).1;rw[o.sz]at this;show j'<=mask;lia
 ·rw[hsz];exact hl
 ·unfold Z at hz;rw[mw]at hz;have hz:z∈((qz mask owner).map (·.1)).zip ((qz mask owner).map λp=>es.getD p.2 (0,.none)):=hz;rw[List.zip_map',List.mem_map]at hz;obtain⟨⟨j,k⟩,hp,rfl⟩:=hz;have hx:=(mem j k).mp hp;have hk:=ic _ hp;obtain⟨m,g1,g2⟩:=o.good k j hx;have eh:(es.map (·.1)).toList.getD k 0=(es.getD k (0,.none)).1:=by
   have hk:k<es.size:=hk;simp[Array.getD,hk]
  rw[eh]at g1 g2;refine⟨m,g1,λm' i7=>?_⟩;obtain⟨k',gh⟩:=List.mem_iff_getElem?.mp (g2 m' i7);exact List.mem_map.mpr ⟨_,(mem _ k').mpr gh,rfl⟩
theorem qky{t:SetTable}(hd:t.dummies=#[])(j:Nat):t.put j=({ t with place:=insertAt t.place (below t.place j) j },below t.place j):=by
 unfold put;dsimp only;rw[hd];have:has #[] j=false:=by unfold has;simp
 rw[this];cases t;simp only at hd;subst hd;rfl
theorem vz9{t:SetTable}{es:Array Ent}(ok:TOk t es){h:Int}{x:Value}{M:Nat}(hM:jq t.mask h M∉t.place.toList)(hb:∀m,m<M->jq t.mask h m∈t.place.toList):
  (insertAt es (t.put (jq t.mask h M)).2 (h,x)).toList.Perm ((h,x)::es.toList)/\(t.put (jq t.mask h M)).1.mask=t.mask/\(t.put (jq t.mask h M)).1.led=t.led/\(t.put (jq t.mask h M)).1.plain=t.plain /\
   (t.put (jq t.mask h M)).1.fill=es.size+1/\(t.put (jq t.mask h M)).1.place.size=es.size+1/\∀pl:Bool,(es.size+1)*5<t.mask*3->TOk { (t.put (jq t.mask h M)).1 with plain:=pl } (insertAt es (t.put (jq t.mask h M)).2 (h,x)):=by
 rw[qky ok.d];dsimp only;have hp:(insertAt es (below t.place (jq t.mask h M)) (h,x)).toList.Perm ((h,x)::es.toList):=by
  rw[Zv];exact kkj _ _ _
 have hpp:(insertAt t.place (below t.place (jq t.mask h M)) (jq t.mask h M)).toList.Perm (jq t.mask h M::t.place.toList):=by
  rw[Zv];exact kkj _ _ _
 have hsz:(insertAt es (below t.place (jq t.mask h M)) (h,x)).size=es.size+1:=by
  rw[<-X4,hp.length_eq,Xf,X4]
 have hpz:(insertAt t.place (below t.place (jq t.mask h M)) (jq t.mask h M)).size=es.size+1:=by
  rw[<-X4,hpp.length_eq,Xf,X4,ok.sz]
 refine⟨hp,rfl,rfl,rfl,?_,hpz,λpl hf=>⟨ok.m,ok.d,?_,wk6 ok.pw hM,λj hj=>?_,?_,λz hz=>?_⟩⟩
 ·unfold fill;rw[ok.d];show _+0=_;rw[hpz]
 ·rw[hsz];exact hpz
 ·rcases aD (hpp.mem_iff.mp hj)with rfl|hj
  ·exact kvx _ _ _
  ·exact ok.le j hj
 ·rw[hsz];exact hf
 ·unfold Z at hz;dsimp only at hz;rw[Zv,Zv]at hz;have hz:=(vvi (below t.place (jq t.mask h M)) (jq t.mask h M) (h,x) (by rw[X4,X4,ok.sz])).mem_iff.mp hz;rcases aD hz with rfl|hz
  ·exact⟨M,rfl,λm' i7=>hpp.mem_iff.mpr (lc9 _ (hb m' i7))⟩
  ·obtain⟨m,g1,g2⟩:=ok.good z hz;exact⟨m,g1,λm' i7=>hpp.mem_iff.mpr (lc9 _ (g2 m' i7))⟩
theorem grow{mask n:Nat}(hm:vW mask)(h1:n*5<mask*3)(h2:mask*3<=(n+1)*5)(hn:n+1<=70):vW (sizeAbove (grown (n+1)) - 1)/\(n+1)*5<(sizeAbove (grown (n+1)) - 1)*3/\sizeAbove (grown (n+1))<=128:=by
 rcases hm with rfl|rfl|rfl
 ·have:n=4:=⋯
  subst this;unfold vW;decide
 ·have:n=18:=⋯
  subst this;unfold vW;decide
 ·lia
theorem qzk{t:SetTable}{es:Array Ent}(ok:TOk t es){h:Int}{M i:Nat}{e:Ent}(hM:jq t.mask h M∉t.place.toList)(hi:es[i]?=some e)(he:e.1=h):∃m,m<M/\t.place[i]?=some (jq t.mask h m):=by
 have mo:=(Array.getElem?_eq_some_iff.mp hi).1;have hip:i<t.place.size:=by rw[ok.sz];exact mo
 have hz:(t.place[i],e)∈Z t es:=by
  unfold Z;refine List.mem_iff_getElem?.mpr ⟨i,?_⟩;rw[List.getElem?_zip_eq_some];exact⟨by simp[hip],by simpa using hi⟩
 obtain⟨m,g1,g2⟩:=ok.good _ hz;rw[he]at g1 g2;refine⟨m,?_,by rw[Xg hip,g1]⟩;rcases Nat.lt_or_ge m M with c|c
 ·exact c
 ·rcases Nat.lt_or_ge M m with c2|c2
  ·exact absurd (g2 M c2) hM
  ·have:m=M:=⋯
   subst this;refine absurd ?_ hM;rw[g1];exact List.mem_iff_getElem.mpr ⟨i,by simpa using hip,by simp⟩
end Tb
namespace Tw
open PySem PyProof.Rows Tb Sw
section
variable {prog:Program}{w:World}{A:Around}{E:VP9}{s:Shared}{K:Type}[DecidableEq K]{knd:HeapKind prog w K}
structure KX (knd:HeapKind prog w K):Prop where
 keep:∀{h h':Heap} {k:K} {a:Addr},knd.is h k a->(∀b ob,h.get? b=some ob->ob.cls=.type "tuple"->h'.get? b=some ob)->knd.is h' k a
 cls:∀{A:Around} {E:VP9} {s:Shared} {k:K} {a:Addr} {Q:Bool->Shared->Prop},knd.is s.heap k a->Q false s->wpAny (model prog w) A (ofAClassStatement 8 (.ref a)) Q E s
theorem KX.keeps(X:KX knd){h h':Heap}{k:K}{a d:Addr}{o:Obj}(hk:knd.is h k a)(ho:h.get? d=some o)(hc:o.cls=.type "set")(hs:Heap.SameBut d h h'):knd.is h' k a:=X.keep hk λb ob hb ht=>hs.extBut b ob (λz=>by
 rw[z,ho]at hb;cases hb;rw[hc]at ht;exact absurd ht ⋯) hb
abbrev ent(knd:HeapKind prog w K)(p:K×Addr):Int×Value:=(knd.hash p.1,.ref p.2)
structure OkT (knd:HeapKind prog w K)(h:Heap)(o:Obj)(es:Array (Int×Value))(ep:Nat)(t:SetTable)(ks:List (K×Addr)):Prop where
 ex:o.ExactSet
 d:o.data=.set es ep t
 el:es.toList=ks.map (ent knd)
 is:∀p∈ks,knd.is h p.1 p.2
 nd:(ks.map (·.1)).Nodup
 tb:TOk t es
 led:t.led=!tx w
theorem OkT.f{h:Heap}{o:Obj}{es:Array (Int×Value)}{ep:Nat}{t:SetTable}{ks:List (K×Addr)}(ok:OkT knd h o es ep t ks):t.fits es.size=true:=by
 unfold SetTable.fits SetTable.fill;rw[ok.tb.d,ok.tb.sz];have:=ok.tb.few;simp;lia
theorem OkT.sz{h:Heap}{o:Obj}{es:Array (Int×Value)}{ep:Nat}{t:SetTable}{ks:List (K×Addr)}(ok:OkT knd h o es ep t ks):es.size=ks.length:=by rw[<-X4,ok.el,X3]
theorem OkT.at{h:Heap}{o:Obj}{es:Array (Int×Value)}{ep:Nat}{t:SetTable}{ks:List (K×Addr)}(ok:OkT knd h o es ep t ks){i:Nat}{e:Int×Value}(hi:es[i]?=some e):∃p,ks[i]?=some p/\e=ent knd p:=by
 rw[<-Xq,ok.el,Xp]at hi;cases hk:ks[i]? with|none=>rw[hk]at hi;cases hi|some p=>rw[hk]at hi;exact⟨p,rfl,(oq9 hi).symm⟩
theorem qz5{t:SetTable}(hm:vW t.mask):t.gaveWay=false:=by
 unfold SetTable.gaveWay;rcases hm with e|e|e<;>rw[e]<;>rfl
theorem vku(X:KX knd){b:Addr}{k:K}(hb:knd.is s.heap k b){Q:Bool->Shared->Prop}(h:Q false s):∀(vs:List Value),(∀v∈vs,∃k' b',v=.ref b'/\knd.is s.heap k' b')->wpAny (model prog w) A (searchCouldBeSeen (.ref b) vs) Q E s:=by
 intro vs hv;unfold searchCouldBeSeen;refine X0 ?_;refine wpAny_forIn_list _ (λai r s'=>r.1=none/\s'=s/\∀v∈ai,∃k' b',v=.ref b'/\knd.is s.heap k' b') _ ?_ ?_ _ _ ⟨rfl,rfl,hv⟩
 ·rintro v ai r s' ⟨hr,rfl,hv⟩;obtain⟨k',b',rfl,d9⟩:=hv v X6;have jb:∀v∈ai,∃k' b',v=.ref b'/\knd.is s'.heap k' b':=λv hv'=>hv v (lc9 _ hv')
  dsimp only
  split
  ·exact X1 ⟨rfl,rfl,jb⟩
  ·refine X0 (knd.quiet hb ?_);simp only[Bool.not_true,Bool.false_eq_true,if_false];refine X0 (knd.quiet d9 ?_);simp only[Bool.not_true,Bool.false_eq_true,if_false];refine X0 (X.cls hb ?_);simp only[Bool.false_eq_true,if_false];refine X0 (X.cls d9 ?_);simp only[Bool.false_eq_true,if_false];exact X1 ⟨rfl,rfl,jb⟩
 ·rintro ⟨r1,r2⟩ s' ⟨hr,rfl,_⟩;simp only at hr;subst hr;exact X1 h
end
theorem kxa{t:SetTable}{es:Array (Int×Value)}(ok:TOk t es){g:Nat->Int}{h:Int}{M m:Nat}(hM:jq t.mask h M∉t.place.toList)(hb:∀m,m<M->jq t.mask h m∈t.place.toList)(hl:M<10*SetTable.turns t.mask){p:SetTable.Probe}{r:Option SetTable.Met}
  (oh:t.probe g h p=r) (hp:p=pr t.mask h m) (hm:m<=M):
   (r=some (.empty (jq t.mask h M) none)/\∀m' i,m<=m'->m'<M->t.place[i]?=some (jq t.mask h m')->g i≠h) \/
   ∃m' i,m<=m'/\m'<M/\t.place[i]?=some (jq t.mask h m')/\g i=h/\r=some (.candidate (jq t.mask h m') i (pr t.mask h (m'+1)))/\∀ix i',m<=ix->ix<m'->t.place[i']?=some (jq t.mask h ix)->g i'≠h:=by
 subst hp oh;exact kxb ok hM hb (10*SetTable.turns t.mask) m hm ⋯
theorem kzr{t:SetTable}{es:Array (Int×Value)}(ok:TOk t es){g:Nat->Int}{h:Int}{M m:Nat}(hM:jq t.mask h M∉t.place.toList)(hb:∀m,m<M->jq t.mask h m∈t.place.toList)(hl:M<10*SetTable.turns t.mask){p:SetTable.Probe}
  (hp:p=pr t.mask h m) (hm:m<=M):∃met,t.probe g h p=some met:=by
 rcases kxa ok hM hb hl (g:=g) rfl hp hm with⟨e1,_⟩|⟨m',i,_,_,_,_,e1,_⟩
 ·exact⟨_,e1⟩
 ·exact⟨_,e1⟩
theorem jz1{t:SetTable}(hp:t.place.toList.Pairwise (· < ·)){i j x:Nat}(h1:t.place[i]?=some x)(h2:t.place[j]?=some x):i=j:=by
 have nd:t.place.toList.Nodup:=hp.imp λh=>Xi h
 have jo:=(Array.getElem?_eq_some_iff.mp h1).1;refine(List.getElem?_inj (by simpa using jo) nd).mp ?_;rw[Xq,Xq,h1,h2]
theorem kq2{t:SetTable}(hp:t.place.toList.Pairwise (· < ·))(hd:t.dummies=#[]){i j:Nat}(h:t.place[i]?=some j):t.slot j=.live i:=by
 rcases qk5 hp hd j with⟨i',e1,e2⟩|⟨_,e2⟩
 ·rw[e1,jz1 hp e2 h]
 ·exact absurd (Xz (by rw[Xq];exact h)) e2
theorem kx5{t:SetTable}:t.sameMemory t.moves t.mask=some true:=by
 unfold SetTable.sameMemory;rw[X7 (by simp)]
section
variable {prog:Program}{w:World}{A:Around}{E:VP9}{s:Shared}{K:Type}[DecidableEq K]{knd:HeapKind prog w K}
theorem kvq (X:KX knd) (hr:knd.room A) {a b:Addr} {k:K} {o:Obj} {es:Array (Int×Value)} {ep:Nat} {t:SetTable} {ks:List (K×Addr)} (ho:s.heap.get? a=some o) (ok:OkT knd s.heap o es ep t ks) (hb:knd.is s.heap k b)
  {M:Nat} (hM:jq t.mask (knd.hash k) M∉t.place.toList) (hbf:∀m,m<M->jq t.mask (knd.hash k) m∈t.place.toList) (hl:M<10*SetTable.turns t.mask) {Q:SetFound->Shared->Prop}
  (l0:k∈ks.map (·.1)->Q (.there none) s) (fy:k∉ks.map (·.1)->Q (.free (jq t.mask (knd.hash k) M) false) s):
  ∀ (fuel m:Nat) (i5:Option SetTable.Probe),m<=M->M - m<fuel->i5.getD (t.probeStart (knd.hash k))=pr t.mask (knd.hash k) m ->
   (∀ (i:Nat) p,ks[i]?=some p->p.1=k->∃m',m<=m'/\m'<M/\t.place[i]?=some (jq t.mask (knd.hash k) m')) ->
   wpAny (model prog w) A (setSearchFrom a (.ref b) (knd.hash k) true fuel i5) Q E s:=by
 intro fuel
 induction fuel with
 | zero=>intro m i5 h1 h2;lia
 | succ fuel ih=>
  intro m i5 h1 h2 bj ic;unfold setSearchFrom;refine X0 (Yc ho ok.d ok.f ?_);dsimp only;rw [qz5 ok.tb.m];simp only[Bool.false_eq_true,if_false]
  split
  ·rename_i met oh;have hg:∀(i:Nat) (e:Int×Value),es[i]?=some e->(es[i]?.map (·.1)).getD 0=e.1:=λi e he=>by rw[he];rfl
   rcases kxa ok.tb hM hbf hl oh bj h1 with⟨e1,e2⟩|⟨m',i,q1,q2,q3,q4,q5,q6⟩
   ·cases oq9 e1;dsimp only;refine X1 (fy λhk=>?_);obtain⟨p,hp,rfl⟩:=aE hk;obtain⟨i,hi⟩:=List.mem_iff_getElem?.mp hp;obtain⟨m',a1,a2,a3⟩:=ic i p hi rfl;refine e2 m' i a1 a2 a3 ?_;have mj:es[i]?=some (ent knd p):=by rw[<-Xq,ok.el,Xp,hi];rfl
    exact hg i _ mj
   ·cases oq9 q5;dsimp only;have mo:i<es.size:=by rw[<-ok.tb.sz];exact(Array.getElem?_eq_some_iff.mp q3).1
    obtain⟨p,hp,he⟩:=ok.at (Xg mo);have hpk:=ok.is p (Xz hp)
    split
    ·refine X0 (vku X hb ?_ _ λv hv=>?_)
     ·rw [X9 ⋯];rw [Xg mo,he];dsimp only;refine X0 (Xw (knd.eqBool hr hpk hb ?_));refine X0 (Yc ho ok.d ok.f ?_);dsimp only
      by_cases hk:p.1=k
      ·rw[Xe hk,X7 (show(true&&true)=true from rfl)];exact X1 (l0 (List.mem_map.mpr ⟨p,Xz hp,hk⟩))
      ·rw[Xl hk,X9 ⋯,kx5];dsimp only;rw[X7 rfl,kq2 ok.tb.pw ok.tb.d q3];dsimp only;rw[Xg mo,he];dsimp only;refine X0 (wpAny_isSame_ref_self ?_);rw[X7 rfl];refine X0 (X1 ?_);dsimp only;rw[X9 ⋯];refine ih (m'+1) _ ⋯ ⋯ rfl λi2 p2 km jn=>?_
       obtain⟨m2,a1,a2,a3⟩:=ic i2 p2 km jn;refine⟨m2,?_,a2,a3⟩;rcases Nat.lt_or_ge m2 (m'+1)with c|c
       ·exfalso
        by_cases c2:m2=m'
        ·subst c2;have:=jz1 ok.tb.pw a3 q3;subst this;rw[hp]at km;cases oq9 km;exact hk jn
        ·refine q6 m2 i2 a1 ⋯ a3 ?_;have mj:es[i2]?=some (ent knd p2):=by rw[<-Xq,ok.el,Xp,km];rfl
         have this:_=knd.hash p2.1:=hg i2 _ mj;rw[jn]at this;exact this
       ·exact c
     ·obtain⟨e,he',rfl⟩:=aE hv;have he':e∈es.toList:=(Array.mem_toList_iff.mpr (Array.mem_filter.mp (Array.mem_toList_iff.mp he')).1);rw[ok.el]at he';obtain⟨p',hp',rfl⟩:=aE he';exact⟨p'.1,p'.2,rfl,ok.is p' hp'⟩
    ·rw [Xg mo,he];dsimp only;refine X0 (Xw (knd.eqBool hr hpk hb ?_));refine X0 (Yc ho ok.d ok.f ?_);dsimp only
     by_cases hk:p.1=k
     ·rw[Xe hk,X7 (show(true&&true)=true from rfl)];exact X1 (l0 (List.mem_map.mpr ⟨p,Xz hp,hk⟩))
     ·rw[Xl hk,X9 ⋯,kx5];dsimp only;rw[X7 rfl,kq2 ok.tb.pw ok.tb.d q3];dsimp only;rw[Xg mo,he];dsimp only;refine X0 (wpAny_isSame_ref_self ?_);rw[X7 rfl];refine X0 (X1 ?_);dsimp only;rw[X9 ⋯];refine ih (m'+1) _ ⋯ ⋯ rfl λi2 p2 km jn=>?_
      obtain⟨m2,a1,a2,a3⟩:=ic i2 p2 km jn;refine⟨m2,?_,a2,a3⟩;rcases Nat.lt_or_ge m2 (m'+1)with c|c
      ·exfalso
       by_cases c2:m2=m'
       ·subst c2;have:=jz1 ok.tb.pw a3 q3;subst this;rw[hp]at km;cases oq9 km;exact hk jn
       ·refine q6 m2 i2 a1 ⋯ a3 ?_;have mj:es[i2]?=some (ent knd p2):=by rw[<-Xq,ok.el,Xp,km];rfl
        have this:_=knd.hash p2.1:=hg i2 _ mj;rw[jn]at this;exact this
      ·exact c
  ·rename_i oh;exact(Exists.elim (kzr ok.tb hM hbf hl bj h1) λmet hm=>oh met hm).elim
end
section
variable {prog:Program}{w:World}{A:Around}{E:VP9}{s:Shared}{K:Type}[DecidableEq K]{knd:HeapKind prog w K}
def HasT(knd:HeapKind prog w K)(h:Heap)(a:Addr)(ls:List K):Prop:=∃o es ep t ks,h.get? a=some o/\OkT knd h o es ep t ks/\(ks.map (·.1)).Perm ls
def ByV(knd:HeapKind prog w K):Prop:=∀{A:Around} {E:VP9} {s:Shared} {k:K} {a:Addr} {Q:Bool->Shared->Prop},knd.is s.heap k a->(∀b,Q b s)->wpAny (model prog w) A (hashByValue 8 (.ref a)) Q E s
theorem qv6{es:List (Int×Value)}{ks:List (K×Addr)}(h:es.Perm (ks.map (ent knd))):∃c8:List (K×Addr),c8.Perm ks/\es=c8.map (ent knd):=by
 have:∀{es' es:List (Int×Value)},es.Perm es'->∀ks:List (K×Addr),es'=ks.map (ent knd)->∃c8:List (K×Addr),c8.Perm ks/\es=c8.map (ent knd):=by
  intro es' es h
  induction h with
  | nil=>intro ks e;exact⟨ks,.refl _,e⟩
  | cons x _ ih=>
   intro ks e;cases ks with
   | nil=>cases e
   | cons k ks=>
    rw[List.map_cons]at e;injection e with e1 e2;obtain⟨c8,p1,p2⟩:=ih ks e2;exact⟨k::c8,p1.cons k,by rw[List.map_cons,p2,e1]⟩
  | swap x y l=>
   intro ks e;cases ks with
   | nil=>cases e
   | cons k ks=>
    cases ks with
    |nil=>cases e
    |cons k2 ks=>
     rw[List.map_cons,List.map_cons]at e;injection e with e1 e2;injection e2 with e2 e3;exact⟨k2::k::ks,.swap _ _ _,by rw[List.map_cons,List.map_cons,e1,e2,e3]⟩
  |trans _ _ ih1 ih2=>
   intro ks e;obtain⟨k1,p1,e1⟩:=ih2 ks e;obtain⟨k2,p2,e2⟩:=ih1 k1 e1;exact⟨k2,p2.trans p1,e2⟩
 exact this h ks rfl
theorem add(X:KX knd)(V:ByV knd)(hr:knd.room A){a b:Addr}{k:K}{ls:List K}{Q:Bool->Shared->Prop}(hS:HasT knd s.heap a ls)(hb:knd.is s.heap k b)(hl:ls.length+1<=60)
  (h:∀bb h',Heap.SameBut a s.heap h'->HasT knd h' a (if k∈ls then ls else ls++[k])->Q bb { s with heap:=h' }):wpAny (model prog w) A (setAddHashed a (.ref b) (knd.hash k)) Q E s:=by
 obtain⟨o,es,ep,t,ks,ho,ok,hp⟩:=hS;have hsz:es.size=ls.length:=by rw[ok.sz,<-hp.length_eq,X3]
 obtain⟨M,m1,m2,m3⟩:=qj7 (oc:=λj=>j∈t.place.toList) ok.tb.m (knd.hash k) ok.tb.empty;have hmem:k∈ks.map (·.1)↔k∈ls:=hp.mem_iff;have hturn:10*SetTable.turns t.mask<=1420:=by
  unfold SetTable.turns;rcases ok.tb.m with e|e|e<;>rw[e]<;>decide
 unfold setAddHashed setAddHashedIn;refine Xw (X0 (Yc ho ok.d ok.f ?_));dsimp only;rw [show byScan (.ref b) es=false from rfl];simp only[Bool.false_eq_true,if_false];unfold setSearch;refine X0 (kvq X hr ho ok hb m2 m3 m1 (λhk=>?_) (λhk=>?_) 100000 0 none (Yh _) ⋯ rfl λi p hi hpk=>?_)
 ·dsimp only;have gh:=hmem.mp hk;have:=h false s.heap (Heap.SameBut.refl a s.heap);rw [X7 gh]at this;exact X1 (this ⟨o,es,ep,t,ks,ho,ok,hp⟩)
 ·dsimp only;have gh:k∉ls:=λz=>hk (hmem.mpr z)
  rw [X9 gh]at h;refine X0 (Yc ho ok.d ok.f ?_);dsimp only;obtain⟨p1,p2,p3,p4,p5,p6,p7⟩:=vz9 (x:=.ref b) ok.tb m2 m3;generalize t.put (jq t.mask (knd.hash k) M)=tp at p1 p2 p3 p4 p5 p6 p7 ⊢;obtain⟨t1,pl⟩:=tp;dsimp only at p1 p2 p3 p4 p5 p6 p7 ⊢;generalize hes1:SetTable.insertAt es pl (knd.hash k,Value.ref b)=bc at p1 p7 ⊢;have l6:bc.size=es.size+1:=by rw[<-X4,p1.length_eq,Xf,X4]
  have mh:bc.size<=sizeLine:=by rw[Yr];lia
  obtain⟨nu,q1,q2⟩:=qv6 (knd:=knd) (ks:=(k,b)::ks) (es:=bc.toList) (by rw[List.map_cons,<-ok.el];exact p1);have dw:(nu.map (·.1)).Perm (ls++[k]):=(q1.map (·.1)).trans (by
   rw [List.map_cons];exact(hp.cons k).trans (List.perm_append_singleton k ls).symm)
  have dy:(nu.map (·.1)).Nodup:=((q1.map (·.1)).nodup_iff).mpr (by
   rw [List.map_cons];exact List.nodup_cons.mpr ⟨hk,ok.nd⟩)
  have his:∀p∈nu,knd.is s.heap p.1 p.2:=λp hpp=>by
   rcases aD (q1.mem_iff.mp hpp)with rfl|hpp
   ·exact hb
   ·exact ok.is p hpp
  have fin:∀gy:Bool,wpAny (model prog w) A (do
    storeSet a bc (if gy=true then t1 else { t1 with plain:=false })
    if(!false&&(if gy=true then t1 else { t1 with plain:=false }).tooFull)=true then do
      setRelay a (SetTable.grown (es.size+1))
      pure true
     else pure true) Q E s:=λgy=>by
   obtain⟨pp,ht2⟩:∃pp:Bool,(if gy=true then t1 else { t1 with plain:=false })={ t1 with plain:=pp }:=by
    cases gy
    ·exact⟨false,rfl⟩
    ·exact⟨t1.plain,rfl⟩
   rw[ht2];have ef:=qxa (es':=bc) (t':={ t1 with plain:=pp }) ho ok.d;have fu:=Yf s.heap a (Obj.putSet bc { t1 with plain:=pp });refine X0 (wpAny_storeSet_of ho ok.d ?_ mh);have o6:∀p∈nu,knd.is (s.heap.update a (Obj.putSet bc { t1 with plain:=pp })) p.1 p.2:=λp hpp=>X.keeps (his p hpp) ho ok.ex.1 fu
   by_cases hfull:({ t1 with plain:=pp }:SetTable).tooFull=true
   ·rw[hfull,X7 (by rfl)];have e5:({ t1 with plain:=pp }:SetTable).fill=es.size+1:=p5;have e6:({ t1 with plain:=pp }:SetTable).mask=t.mask:=p2;have on:t.mask*3<=(es.size+1)*5:=by
     unfold SetTable.tooFull at hfull;rw[e5,e6]at hfull
     simpa using hfull
    obtain⟨g1,g2,g3⟩:=grow ok.tb.m ok.tb.few on ⋯;obtain⟨t3,ce,r1,r2,r3,r4,r5⟩:=vvc (es:=bc) g1 (by rw[l6];exact g2) ({ t1 with plain:=pp }:SetTable).finger (({ t1 with plain:=pp }:SetTable).movedTo (SetTable.sizeAbove (SetTable.grown (es.size+1)) - 1)) ({ t1 with plain:=pp }:SetTable).led pp;have ie:({ t1 with plain:=pp }:SetTable).fits bc.size=true:=by
     have e7:({ t1 with plain:=pp }:SetTable).place.size=es.size+1:=p6;unfold SetTable.fits;rw[e5,e6,e7,l6];have:=ok.tb.few;have hm3:7<=t.mask:=by rcases ok.tb.m with e|e|e<;>rw[e]<;>decide
     simp;lia
    unfold setRelay;refine X0 (X0 (Yc (s:={ s with heap:=s.heap.update a (Obj.putSet bc { t1 with plain:=pp }) }) ef rfl ie ?_));dsimp only;rw[X9 (by rw[Yr];lia)];have er:({ t1 with plain:=pp }:SetTable).relaid (bc.map (·.1)) (SetTable.grown (es.size+1))=some (t3,ce):=r1;rw[er];refine X0 ?_;have rf:(ce.filterMap (bc[·]?)).size=bc.size:=by rw[<-X4,r4.length_eq,X4]
    show wpAny _ _ (ite (((ce.filterMap (bc[·]?)).size != bc.size)=true) _ _) _ _ _;rw[rf,X9 (by simp)];refine X1 ?_;dsimp only;have hs2:=Yf (s.heap.update a (Obj.putSet bc { t1 with plain:=pp })) a (Obj.putSet (ce.filterMap (bc[·]?)) t3);refine wpAny_storeSet_of (s:={ s with heap:=s.heap.update a (Obj.putSet bc { t1 with plain:=pp }) }) ef rfl ?_ (by rw[rf];exact mh);obtain⟨ks3,c1,c2⟩:=qv6 (knd:=knd) (ks:=nu) (es:=(ce.filterMap (bc[·]?)).toList) (by rw[<-q2];exact r4);refine X1 (h true _ (fu.trans hs2) ⟨_,_,_,t3,ks3,qxa ef rfl,⟨ok.ex,rfl,c2,λp hpp=>X.keeps (o6 p (c1.mem_iff.mp hpp)) ef ok.ex.1 hs2,((c1.map (·.1)).nodup_iff).mpr dy,r5,r2.trans (p3.trans ok.led)⟩,(c1.map (·.1)).trans dw⟩)
   ·rw[Bool.eq_false_iff.mpr hfull,X9 ⋯];have dg:(es.size+1)*5<t.mask*3:=by
     have e5:({ t1 with plain:=pp }:SetTable).fill=es.size+1:=p5;unfold SetTable.tooFull at hfull;rw[e5]at hfull;have e6:({ t1 with plain:=pp }:SetTable).mask=t.mask:=p2;rw[e6]at hfull
     simpa using hfull
    exact X1 (h true _ fu ⟨_,bc,_,_,nu,ef,⟨ok.ex,rfl,q2,o6,dy,p7 pp dg,p3.trans ok.led⟩,dw⟩)
  split
  ·refine X0 (V hb λgy=>?_);exact fin gy
  ·exact X0 (X1 (fin true))
 ·have mj:es[i]?=some (ent knd p):=by rw[<-Xq,ok.el,Xp,hi];rfl
  obtain⟨m',a1,a2⟩:=qzk ok.tb m2 mj (show knd.hash p.1=knd.hash k by rw[hpk]);exact⟨m',Yh _,a1,a2⟩
end
section
variable {prog:Program}{w:World}{A:Around}{E:VP9}{s:Shared}{K:Type}[DecidableEq K]{knd:HeapKind prog w K}
def stepK(ls:List K)(k:K):List K:=if k∈ls then ls else ls++[k]
def ddK(ss:List K):List K:=ss.foldl stepK []
theorem qzr{ss:List K}{i:Nat}{x:K}(h:ss[i]?=some x):ddK (ss.take (i+1))=stepK (ddK (ss.take i)) x:=by
 unfold ddK;rw[List.take_succ,h,Zh];rfl
theorem vk1:∀(ss ls:List K),ls.length<=(ss.foldl stepK ls).length
 |[],ls=>Xa _
 |k::ss,ls=>by
  rw[Z5];refine Yn ?_ (vk1 ss (stepK ls k));unfold stepK
  split
  ·exact Xa _
  ·simp
theorem vvy(ss:List K)(i:Nat):(ddK (ss.take i)).length<=(ddK ss).length:=by
 have:ddK ss=(ss.drop i).foldl stepK (ddK (ss.take i)):=by
  unfold ddK;rw[<-Zh,List.take_append_drop]
 rw[this];exact vk1 _ _
theorem HasT.same(X:KX knd){h h':Heap}{a:Addr}{ls:List K}(x:HasT knd h a ls)(e:∀o,h.get? a=some o->h'.get? a=some o)(et:∀b ob,h.get? b=some ob->ob.cls=.type "tuple"->h'.get? b=some ob):HasT knd h' a ls:=by
 obtain⟨o,es,ep,t,ks,ho,r,hp⟩:=x;exact⟨o,es,ep,t,ks,e _ ho,⟨r.ex,r.d,r.el,λp hpp=>X.keep (r.is p hpp) et,r.nd,r.tb,r.led⟩,hp⟩
theorem loop(X:KX knd)(V:ByV knd)(hr:knd.room A.in1){R:Result->Shared->Prop}{I:Addr}{fp wr:List Addr}{G:Array GenState->Array GenState->Prop}{n:Nat}{P:Nat->Value->Prop}{St:Nat->Shared->Prop}(W:WalksS prog w A.in1 I fp wr G n P St)(S:Addr)(js:S∉fp)
  (qt:∀i s,St i s->∀b∈wr,∀ob,s.heap.get? b=some ob->ob.cls≠.type "tuple")
  {ss:List K} (hn:ss.length=n) (hb:(ddK ss).length<=59):∀(k i:Nat) (s:Shared),n - i=k->i<=n->St i s->HasT knd s.heap S (ddK (ss.take i))->(∀i v,P i v->∃b x,v=.ref b/\ss[i]?=some x/\knd.is s.heap x b) ->
   (∀s',Moved (S::wr) G s s'->HasT knd s'.heap S (ddK ss)->R (.ok (.ret .none)) s')->codeAny (model prog w) A (.builtin "set.update.loop" ⟨[.ref S,.ref I],[]⟩) R s:=by
 have lu:S∉wr:=λh=>js (W.sub _ h)
 have dl:∀b∈wr,b∈S::wr:=λb hb=>lc9 _ hb
 intro k
 induction k with
 | zero=>
  intro i s hk hi bj hS f7 hR;cases(show i=n by lia);refine Yg F.entry_set_update_loop ?_;rw[Y5 Yt _];show wpAny _ A.in1 (pyNext (.ref I) >>= _) _ _ s;refine X0 (W.done s _ _ bj λs' hm=>?_);refine X1 (hR s' (hm.mono dl) ?_);rw[<-hn,List.take_length]at hS;exact hS.same X (λo e=>hm.heap S _ lu e) λb ob hb ht=>hm.heap b ob (λz=>qt _ _ bj b z ob hb ht) hb
 | succ k ih=>
  intro i s hk hi bj hS f7 hR;refine Yg F.entry_set_update_loop ?_;rw[Y5 Yt _];show wpAny _ A.in1 (pyNext (.ref I) >>= _) _ _ s;refine X0 (W.item i s _ _ ⋯ bj λv s' hP ji hm=>?_);have tm:∀b ob,s.heap.get? b=some ob->ob.cls=.type "tuple"->s'.heap.get? b=some ob:=λb ob hb ht=>hm.heap b ob (λz=>qt _ _ bj b z ob hb ht) hb
  obtain⟨b,x,rfl,hx,dv⟩:=f7 i v hP;have rg:knd.is s'.heap x b:=X.keep dv tm;have dq:HasT knd s'.heap S (ddK (ss.take i)):=hS.same X (λo e=>hm.heap S _ lu e) tm;show wpAny _ A.in1 (holding [Value.ref b] (setAdd S (.ref b)) >>= _) _ _ s';refine X0 (Xw ?_);unfold setAdd;refine Xw ?_;refine X0 (knd.pyHash hr rg ?_);have du:(ddK (ss.take i)).length+1<=60:=by
   have:=vvy ss i;lia
  have hset:∃o,s'.heap.get? S=some o/\o.cls=.type "set":=by
   obtain⟨o,es,ep,t,ks,ho,r,_⟩:=dq;exact⟨o,ho,r.ex.1⟩
  obtain⟨oS,hoS,hcS⟩:=hset;refine add (s:={ s' with toks:=s'.toks+knd.draws x }) X V hr dq rg du λbb h' a1 a2=>?_
  have a1:Heap.SameBut S s'.heap h':=a1;have a2:HasT knd h' S (stepK (ddK (ss.take i)) x):=a2;rw[<-qzr hx]at a2;refine X1 ⟨Zl Yt _,ih (i+1) _ ⋯ ⋯ (W.frame _ s' _ _ ji (Nat.le_add_right _ _) λb hb o e=>?_) a2 (λi v hP=>?_) λi9 jf iz=>?_⟩
  ·rw[a1.2 b (λh:b=S=>js (by rw[<-h];exact hb))];exact e
  ·obtain⟨b,x,rfl,hx,dv⟩:=f7 i v hP;exact⟨b,x,rfl,hx,X.keeps (X.keep dv tm) hoS hcS a1⟩
  ·refine hR i9 (Moved.trans W.gtrans ((hm.mono dl).then_heap (Nat.le_add_right _ _) λb o hb e=>?_) jf) iz;rw[a1.2 b (λh:b=S=>hb (by rw[h];exact X6))];exact e
theorem qj6{h:Heap}{a:Addr}(e:h.get? a=some (fresh w)):HasT knd h a []:=
 ⟨_,#[],0,.fresh 0 0 (!tx w),[],e,⟨⟨rfl,rfl,rfl⟩,rfl,rfl,(λp hp=>nomatch hp),Y4,⟨.inl rfl,rfl,rfl,.nil,(λj hj=>(nomatch hj)),by show 0*5<7*3;decide,(λz hz=>(nomatch hz))⟩,rfl⟩,.refl _⟩
set_option maxHeartbeats 8000000 in
theorem qwb(X:KX knd)(V:ByV knd)(hr:knd.room A.in1.in1.in1){l:Addr}{items:Array Value}{ss:List K}{Q:VP9}(hh:A.handled=none)(hl:s.heap.IsList l items)(hn:ss.length=items.size)(hi:∀(i:Nat) v,items[i]?=some v->∃b x,v=.ref b/\ss[i]?=some x/\knd.is s.heap x b)(hb:(ddK ss).length<=59)
  (h:∀(h':Heap) (tk:Nat),HasT knd h' s.heap.objs.size (ddK ss)->(∀b o,b<s.heap.objs.size->s.heap.get? b=some o->h'.get? b=some o)->Q (.ref s.heap.objs.size) { s with heap:=h',toks:=tk }):
  wpAny (model prog w) A (call (.type "set") [.ref l]) Q E s:=by
 obtain⟨c,tl,hmro⟩:=F.called_set.mro;have qu:=F.called_set.made;have dl:=F.called_set.sub;refine wpAny_call (codeAny_of_tree ?_);show wpAny _ _ (callAny (.type "set") _) _ _ _;refine X1 ⟨Code.quiet_builtin _ (by decide +kernel),Yg F.entry_type_call ?_⟩;rw [Around.under_plain (weight_type_call_type "set" [.ref l] []) rfl];have h1:=F.called_set.notType;have h2:=F.called_set.canCreate;have hct:=F.typeCall_set_1 (.ref l)
 repeat (any_goals (first|assumption|wp_step))
 refine Zp (made (.ref l) (E:=E) (Q₁:=λobj s₁=>obj=.ref s.heap.objs.size/\s₁={ s with heap:=s.heap.push (fresh w) }) ⟨rfl,rfl⟩) λr s₁ hr=>?_
 cases r with
 | error e=>exact hr
 | ok fl=>
 cases fl with
 | ret obj=>
  obtain⟨rfl,rfl⟩:=hr;have hS:(s.heap.push (fresh w)).get? s.heap.objs.size=some (fresh w):=Xb _ rfl;have hT:Shared.TypeIs { s with heap:=s.heap.push (fresh w) } (.ref s.heap.objs.size) "set":=⟨_,hS,rfl⟩;have hli:=F.called_set.init.lookup;have hbi:=F.called_set.init.bind (.ref s.heap.objs.size)
  repeat (any_goals (first|assumption|wp_step))
  refine Zp (codeAny_call_builtin (R:=wants (λr s₂=>r=.none/\∃h' tk,s₂={ s with heap:=h',toks:=tk }/\HasT knd h' s.heap.objs.size (ddK ss) /\
    (∀b o,b<s.heap.objs.size->s.heap.get? b=some o->h'.get? b=some o)) E) F.called_set.init.plain F.entry_set_init (check_set_init_1 hT ?_)) λr₂ s₂ ms=>?_
  ·obtain⟨ol,mz,cp,nl,m8⟩:=hl;obtain⟨ocls,ja,pi,gl⟩:=ol;simp only at cp m8;subst cp;subst m8;have md:(s.heap.push (fresh w)).get? l=some { cls:=.type "list",dict:=ja,data:=.seq items nl,slots:=gl }:=X2 _ mz;have hsls:=F.sub_list_set;have hslf:=F.sub_list_frozenset;have dj:(Value.type "list" == Value.type "dict")=false:=⋯
   have kh:(s.heap.push (fresh w)).IsList l items:=⟨_,md,rfl,nl,rfl⟩;have lm:l<s.heap.objs.size:=Xd mz;have ma:({ cls:=.type "set",dict:=none,data:=.set #[] 0 (.fresh 0 0 (!tx w)) }:Obj)=fresh w:=rfl;unfold Builtin.«set.__init__» noKeywords Builtin.Frozenset.updateFrom;generalize hPI:pyIter=PI
   wp_walk
   subst hPI;refine Zf kh ?_;refine X0 (wpAny_runValue ?_);have hh3:A.in1.in1.in1.handled=none:=by simp[hh]
   have hsz:(s.heap.push (fresh w)).objs.size=s.heap.objs.size+1:=Heap.size_push ..;refine loop X V hr ((Walks.list hh3 _ l (by rw[hsz];exact Xi (Z4 lm)) items).toS) s.heap.objs.size (by rw[hsz];simp only[Y3,Y6,or_false,not_or];exact⟨Xi (Nat.lt_succ_self _),Nat.ne_of_gt lm⟩) (λi s bj b hbm ob dm=>?_) (ss:=ss) hn hb (items.size - 0) 0 _ ⋯ (Yh _)
    ⟨⟨_,Xb _ rfl,rfl,rfl⟩,kh.push _⟩ ?_ (λi v hv=>?_) ?_
   ·rw[aC hbm]at dm;obtain⟨⟨o',gb,il,_⟩,_⟩:=bj;rw[gb]at dm;cases dm;rw[il];decide
   ·exact qj6 (X2 _ hS)
   ·obtain⟨b,x,e1,e2,e3⟩:=hi i v hv;exact⟨b,x,e1,e2,X.keep e3 λb ob hb _=>X2 _ (X2 _ hb)⟩
   ·intro s' hm dq;obtain⟨h',g',d',lb,n9⟩:=s';have eg:g'=s.gens:=hm.gens;have ed:d'=s.drawn:=hm.drawn;have eo:n9=s.os:=hm.os;subst eg;subst ed;subst eo;show wpAny _ _ _ _ _ _;refine X1 ?_;show wpAny _ _ (ret Value.none) _ _ _;refine X1 ⟨rfl,h',lb,rfl,dq,λb o hb e=>?_⟩;exact hm.heap b o (by simp only[Y3,Y6,or_false,not_or];rw[hsz];exact⟨Xi hb,Xi (Z4 hb)⟩) (X2 _ (X2 _ e))
  ·cases r₂ with
   | error e=>exact ms
   | ok fl₂=>
    cases fl₂ with
    |ret r=>
     obtain⟨rfl,h',tk,rfl,dq,gh⟩:=ms
     repeat (any_goals (first|assumption|wp_step))
     exact h _ _ dq gh
    |_=>exact ms.elim
 |_=>exact hr.elim
end
section
variable {prog:Program}{w:World}{A:Around}{E:VP9}{s:Shared}
structure IT (w:World)(o:Obj)(es:Array (Int×Value))(ep:Nat)(t:SetTable):Prop where
 c:o.cls=.type "set"
 d:o.data=.set es ep t
 f:t.fits es.size=true
 led:t.led=!tx w
 pw:t.place.toList.Pairwise (· < ·)
 z:es.size<=sizeLine
def slP(t:SetTable)(i:Nat):Nat:=if i=0 then 0 else t.place.getD (i - 1) 0+1
theorem vj6{xs:Array Nat}(hp:xs.toList.Pairwise (· < ·)){i:Nat}(hi:i<=xs.size):SetTable.below xs (if i=0 then 0 else xs.getD (i - 1) 0+1)=i:=by
 obtain⟨b1,b2,b3⟩:=kkr (xs:=xs) (if i=0 then 0 else xs.getD (i - 1) 0+1) hp;generalize hb:SetTable.below xs (if i=0 then 0 else xs.getD (i - 1) 0+1)=b at b1 b2 b3
 by_cases h0:i=0
 ·subst h0;rw[X7 rfl]at b2;rcases Nat.eq_zero_or_pos b with c|c
  ·exact c
  ·have:=b2 0 ⋯ c;lia
 ·rw[X9 h0]at b2 b3;have hg:xs.getD (i - 1) 0=xs[i - 1]'⋯:=by simp[Array.getD,show i - 1<xs.size by lia]
  rw[hg]at b2 b3;rcases Nat.lt_trichotomy b i with c|c|c
  ·have:=b3 (i - 1) ⋯ ⋯;lia
  ·exact c
  ·have h1:=b2 i ⋯ c;have h2:=List.pairwise_iff_getElem.mp hp (i - 1) i (by simp;lia) (by simp;lia) ⋯;have h2:xs[i - 1]'⋯<xs[i]'⋯:=by simpa using h2
   lia
theorem kzz(ku:tx w=false){a:Addr}{o:Obj}{es:Array (Int×Value)}{ep:Nat}{t:SetTable}(hk:IT w o es ep t)(b9:t.plain=false->¬1<es.size):
  ∀(i:Nat) (s:Shared) (A':Around) (E':VP9) (R:Option (Value×Nat)->Shared->Prop),s.heap.get? a=some o->i<=es.size->R ((es.toList.map (·.2))[i]?.map λv=>(v,slP t (i+1))) s->wpAny (model prog w) A' (setNext a (slP t i) i ep) R E' s:=by
 intro i s A' E' R ho hi hR;have hsz:=qvp hk.f;unfold setNext;refine X0 (Yc ho hk.d hk.f ?_);unfold setsByText;refine X0 (X0 (Zm (X1 ?_)));show wpAny _ _ (if tx w=true then _ else _) _ _ _;rw[X9 (by rw[ku];decide)];show wpAny _ _ (if(!t.plain&&decide (es.size>1))=true then _ else _) _ _ _;rw[X9 (by
  cases hp:t.plain with
  |true=>simp
  |false=>simpa using b9 hp)]
 show wpAny _ _ ((if(!t.led && !es.isEmpty)=true then _ else pure ()) >>= _) _ _ _;rw[X9 (by rw[hk.led,ku];simp)];refine X0 (X1 ?_);refine X1 ?_;have hbl:SetTable.below t.place (slP t i)=i:=vj6 hk.pw (by rw[hsz];exact hi);show R (match es[SetTable.below t.place (slP t i)]?,t.place[SetTable.below t.place (slP t i)]? with|some (_,x),some j=>some (x,j+1)|_,_=>none) s;rw[hbl]
 by_cases c9:i<es.size
 ·have qy:i<t.place.size:=by rw[hsz];exact c9
  rw[Xg c9,Xg qy];rw[Xp,Xq,Xg c9]at hR;have hs:slP t (i+1)=t.place[i]+1:=by unfold slP;simp[Array.getD,qy]
  rw[hs]at hR;exact hR
 ·rw[Array.getElem?_eq_none ⋯];rw[Ym (by rw[X3,X4];lia)]at hR;exact hR
theorem wkm{a:Addr}{o:Obj}{es:Array (Int×Value)}{ep:Nat}{t:SetTable}(ho:s.heap.get? a=some o)(hk:IT w o es ep t){Q:Bool->Shared->Prop}(h:Q (!tx w&&(!t.plain&&decide (es.size>1))) s):wpAny (model prog w) A (setDrawn a) Q E s:=by
 unfold setDrawn;refine X0 (Yc ho hk.d hk.f ?_);unfold setsByText;refine X0 (X0 (Zm (X1 ?_)));exact X1 h
theorem wwd{a:Addr}{o:Obj}{es:Array (Int×Value)}{ep:Nat}{t:SetTable}{Q:VP9}(ho:s.heap.get? a=some o)(hk:IT w o es ep t)
  (h:∀(h':Heap) (d:Drawn) (I:Addr) (fp:List Addr) (bv:List Value) (St:Nat->Heap->Prop),(∀b o,s.heap.get? b=some o->h'.get? b=some o)->s.heap.objs.size<=I->(∀b∈fp,b=a\/s.heap.objs.size<=b) ->
   (∀A':Around,A'.handled=none->Walks prog w A' I fp [I] es.size (λi v=>bv[i]?=some v) St)->St 0 h'->bv.Perm (es.toList.map (·.2))->Q (.ref I) { s with heap:=h',drawn:=d }):wpAny (model prog w) A (pyIter (.ref a)) Q E s:=by
 have hT:s.TypeIs (.ref a) "set":=⟨o,ho,hk.c⟩;have i4:a<s.heap.objs.size:=Xd ho;refine wpAny_pyIter_slot hT F.slot_set_iter (Y9 F.slot_set_iter hT qja ?_ (qwq _));unfold Builtin.«frozenset.__iter__» Builtin.Frozenset.slot0 slotArgs;simp only[List.isEmpty_nil,Bool.not_true,Bool.false_eq_true,↓reduceIte,bind_assoc,List.length_nil,bne_self_eq_false];unfold Builtin.Frozenset.addrOf Builtin.Frozenset.sizeOf;refine X0 (X1 ?_)
 try dsimp only
 refine X0 (X1 ?_);refine X0 (X0 (wpAny_setEntries_of ho hk.d hk.f (X1 ?_)));refine X0 (wkm ho hk ?_)
 by_cases hdr:(!tx w&&(!t.plain&&decide (es.size>1)))=true
 ·rw [X7 hdr];refine X0 (drawn es.size _ s (by simp) λpl d hp=>?_);refine X0 (wpAny_newTuple ?_ (hsz:=by rw[X3,hp.length_eq,Y1];exact hk.z));refine X0 (wpAny_setEpoch_of (X2 _ ho) hk.d hk.f ?_);refine X0 (Xy (X1 ⟨_,rfl,"set_iterator",_,⟨_,Xb _ rfl,rfl⟩,slot_next.lookup,?_⟩));have hsz:(s.heap.push (seqObj "tuple" (pl.map λ(i:Nat)=>rawInt i).toArray 0)).objs.size=s.heap.objs.size+1:=Heap.size_push ..;refine h _ d _ [_,a,s.heap.objs.size] (pl.map λj=>(es.getD j (0,.none)).2) _ (λb o e=>X2 _ (X2 _ e)) (by rw[hsz];exact Nat.le_succ _) (λb hb=>?_)
   (λA' hh=>vkf hh _ a s.heap.objs.size (by rw[hsz];exact Xi (Z4 i4)) (by rw[hsz];exact Xi (Nat.lt_succ_self _)) (o:=o) (oT:=seqObj "tuple" (pl.map λ(i:Nat)=>rawInt i).toArray 0) hk.d hk.f hp rfl)
   ⟨⟨_,Xb _ rfl,rfl,rfl⟩,X2 _ (X2 _ ho),X2 _ (Xb _ rfl)⟩ (qjt hp)
  rcases aD hb with rfl|hb
  ·exact .inr (by rw[hsz];exact Nat.le_succ _)
  rcases aD hb with rfl|hb
  ·exact .inl rfl
  ·rw[aC hb];exact .inr (Xa _)
 ·rw [X9 hdr];refine X0 (X1 ?_);refine X0 (wpAny_setEpoch_of ho hk.d hk.f ?_);refine X0 (Xy (X1 ⟨_,rfl,"set_iterator",_,⟨_,Xb _ rfl,rfl⟩,slot_next.lookup,?_⟩));have hfp:∀b∈[s.heap.objs.size,a],b=a\/s.heap.objs.size<=b:=λb hb=>by
   rcases aD hb with rfl|hb
   ·exact .inr (Xa _)
   ·exact .inl (aC hb)
  cases ku:tx w with
  | true=>
   refine h _ s.drawn _ [_,a] ((pickOrder (w.params.setOrder a ep) es).toList.map (·.2)) _ (λb o e=>X2 _ e) (Xa _) hfp
    (λA' hh=>qjr hh _ a (Xi i4) (o:=o) hk.d hk.f (by rw[X3,(kq8 _ es).length_eq,X4]) (λ_=>0) (qqj ku hk.d hk.f))
    ⟨⟨_,Xb _ rfl,rfl,rfl⟩,X2 _ ho⟩ ((kq8 _ es).map _)
  | false=>
   refine h _ s.drawn _ [_,a] (es.toList.map (·.2)) _ (λb o e=>X2 _ e) (Xa _) hfp
    (λA' hh=>qjr hh _ a (Xi i4) (o:=o) hk.d hk.f (by rw[X3,X4]) (slP t) (kzz ku hk (by
     rw[ku]at hdr
     simpa using hdr)))
    ⟨⟨_,Xb _ rfl,rfl,rfl⟩,X2 _ ho⟩ (.refl _)
theorem qzt{a:Addr}{o:Obj}{es:Array (Int×Value)}{ep:Nat}{t:SetTable}{Q:List Value->Shared->Prop}(hh:A.handled=none)(ho:s.heap.get? a=some o)(hk:IT w o es ep t)
  (h:∀(h':Heap) (d:Drawn) (tk:Nat) (vs:List Value),(∀b o,s.heap.get? b=some o->h'.get? b=some o)->s.heap.objs.size<h'.objs.size->vs.Perm (es.toList.map (·.2))->Q vs { s with heap:=h',drawn:=d,toks:=tk }):
  wpAny (model prog w) A (collect (.ref a)) Q E s:=by
 have i4:a<s.heap.objs.size:=Xd ho;unfold collect;refine X0 (wpAny_runValue (Yg F.entry_proto_collect ?_));rw[Y5 F.plain_proto_collect _];show wpAny _ A.in1 (newList [] >>= λl=>again (.builtin "list.__iadd__" ⟨[l,.ref a],[]⟩)) _ _ s;refine X0 (Xy ?_);refine X1 ⟨Zl F.plain_list_iadd _,Yg F.entry_list_iadd ?_⟩;rw[Y5 F.plain_list_iadd _];have ef:(s.heap.push { cls:=.type "list",data:=.seq ([]:List Value).toArray }).get? a=some o:=X2 _ ho;have hT1:Shared.TypeIs { s with heap:=s.heap.push { cls:=.type "list",data:=.seq ([]:List Value).toArray } } (.ref a) "set":=⟨o,ef,hk.c⟩;show wpAny _ A.in1 (Builtin.List.listExtendWith (.ref s.heap.objs.size) (.ref a) (.ref s.heap.objs.size)) _ _ _;unfold Builtin.List.listExtendWith;refine X0 (Z8 hT1 ?_);have h1:Builtin.List.listSameRef (.ref s.heap.objs.size) (.ref a)=false:=by simp[Builtin.List.listSameRef];exact Nat.ne_of_gt i4
 have h2:(Value.type "set" == Value.type "list")=false:=⋯
 have h3:(Value.type "set" == Value.type "tuple")=false:=⋯
 simp only[h1,h2,h3,Bool.or_false,Bool.false_eq_true,if_false];refine X0 (wwd ef hk λh' d I fp bv St cw hI hfp W st0 hv=>?_);refine X0 (Xw (vvn ⟨o,cw _ _ ef,hk.c⟩ ?_));show wpAny _ A.in1 (PySem.rule "list.extend.makes-room" >>= λ_=>Builtin.List.listTouch (.ref s.heap.objs.size) >>= λ_=>
  again (.builtin "list.extend.loop" ⟨[.ref s.heap.objs.size,.ref I,.ref s.heap.objs.size],[]⟩)) _ _ _
 refine X0 (Zk ?_);have hsz:(s.heap.push { cls:=.type "list",data:=.seq ([]:List Value).toArray }).objs.size=s.heap.objs.size+1:=Heap.size_push ..;have hI':s.heap.objs.size+1<=I:=by rw[<-hsz];exact hI
 have js:s.heap.objs.size∉fp:=λhm=>by
  rcases hfp _ hm with e|e
  ·exact absurd e (Nat.ne_of_gt i4)
  ·have e:s.heap.objs.size+1<=s.heap.objs.size:=by rw[<-hsz];exact e
   exact absurd e (Nat.not_succ_le_self _)
 have hS₁:h'.get? s.heap.objs.size=some { cls:=.type "list",data:=.seq ([]:List Value).toArray }:=cw _ _ (Xb _ rfl);refine X0 ?_;show wpAny _ A.in1 (updateSeq s.heap.objs.size (·.push .none) >>= λ_=>updateSeq s.heap.objs.size (·.pop)) _ _ _;refine X0 (wpAny_updateSeq hS₁ rfl ?_);have hS₂:=Y8 (Obj.mapSeq (·.push Value.none)) hS₁ rfl;refine wpAny_updateSeq hS₂ rfl ?_;have hS₃:=Y8 (Obj.mapSeq (·.pop)) hS₂ rfl;have qf:∀b o,b≠s.heap.objs.size->h'.get? b=some o->((h'.update s.heap.objs.size (Obj.mapSeq (·.push Value.none))).update s.heap.objs.size (Obj.mapSeq (·.pop))).get? b=some o:=
  λb o hb e=>(Z9 _ _ (Ne.symm hb)).trans ((Z9 _ _ (Ne.symm hb)).trans e)
 have WW:=W A.in1 hh;have ah:bv.length=es.size:=by rw[hv.length_eq,X3,X4]
 refine X1 ⟨Zl F.plain_extend_loop _,codeAny_extend_loopS WW.toS hk.z _ js _ es.size 0 _ _ _ rfl (Yh _) (WW.frame 0 h' _ st0 λb hb o e=>qf b o (λe'=>js (e'▸hb)) e) hS₃ (ItemsOf.nil _) λs' bp c' hm dq df=>?_⟩;show wpAny _ A (load s.heap.objs.size >>= _) _ _ s';refine X0 (wpAny_load dq ?_);have hac:bp.toList=bv:=by
  apply List.ext_getElem?;intro j
  by_cases hj:j<es.size
  ·have hj1:j<bp.size:=by rw[df.1];exact hj
   rw[Xq,Xg hj1];exact(df.2 j _ (Xg hj1)).symm
  ·rw[Ym (by rw[X4,df.1];lia),Ym ⋯]
 refine X1 ?_;rw[hac,Moved.eq_with hm];refine h _ d _ bv (λb o e=>?_) (Xd dq) hv;have hb:b<s.heap.objs.size:=Xd e;have hbS:b≠s.heap.objs.size:=Xi hb;refine hm.heap b o (λhmem=>?_) (qf b o hbS (cw b o (X2 _ e)));rcases aD hmem with e'|hmem
 ·exact hbS e'
 ·rw[aC hmem]at hb;exact absurd hb (Nat.not_lt.mpr (Nat.le_of_succ_le hI'))
end
end Tw
namespace Tl
open Q
mutual
noncomputable def ltD:D->D->Option Bool
 |.int i,.int j=>some (decide (i<j))|.str x,.str y=>some (decide (x.cps.toList<y.cps.toList))|.tup xs,.tup ys=>ltDs xs ys|_,_=>none
noncomputable def ltDs:List D->List D->Option Bool
 |[],[]=>some false|[],_::_=>some true|_::_,[]=>some false|a::x,b::y=>if a=b then ltDs x y else ltD a b
end
def J6(a:D):List D->List D
 |[]=>[a]|b::r=>if ltD b a=some true then b::J6 a r else a::b::r
def vQ:List D->List D
 |[]=>[]|a::r=>J6 a (vQ r)
def Vk:D->Bool
 |.tup (.int _::_)=>true|_=>false
def okT(ds:List D):Bool:=ds.all (λd=>j7 6 d&&Vk d)&&ds.all λa=>ds.all λb=>(ltD a b).isSome
def v4(l:List D)(d:D):List D:=if d∈l then l else l++[d]
def ddT(ds:List D):List D:=ds.foldl v4 []
end Tl
namespace Q
open Tl
def QY:Sd->Option Sd:=λx=>match x.2 with
 |.lst ds=>if(ddT ds).length<=59/\okT ds=true then some (.rt,.lst (vQ (ddT ds)))else none|_=>none
end Q
namespace Tl
open PySem PyProof.Rows SeqAt
def YZ(A:Around)(s:Shared)(y x:Value)(b:Bool):Prop:=
 ∀(prog:Program) (w:World) (E:VP9) (Q:VP9),Q (.bool b) s->wpAny (model prog w) A (richCompare .Lt y x) Q E s
inductive Lx (A:Around)(s:Shared):List Value->List Value->Bool->Prop
 |nn:Lx A s [] [] false
 |nc (y:Value) (ys:List Value):Lx A s [] (y::ys) true
 |cn (x:Value) (xs:List Value):Lx A s (x::xs) [] false
 |eq {x y:Value} {xs ys:List Value} {b:Bool}:EqAt A s x y true->Lx A s xs ys b->Lx A s (x::xs) (y::ys) b
 |lt {x y:Value} {xs ys:List Value} {b:Bool}:EqAt A s x y false->YZ A s x y b->Lx A s (x::xs) (y::ys) b
theorem vv4 {prog:Program} {w:World} {A:Around} {s:Shared} {E:VP9} {xs ys:List Value} {k:Bool} (h:Lx A s xs ys k):∀{R:Option Fin×Unit->Shared->Prop},(R (some (.done (.ret (.bool k))),()) s)->(k=decide (xs.length<ys.length)->R (none,()) s) ->
  wpAny (model prog w) A (forIn (xs.zip ys) ((none,()):Option Fin×Unit) λx __s=>do
      let __do_lift <-eqBool x.fst x.snd
      if(!__do_lift)=true then do
        PySem.rule "tuple.compare.by-the-first-pair-that-differs"
        let __do_lift <-richCompare CmpOp.Lt x.fst x.snd
        let __do_lift <-ret __do_lift
        pure (ForInStep.done (some __do_lift,()))
       else pure (ForInStep.yield (none,()))) R E s:=by
 induction h with
 |nn=>intro R h1 h2;exact X1 (h2 rfl)|nc y ys=>intro R h1 h2;exact X1 (h2 (by simp))|cn x xs=>intro R h1 h2;exact X1 (h2 (by simp))
 |eq he _ ih=>
  intro R h1 h2;rw[List.zip_cons_cons,List.forIn_cons];refine X0 (X0 (he prog w _ _ ?_));rw[X9 ⋯];refine X1 ?_;exact ih h1 λe=>h2 (by rw[e,Xf,Xf];simp)
 |lt he hl=>
  intro R h1 h2;rw[List.zip_cons_cons,List.forIn_cons];refine X0 (X0 (he prog w _ _ ?_));rw[X7 ⋯];refine X0 (Zk (X0 (hl prog w _ _ ?_)));exact X0 (X1 (X1 (X1 h1)))
theorem qx3{prog:Program}{w:World}{A:Around}{s:Shared}{E:VP9}{l b:Addr}{items bz:Array Value}{k:Bool}{Q:VP9}(hl:s.heap.IsTuple l items)(hb:s.heap.IsTuple b bz)(h:Lx A s items.toList bz.toList k)(hq:Q (.bool k) s):
  wpAny (model prog w) A (Builtin.«tuple.__lt__» ⟨[.ref l,.ref b],[]⟩) (λfin s'=>∃v,fin=.done (.ret v)/\Q v s') E s:=by
 have tyb:=hb.typeIs;obtain⟨ol,mz,cp,nl,m8⟩:=hl;obtain⟨ob,dm,hcb,nb,d8⟩:=hb;unfold Builtin.«tuple.__lt__»;show wpAny _ _ (isInstance (.ref b) (.type "tuple") >>= _) _ _ _;refine X0 (wpAny_isInstance tyb isSubtype_tuple_tuple ?_);simp only[Bool.not_true,Bool.false_eq_true,if_false];refine X0 (wpAny_tupleItemsOf mz m8 (X0 (wpAny_tupleItemsOf dm d8 ?_)));refine X0 (vv4 h ?_ λe=>?_)
 ·exact X1 ⟨_,rfl,hq⟩
 ·refine X1 ⟨_,rfl,?_⟩;have:Builtin.Tuple.tupleCompareSizes CmpOp.Lt items.size bz.size=.bool k:=by
   rw[e,X4,X4];rfl
  rw[this];exact hq
theorem qqq{A:Around}{s:Shared}{l b:Addr}{items bz:Array Value}{k:Bool}(hl:s.heap.IsTuple l items)(hb:s.heap.IsTuple b bz)(hu:A.units<cLine)(h:Lx A.in1 s items.toList bz.toList k):YZ A s (.ref l) (.ref b) k:=λprog w E Q hq=>by
 have t1:=hl.typeIs;have t2:=hb.typeIs;exact richCompare_meets_room (op:=.Lt) t1 t2 PySem.F.slot_tuple_lt PySem.F.entry_tuple_lt (PySem.F.args_tuple_lt_2 _ _)
  (Meets.of_wp (S:=λA R s=>s.heap.IsTuple l items/\s.heap.IsTuple b bz/\Lx A.in1 s items.toList bz.toList k/\R (.ok (.ret (.bool k))) s) λprog w A R s hs=>qx3 (Q:=λv s'=>R (.ok (.ret v)) s') hs.1 hs.2.1 hs.2.2.1 hs.2.2.2) ⟨hl,hb,h,⟨(λx=>nomatch x),hq⟩⟩ hu
open Q
theorem qqr{A:Around}{s:Shared}(x y:Str)(t u:Tok):YZ A s (.str x t) (.str y u) (decide (x.cps.toList<y.cps.toList)):=λprog w E Q h=>PyProof.Rows.lt_str h
theorem lt_int{A:Around}{s:Shared}(i j:Int)(t u:Tok):YZ A s (.int i t) (.int j u) (decide (i<j)):=λprog w E Q h=>wpAny_lt_int h
theorem lt_C {s:Shared}:∀(n:Nat) {d d':D} {u w:Value} {A:Around} {b:Bool},j7 n d=true->j7 n d'=true->j5 s.heap d u->j5 s.heap d' w->A.units+2*n<cLine->ltD d d'=some b->YZ A s u w b:=by
 intro n
 induction n with
 | zero =>
  intro d d' u w A b k1 k2 r1 r2 hu h;cases d with
  | int i=>
   cases d' with
   | int j=>
    unfold j5 at r1 r2;obtain⟨t,rfl⟩:=r1;obtain⟨t',rfl⟩:=r2;unfold ltD at h;cases oq9 h;exact lt_int i j t t'
   | _=>unfold ltD at h;cases h
  | non=>cases d'<;>(unfold ltD at h;cases h)
  | str x=>
   cases d' with
   | str y=>
    unfold j5 at r1 r2;obtain⟨t,rfl⟩:=r1;obtain⟨t',rfl⟩:=r2;unfold ltD at h;cases oq9 h;exact qqr x y t t'
   | _=>unfold ltD at h;cases h
  | _=>unfold j7 at k1;cases k1
 | succ n ih=>
  intro d d' u w A b k1 k2 r1 r2 hu h;cases d with
  | int i=>
   cases d' with
   | int j=>
    unfold j5 at r1 r2;obtain⟨t,rfl⟩:=r1;obtain⟨t',rfl⟩:=r2;unfold ltD at h;cases oq9 h;exact lt_int i j t t'
   | _=>unfold ltD at h;cases h
  | tup xs=>
   cases d' with
   | tup ys=>
    unfold j7 at k1 k2;unfold j5 at r1 r2;obtain⟨a,us,rfl,h1,q1⟩:=r1;obtain⟨a',iu,rfl,h2,q2⟩:=r2;unfold ltD at h;refine qqq h1 h2 ⋯ ?_;have ic:A.in1.units<=A.units+1:=by have:=L3.in1_units A;lia
    have go:∀(xs ys:List D) (us iu:List Value) (b:Bool),keyDs n xs=true->keyDs n ys=true->CReps s.heap xs us->CReps s.heap ys iu->ltDs xs ys=some b->Lx A.in1 s us iu b:=by
     intro xs
     induction xs with
     | nil=>
      intro ys us iu b _ _ q1 q2 h;unfold CReps at q1;subst q1;cases ys with
      | nil=>
       unfold CReps at q2;subst q2;unfold ltDs at h;cases oq9 h;exact .nn
      | cons y ys=>
       unfold CReps at q2;obtain⟨u,r,rfl,_,_⟩:=q2;unfold ltDs at h;cases oq9 h;exact .nc _ _
     | cons x xs ihx=>
      intro ys us iu b kx ky q1 q2 h;unfold CReps at q1;obtain⟨u,r,rfl,g1,g2⟩:=q1;cases ys with
      | nil=>
       unfold CReps at q2;subst q2;unfold ltDs at h;cases oq9 h;exact .cn _ _
      | cons y ys=>
       unfold CReps at q2;obtain⟨u',r',rfl,g3,g4⟩:=q2;unfold keyDs at kx ky;rw[Bool.and_eq_true]at kx ky;have he:=K9 (s:=s) n (A:=A.in1) (jxq kx.1) g1 g3 ⋯;rw[Wz kx.1 ky.1]at he;unfold ltDs at h
       by_cases e:x=y
       ·rw[X7 e]at h;rw[Xe e]at he;exact .eq he (ihx ys r r' b kx.2 ky.2 g2 g4 h)
       ·rw[X9 e]at h;rw[Xl e]at he;exact .lt he (ih kx.1 ky.1 g1 g3 ⋯ h)
    exact go xs ys us iu b k1 k2 q1 q2 h
   |_=>unfold ltD at h;cases h
  | non=>cases d'<;>(unfold ltD at h;cases h)
  | str x=>
   cases d' with
   |str y=>
    unfold j5 at r1 r2;obtain⟨t,rfl⟩:=r1;obtain⟨t',rfl⟩:=r2;unfold ltD at h;cases oq9 h;exact qqr x y t t'
   |_=>unfold ltD at h;cases h
  |_=>unfold j7 at k1;cases k1
end Tl
namespace Tl
open Q
theorem qx7{x y:List Nat}(h:¬x<y)(ne:x≠y):y<x:=by
 have h1:y<=x:=List.not_lt.mp h;rcases Decidable.em (y<x)with h2|h2
 ·exact h2
 ·exact absurd (List.le_antisymm (List.not_lt.mp h2) h1) ne
mutual
theorem vjo:∀a:D,ltD a a≠some true
 |.int i=>by unfold ltD;simp|.tup xs=>by unfold ltD;exact lts_irr xs|.non=>by unfold ltD;simp|.bl _=>by unfold ltD;simp|.str x=>by unfold ltD;rw[Xl (List.lt_irrefl _)];simp|.lst _=>by unfold ltD;simp|.dct _=>by unfold ltD;simp|.obj _ _=>by unfold ltD;simp
theorem lts_irr:∀xs:List D,ltDs xs xs≠some true
 |[]=>by unfold ltDs;simp|a::x=>by unfold ltDs;rw[X7 rfl];exact lts_irr x
end
mutual
theorem qqs:∀{a b:D},ltD a b=some true->ltD b a=some false
 | .int i,.int j,h=>by
  unfold ltD at h ⊢;have:i<j:=by simpa using h
  rw[Xl ⋯]
 | .tup xs,.tup ys,h=>by
  unfold ltD at h ⊢;exact lts_asym h
 | .int _,.non,h=>by unfold ltD at h;cases h| .int _,.bl _,h=>by unfold ltD at h;cases h| .int _,.str _,h=>by unfold ltD at h;cases h| .int _,.tup _,h=>by unfold ltD at h;cases h| .int _,.lst _,h=>by unfold ltD at h;cases h| .int _,.dct _,h=>by unfold ltD at h;cases h| .int _,.obj _ _,h=>by unfold ltD at h;cases h| .tup _,.non,h=>by unfold ltD at h;cases h| .tup _,.bl _,h=>by unfold ltD at h;cases h| .tup _,.str _,h=>by unfold ltD at h;cases h| .tup _,.int _,h=>by unfold ltD at h;cases h| .tup _,.lst _,h=>by unfold ltD at h;cases h| .tup _,.dct _,h=>by unfold ltD at h;cases h| .tup _,.obj _ _,h=>by unfold ltD at h;cases h| .non,b,h=>by cases b<;>(unfold ltD at h;cases h)| .bl _,b,h=>by cases b<;>(unfold ltD at h;cases h)
 | .str x,b,h=>by
  cases b with
  |str y=>
   unfold ltD at h ⊢;rw[Xl (List.lt_asymm (Zi (oq9 h)))]
  |_=>unfold ltD at h;cases h
 |.lst _,b,h=>by cases b<;>(unfold ltD at h;cases h)|.dct _,b,h=>by cases b<;>(unfold ltD at h;cases h)|.obj _ _,b,h=>by cases b<;>(unfold ltD at h;cases h)
theorem lts_asym:∀{x y:List D},ltDs x y=some true->ltDs y x=some false
 | [],[],h=>by unfold ltDs at h;cases h| [],_::_,_=>by unfold ltDs;rfl| _::_,[],h=>by unfold ltDs at h;cases h
 | a::x,b::y,h=>by
  unfold ltDs at h ⊢
  by_cases e:a=b
  ·rw[X7 e]at h;rw[X7 e.symm];exact lts_asym h
  ·rw[X9 e]at h;rw[X9 λz=>e z.symm];exact qqs h
end
mutual
theorem kxq:∀{a b:D},ltD a b=some false->a≠b->ltD b a=some true
 | .int i,.int j,h,ne=>by
  unfold ltD at h ⊢;have h:¬i<j:=by simpa using h
  have:i≠j:=λz=>ne (by rw[z])
  rw[Xe ⋯]
 | .tup xs,.tup ys,h,ne=>by
  unfold ltD at h ⊢;exact lts_tot h λz=>ne (by rw[z])
 | .int _,.non,h,_=>by unfold ltD at h;cases h| .int _,.bl _,h,_=>by unfold ltD at h;cases h| .int _,.str _,h,_=>by unfold ltD at h;cases h| .int _,.tup _,h,_=>by unfold ltD at h;cases h| .int _,.lst _,h,_=>by unfold ltD at h;cases h| .int _,.dct _,h,_=>by unfold ltD at h;cases h| .int _,.obj _ _,h,_=>by unfold ltD at h;cases h| .tup _,.non,h,_=>by unfold ltD at h;cases h| .tup _,.bl _,h,_=>by unfold ltD at h;cases h| .tup _,.str _,h,_=>by unfold ltD at h;cases h| .tup _,.int _,h,_=>by unfold ltD at h;cases h| .tup _,.lst _,h,_=>by unfold ltD at h;cases h| .tup _,.dct _,h,_=>by unfold ltD at h;cases h| .tup _,.obj _ _,h,_=>by unfold ltD at h;cases h| .non,b,h,_=>by cases b<;>(unfold ltD at h;cases h)| .bl _,b,h,_=>by cases b<;>(unfold ltD at h;cases h)
 | .str x,b,h,ne=>by
  cases b with
  |str y=>
   unfold ltD at h ⊢;rw[Xe (qx7 (of_decide_eq_false (oq9 h)) λz=>ne (by cases x;cases y;cases Array.toList_inj.mp z;rfl))]
  |_=>unfold ltD at h;cases h
 |.lst _,b,h,_=>by cases b<;>(unfold ltD at h;cases h)|.dct _,b,h,_=>by cases b<;>(unfold ltD at h;cases h)|.obj _ _,b,h,_=>by cases b<;>(unfold ltD at h;cases h)
theorem lts_tot:∀{x y:List D},ltDs x y=some false->x≠y->ltDs y x=some true
 | [],[],_,ne=>absurd rfl ne| [],_::_,h,_=>by unfold ltDs at h;cases h| _::_,[],_,_=>by unfold ltDs;rfl
 | a::x,b::y,h,ne=>by
  unfold ltDs at h ⊢
  by_cases e:a=b
  ·rw[X7 e]at h;rw[X7 e.symm];exact lts_tot h λz=>ne (by rw[e,z])
  ·rw[X9 e]at h;rw[X9 λz=>e z.symm];exact kxq h e
end
mutual
theorem lt_trans:∀{a b c:D},ltD a b=some true->ltD b c=some true->ltD a c=some true
 | .int i,.int j,.int k,h1,h2=>by
  unfold ltD at h1 h2 ⊢;have h1:i<j:=by simpa using h1
  have h2:j<k:=by simpa using h2
  rw[Xe ⋯]
 | .tup xs,.tup ys,.tup zs,h1,h2=>by
  unfold ltD at h1 h2 ⊢;exact lts_trans h1 h2
 | .int _,.int _,.non,_,h=>by unfold ltD at h;cases h| .int _,.int _,.bl _,_,h=>by unfold ltD at h;cases h| .int _,.int _,.str _,_,h=>by unfold ltD at h;cases h| .int _,.int _,.tup _,_,h=>by unfold ltD at h;cases h| .int _,.int _,.lst _,_,h=>by unfold ltD at h;cases h| .int _,.int _,.dct _,_,h=>by unfold ltD at h;cases h| .int _,.int _,.obj _ _,_,h=>by unfold ltD at h;cases h| .tup _,.tup _,.non,_,h=>by unfold ltD at h;cases h| .tup _,.tup _,.bl _,_,h=>by unfold ltD at h;cases h| .tup _,.tup _,.str _,_,h=>by unfold ltD at h;cases h| .tup _,.tup _,.int _,_,h=>by unfold ltD at h;cases h| .tup _,.tup _,.lst _,_,h=>by unfold ltD at h;cases h| .tup _,.tup _,.dct _,_,h=>by unfold ltD at h;cases h| .tup _,.tup _,.obj _ _,_,h=>by unfold ltD at h;cases h| .int _,.non,_,h,_=>by unfold ltD at h;cases h| .int _,.bl _,_,h,_=>by unfold ltD at h;cases h| .int _,.str _,_,h,_=>by unfold ltD at h;cases h| .int _,.tup _,_,h,_=>by unfold ltD at h;cases h| .int _,.lst _,_,h,_=>by unfold ltD at h;cases h| .int _,.dct _,_,h,_=>by unfold ltD at h;cases h| .int _,.obj _ _,_,h,_=>by unfold ltD at h;cases h| .tup _,.non,_,h,_=>by unfold ltD at h;cases h| .tup _,.bl _,_,h,_=>by unfold ltD at h;cases h| .tup _,.str _,_,h,_=>by unfold ltD at h;cases h| .tup _,.int _,_,h,_=>by unfold ltD at h;cases h| .tup _,.lst _,_,h,_=>by unfold ltD at h;cases h| .tup _,.dct _,_,h,_=>by unfold ltD at h;cases h| .tup _,.obj _ _,_,h,_=>by unfold ltD at h;cases h| .non,b,_,h,_=>by cases b<;>(unfold ltD at h;cases h)| .bl _,b,_,h,_=>by cases b<;>(unfold ltD at h;cases h)
 | .str x,b,c,h1,h2=>by
  cases b with
  | str y=>
   cases c with
   |str z=>
    unfold ltD at h1 h2 ⊢;rw[Xe (List.lt_trans (Zi (oq9 h1)) (Zi (oq9 h2)))]
   |_=>unfold ltD at h2;cases h2
  |_=>unfold ltD at h1;cases h1
 |.lst _,b,_,h,_=>by cases b<;>(unfold ltD at h;cases h)|.dct _,b,_,h,_=>by cases b<;>(unfold ltD at h;cases h)|.obj _ _,b,_,h,_=>by cases b<;>(unfold ltD at h;cases h)
theorem lts_trans:∀{x y z:List D},ltDs x y=some true->ltDs y z=some true->ltDs x z=some true
 | [],[],_,h,_=>by unfold ltDs at h;cases h| [],_::_,[],_,h=>by unfold ltDs at h;cases h| [],_::_,_::_,_,_=>by unfold ltDs;rfl| _::_,[],_,h,_=>by unfold ltDs at h;cases h| _::_,_::_,[],_,h=>by unfold ltDs at h;cases h
 | a::x,b::y,c::z,h1,h2=>by
  unfold ltDs at h1 h2 ⊢
  by_cases e1:a=b
  ·rw[X7 e1]at h1
   by_cases e2:b=c
   ·rw[X7 e2]at h2;rw[X7 (e1.trans e2)];exact lts_trans h1 h2
   ·rw[X9 e2]at h2;rw[X9 (by rw[e1];exact e2),e1];exact h2
  ·rw[X9 e1]at h1
   by_cases e2:b=c
   ·rw[X9 (by rw[<-e2];exact e1),<-e2];exact h1
   ·rw[X9 e2]at h2;have ht:=lt_trans h1 h2;rw[X9 λe=>by rw[e]at ht;exact vjo c ht];exact ht
end
end Tl
namespace Tl
open PySem PySem.W PyProof.Rows Srt Q
abbrev Ls(a b:D):Prop:=ltD a b=some true
def Cmp(ds:List D):Prop:=∀a∈ds,∀b∈ds,∃k,ltD a b=some k
theorem qw6{ds:List D}(h:Cmp ds){a b:D}(ha:a∈ds)(hb:b∈ds)(ne:a≠b):Ls a b\/Ls b a:=by
 obtain⟨k,hk⟩:=h a ha b hb;cases k with|true=>exact .inl hk|false=>exact .inr (kxq hk ne)
theorem kv4{α:Type}{p q:α->Bool}:∀{l:List α},(∀a∈l,p a=true->q a=true)->(∃x∈l,q x=true/\p x=false)->l.countP p<l.countP q
 | [],_,h=>by obtain⟨x,hx,_⟩:=h;cases hx
 | a::l,hi,h=>by
  have mono:l.countP p<=l.countP q:=List.countP_mono_left λb hb hp=>hi b (lc9 _ hb) hp
  rw[List.countP_cons,List.countP_cons];obtain⟨x,hx,q1,q2⟩:=h;rcases aD hx with rfl|hx
  ·rw[X7 q1,X9 (by rw[q2];decide)];lia
  ·have:=kv4 (l:=l) (λb hb hp=>hi b (lc9 _ hb) hp) ⟨x,hx,q1,q2⟩;have e:=hi a X6
   by_cases c:p a=true
   ·rw[X7 c,X7 (e c)];lia
   ·rw[X9 c]
    split<;>lia
def rk(ds:List D)(d:D):Int:=((ds.countP λe=>decide (Ls e d):Nat):Int)
theorem qxp{ds:List D}{a b:D}(ha:a∈ds)(h:Ls a b):rk ds a<rk ds b:=by
 unfold rk;have:=kv4 (l:=ds) (p:=λe=>decide (Ls e a)) (q:=λe=>decide (Ls e b)) (λe _ he=>Xe (lt_trans (Zi he) h)) ⟨a,ha,Xe h,Xl (vjo a)⟩;lia
theorem vxc{ds:List D}(hc:Cmp ds){a b:D}(ha:a∈ds)(hb:b∈ds):ltD a b=some (decide (rk ds a<rk ds b)):=by
 obtain⟨k,hk⟩:=hc a ha b hb;rw[hk];cases k with
 | true=>rw[Xe (qxp ha hk)]
 | false=>
  rw[Xl]
  by_cases e:a=b
  ·subst e;lia
  ·have:=qxp hb (kxq hk e);lia
theorem vxd{ds:List D}(hc:Cmp ds){a b:D}(ha:a∈ds)(hb:b∈ds)(h:rk ds a=rk ds b):a=b:=by
 by_cases e:a=b
 ·exact e
 ·rcases qw6 hc ha hb e with z|z
  ·have:=qxp ha z;lia
  ·have:=qxp hb z;lia
structure TT (h:Heap)(vs:List Value)(ds:List D):Prop where
 len:vs.length=ds.length
 at':∀(i:Nat) v d,vs[i]?=some v->ds[i]?=some d->∃b x r,v=.ref b/\d=.tup (.int x::r)/\j5 h d v/\j7 6 d=true
theorem TT.tail{h:Heap}{v:Value}{vs:List Value}{d:D}{ds:List D}(t:TT h (v::vs) (d::ds)):TT h vs ds:=⟨by have:=t.len;simpa using this,λi v d e1 e2=>t.at' (i+1) v d (by simpa using e1) (by simpa using e2)⟩
theorem TT.kat{h:Heap}:∀{vs:List Value} {ds:List D},TT h vs ds->∃fs:List Value,KatTups h vs fs/\fs.length=vs.length/\∀v∈fs,∃x t,v=Value.int x t
 |[],_,_=>⟨[],.nil,rfl,λv h=>nomatch h⟩|v::vs,[],t=>by have:=t.len;simp at this
 |v::vs,d::ds,t=>by
  obtain⟨b,x,r,rfl,rfl,hr,hk⟩:=t.at' 0 v d rfl rfl;obtain⟨fs,g1,g2,g3⟩:=TT.kat t.tail;unfold j5 at hr;obtain⟨a,us,e,⟨ob,dm,hc,nn,gi⟩,hi⟩:=hr;cases e;unfold CReps at hi;obtain⟨u,rr,rfl,hu,_⟩:=hi;unfold j5 at hu;obtain⟨tk,rfl⟩:=hu;refine⟨.int x tk::fs,.cons dm hc gi rfl g1,by simp[g2],λv hv=>?_⟩;rcases aD hv with rfl|hv
  ·exact⟨_,_,rfl⟩
  ·exact g3 v hv
section
variable {prog:Program}{w:PySem.World}{A:Around}{E:VP9}{s:Shared}
theorem wjj{n:Nat}{Q:Bool->Shared->Prop}{fin:Bool}(hu:A.units+2*n+2<cLine):∀(xs ys:List D) (us iu:List Value) (b:Bool) (i:Nat),keyDs n xs=true->keyDs n ys=true->CReps s.heap xs us->CReps s.heap ys iu->ltDs xs ys=some b->fin=decide (xs.length<ys.length)->Q b s ->
  KatLex prog w A true fin Q (us.zip iu) (i+1) s:=by
 intro xs
 induction xs with
 | nil=>
  intro ys us iu b i _ _ q1 q2 h hf hq;unfold CReps at q1;subst q1;rw[List.zip_nil_left];refine kat_nil ?_;cases ys with| nil=>unfold ltDs at h;cases oq9 h;rw[hf];exact hq| cons y ys=>unfold ltDs at h;cases oq9 h;rw[hf];simpa using hq
 | cons x xs ih=>
  intro ys us iu b i kx ky q1 q2 h hf hq;unfold CReps at q1;obtain⟨u,r,rfl,g1,g2⟩:=q1;cases ys with
  | nil=>
   unfold CReps at q2;subst q2;rw[List.zip_nil_right];refine kat_nil ?_;unfold ltDs at h;cases oq9 h;rw[hf]
   simpa using hq
  | cons y ys=>
   unfold CReps at q2;obtain⟨u',r',rfl,g3,g4⟩:=q2;unfold keyDs at kx ky;rw[Bool.and_eq_true]at kx ky;have he:=K9 (s:=s) n (A:=A) (jxq kx.1) g1 g3 ⋯;rw[Wz kx.1 ky.1]at he;unfold ltDs at h;rw[List.zip_cons_cons];refine kat_cons (he prog w _ _ ?_)
   by_cases e:x=y
   ·rw[X7 e]at h;rw[Xe e];exact kat_yes (ih ys r r' b (i+1) kx.2 ky.2 g2 g4 h (by rw[hf,Xf,Xf];simp) hq)
   ·rw[X9 e]at h;rw[Xl e];refine kat_no ?_;have:(true&&(i+1==0))=false:=by simp
    rw[this];refine kat_one u u' ?_;exact lt_C n kx.1 ky.1 g1 g3 ⋯ h prog w _ _ hq
theorem wx3{vs:List Value}{ds:List D}{i j:Nat}{C:Bool->Shared->Prop}{b:Bool}(hu:A.units+20<cLine)(t:TT s.heap vs ds)(hi:i<vs.length)(hj:j<vs.length)(hb:ltD (ds[i]'(by rw[<-t.len];exact hi)) (ds[j]'(by rw[<-t.len];exact hj))=some b)(h:C b s):kas_ask prog w A (tuples' true) vs i j C s:=by
 have li:i<ds.length:=by rw[<-t.len];exact hi
 have lj:j<ds.length:=by rw[<-t.len];exact hj
 unfold kas_ask;have ei:vs.getD i Value.none=vs[i]:=by simp[hi]
 have ej:vs.getD j Value.none=vs[j]:=by simp[hj]
 rw[ei,ej];obtain⟨b1,x1,r1,e1,f1,c1,k1⟩:=t.at' i _ _ (X5 hi) (X5 li);obtain⟨b2,x2,r2,e2,f2,c2,k2⟩:=t.at' j _ _ (X5 hj) (X5 lj);rw[f1,f2]at hb;rw[f1]at c1 k1;rw[f2]at c2 k2;rw[e1]at c1 ⊢;rw[e2]at c2 ⊢;unfold j5 at c1 c2;obtain⟨a1,us1,q1,⟨o1,ef,hc1,n1,lz⟩,i1⟩:=c1;obtain⟨a2,us2,q2,⟨o2,ho2,ly,n2,gm⟩,i2⟩:=c2;cases q1;cases q2;unfold j7 at k1 k2;unfold CReps at i1 i2;obtain⟨u1,v1,rfl,p1,w1⟩:=i1;obtain⟨u2,v2,rfl,p2,w2⟩:=i2;have kd1:=k1;have kd2:=k2;unfold keyDs at kd1 kd2;rw[Bool.and_eq_true]at kd1 kd2;have l1:=w1.len;have l2:=w2.len;unfold j5 at p1 p2;obtain⟨t1,rfl⟩:=p1;obtain⟨t2,rfl⟩:=p2;unfold ltD ltDs at hb;refine kat_lt ef lz ho2 gm ?_;show KatLex prog w A true _ C ((Value.int x1 t1,Value.int x2 t2)::v1.zip v2) 0 s;refine kat_cons (wpAny_eqBool_int ?_)
 by_cases e:x1=x2
 ·subst e;rw[X7 rfl]at hb;rw[beq_self_eq_true];exact kat_yes (wjj (n:=5) ⋯ r1 r2 v1 v2 b 0 kd1.2 kd2.2 w1 w2 hb (by simp[l1,l2]) h)
 ·rw[X9 (λz=>e (by injection z))]at hb;unfold ltD at hb;cases oq9 hb;rw[beq_false_of_ne e];exact kat_no (oneLt_int h)
end
theorem jzh(a:D):∀r:List D,(J6 a r).Perm (a::r)
 |[]=>.refl _
 |b::r=>by
  unfold J6
  split
  ·exact((jzh a r).cons b).trans (.swap _ _ _)
  ·exact .refl _
theorem z6:∀r:List D,(vQ r).Perm r
 |[]=>.refl _|a::r=>(jzh a _).trans ((z6 r).cons a)
theorem qvf{a:D}:∀{r:List D},r.Pairwise Ls->a∉r->(∀b∈r,∃k,ltD b a=some k)->(J6 a r).Pairwise Ls
 | [],_,_,_=>List.pairwise_singleton _ _
 | b::r,hp,hn,hc=>by
  obtain⟨h1,h2⟩:=List.pairwise_cons.mp hp;unfold J6
  split
  ·rename_i hb;refine List.pairwise_cons.mpr ⟨λc hcm=>?_,qvf h2 (λz=>hn (lc9 _ z)) λc hcm=>hc c (lc9 _ hcm)⟩;rcases aD ((jzh a r).mem_iff.mp hcm)with rfl|hcm
   ·exact hb
   ·exact h1 c hcm
  ·rename_i hb;have ip:Ls a b:=by
    obtain⟨k,hk⟩:=hc b X6;cases k with|true=>exact absurd hk hb|false=>exact kxq hk λz=>hn (by rw[z];exact X6)
   refine List.pairwise_cons.mpr ⟨λc hcm=>?_,hp⟩;rcases aD hcm with rfl|hcm
   ·exact ip
   ·exact lt_trans ip (h1 c hcm)
theorem kjx:∀{ds:List D},Cmp ds->ds.Nodup->(vQ ds).Pairwise Ls
 |[],_,_=>.nil
 |a::r,hc,hn=>by
  obtain⟨h1,h2⟩:=List.nodup_cons.mp hn;unfold vQ;exact qvf (kjx (λx hx y hy=>hc x (lc9 _ hx) y (lc9 _ hy)) h2) (λz=>h1 ((z6 r).mem_iff.mp z)) λb hb=>hc b (lc9 _ ((z6 r).mem_iff.mp hb)) a X6
theorem kx0{ds p:List D}(hc:Cmp ds)(hn:ds.Nodup)(hp:p.Perm ds)(h:p.Pairwise Ls):p=vQ ds:=
 List.Perm.eq_of_pairwise (λa b _ _ h1 h2=>by
  have h2:ltD b a=some true:=h2;rw[qqs h1]at h2;cases h2) h (kjx hc hn) (hp.trans (z6 ds).symm)
mutual
theorem jwj{h h':Heap}(et:∀b ob,h.get? b=some ob->ob.cls=.type "tuple"->h'.get? b=some ob):∀{n:Nat} {d:D} {u:Value},j7 n d=true->j5 h d u->j5 h' d u
 |_,.non,_,_,r=>by unfold j5 at r ⊢;exact r|n,.bl _,_,hk,_=>by cases n<;>(unfold j7 at hk;cases hk)|_,.int _,_,_,r=>by unfold j5 at r ⊢;exact r|_,.str _,_,_,r=>by unfold j5 at r ⊢;exact r|0,.tup _,_,hk,_=>by unfold j7 at hk;cases hk
 |n+1,.tup ds,_,hk,r=>by
  unfold j7 at hk;unfold j5 at r ⊢;obtain⟨a,us,e,⟨ob,dm,hc,nn,gi⟩,hi⟩:=r;exact⟨a,us,e,⟨ob,et a ob dm hc,hc,nn,gi⟩,creps_keep et hk hi⟩
 |n,.lst _,_,hk,_=>by cases n<;>(unfold j7 at hk;cases hk)|n,.dct _,_,hk,_=>by cases n<;>(unfold j7 at hk;cases hk)|n,.obj _ _,_,hk,_=>by cases n<;>(unfold j7 at hk;cases hk)
theorem creps_keep{h h':Heap}(et:∀b ob,h.get? b=some ob->ob.cls=.type "tuple"->h'.get? b=some ob):∀{n:Nat} {ds:List D} {us:List Value},keyDs n ds=true->CReps h ds us->CReps h' ds us
 |_,[],_,_,r=>by unfold CReps at r ⊢;exact r
 |n,d::ds,_,hk,r=>by
  unfold keyDs at hk;rw[Bool.and_eq_true]at hk;unfold CReps at r ⊢;obtain⟨u,rr,e,h1,h2⟩:=r;exact⟨u,rr,e,jwj et hk.1 h1,creps_keep et hk.2 h2⟩
end
section
variable {prog:Program}{w:PySem.World}{A:Around}{E:VP9}{s:Shared}{vs:List Value}{ds:List D}{a:Addr}{n:Nat}{P:Fin->Shared->Prop}
theorem TT.keep{h h':Heap}(t:TT h vs ds)(et:∀b ob,h.get? b=some ob->ob.cls=.type "tuple"->h'.get? b=some ob):TT h' vs ds:=⟨t.len,λi v d e1 e2=>by
 obtain⟨b,x,r,g1,g2,g3,g4⟩:=t.at' i v d e1 e2;exact⟨b,x,r,g1,g2,jwj et g4 g3,g4⟩⟩
theorem kw8(hu:A.units+20<cLine)(ho:s.heap.get? a=some (seqObj "list" vs.toArray n))(ht:TT s.heap vs ds)(hc:Cmp ds)(dy:ds.Nodup)(h64:vs.length<64)
  (h:∀p:List Nat,p.Perm (List.range vs.length)->(p.map λi=>ds.getD i .non)=vQ ds->P (.done (.ret .none)) { s with heap:=sortedHeap s.heap a vs (p.map λi=>vs.getD i .none).toArray }):
  wpAny (model prog w) A (Builtin.«list.sort» ⟨[.ref a],[]⟩) P E s:=by
 rw [list_sort_plain];have i4:a<s.heap.objs.size:=Xd ho;refine X0 (listItems_at ho rfl ?_);refine X0 (listUpdate_at ho rfl ?_ (by rw[X8,Yr];lia) (Yh _));obtain⟨e1,ef⟩:∃e1,(s.heap.update a (Obj.mapSeq λ_=>#[])).get? a=some (seqObj "list" #[] e1):=⟨_,get?_update_seq ho (λ_=>#[])⟩;refine X0 (seqEpoch_at ef rfl ?_);refine X0 (wpAny_newTuple ?_ (by show vs.length<=_;rw[Yr];lia));refine X0 (wpAny_newList ?_ (Yh _));refine Xw ?_;have ho6:(((s.heap.update a (Obj.mapSeq λ_=>#[])).push (seqObj "tuple" vs.toArray 0)).push (seqObj "list" #[] 0)).get? a=some (seqObj "list" #[] e1):=X2 _ (X2 _ ef);have ht6:TT (((s.heap.update a (Obj.mapSeq λ_=>#[])).push (seqObj "tuple" vs.toArray 0)).push (seqObj "list" #[] 0)) vs ds:=ht.keep λb ob hb cp=>X2 _ (X2 _ (by
  rw[Z9 _ _ (λz=>by
   rw[<-z,ho]at hb;cases hb;exact absurd (show Value.type "list"=Value.type "tuple" from cp) ⋯)]
  exact hb))
 have hnn:ds.length=vs.length:=ht.len.symm;have gd:∀(i:Nat) (hi:i<vs.length),ds.getD i .non=ds[i]'⋯:=λi hi=>by simp[show i<ds.length by lia]
 have key:∀i j,i<vs.length->j<vs.length->rk ds (ds.getD i .non)=rk ds (ds.getD j .non)->i=j:=λi j hi hj e=>by
  rw[gd i hi,gd j hj]at e;have:=vxd hc (Y2 _) (Y2 _) e;exact(List.getElem?_inj ⋯ dy).mp (by rw[X5 ⋯,X5 ⋯,this])
 have fin:∀p:List Nat,p.Perm (List.range vs.length)->(p.map λi=>rk ds (ds.getD i .non)).Pairwise (· < ·)->(p.map λi=>ds.getD i .non)=vQ ds:=λp hp hpw=>by
  have pp:(p.map λi=>ds.getD i .non).Perm ds:=by
   refine(hp.map _).trans (.of_eq ?_);rw[<-hnn];exact Tb.rng_getD ds .non
  refine kx0 hc dy pp ?_;rw[Yy]at hpw ⊢;refine List.Pairwise.imp_of_mem (fun {i j} hi hj lt=>?_) hpw;have hi:=List.mem_range.mp (hp.mem_iff.mp hi);have hj:=List.mem_range.mp (hp.mem_iff.mp hj);have:=vxc hc (a:=ds.getD i .non) (b:=ds.getD j .non) (by rw[gd i hi];exact Y2 _) (by rw[gd j hj];exact Y2 _);rw[Xe lt]at this;exact this
 show wpAny (model prog w) A _ P E { s with heap:=((s.heap.update a (Obj.mapSeq λ_=>#[])).push (seqObj "tuple" vs.toArray 0)).push (seqObj "list" #[] 0) };dsimp only;have hsz:vs.toArray.size=vs.length:=by simp
 by_cases h2:vs.toArray.size<2
 ·rw[X7 h2,X7 h2];refine X0 (X1 ?_);rw[StateT.run_pure];refine X0 (X1 ?_);dsimp only;have es:(arrOf (SortSt.mk' general' (vs.toArray.zip vs.toArray) #[] 7 none)).map (·.2)=((List.range vs.length).map λi=>vs.getD i .none).toArray:=by
   show(vs.toArray.zip vs.toArray).map (·.2)=_;apply Array.toList_inj.mp;refine List.ext_getElem? λi=>?_
   by_cases hi:i<vs.length
   ·simp[hi]
   ·simp[Nat.le_of_not_lt hi]
  rw[es];refine X0 (seqEpoch_at ho6 rfl ?_);refine X0 (listUpdate_at ho6 rfl ?_ (Yh _) (by rw[X8,X3,Y1,Yr];lia));simp only[bne_self_eq_false,Bool.false_eq_true,if_false];refine X1 (h _ (.refl _) (fin _ (.refl _) ?_));rw[hsz]at h2;rcases(show vs.length=0\/vs.length=1 by lia)with e|e<;>rw[e]<;>simp[List.range_succ]
 ·rw[X9 h2,X9 h2];rw[hsz]at h2;obtain⟨fs,g1,g2,g3⟩:=ht6.kat;refine X0 (kat_kind (T:=.type "int") g1 ⋯ (λv hv=>?_) rfl ?_)
  ·obtain⟨x,t,rfl⟩:=g3 v hv;exact .now
  have eb:(Value.type "int" != Value.type "tuple")=true:=⋯
  rw[eb];obtain⟨p,q1,q2,q3⟩:=vko (key:=λi=>rk ds (ds.getD i .non)) (n:=vs.length) key ⋯;refine X0 (Zj (kat_run (ks:=vs) (vs:=vs) (G:=λp' s'=>p'=p/\s'={ s with heap:=((s.heap.update a (Obj.mapSeq λ_=>#[])).push (seqObj "tuple" vs.toArray 0)).push (seqObj "list" #[] 0) })
   (Q:=λcu s'=>arrOf cu=p.map (kas_item (vs.toArray.zip vs.toArray))/\failedOf cu=none/\s'={ s with heap:=((s.heap.update a (Obj.mapSeq λ_=>#[])).push (seqObj "tuple" vs.toArray 0)).push (seqObj "list" #[] 0) })
   rfl ⋯ h64 (λp' cu s' a1 a2 a3 a4=>⟨by rw[a2,a4.1],a3,a4.2⟩) (wkj (λi j C hi hj hC=>wx3 hu ht6 hi hj (by
    have:=vxc hc (a:=ds.getD i .non) (b:=ds.getD j .non) (by rw[gd i hi];exact Y2 _) (by rw[gd j hj];exact Y2 _);rw[<-gd i hi,<-gd j hj];exact this) hC) q1 ⟨rfl,rfl⟩)) ?_ λ_ _ e=>e)
  rintro ⟨⟨⟩,cu⟩ s' ⟨har,hf,rfl⟩;dsimp only;rw[kat_snds rfl har];refine X0 (seqEpoch_at ho6 rfl ?_);refine X0 (listUpdate_at ho6 rfl ?_ (Yh _) (by rw[X8,X3,X4,q2.sz,Yr];lia));rw[hf];simp only[bne_self_eq_false,Bool.false_eq_true,if_false];refine X1 (h p.toList q2.pm (fin _ q2.pm ?_));rw[Yy];refine List.pairwise_iff_getElem.mpr λi j hi hj lc=>?_
  rw[X4,q2.sz]at hi hj;have:=q3.lt lc hj;unfold Srt.K at this;rw[Array.getElem_toList,Array.getElem_toList]
  simpa [Array.getD,q2.sz,hi,hj]using this
end
end Tl
namespace Tl
open PySem PySem.W PyProof.Rows Srt Q Tw Tb
noncomputable def trP(prog:Program)(w:PySem.World)(Pd:D->Addr->Prop):HeapKind prog w Kd where
 is:=λh k a=>j5 h k.1 (.ref a)/\Pd k.1 a
 hash:=λk=>K7 w k.1
 draws:=λk=>KK k.1
 room:=λA=>A.units+40<cLine
 inj:=λhx hy=>(K6 prog w).inj hx.1 hy.1
 keeps:=λx ho hd hs=>⟨(K6 prog w).keeps x.1 ho hd hs,x.2⟩
 pyHash:=λhu hk h=>(K6 prog w).pyHash hu hk.1 h
 eqBool:=λhu hx hy h=>(K6 prog w).eqBool hu hx.1 hy.1 h
 quiet:=λhk h=>(K6 prog w).quiet hk.1 h
section
variable {prog:Program}{w:PySem.World}{A:Around}{E:VP9}{s:Shared}{Pd:D->Addr->Prop}
theorem wwx:∀(n m:Nat) {d:D} {u:Value} {A:Around} {s:Shared} {Q:Bool->Shared->Prop},n<=m->j7 n d=true->j5 s.heap d u->Q false s->wpAny (model prog w) A (ofAClassStatement m u) Q E s:=by
 intro n
 induction n with
 | zero=>
  intro m d u A s Q _ hk hr h;cases d with| non=>unfold j5 at hr;subst hr;unfold ofAClassStatement;exact X1 h| int i=>unfold j5 at hr;obtain⟨t,rfl⟩:=hr;unfold ofAClassStatement;exact X1 h| str i=>unfold j5 at hr;obtain⟨t,rfl⟩:=hr;unfold ofAClassStatement;exact X1 h| _=>unfold j7 at hk;cases hk
 | succ n ih=>
  intro m d u A s Q hm hk hr h;cases d with
  | non=>unfold j5 at hr;subst hr;unfold ofAClassStatement;exact X1 h| int i=>unfold j5 at hr;obtain⟨t,rfl⟩:=hr;unfold ofAClassStatement;exact X1 h| str i=>unfold j5 at hr;obtain⟨t,rfl⟩:=hr;unfold ofAClassStatement;exact X1 h
  | tup ds=>
   unfold j7 at hk;unfold j5 at hr;obtain⟨a,us,rfl,ht,hi⟩:=hr;have ty:=ht.typeIs;obtain⟨ob,dm,cp,nn,gi⟩:=ht;cases m with
   | zero=>lia
   | succ m=>
    unfold ofAClassStatement;refine X0 (Z8 ty ?_);dsimp only;rw[X7 (show("tuple" == "tuple")=true from rfl)];refine X0 (X1 ?_);simp only[Bool.not_true,Bool.false_eq_true,if_false];refine X0 (wpAny_seqItems dm gi ?_);dsimp only;refine X0 ?_;rw[<-Array.forIn_toList];refine wpAny_forIn_list _ (λai r s'=>r.1=none/\s'=s/\∃post,keyDs n post=true/\CReps s.heap post ai) _ ?_ ?_ _ _ ⟨rfl,rfl,ds,hk,hi⟩
    ·rintro v ai r s' ⟨hr,rfl,post,dw,hl⟩;cases post with
     |nil=>unfold CReps at hl;cases hl
     |cons d post=>
      unfold CReps at hl;obtain⟨u1,r1,e1,h1,h2⟩:=hl;injection e1 with e1 e2;subst e1 e2;unfold keyDs at dw;rw[Bool.and_eq_true]at dw;refine X0 (ih m ⋯ dw.1 h1 ?_);simp only[Bool.false_eq_true,if_false];exact X1 ⟨rfl,rfl,post,dw.2,h2⟩
    ·rintro ⟨r1,r2⟩ s' ⟨hr,rfl,_⟩;simp only at hr;subst hr;exact X1 h
  |_=>unfold j7 at hk;cases hk
theorem wwy:∀(n m:Nat) {d:D} {u:Value} {A:Around} {s:Shared} {Q:Bool->Shared->Prop},n<=m->j7 n d=true->j5 s.heap d u->(∀b,Q b s)->wpAny (model prog w) A (hashByValue m u) Q E s:=by
 intro n
 induction n with
 | zero=>
  intro m d u A s Q _ hk hr h;cases d with| non=>unfold j5 at hr;subst hr;unfold hashByValue;exact X1 (h _)| int i=>unfold j5 at hr;obtain⟨t,rfl⟩:=hr;unfold hashByValue;exact X1 (h _)| str i=>unfold j5 at hr;obtain⟨t,rfl⟩:=hr;unfold hashByValue;exact X1 (h _)| _=>unfold j7 at hk;cases hk
 | succ n ih=>
  intro m d u A s Q hm hk hr h;cases d with
  | non=>unfold j5 at hr;subst hr;unfold hashByValue;exact X1 (h _)| int i=>unfold j5 at hr;obtain⟨t,rfl⟩:=hr;unfold hashByValue;exact X1 (h _)| str i=>unfold j5 at hr;obtain⟨t,rfl⟩:=hr;unfold hashByValue;exact X1 (h _)
  | tup ds=>
   unfold j7 at hk;unfold j5 at hr;obtain⟨a,us,rfl,ht,hi⟩:=hr;have ty:=ht.typeIs;obtain⟨ob,dm,cp,nn,gi⟩:=ht;cases m with
   | zero=>lia
   | succ m=>
    unfold hashByValue;refine X0 (Z0 ty F.slot_tuple_hash.lookup ?_);show wpAny _ _ (seqItems? (.ref a) >>= _) _ _ _;refine X0 (wpAny_seqItems dm gi ?_);show wpAny _ _ (forIn us.toArray _ _ >>= _) _ _ _;refine X0 ?_;rw [<-Array.forIn_toList];refine wpAny_forIn_list _ (λai r s'=>s'=s/\((∃b,r.1=some b/\ai=[])\/(r.1=none/\∃post,keyDs n post=true/\CReps s.heap post ai))) _ ?_ ?_ _ _ ⟨rfl,.inr ⟨rfl,ds,hk,hi⟩⟩
    ·rintro v ai r s' ⟨rfl,h1|⟨hr,post,dw,hl⟩⟩
     ·obtain⟨b,_,e⟩:=h1;cases e
     cases post with
     | nil=>unfold CReps at hl;cases hl
     | cons d post=>
      unfold CReps at hl;obtain⟨u1,r1,e1,h1,h2⟩:=hl;injection e1 with e1 e2;subst e1 e2;unfold keyDs at dw;rw[Bool.and_eq_true]at dw;refine X0 (ih m ⋯ dw.1 h1 λb=>?_);cases b with
      |true=>
       simp only[Bool.not_true,Bool.false_eq_true,if_false];exact X1 ⟨rfl,.inr ⟨rfl,post,dw.2,h2⟩⟩
      |false=>
       simp only[Bool.not_false,if_true];exact X1 (X1 (h _))
    ·rintro ⟨r1,r2⟩ s' ⟨rfl,_⟩;cases r1 with|none=>exact X1 (h _)|some b=>exact X1 (h _)
  |_=>unfold j7 at hk;cases hk
theorem kindX:KX (trP prog w Pd):=⟨fun {_ _ k _} hk et=>⟨jwj et k.2 hk.1,hk.2⟩,fun {_ _ _ k _ _} hk h=>wwx 6 8 ⋯ k.2 hk.1 h⟩
theorem wwc:ByV (trP prog w Pd):=fun {_ _ _ k _ _} hk h=>wwy 6 8 ⋯ k.2 hk.1 h
theorem vkh{knd:HeapKind prog w Kd}:∀{vs:List Value} {ks:List (Kd×Addr)},vs.Perm (ks.map λp=>Value.ref p.2)->∃c8:List (Kd×Addr),c8.Perm ks/\vs=c8.map λp=>Value.ref p.2:=by
 have:∀{mq vs:List Value},vs.Perm mq->∀ks:List (Kd×Addr),mq=ks.map (λp=>Value.ref p.2)->∃c8:List (Kd×Addr),c8.Perm ks/\vs=c8.map λp=>Value.ref p.2:=by
  intro mq vs h
  induction h with
  | nil=>intro ks e;exact⟨ks,.refl _,e⟩
  | cons x _ ih=>
   intro ks e;cases ks with
   | nil=>cases e
   | cons k ks=>
    rw[List.map_cons]at e;injection e with e1 e2;obtain⟨c8,p1,p2⟩:=ih ks e2;exact⟨k::c8,p1.cons k,by rw[List.map_cons,p2,e1]⟩
  | swap x y l=>
   intro ks e;cases ks with
   | nil=>cases e
   | cons k ks=>
    cases ks with
    |nil=>cases e
    |cons k2 ks=>
     rw[List.map_cons,List.map_cons]at e;injection e with e1 e2;injection e2 with e2 e3;exact⟨k2::k::ks,.swap _ _ _,by rw[List.map_cons,List.map_cons,e1,e2,e3]⟩
  |trans _ _ ih1 ih2=>
   intro ks e;obtain⟨k1,p1,e1⟩:=ih2 ks e;obtain⟨k2,p2,e2⟩:=ih1 k1 e1;exact⟨k2,p2.trans p1,e2⟩
 intro vs ks h;exact this h ks rfl
theorem wqz{h:Heap}{ks:List (Kd×Addr)}(hk:∀p∈ks,j5 h p.1.1 (.ref p.2))(hf:∀p∈ks,Vk p.1.1=true):TT h (ks.map λp=>Value.ref p.2) (ks.map λp=>p.1.1):=⟨by simp,λi v d e1 e2=>by
 rw[Xp]at e1 e2;cases hp:ks[i]? with
 | none=>rw[hp]at e1;cases e1
 | some p=>
  rw[hp]at e1 e2;cases oq9 e1;cases oq9 e2;have hm:=Xz hp;have f:=hf p hm;have c:=hk p hm;have k:j7 6 p.1.1=true:=p.1.2;have g:∀d:D,Vk d=true->j5 h d (.ref p.2)->j7 6 d=true->∃b x r,Value.ref p.2=.ref b/\d=.tup (.int x::r)/\j5 h d (.ref p.2)/\j7 6 d=true:=λd f c k=>by
   match d,f with
   |.tup (.int x::r),_=>exact⟨_,x,r,rfl,rfl,c,k⟩
  exact g _ f c k⟩
theorem kvl(hu:A.units+60<cLine){a:Addr}{ls:List Kd}{Q:VP9}(hh:A.handled=none)(hS:HasT (trP prog w Pd) s.heap a ls)(hc:Cmp (ls.map (·.1)))(hf:∀k∈ls,Vk k.1=true)(hl:ls.length<=59)
  (h:∀(h':Heap) (d:Drawn) (tk l e:Nat) (as:List Addr),(∀b o,s.heap.get? b=some o->h'.get? b=some o)->s.heap.objs.size<=l->h'.get? l=some (seqObj "list" (as.map Value.ref).toArray e)->F2 (λa d=>Pd d a) as (vQ (ls.map (·.1)))->Q (.ref l) { s with heap:=h',drawn:=d,toks:=tk }):
  wpAny (model prog w) A (call (.builtin "sorted") [.ref a]) Q E s:=by
 obtain⟨o,es,ep,t,ks,ho,ok,hp⟩:=hS;have hsz:=ok.sz;have hkl:ks.length=ls.length:=by rw[<-hp.length_eq,X3]
 refine Calls.call_function_entry kind_sorted plain_sorted entry_sorted (args_sorted1 _) ?_;unfold Builtin.«sorted»;refine X0 (m:=checkCount "sorted" 1 1 _) (X1 ?_);refine X0 (qzt (by simpa using hh) ho ⟨ok.ex.1,ok.d,ok.f,ok.led,ok.tb.pw,by rw[hsz,hkl,Yr];lia⟩ λh1 d tk vs cw hsz1 hv=>?_);have hv:vs.Perm (ks.map λp=>Value.ref p.2):=by
  rw[ok.el,Xh]at hv;exact hv
 obtain⟨c8,p1,rfl⟩:=vkh (knd:=trP prog w Pd) hv;have ah:(c8.map λp=>Value.ref p.2).length=ls.length:=by rw[X3,p1.length_eq,hkl]
 refine X0 (wpAny_newList ?_ (hsz:=by rw[ah,Yr];lia));have p9:(h1.push (seqObj "list" (c8.map λp=>Value.ref p.2).toArray 0)).get? h1.objs.size=some (seqObj "list" (c8.map λp=>Value.ref p.2).toArray 0):=Xb _ rfl;have dz:(c8.map λp=>p.1.1).Perm (ls.map (·.1)):=by
  have:=((p1.map (·.1)).trans hp).map (·.1);rw[Xh]at this;exact this
 have hmem:∀p∈c8,p.1∈ls:=λp hpp=>hp.mem_iff.mp (List.mem_map.mpr ⟨p,p1.mem_iff.mp hpp,rfl⟩)
 have hcm:Cmp (c8.map λp=>p.1.1):=λx hx y hy=>hc x (dz.mem_iff.mp hx) y (dz.mem_iff.mp hy)
 have pj:(ls.map (·.1)).Nodup:=by
  have n1:ls.Nodup:=hp.nodup_iff.mp ok.nd;exact List.pairwise_map.mpr (n1.imp λdj z=>dj (Subtype.ext z))
 have dy:(c8.map λp=>p.1.1).Nodup:=dz.nodup_iff.mpr pj;have his:∀p∈c8,j5 s.heap p.1.1 (.ref p.2)/\Pd p.1.1 p.2:=λp hpp=>ok.is p (p1.mem_iff.mp hpp)
 have up:∀b ob,s.heap.get? b=some ob->(h1.push (seqObj "list" (c8.map λp=>Value.ref p.2).toArray 0)).get? b=some ob:=λb ob e=>X2 _ (cw b ob e)
 have ht:TT (h1.push (seqObj "list" (c8.map λp=>Value.ref p.2).toArray 0)) (c8.map λp=>Value.ref p.2) (c8.map λp=>p.1.1):=wqz (λp hpp=>jwj (λb ob e _=>up b ob e) p.1.2 (his p hpp).1) λp hpp=>hf _ (hmem p hpp)
 refine X0 (Xw (Y9 slot_list_sort ⟨_,p9,rfl⟩ entry_list_sort (kw8 (by have:=L3.in1_units A;have:=L3.in1_units A.in1;lia) p9 ht hcm dy (by rw[ah];lia) λp hpm hps=>⟨_,rfl,?_⟩) (args_list_sort _)));obtain⟨e,he⟩:=sortedHeap_at (out:=(p.map λi=>(c8.map λp=>Value.ref p.2).getD i .none).toArray) p9;have hrg:∀i∈p,i<c8.length:=λi hi=>by
  have:=List.mem_range.mp (hpm.mem_iff.mp hi);rw[X3]at this;exact this
 have ev:(p.map λi=>(c8.map λp=>Value.ref p.2).getD i .none)=(p.map λi=>(c8.map (·.2)).getD i 0).map Value.ref:=by
  rw[Xh];refine Yl λi hi=>?_
  have:=hrg i hi;simp[this]
 rw[ev]at he;refine X1 ⟨_,rfl,h _ d tk _ e (p.map λi=>(c8.map (·.2)).getD i 0) (λb o q=>?_) (Nat.le_of_lt hsz1) (by rw[ev];exact he) ?_⟩
 ·have hb:=Xd (cw b o q);rw[sortedHeap_old (Xi hb) (by rw[size_push'];exact Z4 hb)];exact X2 _ (cw b o q)
 ·have e2:vQ (ls.map (·.1))=p.map λi=>(c8.map λp=>p.1.1).getD i .non:=by
   rw[hps];exact(kx0 hc pj ((z6 _).trans dz) (kjx hcm dy)).symm
  rw[e2];refine wkh λi hi=>?_
  have hi:=hrg i hi;have:=(his c8[i] (Y2 hi)).2
  simpa [hi]using this
end
end Tl
namespace Q
open PySem PySem.Spec PyProof.Rows L2 L3 Sw Tw Tl
theorem wjc{ds:List D}(h:okT ds=true):(∀d∈ds,j7 6 d=true/\Vk d=true)/\Cmp ds:=by
 unfold okT at h;rw[Bool.and_eq_true,Ya,Ya]at h;refine⟨λd hd=>by have:=h.1 d hd;rw[Bool.and_eq_true]at this;exact this,λa ha b hb=>?_⟩;have:=h.2 a ha;rw[Ya]at this;exact Option.isSome_iff_exists.mp (this b hb)
theorem wjw:∀{ds:List D},(∀d∈ds,j7 6 d=true)->∃ss:List Kd,ss.map (·.1)=ds
 |[],_=>⟨[],rfl⟩
 |d::ds,h=>by
  obtain⟨ss,e⟩:=wjw λd hd=>h d (lc9 _ hd)
  exact⟨⟨d,h d X6⟩::ss,congrArg (d :: ·) e⟩
theorem qw1:∀(ss ls:List Kd),(ss.foldl Tw.stepK ls).map (·.1)=(ss.map (·.1)).foldl v4 (ls.map (·.1))
 | [],_=>rfl
 | k::ss,ls=>by
  rw[Z5,List.map_cons,Z5,qw1 ss]
  congr 1
  unfold Tw.stepK v4;have:k∈ls↔k.1∈ls.map (·.1):=⟨λh=>List.mem_map.mpr ⟨k,h,rfl⟩,λh=>by
   obtain⟨k',h1,h2⟩:=aE h;rw[<-Subtype.ext h2];exact h1⟩
  by_cases c:k∈ls
  ·rw[X7 c,X7 (this.mp c)]
  ·rw[X9 c,X9 λz=>c (this.mpr z)];simp
theorem wkp(ss:List Kd):(ddK ss).map (·.1)=ddT (ss.map (·.1)):=qw1 ss []
theorem kkn:∀(ds ls:List D) {d:D},d∈ds.foldl v4 ls->d∈ls\/d∈ds
 | [],ls,d,h=>.inl h
 | a::ds,ls,d,h=>by
  rcases kkn ds _ h with h|h
  ·unfold v4 at h
   split at h
   ·exact .inl h
   ·rcases aA h with h|h
    ·exact .inl h
    ·exact .inr (by rw[aC h];exact X6)
  ·exact .inr (lc9 _ h)
section
variable {X:Cx}{Z:Fx0}{K:Frag}{q:Bool}{a:Ex}{e ea:Expr}{σ:L2.St}{H:Hp}{pos p p2 b6:Pos}{pins:LA9}{s:Shared}
theorem qkf:∀{as:List Addr} {ds:List D},F2 (λa d=>PuR K H d (V.ref a)) as ds->RepA K H true ds (as.map V.ref) []
 |_,_,.nil=>by show RepA K H true [] [] [];unfold RepA;exact⟨rfl,rfl⟩
 |_,_,.cons h r=>by
  rw[List.map_cons];unfold RepA;exact⟨_,_,[],[],rfl,rfl,qkd h,qkf r⟩
theorem qjx(I:L2.Inv X pins σ H s):∀{ds:List D} {zs:List V} {us:List Value} {bs:List Addr},RepA X.K H true ds zs bs->Vals zs us->(∀d∈ds,j7 6 d=true/\Vk d=true) ->
  us.length=ds.length/\∀(i:Nat) u,us[i]?=some u->∃b d,u=.ref b/\ds[i]?=some d/\j5 s.heap d (.ref b)/\PuR X.K H d (V.ref b)
 | [],_,_,_,r,v,_=>by
  unfold RepA at r;obtain⟨rfl,_⟩:=r;cases v;exact⟨rfl,λi u h=>by simp at h⟩
 | d :: ds,_,_,_,r,v,hk=>by
  unfold RepA at r;obtain⟨z,r',b1,b2,rfl,_,r1,r2⟩:=r;cases v with
  | cons h1 h2=>
   rename_i u us;obtain⟨g1,g2⟩:=qjx I r2 h2 λd hd=>hk d (lc9 _ hd)
   obtain⟨k1,k2⟩:=hk d X6;have pu:=kx9 k1 r1;refine⟨by simp[g1],λi u' hu=>?_⟩;cases i with
   | zero=>
    cases oq9 hu;have cr:=Vz I pu h1
    match d,k2 with
    |.tup (.int x::rr),_=>
     have pu':=pu;unfold PuR at pu';obtain⟨a,xs,rfl,_,_⟩:=pu';cases h1;exact⟨a,_,rfl,rfl,cr,pu⟩
   |succ i=>exact g2 i u' (by simpa using hu)
noncomputable def wql(K:Frag):List V->Hp->VK->Prop:=λxs H Q=>∃(p:Addr) (zs:List V) (ds:List D) (bs:List Addr),xs=[.ref p]/\SqL K H p zs/\RepA K H true ds zs bs/\(ddT ds).length<=59/\okT ds=true/\∀l zs',H l=none->RepA K H true (vQ (ddT ds)) zs' []->Q (.ref l) (upd H l (.lst zs'))
theorem vzq{t:TE}(hc:X.calm=true)(hu:X.A.units+64<cLine)(hg:Gl X "sorted")(hm:X.mg "sorted"=none)(jy:Gl X "set")(ml:X.mg "set"=none)(ha:PE X e t)(he:autoParam (starEach [e] X.env=(false,eval e X.env)::starEach [] X.env) Ŕ):
  PE X (.Call (.Name "sorted" p) [.Call (.Name "set" p2) [e] [] b6] [] pos) (fun σ H Q=>t σ H λv H1=>wql X.K [v] H1 Q):=by
 intro pins s σ H Q I h;refine Yj (xQ I hg hm (u:=.builtin "sorted") (by decide +kernel) ?_ ⋯ ⋯);refine PyProof.Rows.callWith_builtin1 ?_ rfl rfl;show wpAny _ _ (spliced ((false,eval (.Call (.Name "set" p2) [e] [] b6) X.env)::[])) _ _ s;refine Calls.spliced_cons ?_;refine Yj (xQ I jy ml (u:=.type "set") (by decide +kernel) ?_ ⋯ ⋯);refine Y0 (thn (qq ha v3 he b6 pins s σ H (λvs H1=>wql X.K vs H1 Q) I ?_) λus s1 hz=>?_) he rfl
 ·exact h
 obtain⟨vs,H1,I1,r1,q1⟩:=hz;obtain⟨b,zs,ds,bs,rfl,hq,rA,hl,hok,q⟩:=q1;obtain⟨u,rfl,rx⟩:=wY r1;cases rx;obtain⟨ac,r',pl,hz⟩:=I1.list hq;obtain⟨kf,cm⟩:=wjc hok;obtain⟨ln,at'⟩:=qjx I1 rA r' kf;obtain⟨ss,hss⟩:=wjw λd hd=>(kf d hd).1
 have kr:ss.length=ds.length:=by rw[<-hss,X3]
 have u1:=L3.in1_units X.A;have u2:=L3.in1_units X.A.in1;have u3:=L3.in1_units X.A.in1.in1;have rm:(ddK ss).map (·.1)=ddT ds:=by rw[wkp,hss]
 have ah:(ddK ss).length<=59:=by rw[<-X3 (f:=(·.1)),rm];exact hl
 refine qwb (knd:=trP X.prog X.w λd a=>PuR X.K H1 d (V.ref a)) kindX wwc (show X.A.in1.in1.in1.units+40<cLine by lia) (I1.ok.hd hc) pl.isList (ss:=ss) (by rw[X8,ln,kr]) (λi v hv=>?_) ah λh' tk hS cw=>?_
 ·obtain⟨b',d,e1,e2,e3,e4⟩:=at' i v (by simpa using hv);have hi:i<ss.length:=by rw[kr];exact(List.getElem?_eq_some_iff.mp e2).1
  refine⟨b',ss[i],e1,X5 hi,?_⟩;have ed:(ss[i]).1=d:=by
   have:(ss.map (·.1))[i]?=some (ss[i]).1:=by rw[Xp,X5 hi];rfl
   rw[hss,e2]at this;exact(oq9 this).symm
  show j5 s1.heap (ss[i]).1 (.ref b')/\PuR X.K H1 (ss[i]).1 (V.ref b');rw[ed];exact⟨e3,e4⟩
 ·have sub:∀d∈ddT ds,d∈ds:=λd hd=>(kkn ds [] hd).elim (λz=>nomatch z) id
  refine Calls.spliced_nil (kvl ⋯ (I1.ok.hd hc) hS (by rw[rm];exact λx hx y hy=>cm x (sub x hx) y (sub y hy)) (λk hk=>(kf k.1 (sub k.1 (by rw[<-rm];exact List.mem_map.mpr ⟨k,hk,rfl⟩))).2) ah λh2 d tk2 l e2 as old2 hl2 rn hF=>?_);rw[rm]at hF;have rp:=qkf (K:=X.K) (H:=H1) hF;have I2:L2.Inv X pins σ H1 { s1 with heap:=h',toks:=tk }:=I1.kept λb u q=>cw b u (Xd q) q
  have mh:as.length<=sizeLine:=by
   have e3:=wki hF;rw[(z6 _).length_eq,<-rm,X3]at e3;rw[Yr];lia
  refine⟨.ref l,_,Inv.dr (I2.laid (t':=tk2) (o:=.lst (as.map V.ref)) old2 hl2 ?_),rfl,q l (as.map V.ref) (I2.hok.fresh hl2) rp⟩;exact⟨by rw[X3];exact mh,as.map Value.ref,e2,kwo as,rn⟩
theorem wq3:Ad1 K (λv H Q=>wql K [v] H Q) QY:=by
 intro H x s Q ok hf k;unfold QY at hf;dsimp only at hf;cases hx:x.d with
 | lst ds=>
  rw[hx]at hf;dsimp only at hf
  split at hf
  ·rename_i hcn;cases oq9 hf;obtain⟨l,xs,bs,ev,q3,r3,_⟩:=items ok (.inl hx);have q3:LsR K H l xs:=by rcases q3 with⟨_,z⟩|⟨z,_⟩;exact z;rw[hx]at z;cases z
   have r4:RepA K H true ds xs bs:=by
    cases ho:(x.o != .dp)with|true=>rw[ho]at r3;exact r3|false=>rw[ho]at r3;exact r3.wk
   exact⟨l,xs,ds,bs,by rw[ev],wJ q3,r4,hcn.1,hcn.2,λp zs' hp rp=>k ⟨.rt,.lst _,.ref p,p::[]⟩ _ rfl rfl (zZ hp rp λb hb=>nomatch hb)⟩
  ·cases hf
 |_=>rw[hx]at hf;cases hf
end
section
variable {X:Cx}{Z:Fx0}{K:Frag}{q:Bool}{a:Ex}{e ea:Expr}{σ:L2.St}{H:Hp}{pos p p2 b6:Pos}{pins:LA9}{s:Shared}
theorem wvj(hK:X.K=Z.K)(hc:X.calm=true)(hu:X.A.units+64<cLine)(ha:QV X Z q a ea)(hm:X.mg "sorted"=none)(ml:X.mg "set"=none)(hg:autoParam (Gl X "sorted") Ŕ)(jy:autoParam (Gl X "set") Ŕ)(he:autoParam (starEach [ea] X.env=(false,eval ea X.env)::starEach [] X.env) Ŕ):
  QE X Z q (cF1 QY a) (.Call (.Name "sorted" p) [.Call (.Name "set" p2) [ea] [] b6] [] pos):=
 kz (vzq hc hu hg hm jy ml ha (he:=he)) fun σ H Q h=>by
  have:=K0 (r:=λv H Q=>wql Z.K [v] H Q) wq3 h;rw[hK];exact this
end
end Q
namespace Q
open PySem
def V4:Sd->Option Int->Option Int->Option Sd:=λx lo hi=>match x.2 with
 |.tup ds=>if k8 x=true/\vq ds.length 0 lo=0/\vq ds.length ds.length hi=ds.length then some (.no,.tup ds)else fSl x lo hi|_=>fSl x lo hi
def wqq(a:Ex)(lo hi:Option Ex):Ex:=λE=>bnd (a E) λE x=>bnd (zW lo E) λE l=>bnd (zW hi E) λE h=>val E (V4 x l h)
def prT:List D->Option (List (D×Int))
 |[]=>some []|.tup [k,.int v]::r=>if wv k=true then(prT r).map ((k,v):: ·)else none|_=>none
def kqz:Sd->Option Sd:=λx=>match x.2 with
 |.lst ds=>(match prT ds with
  |some ps=>if ps.length<big/\(ps.map (·.1)).Nodup then some (.rt,.dct (ps.map λp=>(p.1,.int p.2)))else none
  |none=>none)
 |_=>none
end Q
namespace HT
open PySem PySem.Spec PyProof.Rows L2
section
variable {prog:Program}{w:World}{A:Around}{E:VP9}{s:Shared}
theorem getItem_tuple_whole{t sl:Addr}{items:Array Value}{vl vu:Value}{lo hi:Option Int}{Q:VP9}(ht:IsTup s.heap t items)(hs:s.heap.IsSliceOf sl vl vu .none)(pl:IsPart vl lo)(pu:IsPart vu hi)
  (hw:sIx items.size 0 lo=0/\sIx items.size items.size hi=items.size) (h:Q (.ref t) s):wpAny (model prog w) A (getItem (.ref t) (.ref sl)) Q E s:=by
 obtain⟨os,gq,hcs,ba⟩:=id hs;have hTs:s.TypeIs (.ref sl) "slice":=⟨os,gq,hcs⟩;unfold getItem
 try with_reducible refine Xw ?_
 first|refine X0 (X1 ?_)|skip
 refine X0 (wpAny_sequenceKey ht.typeIs ⋯ ?_);refine X0 (Yp (name:=Str.ofString "__getitem__") ht.typeIs Z1
  (Y9 Z1 ht.typeIs entry_tuple_getitem ?_ (args_tuple_getitem _ _)))
 show wpAny _ _ (Builtin.Tuple.tupleItemsOf (.ref t) >>= _) _ _ s;refine X0 (tupleItemsOf_ ht ?_);refine X0 (Z8 hTs ?_);rw[X7 ⋯];refine X0 (jqx hs pl pu ?_);have l0:((((sIx items.size 0 lo:Nat):Int)==0&&(1:Int)==1&&(sIx items.size items.size hi - sIx items.size 0 lo)==items.size)=true):=by
  rw[hw.1,hw.2];simp
 show wpAny _ _ (if(((sIx items.size 0 lo:Nat):Int)==0&&(1:Int)==1&&(sIx items.size items.size hi - sIx items.size 0 lo)==items.size)=true then _ else _) _ _ s;rw[X7 l0];refine X0 ?_;unfold Builtin.Tuple.tupleIsExact;refine X0 (Z8 ht.typeIs ?_);refine X1 ?_;rw[X7 ⋯];exact X0 (Zk (X1 ⟨_,rfl,X1 h⟩))
end
end HT
namespace Q
open PySem PySem.Spec PyProof.Rows L2 L3
section
variable {X:Cx}{Z:Fx0}{K:Frag}{q:Bool}{a:Ex}{ea:Expr}{pos p2:Pos}{H:Hp}
def wxa(K:Frag):V->Option Int->Option Int->Hp->VK->Prop:=λx lo hi H Q=>(∃a xs,x=.ref a/\SqT K H a xs/\(HT.sIx xs.length 0 lo=0/\HT.sIx xs.length xs.length hi=xs.length)/\Q (.ref a) H)\/qkk K x lo hi H Q
theorem slW(K:Frag)(hK:autoParam (X.K=K) Ŕ):SlR X (wxa K):=by
 subst hK;intro pins s σ H x v vl vu lo hi sl Q I rx hs pl pu h;rcases h with⟨a,xs,rfl,hx,hw,q⟩|h
 ·cases rx;obtain⟨ac,r,ht,hz⟩:=I.tuple hx;have ah:ac.toArray.size=xs.length:=by rw[X8];exact r.length.symm
  refine⟨"tuple",_,PyProof.Rows.slot_tuple_getitem.lookup,ht.typeIs,?_⟩;exact HT.getItem_tuple_whole ht hs pl pu (by rw[ah];exact hw) ⟨.ref a,H,I,rfl,q⟩
 ·exact vx8 X.K rfl pins s σ H x v vl vu lo hi sl Q I rx hs pl pu h
theorem qxh{x:Sl}{s:Sd}{lo hi:Option Int}{Q:VK}(ok:x.ok K H)(hf:V4 (x.o,x.d) lo hi=some s)(k:∀(z:Sl) H',z.o=s.1->z.d=s.2->Out K H H' z x.frz->Q z.v H'):wxa K x.v lo hi H Q:=by
 unfold V4 at hf
 split at hf
 ·rename_i ds hx;have hx:x.d=.tup ds:=hx
  split at hf
  ·rename_i hc;cases oq9 hf;obtain⟨l,xs,bs,ev,q3,r3,h3⟩:=xV ok (.inr hx) hc.1;have q3:SqT K H l xs:=by rcases q3 with⟨z,_⟩|⟨_,z⟩;rw[hx]at z;cases z;exact z
   refine .inl ⟨l,xs,ev,q3,?_,?_⟩
   ·rw[V2,V2,<-r3.len];exact hc.2
   ·refine k ⟨.no,.tup ds,.ref l,bs⟩ H rfl rfl ⟨wx,?_,(λb hb=>nomatch hb),Y4,h3⟩;show RepL K H true _ _ _;unfold RepL;exact⟨l,xs,rfl,q3,r3⟩
  ·exact .inr (kvo ok hf k)
 ·exact .inr (kvo ok hf k)
theorem wvk{lo hi:Option Ex}{og oj:Option Expr}(ha:QV X Z q a ea)(hl:PO X og (tPo Z lo))(hh:PO X oj (tPo Z hi))(hK:autoParam (X.K=Z.K) Ŕ):QE X Z q (wqq a lo hi) (.Subscript ea (.Slice og oj none p2) pos):=
 kz (kxf (slW Z.K hK) ha hl hh) fun σ H Q au=>ex8 au λE L r m w hc xc k=>by
  refine kZ m w (show bnd (a E) _=some r from hc) xc λE1 s h1 x L1 H1 e1 e2 m1 w1 ok fr sr st sm=>?_
  refine kk4 m1 w1 h1 (xc.step st) λE2 l h2 L2 H2 m2 w2 bn fb=>?_
  refine kk4 m2 w2 h2 (xc.step (st.trans bn)) λE3 u h3 L3 H3 m3 w3 cx qo=>?_
  obtain⟨z,hz,rfl⟩:=xK h3;have k1:=Kk ok fr bn fb;have k2:=Kk k1.1 k1.2 cx qo;refine qxh k2.1 (by rw[e1,e2];exact hz) λy H' ho hd o=>?_
  obtain⟨w4,gu⟩:=Jk w3 ((st.trans bn).trans cx) o k2.2 (λb hb=>k2.1.some (Sl.frz_as hb)) (Qk sr λb hb=>Sl.frz_as hb);have ik:q=true->jJ H H3:=λhq=>k4 (sm hq) (k4 fb qo)
  exact k _ _ rfl y L3 H' ho hd m3 w4 gu λhq=>⟨k4 (ik hq) o.same,λb hb=>zQ (ik hq) (o.new b hb)⟩
end
end Q
namespace Tw
open PySem PyProof.Rows Tb Sw
section
variable {prog:Program}{w:World}{A:Around}{R:Result->Shared->Prop}{I:Addr}{fp wr:List Addr}{G:Array GenState->Array GenState->Prop}{n:Nat}{P:Nat->Value->Prop}{St:Nat->Shared->Prop}{K:Type}[DecidableEq K]{knd:HeapKind prog w K}
theorem jx6(X:KX knd){h h':Heap}{a:Addr}{xs:List (K×Addr×Value)}(x:h.DictOfH knd a xs)(e:∀o,h.get? a=some o->h'.get? a=some o)(et:∀b ob,h.get? b=some ob->ob.cls=.type "tuple"->h'.get? b=some ob):h'.DictOfH knd a xs:=by
 obtain⟨o,es,ep,ho,h1,h2,h3,h4,h5⟩:=x;exact⟨o,es,ep,e _ ho,h1,h2,h3,λp hp=>X.keep (h4 p hp) et,h5⟩
theorem qje{more:List (K×Addr×Value)}(dy:(more.map (·.1)).Nodup){i:Nat}{p:K×Addr×Value}(h:more[i]?=some p):atKey (more.take i) p.1=none:=by
 refine atKey_none_of_get λj q hj=>?_
 have hl:=(List.getElem?_eq_some_iff.mp hj).1;rw[Xx]at hl;rw[List.getElem?_take,X7 ⋯]at hj;have:=idxH_unique dy (k:=p.1) (p:=q) (q:=p.2) hj (by rw[h]);lia
theorem jwl(X:KX knd)(hr:knd.room A.in1)(W:WalksS prog w A.in1 I fp wr G n P St)(S:Addr)(js:S∉fp)(qt:∀i s,St i s->∀b∈wr,∀ob,s.heap.get? b=some ob->ob.cls≠.type "tuple"){more:List (K×Addr×Value)}(hn:more.length=n)(dy:(more.map (·.1)).Nodup)(hz:n<=sizeLine):
  ∀ (k i:Nat) (c:Tok) (s:Shared),n - i=k->i<=n->St i s->s.heap.DictOfH knd S (more.take i) ->
   (∀i v,P i v->∃T u x k,v=.ref T/\s.heap.IsTuple T #[.ref u,x]/\more[i]?=some (k,u,x)/\knd.is s.heap k u) ->
   (∀s',Moved (S::wr) G s s'->s'.heap.DictOfH knd S more->R (.ok (.ret .none)) s') ->
   codeAny (model prog w) A (.builtin "dict.update.loop" ⟨[.ref S,.ref I,.int i c,.none],[]⟩) R s:=by
 have lu:S∉wr:=λh=>js (W.sub _ h)
 have dl:∀b∈wr,b∈S::wr:=λb hb=>lc9 _ hb
 intro k
 induction k with
 | zero=>
  intro i c s hk hi bj hS f7 hR;have ic:i=n:=⋯
  subst ic;refine Yg F.entry_dict_update_loop ?_;rw[Y5 F.plain_dict_update_loop _];show wpAny _ A.in1 (pyNext (.ref I) >>= _) _ _ s;refine X0 (W.done s _ _ bj λs' hm=>?_);show wpAny _ A.in1 (Builtin.Dict.addKeywords S [] >>= _) _ _ s';refine X0 (X1 (X1 (hR s' (hm.mono dl) ?_)));rw[<-hn,List.take_length]at hS;exact jx6 X hS (λo e=>hm.heap S _ lu e) λb ob hb ht=>hm.heap b ob (λz=>qt _ _ bj b z ob hb ht) hb
 | succ k ih=>
  intro i c s hk hi bj hS f7 hR;have c9:i<n:=⋯
  refine Yg F.entry_dict_update_loop ?_;rw[Y5 F.plain_dict_update_loop _];show wpAny _ A.in1 (pyNext (.ref I) >>= _) _ _ s;refine X0 (W.item i s _ _ c9 bj λv s' hP ji hm=>?_);have tm:∀b ob,s.heap.get? b=some ob->ob.cls=.type "tuple"->s'.heap.get? b=some ob:=λb ob hb ht=>hm.heap b ob (λz=>qt _ _ bj b z ob hb ht) hb
  have tup:∀{h h':Heap} {T:Addr} {xs:Array Value},(∀b ob,h.get? b=some ob->ob.cls=.type "tuple"->h'.get? b=some ob)->h.IsTuple T xs->h'.IsTuple T xs:=λet ⟨o,ho,hc,ai⟩=>⟨o,et _ _ ho hc,hc,ai⟩
  obtain⟨T,u,x,kk,rfl,hT,hmo,ig⟩:=f7 i v hP;have dq:s'.heap.DictOfH knd S (more.take i):=jx6 X hS (λo e=>hm.heap S _ lu e) tm;have pk:s'.heap.IsTuple T #[.ref u,x]:=tup tm hT;have qd:knd.is s'.heap kk u:=X.keep ig tm;have du:(more.take i).length<=sizeLine:=by rw[Xx];lia
  obtain⟨oS,esS,epS,hoS,hcS,hdS,_⟩:=id dq;show wpAny _ A.in1 (holding [Value.ref T] _ >>= _) _ _ s';refine X0 (Xw (X0 (wpAny_tryCatch (kzt pk ?_))));show wpAny _ A.in1 (holding [Value.ref u,x] (dictSet S (.ref u) x)) _ _ s';refine Xw (wpAny_dictSet_heap (hsz:=du) hr qd dq λh' kd im=>?_);have gm:h'.DictOfH knd S (more.take (i+1)):=by
   rw[storedH_new (qje dy hmo)]at kd;rw[List.take_succ,hmo];exact kd
  have tm2:∀b ob,s'.heap.get? b=some ob->ob.cls=.type "tuple"->h'.get? b=some ob:=λb ob hb ht=>by
   have hbS:b≠S:=λz=>by
    subst z;rw[hoS]at hb;cases hb;rw[hcS.1]at ht;exact absurd ht ⋯
   rw[im.2 b hbS];exact hb
  refine X1 ⟨Zl F.plain_dict_update_loop _,?_⟩;show codeAny _ _ (.builtin "dict.update.loop" ⟨[.ref S,.ref I,.int ((i+1:Nat):Int) 0,.none],[]⟩) R _;refine ih (i+1) 0 _ ⋯ c9 (W.frame _ s' _ _ ji (Nat.le_add_right _ _) λb hb o e=>?_) gm (λj v hv=>?_) λi9 jf iz=>?_
  ·rw[im.2 b (λh:b=S=>js (by rw[<-h];exact hb))];exact e
  ·obtain⟨T,u,x,k,e1,e2,e3,e4⟩:=f7 j v hv;exact⟨T,u,x,k,e1,tup tm2 (tup tm e2),e3,X.keep (X.keep e4 tm) tm2⟩
  ·refine hR i9 (Moved.trans W.gtrans ((hm.mono dl).then_heap (Nat.le_add_right _ _) λb o hb e=>?_) jf) iz;rw[im.2 b (λh:b=S=>hb (by rw[h];exact X6))];exact e
theorem call_dict_listH(X:KX knd)(hr:knd.room A.in1.in1){E:VP9}{s:Shared}{l:Addr}{items:Array Value}{more:List (K×Addr×Value)}{o:Obj}{m:Nat}{Q:VP9}
  (hh:A.handled=none) (ho:s.heap.get? l=some o) (hc:o.cls=.type "list") (fh:o.data=.seq items m) (hd:o.dict=none) (hn:more.length=items.size) (dy:(more.map (·.1)).Nodup) (hz:items.size<=sizeLine)
  (f7:∀(i:Nat) (v:Value),items[i]?=some v->∃T u x k,v=.ref T/\s.heap.IsTuple T #[.ref u,x]/\more[i]?=some (k,u,x)/\knd.is s.heap k u)
  (h:∀(h':Heap) (tk:Nat),h'.DictOfH knd s.heap.objs.size more->(∀b o,b<s.heap.objs.size->s.heap.get? b=some o->h'.get? b=some o)->Q (.ref s.heap.objs.size) { s with heap:=h',toks:=tk }):
  wpAny (model prog w) A (call (.type "dict") [.ref l]) Q E s:=by
 refine callType_codes (Q₁:=λobj s₁=>obj=Value.ref s.heap.objs.size/\s₁={ s with heap:=s.heap.push { cls:=Value.type "dict",data:=Data.dict #[] } }) F.kt_called_dict (F.kt_typeCall_dict_1 _) F.entry_dict_init (kt_code_dict_new _ ⟨rfl,rfl⟩) ?_;rintro obj s₁ ⟨rfl,rfl⟩;have fi:(s.heap.push { cls:=.type "dict",data:=.dict #[] }).DictOfH knd s.heap.objs.size []:=Heap.DictOfH.new s.heap;have gb:(s.heap.push { cls:=.type "dict",data:=.dict #[] }).get? l=some o:=X2 _ ho;have hT:Shared.TypeIs { s with heap:=s.heap.push { cls:=.type "dict",data:=.dict #[] } } (.ref l) "list":=⟨_,gb,hc⟩;have lm:l<s.heap.objs.size:=Xd ho;refine⟨fi.typeIs,F.args_dict_init_2 _ _,?_⟩;unfold Builtin.«dict.__init__»;refine X0 ?_;unfold Builtin.Dict.selfAndRest;refine X0 (wpAny_notOrdered_dict fi.typeIs ?_);show wpAny _ _ (pure (s.heap.objs.size,[Value.ref l])) _ _ _;refine X1 ?_;show wpAny _ _ (Builtin.Dict.updateFrom "dict.__init__" s.heap.objs.size (.ref l) [] .none) _ _ _;unfold Builtin.Dict.updateFrom;refine X0 (Z8 hT ?_);rw[X7 ⋯];refine X0 (kkl gb hc fh hd (by simp[hh]) λh' tk hk=>?_);rw[X7 (show(none:Option Value).isNone=true from rfl)];have hkS:∀b q,s.heap.get? b=some q->h'.get? b=some q:=λb q e=>hk b q (X2 _ e)
 have kh:h'.IsList l items:=⟨o,hkS _ _ ho,hc,m,fh⟩;have hS1:h'.DictOfH knd s.heap.objs.size []:=by
  obtain⟨q,es,ep,hq,h1,h2,h3,_,h5⟩:=fi;exact⟨q,es,ep,hk _ _ hq,h1,h2,h3,(λp hp=>nomatch hp),h5⟩
 have n6:s.heap.objs.size<h'.objs.size:=by
  obtain⟨q,es,ep,hq,ai⟩:=hS1;exact Xd hq
 refine X0 (Zk (X0 (Zf kh ?_)));refine X1 ⟨Zl F.plain_dict_update_loop _,?_⟩;have hneI:l≠h'.objs.size:=Xi (Nat.lt_trans lm n6);refine jwl (A:=A.in1) X hr ((Walks.list (A:=A.in1.in1) (by simp[hh]) h'.objs.size l hneI items).toS) s.heap.objs.size ?_ (λi s bj b hb ob dm=>?_) hn dy hz (items.size - 0) 0 0 _ ⋯ (Yh _)
  ⟨⟨_,Xb _ rfl,rfl,rfl⟩,kh.push _⟩ ?_ (λi v hv=>?_) λs' hm dq=>?_
 ·simp only[Y3,Y6,or_false,not_or];exact⟨Xi n6,Nat.ne_of_gt lm⟩
 ·rw[aC hb]at dm;obtain⟨⟨o',gb,il,_⟩,_⟩:=bj;rw[gb]at dm;cases dm;rw[il];decide
 ·exact jx6 X hS1 (λo e=>X2 _ e) λb ob hb _=>X2 _ hb
 ·obtain⟨T,u,x,k,e1,e2,e3,e4⟩:=f7 i v hv;obtain⟨q,hq,ly,ai⟩:=e2;exact⟨T,u,x,k,e1,⟨q,X2 _ (hkS _ _ hq),ly,ai⟩,e3,X.keep e4 λb ob hb _=>X2 _ (hkS b ob hb)⟩
 ·obtain⟨h2,g',d',lb,n9⟩:=s';have eg:g'=s.gens:=hm.gens;have ed:d'=s.drawn:=hm.drawn;have eo:n9=s.os:=hm.os;subst eg;subst ed;subst eo;refine⟨rfl,h h2 lb dq λb q hb e=>?_⟩;refine hm.heap b q ?_ (X2 _ (hkS b q e));simp only[Y3,Y6,or_false,not_or];exact⟨Xi hb,Xi (Nat.lt_trans hb n6)⟩
end
end Tw
namespace Q
open PySem PySem.Spec PyProof.Rows L2 L3
noncomputable def vjg(K:Frag):List V->Hp->VK->Prop:=λxs H Q=>∃(a:Addr) (ts:List V) (ps:List (Kd×Addr×Int)),xs=[.ref a]/\SqL K H a ts/\ts.length=ps.length /\
 (∀i (h:i<ps.length),∃T,ts[i]?=some (.ref T)/\SqT K H T [.ref ps[i].2.1,.int ps[i].2.2]/\PuR K H ps[i].1.1 (.ref ps[i].2.1))/\ps.length<big/\(ps.map (·.1)).Nodup /\
 ∀l es ep,H l=none->(l==sysModules)=false->es.map (λe=>(e.1,e.2.1))=ps.map (λp=>(p.1,p.2.1))->Vals (ps.map λp=>V.int p.2.2) (es.map (·.2.2))->Q (.ref l) (upd H l (Q1 l es ep))
theorem kxo{X:Cx}{pins:LA9}{σ:L2.St}{H:Hp}{s:Shared}(I:Inv X pins σ H s):∀(ps:List (Kd×Addr×Int)) (ts:List V) (ac:List Value),ts.length=ps.length ->
  (∀ i (h:i<ps.length),∃T,ts[i]?=some (.ref T)/\SqT X.K H T [.ref ps[i].2.1,.int ps[i].2.2]/\PuR X.K H ps[i].1.1 (.ref ps[i].2.1))->Vals ts ac ->
  ∃ more:List Ent,more.length=ac.length/\more.map (λe=>(e.1,e.2.1))=ps.map (λp=>(p.1,p.2.1))/\Vals (ps.map λp=>V.int p.2.2) (more.map (·.2.2))/\∀(i:Nat) (v:Value),ac[i]?=some v->∃T u x k,v=.ref T/\s.heap.IsTuple T #[.ref u,x]/\more[i]?=some (k,u,x)/\j5 s.heap k.1 (.ref u)
 | [],ts,ac,hl,_,hv=>by
  cases ts with| nil=>cases hv;exact⟨[],rfl,rfl,.nil,λi v h=>by simp at h⟩| cons=>cases hl
 | p :: ps,[],_,hl,_,_=>by cases hl
 | p :: ps,t::ts,_,hl,hp,hv=>by
  cases hv with
  | cons h1 h2=>
   rename_i u us;obtain⟨T,e1,e2,e3⟩:=hp 0 (by simp);have e1:t=.ref T:=by simpa using e1
   subst e1;cases h1;obtain⟨ii,rv,tp,_⟩:=I.tuple e2;obtain⟨u2,rfl,r2⟩:∃u2,ii=[.ref p.2.1,u2]/\RelV (.int p.2.2) u2:=by
    cases rv with
    |cons a b=>
     cases b with|cons c d=>cases d;cases a;exact⟨_,rfl,c⟩
   obtain⟨more,m1,m2,m3,m4⟩:=kxo I ps ts us (by simpa using hl) (λi h=>by
    obtain⟨T,a,b⟩:=hp (i+1) (by simpa using h);exact⟨T,by simpa using a,by simpa using b⟩) h2
   refine⟨(p.1,p.2.1,u2)::more,by rw[Xf,Xf,m1],by rw[List.map_cons,List.map_cons,m2],.cons r2 m3,λi v h=>?_⟩;cases i with
   |zero=>
    have h:Value.ref T=v:=by simpa using h
    subst h;exact⟨T,p.2.1,u2,p.1,rfl,tp,rfl,Vz I e3 rfl⟩
   |succ i=>exact m4 i v (by simpa using h)
theorem qjd{X:Cx}{K:Frag}(hu:X.A.units+64<cLine)(hc:autoParam (X.calm=true) Ŕ)(hK:autoParam (X.K=K) Ŕ):CallR X (.type "dict") (vjg K):=by
 subst hK;intro pins s σ H xs us Q I r h;obtain⟨a,ts,ps,rfl,hq,hl,hp,hb,dy,q⟩:=h;obtain⟨u,rfl,rx⟩:=wY r;cases rx;obtain⟨ac,rv,⟨o,n,ho,cp,hd,fh⟩,hz⟩:=I.list hq;obtain⟨more,m1,m2,m3,m4⟩:=kxo I ps ts ac hl hp rv;have hk:more.map (·.1)=ps.map (·.1):=by
  have:=congrArg (List.map Prod.fst) m2
  rwa [Xh,Xh]at this
 have u1:=L3.in1_units X.A;have u2:=L3.in1_units X.A.in1;refine Tw.call_dict_listH (knd:=Tl.trP X.prog X.w λ_ _=>True) (more:=more) Tl.kindX (show X.A.in1.in1.units+40<cLine by lia) (I.ok.hd hc) ho cp fh hd (by rw[m1];simp) (by rw[hk];exact dy) (by rw[X8,<-rv.length];exact hz) (λi v hv=>?_) λh' tk dd kp=>?_
 ·obtain⟨T,u,x,k,f1,f2,f3,f4⟩:=m4 i v (by simpa using hv);exact⟨T,u,x,k,f1,f2,f3,f4,Zo⟩
 have gp:=I.big;obtain⟨q',ds,ep,hq',g2,g3,g4,_,_⟩:=dd;refine⟨.ref s.heap.objs.size,_,I.laid (a:=s.heap.objs.size) (o:=Q1 s.heap.objs.size more ep) (t':=tk) (λb ob e=>kp b ob (Xd e) e) (Xa _) ⟨⟨q',ds,hq',g2,g3,g4⟩,⟨q',hq'⟩,λh1 h2 ⟨o,ds,a1,a2⟩ k=>⟨o,ds,k o a1,a2⟩⟩,rfl,q _ more ep (I.hok.fresh (Xa _)) (beq_false_of_ne (Nat.ne_of_gt gp)) m2 m3⟩
theorem wky{K:Frag}{H:Hp}{g:Bool}:∀{ds:List D} {ps:List (D×Int)} {xs:List V} {bs:List Addr},prT ds=some ps->RepA K H g ds xs bs->∃qs:List (Kd×Addr×Int),qs.map (λq=>(q.1.1,q.2.2))=ps/\xs.length=qs.length /\
  ∀ i (h:i<qs.length),∃T,xs[i]?=some (.ref T)/\SqT K H T [.ref qs[i].2.1,.int qs[i].2.2]/\PuR K H qs[i].1.1 (.ref qs[i].2.1):=by
 intro ds
 induction ds with
 | nil=>
  intro ps xs bs h r;cases oq9 h;unfold RepA at r;rw [r.1];exact⟨[],rfl,rfl,λi h=>absurd h (Nat.not_lt_zero _)⟩
 | cons d ds ih=>
  intro ps xs bs h r;unfold prT at h
  split at h
  ·rename_i e;cases e
  ·rename_i k v r' e;injection e with e1 e2;subst e1 e2
   split at h
   rotate_left
   ·cases h
   rename_i hk;cases hr:prT ds with
   | none=>rw[hr]at h;cases h
   | some q=>
    rw[hr]at h;cases oq9 h;unfold RepA at r;obtain⟨x,rr,b1,b2,rfl,rfl,r1,r2⟩:=r;obtain⟨qs,q1,q2,q3⟩:=ih hr r2;unfold RepL at r1;obtain⟨T,ys,rfl,sq,ra⟩:=r1;unfold RepA at ra;obtain⟨y1,_,c1,c2,rfl,rfl,f1,f2⟩:=ra;unfold RepA at f2;obtain⟨y2,_,_,_,rfl,rfl,f3,f4⟩:=f2;unfold RepA at f4;obtain⟨rfl,rfl⟩:=f4;unfold RepL at f3;obtain⟨rfl,rfl⟩:=f3;have gh:=hk;unfold wv at gh;rw[Bool.and_eq_true]at gh;have hp:=kx9 gh.1 f1;obtain⟨b,rfl⟩:∃b,y1=.ref b:=by
     cases k with|tup es=>unfold RepL at f1;obtain⟨a,_,e,_⟩:=f1;exact⟨a,e⟩|_=>cases gh.2
    refine⟨(⟨k,gh.1⟩,b,v)::qs,by rw[List.map_cons,q1],by rw[Xf,Xf,q2],λi hi=>?_⟩;cases i with|zero=>exact⟨T,rfl,sq,hp⟩|succ i=>exact q3 i (by simpa using hi)
  ·cases h
theorem kq5{K:Frag}{H:Hp}:∀(qs:List (Kd×Addr×Int)),RepP K H true (qs.map λq=>(q.1.1,D.int q.2.2)) (qs.map λq=>V.int q.2.2) []
 |[]=>by unfold RepP;exact⟨rfl,rfl⟩
 |q::qs=>by
  rw[List.map_cons,List.map_cons];unfold RepP;exact⟨_,_,[],[],rfl,rfl,by unfold RepL;exact⟨rfl,rfl⟩,kq5 qs⟩
theorem vja{K:Frag}:Ad1 K (λv H Q=>vjg K [v] H Q) kqz:=by
 intro H x s Q ok hf k;unfold kqz at hf
 split at hf
 rotate_left
 ·cases hf
 rename_i ds hx;have hx:x.d=.lst ds:=hx
 split at hf
 rotate_left
 ·cases hf
 rename_i ps hp
 split at hf
 rotate_left
 ·cases hf
 rename_i hc;cases oq9 hf;obtain⟨a,xs,bs,ev,q1,ra,_⟩:=items ok (.inl hx);have hq:SqL K H a xs:=by
  rcases q1 with⟨_,z⟩|⟨z,_⟩
  ·exact z.sq
  ·rw[hx]at z;cases z
 obtain⟨qs,e1,e2,e3⟩:=wky hp ra;subst e1;have dy:(qs.map (·.1)).Nodup:=by
  have:=hc.2;rw[Xh]at this;rw[List.nodup_iff_pairwise_ne,Yy]at this ⊢;exact this.imp λh e=>h (congrArg Subtype.val e)
 refine⟨a,xs,qs,by rw[ev],hq,e2,e3,by have:=hc.1;rwa [X3]at this,dy,λl es ep hl hs m1 m2=>k ⟨.rt,.dct _,.ref l,[l]⟩ _ rfl rfl ⟨qv hl,?_,λb hb=>?_,by simp[Sl.own],λb hb=>by simp[Sl.frz]at hb⟩⟩
 ·have sm:jJ H (upd H l (Q1 l es ep)):=qv hl;have hk:es.map (·.1)=qs.map (·.1):=by
   have:=congrArg (List.map Prod.fst) m1
   rwa [Xh,Xh]at this
  have oq:es.length=qs.length:=by have:=congrArg List.length m1;simpa using this
  refine⟨l,qs.map (λq=>V.int q.2.2),[],rfl,?_,.inl ⟨es,ep,v6,hs,?_,by rw[hk];exact dy,?_,λe he=>?_,m2⟩,rfl⟩
  ·rw[Xh];exact kq5 qs
  ·have:=hc.1;rw[X3]at this;rw[oq];exact Nat.le_of_lt this
  ·rw[Xh,Xh];show qs.map (λq=>q.1.1)=es.map (λe=>e.1.1);have:=congrArg (List.map λk:Kd=>k.1) hk;rw[Xh,Xh]at this;exact this.symm
  ·obtain⟨i,hi,rfl⟩:=List.getElem_of_mem he;obtain⟨T,_,_,hp3⟩:=e3 i ⋯;have g:(es.map (λe=>(e.1,e.2.1)))[i]?=(qs.map (λp=>(p.1,p.2.1)))[i]?:=by rw[m1]
   rw[Xp,Xp,X5 hi,X5 ⋯]at g;have g:=oq9 g;have g1:es[i].1=(qs[i]'⋯).1:=congrArg Prod.fst g;have g2:es[i].2.1=(qs[i]'⋯).2.1:=congrArg Prod.snd g;rw[g1,g2];exact PuR.kp (as:=[]) (Kp.of_same sm) hp3
 ·have:b=l:=by simpa [Sl.own]using hb
  rw[this];exact hl
end Q
namespace Q
open PySem
def YX:D->Option D
 |.str z=>some (.bl (Txt.isalpha z))|_=>none
end Q
namespace Q
open PySem PySem.Spec PyProof.Rows L2 L3
section
variable {X:Cx}{Z:Fx0}{K:Frag}{q:Bool}{a:Ex}{o:Expr}{aw am:Pos}
def qkq:V->List V->Hp->VK->Prop:=λv vs H Q=>∃z:Str,v=.str z/\vs=[]/\Q (.bl (Txt.isalpha z)) H
theorem qj0:MtR X "str.isalpha" qkq:=by
 intro pins s σ H x xs v us Q I rx rv h;obtain⟨z,rfl,rfl,q⟩:=h;obtain⟨t,rfl⟩:=rx;cases rv;exact SC.isalpha ⟨.bl _,H,I,rfl,q⟩
theorem vjb:Ad1 K (λv H Q=>tyV K "str" v H/\qkq v [] H Q) (pu1 YX):=by
 intro H x s Q ok hf k;unfold pu1 YX at hf;dsimp only at hf;cases hx:x.d with
 |str z=>
  rw[hx]at hf;cases oq9 hf;have ev:x.v=.str z:=(v7 ok hx).1;refine⟨by rw[ev];rfl,z,ev,rfl,?_⟩;exact k ⟨.dp,.bl _,.bl _,[]⟩ H rfl rfl v8
 |_=>rw[hx]at hf;cases hf
theorem qkw(ha:QV X Z q a o)(hK:autoParam (X.K=Z.K) Ŕ)(bh:autoParam (attributeBase o "isalpha" X.env (eval o X.env)=eval o X.env) Ŕ)(be:autoParam ((aw.endLine==am.line)=true) Ŕ):
  QE X Z q (cF1 (pu1 YX) a) (.Call (.Attribute o "isalpha" aw) [] [] am):=
 kz (vzy PySem.F.plainAttrs_str PySem.F.slot_str_isalpha PySem.F.type_str_isalpha qj0 ha bh be) fun σ H Q h=>by
  rw[hK];exact K0 (r:=λv H Q=>tyV Z.K "str" v H/\qkq v [] H Q) vjb h
end
end Q
namespace Q
open PySem
theorem wjh(n:Nat)(h:300<=n):(10:Nat) ^ 70<2 ^ n:=Xm (show(10:Nat) ^ 70<2 ^ 240 by decide) (Nat.pow_le_pow_right ⋯ ⋯)
theorem mul_l{o1 o2:Own}{a b:Int}(h1:-18446744073709551616<a)(h2:a<18446744073709551616):Qz (o1,.int a) (o2,.int b)=some (.dp,.int (a*b)):=by
 have:Jz a b=true:=by
  have:ZY a=true:=by unfold ZY;rw[Xe (show -(2 ^ 64)<a by lia),Xe (show a<2 ^ 64 by lia)];rfl
  unfold Jz;rw[this];rfl
 show(if Jz a b=true then _ else _)=_;rw[X7 this]
theorem vqz{o1 o2:Own}{a b:Int}(ha:a.natAbs.log2<2000000)(hb:b.natAbs.log2<2000000):Qz (o1,.int a) (o2,.int b)=some (.dp,.int (a*b)):=by
 have:Jz a b=true:=by unfold Jz;rw[Xe ha,Xe hb];simp
 show(if Jz a b=true then _ else _)=_;rw[X7 this]
theorem add_i{o1 o2:Own}{a b:Int}:jv (o1,.int a) (o2,.int b)=some (.dp,.int (a+b)):=rfl
theorem sub_i{a b:Int}:Vx (.int a) (.int b)=some (.int (a - b)):=rfl
theorem div_i{a b:Int}(h:0<b)(h2:b<10 ^ 70):qW (.int a) (.int b)=some (.int (a / b)):=by
 have hb:b.natAbs.log2<9000:=by
  exact(Nat.log2_lt ⋯).mpr (Nat.lt_trans (show b.natAbs<10 ^ 70 by lia) (wjh 9000 ⋯))
 show(if 0<b/\b.natAbs.log2<9000 then some (a / b)else none).map _=_;rw[X7 ⟨h,hb⟩];rfl
theorem mod_i{a b:Int}(h:0<b):jW (.int a) (.int b)=some (.int (a % b)):=by
 show(if 0<b then some (a % b)else none).map _=_;rw[X7 h];rfl
theorem pow_i{a b:Int}(h1:0<=b)(h2:b<=1000)(h3:-1000000<a)(h4:a<1000000):J5 (.int a) (.int b)=some (.int (a ^ b.toNat)):=by
 show(if 0<=b/\b<=1000000/\a.natAbs<2 ^ 64 then some (a ^ b.toNat)else none).map _=_;rw[X7 ⟨h1,⋯,⋯⟩];rfl
theorem wwo{a b:Int}:fEq (.int a) (.int b)=some (.bl (a==b)):=rfl
theorem lt_ii{a b:Int}:fLt (.int a) (.int b)=some (.bl (decide (a<b))):=rfl
theorem le_ii{a b:Int}:fLe (.int a) (.int b)=some (.bl (decide (a<=b))):=rfl
theorem WK{xs:List D}{i:Int}{d:D}(h0:0<=i)(h:xs[i.toNat]?=some d):kY (.lst xs) (.int i)=some d:=by
 show((ixN xs.length i).bind λj=>xs[j]?)=some d;have hl:i.toNat<xs.length:=(List.getElem?_eq_some_iff.mp h).1;unfold ixN;rw[X7 h0,X7 ⋯];exact h
theorem len_l{xs:List D}:kX (.lst xs)=some (.int xs.length):=rfl
theorem len_t{xs:List D}:kX (.tup xs)=some (.int xs.length):=rfl
theorem vka{o1 o2:Own}{a b:List D}(h1:o1≠.dp)(h2:o2≠.dp)(hl:a.length+b.length<10000):jv (o1,.lst a) (o2,.lst b)=some (.rt,.lst (a++b)):=by
 show(if a.length+b.length<=big/\k8 (o1,.lst a)/\k8 (o2,.lst b)then _ else _)=_;rw[X7 ⟨by unfold big;lia,by cases o1<;>simp_all [k8],by cases o2<;>simp_all [k8]⟩]
theorem wqy{o:Own}{xs:List D}(h:o≠.dp):XZ (o,.lst xs)=some (.no,.tup xs):=by
 show(if k8 (o,.lst xs)then _ else _)=_;rw[X7 (by cases o<;>simp_all [k8])]
abbrev XP:=Str->Prop
theorem nd{α:Sort _}{a b:α}(h:a=b):a=b:=h
@[irreducible] noncomputable def Eo {α:Type} (m:Option (Res α)) (P:En->α->Prop) (X:XP):Prop:=match m with
 |some (.ok E a)=>P E a|some (.exc _ c)=>X c|none=>False
@[irreducible] noncomputable def Vo {α:Type} (m:Option α) (P:α->Prop):Prop:=match m with
 |some a=>P a|none=>False
@[irreducible] noncomputable def Oo (f:Fn) (xs:List Sd) (P:Sd->Prop) (X:XP):Prop:=match f xs with
 |some (.ok _ y)=>P y|some (.exc _ c)=>X c|none=>False
@[irreducible] noncomputable def Po (r:Option Fl) (N C:En->Prop) (R:Sd->Prop) (X:XP):Prop:=match r with
 |some (.nx E)=>N E|some (.ct E)=>C E|some (.rt _ x)=>R x|some (.xc _ c)=>X c|_=>False
abbrev noX:XP:=λ_=>False
section
variable {α β:Type}{P:En->α->Prop}{X:XP}{N C:En->Prop}{R:Sd->Prop}{E:En}
theorem qzm{a:α}:Eo (some (.ok E a)) P X=P E a:=nd (by ac_rfl)
theorem jK{m:Option (Res β)}{f:En->β->Option (Res α)}:Eo (bnd m f) P X=Eo m (λE a=>Eo (f E a) P X) X:=by
 cases m with|none=>ac_rfl|some r=>cases r<;>ac_rfl
theorem vo_some{a:α}{P:α->Prop}:Vo (some a) P=P a:=nd (by ac_rfl)
theorem vo_map{x:Option β}{f:β->α}{P:α->Prop}:Vo (x.map f) P=Vo x (λa=>P (f a)):=by cases x<;>ac_rfl
theorem x8{x:Option α}:Eo (val E x) P X=Vo x (P E):=by cases x<;>ac_rfl
theorem vqg{E:En}:Po (some (.nx E)) N C R X=N E:=nd (by ac_rfl)
theorem J3{m:Option (Res α)}{f:En->α->Option Fl}:Po (ofE m f) N C R X=Eo m (λE a=>Po (f E a) N C R X) X:=by
 cases m with|none=>ac_rfl|some r=>cases r<;>ac_rfl
theorem vzj{a b:Sm}:Po (j9 a b E) N C R X=Po (a E) (λE=>Po (b E) N C R X) C R X:=by
 unfold j9 Po;cases a E with|none=>ac_rfl|some r=>cases r<;>ac_rfl
theorem Eo.mono{m:Option (Res α)}{P':En->α->Prop}(h:Eo m P X)(k:∀E a,P E a->P' E a):Eo m P' X:=by
 cases m with
 |none=>exists h
 |some r=>cases r with|ok E a=>exists k E a h|exc E c=>exists h
theorem Oo.mono{f:Fn}{xs:List Sd}{P P':Sd->Prop}(h:Oo f xs P X)(k:∀y,P y->P' y):Oo f xs P' X:=by
 unfold Oo at h ⊢;cases hf:f xs with
 |none=>rw[hf]at h;exists h
 |some r=>rw[hf]at h;cases r with|ok E a=>exists k a h|exc E c=>exists h
theorem Oo.out{f:Fn}{xs:List Sd}{P:Sd->Prop}(h:Oo f xs P noX):∃E y,f xs=some (.ok E y)/\P y:=by
 unfold Oo at h;cases hf:f xs with
 |none=>rw[hf]at h;exists (show False from h).elim
 |some r=>rw[hf]at h;cases r with|ok E a=>with_unfolding_all exact⟨E,a,rfl,h⟩|exc E c=>exists (show False from h).elim
theorem qY{n:Nat}{b:Sm}{xs:List Sd}{P:Sd->Prop}(h:Po (b (xs.map some++List.replicate (n - xs.length) none)) (λ_=>P (.dp,.non)) (λ_=>False) P X):Oo (fn n b) xs P X:=by
 unfold Oo fn;unfold Po at h;cases hb:b (xs.map some++List.replicate (n - xs.length) none)with|none=>rw[hb]at h;exists h|some r=>rw[hb]at h;cases r<;>exists h
theorem vvp{f:Fn}{cs:List Ex}{P:En->Sd->Prop}:Eo (jQ f cs E) P X=Eo (kW cs E) (λE xs=>Oo f (letAll xs) (P E) X) X:=by
 unfold jQ;rw[jK]
 congr 1
 funext E xs;unfold Oo;cases f (letAll xs)with|none=>ac_rfl|some r=>cases r<;>ac_rfl
def wz1(d:D){α:Type}(a b:Option α):Option α:=match d with
 |.bl k=>if k=true then a else b|_=>none
theorem vw5(a b:Ex):wkv a b E=bnd (a E) λE x=>wz1 x.2 (b E) (some (.ok E (.dp,.bl false))):=by
 unfold wkv wz1
 congr 1
 funext E x;cases x.2 with|bl k=>cases k<;>ac_rfl|_=>ac_rfl
theorem kvw{tg:Tg}{b:Sm}(I:En->List D->Prop)(hs:∀E d ds,I E (d::ds)->Vo (tg.put d E) λE1=>Po (b E1) (λE2=>I E2 ds) (λE2=>I E2 ds) R X)(h1:∀E,I E []->N E):∀ds E,I E ds->Po (J0 tg b ds E) N C R X
 | [],E,h=>by exists h1 E h
 | d::ds,E,h=>by
  have h2:=hs E d ds h;unfold J0;cases hp:tg.put d E with
  | none=>rw[hp]at h2;exists (show False from h2).elim
  | some E1=>
   rw[hp]at h2;have h2:Po (b E1) (λE2=>I E2 ds) (λE2=>I E2 ds) R X:=by exists h2
   dsimp only;cases hb:b E1 with
   |none=>rw[hb]at h2;exists (show False from h2).elim
   |some r=>
    rw[hb]at h2;cases r with|nx E2=>exists kvw I hs h1 ds E2 h2|ct E2=>exists kvw I hs h1 ds E2 h2|rt E2 x=>exists h2|xc E2 c=>exists h2|bk E2=>exists (show False from h2).elim
theorem Q0{it:Ev (List D)}{tg:Tg}{b:Sm}(I:En->List D->Prop)(h0:Eo (it E) I X)(hs:∀E d ds,I E (d::ds)->Vo (tg.put d E) λE1=>Po (b E1) (λE2=>I E2 ds) (λE2=>I E2 ds) R X)(h1:∀E,I E []->N E):Po (zq it tg b E) N C R X:=by
 show Po (ofE (it E) λE ds=>J0 tg b ds E) N C R X;rw[J3]
 exists h0.mono λE ds h=>kvw I hs h1 ds E h
theorem qvs{tg:Tg}{t:Ts}{c:Ex}{P:En->List Sd->Prop}(J:En->List D->List Sd->Prop)(hs:∀B d ds af,J B (d::ds) af->Vo (tg.put d B) λB1=>Eo (t B1) (λB2 k=>if k=true then Eo (c B2) (λB3 y=>J B3 ds (af++[y])) X else J B2 ds af) X)(h1:∀B af,J B [] af->P B af):∀ds B af,J B ds af->Eo (lcL tg t c ds B af) P X
 | [],B,af,h=>by exists h1 B af h
 | d::ds,B,af,h=>by
  have h2:=hs B d ds af h;unfold lcL;cases hp:tg.put d B with
  | none=>rw[hp]at h2;exists (show False from h2).elim
  | some B1=>
   rw[hp]at h2;have h2:Eo (t B1) (λB2 k=>if k=true then Eo (c B2) (λB3 y=>J B3 ds (af++[y])) X else J B2 ds af) X:=by exists h2
   dsimp only;rw[jK];refine h2.mono λB2 k h3=>?_
   cases k with
   |false=>exists qvs J hs h1 ds B2 af h3
   |true=>
    show Eo (bnd (c B2) _) P X;rw[jK]
    exists Eo.mono (P:=λB3 y=>J B3 ds (af++[y])) h3 λB3 y h4=>qvs J hs h1 ds B3 _ h4
theorem zV{o:Own}{k:Nat}{r:List Nat}{it:Ev (List D)}{tg:Tg}{t:Ts}{c:Ex}{P:En->Sd->Prop}(J:En->En->List D->List Sd->Prop)(h0:Eo (it E) (λE1 ds=>J E1 (Q5 k r E1) ds []) X)
  (hs:∀E1 B d ds af,J E1 B (d::ds) af->Vo (tg.put d B) λB1=>Eo (t B1) (λB2 k=>if k=true then Eo (c B2) (λB3 y=>J E1 B3 ds (af++[y])) X else J E1 B2 ds af) X) (h1:∀E1 B af,J E1 B [] af->Eo (mkL o (xz k r B E1) af) P X):Eo (cLC o k r it tg t c E) P X:=by
 unfold cLC;rw[jK];refine h0.mono λE1 ds hJ=>?_
 have:=qvs (P:=λB af=>Eo (mkL o (xz k r B E1) af) P X) (J E1) (hs E1) (h1 E1) ds _ _ hJ;cases hl:lcL tg t c ds (Q5 k r E1) []with|none=>rw[hl]at this;exists (show False from this).elim|some q=>rw[hl]at this;cases q<;>exists this
end
theorem mulT_i{o1:Own}{a:Int}{y:Sd}:vk (o1,.int a) y=Qz (o1,.int a) y:=by
 unfold vk;ac_rfl
def sl(q:Option (Option Sd)):Option Sd:=match q with
 |some (some x)=>some x|_=>none
theorem sl_some{x:Sd}:sl (some (some x))=some x:=nd (by ac_rfl)
def wz0(d:D)(a b:Prop):Prop:=match d with
 |.bl k=>if k=true then a else b|_=>False
theorem andP_bl{k:Bool}{a b:Prop}:wz0 (.bl k) a b=if k=true then a else b:=nd (by ac_rfl)
def Wo{α:Type}(m:Option α)(E:En)(P:En->α->Prop):Prop:=Vo m (P E)
theorem wo_some{α:Type}{a:α}{E:En}{P:En->α->Prop}:Wo (some a) E P=P E a:=by unfold Wo;exact vo_some
theorem wo_map{α β:Type}{x:Option β}{f:β->α}{E:En}{P:En->α->Prop}:Wo (x.map f) E P=Wo x E (λE a=>P E (f a)):=by unfold Wo;exact vo_map
def Oe(f:Fn)(xs:List Sd)(E:En)(P:En->Sd->Prop)(X:XP):Prop:=Oo f xs (P E) X
def intP(d:D)(P:Int->Prop):Prop:=match d with
 |.int i=>P i|_=>False
def Ie(d:D)(E:En)(P:En->Int->Prop):Prop:=intP d (P E)
theorem ie_i{i:Int}{E:En}{P:En->Int->Prop}:Ie (.int i) E P=P E i:=nd (by ac_rfl)
section
variable {P:En->Sd->Prop}{T:En->Bool->Prop}{X:XP}{N C:En->Prop}{R:Sd->Prop}{E:En}{e:Option Sd}{a b c:Ex}{t u:Ts}{i:Nat}
theorem w_seq{a b:Sm}:Po (j9 a b (e::E)) N C R X=Po (a (e::E)) (λE=>Po (b E) N C R X) C R X:=vzj
theorem w_asg:Po (jw i c (e::E)) N C R X=Eo (c (e::E)) (λE x=>N (E.set i (some x))) X:=by unfold jw;rw[J3];ac_rfl
theorem w_ret:Po (k7 c (e::E)) N C R X=Eo (c (e::E)) (λ_ x=>R x) X:=by unfold k7;rw[J3];ac_rfl
theorem w_pass:Po (x6 (e::E)) N C R X=N (e::E):=nd (by ac_rfl)
theorem w_if{a b:Sm}:Po (sIf t a b (e::E)) N C R X=Eo (t (e::E)) (λE k=>if k=true then Po (a E) N C R X else Po (b E) N C R X) X:=by
 unfold sIf;rw[J3];congr 1;funext E k;cases k<;>ac_rfl
theorem w_vV:Eo (vV i (e::E)) P X=Wo (sl (e::E)[i]?) (e::E) P:=by
 unfold vV Wo;cases(e::E)[i]? with|none=>ac_rfl|some q=>cases q<;>ac_rfl
theorem w_cV:Eo (cV i (e::E)) P X=Wo (sl (e::E)[i]?) (e::E) (λE x=>P (E.set i (some (.no,x.2))) (.no,x.2)):=by
 unfold cV Wo;cases(e::E)[i]? with|none=>ac_rfl|some q=>cases q<;>ac_rfl
theorem w_cMv:Eo (cMv i (e::E)) P X=Wo (sl (e::E)[i]?) (e::E) (λE x=>P (E.set i none) x):=by
 unfold cMv Wo;cases(e::E)[i]? with|none=>ac_rfl|some q=>cases q<;>ac_rfl
theorem w_cC{d:D}:Eo (cC d (e::E)) P X=P (e::E) (.dp,d):=nd (by ac_rfl)
theorem w_vE:Eo (vE c (e::E)) P X=Eo (c (e::E)) (λE x=>P E (.no,x.2)) X:=by unfold vE;rw[jK];ac_rfl
theorem w_cH:Eo (cH c (e::E)) P X=Eo (c (e::E)) (λE x=>if x.1=.no then P E (.no,x.2)else if x.2.pure=true then P E (.dp,x.2)else False) X:=by
 unfold cH;rw[jK]
 congr 1
 funext E x
 by_cases h:x.1=.no
 ·rw[X7 h,X7 h];ac_rfl
 ·rw[X9 h,X9 h]
  by_cases h2:x.2.pure=true
  ·rw[X7 h2,X7 h2];ac_rfl
  ·rw[X9 h2,X9 h2];ac_rfl
theorem w_f1{f:Sd->Option Sd}:Eo (cF1 f a (e::E)) P X=Eo (a (e::E)) (λE x=>Wo (f x) E P) X:=by
 unfold cF1;rw[jK];congr 1;funext E x;exact x8
theorem w_f2{f:Sd->Sd->Option Sd}:Eo (cF2 f a b (e::E)) P X=Eo (a (e::E)) (λE x=>Eo (b E) (λE y=>Wo (f x y) E P) X) X:=by
 unfold cF2;rw[jK];congr 1;funext E x;rw[jK];congr 1;funext E y;exact x8
theorem w_ix:Eo (qX a b (e::E)) P X=Eo (a (e::E)) (λE x=>Eo (b E) (λE y=>Wo (kY x.2 y.2) E (λE d=>P E (sub x.1,d))) X) X:=by
 unfold qX;rw[jK];congr 1;funext E x;rw[jK];congr 1;funext E y;rw[x8];exact vo_map
theorem w_tE:Eo (tE c (e::E)) T X=Eo (c (e::E)) (λE x=>Wo (truth x.2) E T) X:=by
 unfold tE;rw[jK];congr 1;funext E x;exact x8
theorem w_tEQ:Eo (tEQ c (e::E)) T X=Eo (c (e::E)) (λE x=>Wo (truthQ x.2) E T) X:=by
 unfold tEQ;rw[jK];congr 1;funext E x;exact x8
theorem w_tNot:Eo (tNot t (e::E)) T X=Eo (t (e::E)) (λE k=>T E (!k)) X:=by unfold tNot;rw[jK];ac_rfl
theorem w_tAnd:Eo (tAnd t u (e::E)) T X=Eo (t (e::E)) (λE k=>if k=true then Eo (u E) T X else T E false) X:=by
 unfold tAnd;rw[jK];congr 1;funext E k;cases k<;>ac_rfl
theorem w_tOr:Eo (tOr t u (e::E)) T X=Eo (t (e::E)) (λE k=>if k=true then T E true else Eo (u E) T X) X:=by
 unfold tOr;rw[jK];congr 1;funext E k;cases k<;>ac_rfl
theorem w_tYes:Eo (tYes (e::E)) T X=T (e::E) true:=nd (by ac_rfl)
theorem w_cAnd:Eo (wkv a b (e::E)) P X=Eo (a (e::E)) (λE x=>wz0 x.2 (Eo (b E) P X) (P E (.dp,.bl false))) X:=by
 rw[vw5,jK];congr 1;funext E x;cases x.2 with|bl k=>cases k<;>ac_rfl|_=>ac_rfl
theorem w_call{f:Fn}{cs:List Ex}:Eo (jQ f cs (e::E)) P X=Eo (kW cs (e::E)) (λE xs=>Oe f (letAll xs) E P X) X:=by exists vvp
theorem w_partN{P:En->Option Int->Prop}:Eo (zW none (e::E)) P X=P (e::E) none:=nd (by ac_rfl)
theorem w_partS{P:En->Option Int->Prop}:Eo (zW (some c) (e::E)) P X=Eo (c (e::E)) (λE x=>Ie x.2 E (λE i=>P E (some i))) X:=by
 show Eo (bnd (c (e::E)) _) P X=_;rw[jK];congr 1;funext E x;unfold Ie;cases x.2<;>ac_rfl
theorem w_sl{lo hi:Option Ex}:Eo (cSl a lo hi (e::E)) P X=Eo (a (e::E)) (λE x=>Eo (zW lo E) (λE l=>Eo (zW hi E) (λE h=>Wo (fSl x l h) E P) X) X) X:=by
 unfold cSl;rw[jK];congr 1;funext E x;rw[jK];congr 1;funext E l;rw[jK];congr 1;funext E h;exact x8
theorem w_itS{P:En->List D->Prop}:Eo (itS c (e::E)) P X=Eo (c (e::E)) (λE x=>Wo (seqOf x.2) E P) X:=by
 unfold itS;rw[jK]
 congr 1
 funext E x;exact x8
theorem w_itEn{P:En->List D->Prop}:Eo (wqo c (e::E)) P X=Eo (c (e::E)) (λE x=>Wo (lstOf x.2) E (λE ds=>P E (xX 0 ds))) X:=by
 unfold wqo;rw[jK]
 congr 1
 funext E x;rw[x8];exact vo_map
end
theorem args_nil{e:Option Sd}{E:En}{P:En->List Sd->Prop}{X:XP}:Eo (kW [] (e::E)) P X=P (e::E) []:=nd (by ac_rfl)
theorem args_cons{e:Option Sd}{E:En}{c:Ex}{cs:List Ex}{P:En->List Sd->Prop}{X:XP}:Eo (kW (c::cs) (e::E)) P X=Eo (c (e::E)) (λE x=>Eo (kW cs E) (λE xs=>P E (x::xs)) X) X:=by
 show Eo (bnd (c (e::E)) λE x=>bnd (kW cs E) λE xs=>some (.ok E (x::xs))) P X=_;rw[jK]
 congr 1
 funext E x;rw[jK]
 ac_rfl
theorem eo_tup{e:Option Sd}{E:En}{cs:List Ex}{P:En->Sd->Prop}{X:XP}:Eo (v5 .no cs (e::E)) P X=Eo (kW cs (e::E)) (λE xs=>P E (.no,.tup (xs.map (·.2)))) X:=by
 unfold v5;rw[jK]
 ac_rfl
theorem eo_lst{e:Option Sd}{E:En}{cs:List Ex}{P:En->Sd->Prop}{X:XP}:Eo (kj .rt cs (e::E)) P X=Eo (kW cs (e::E)) (λE xs=>P E (.rt,.lst (xs.map (·.2)))) X:=by
 unfold kj;rw[jK]
 ac_rfl
theorem YY{c:Ex}{E:En}{P:En->List D->Prop}{X:XP}(h:Eo (c E) (λE x=>∃n:Int,x.2=.int n/\n<=1000/\-1000<=n/\P E (jY 0 n)) X):Eo (xJ c E) P X:=by
 unfold xJ;rw[jK];refine h.mono ?_;rintro E ⟨o,d⟩ ⟨n,rfl,h1,h2,h3⟩;have:vj n=true:=by unfold vj;rw[Xe ⋯,Xe ⋯];ac_rfl
 show Eo (if vj n=true/\n.toNat<=big then _ else _) P X;rw[X7 ⟨this,by unfold big;lia⟩]
 exists h3
theorem wkz{i:Nat}{c:Ex}{E:En}{o:Own}{xs:List D}{N C:En->Prop}{R:Sd->Prop}{X:XP}(h0:E[i]?=some (some (o,.lst xs)))
  (h:Eo (c E) (λE1 x=>∃o ys,E1[i]?=some (some (o,.lst ys))/\o≠.no/\ys.length<10000/\N (E1.set i (some (if o=.dp/\vz x then .dp else .rt,.lst (ys++[x.2]))))) X):Po (z3 z5 i c E) N C R X:=by
 unfold z3;rw[h0,X7 (show Kv (some (some (o,.lst xs)))=true from rfl),J3];refine h.mono ?_;rintro E1 x ⟨o,ys,h1,h2,h3,h4⟩;rw[h1];dsimp only;have hg:z5 ys x.2=some (ys++[x.2]):=by unfold z5;rw[X7 (by unfold big;lia)]
 rw[X9 h2,hg]
 exists h4
theorem Vj{i:Nat}{c:Ex}{E:En}{xs:List D}{N C:En->Prop}{R:Sd->Prop}{X:XP}(h0:E[i]?=some (some (.rt,.lst xs)))
  (h:Eo (c E) (λE1 x=>∃ys,E1[i]?=some (some (.rt,.lst ys))/\ys.length<10000/\N (E1.set i (some (.rt,.lst (ys++[x.2]))))) X):Po (z3 z5 i c E) N C R X:=
 wkz h0 (h.mono λE1 x ⟨ys,h1,h2,h3⟩=>⟨.rt,ys,h1,⋯,h2,by rw[X9 (by rintro ⟨z,_⟩;cases z)];exists h3⟩)
theorem rng_ok{n:Int}(h1:-1000<=n)(h2:n<=1000):(vj n=true/\n.toNat<=big)=True:=by
 have:vj n=true:=by unfold vj;rw[Xe ⋯,Xe ⋯];ac_rfl
 with_unfolding_all exact eq_true ⟨this,by unfold big;lia⟩
theorem kwf{α:Type}{p:Prop}[Decidable p]{a:Option (Res α)}{P:En->α->Prop}{X:XP}:Eo (if p then a else none) P X=(p/\Eo a P X):=by
 by_cases h:p
 ·rw[X7 h];with_unfolding_all exact propext ⟨λz=>⟨h,z⟩,λz=>z.2⟩
 ·rw[X9 h];with_unfolding_all exact propext ⟨λz=>z.elim,λz=>h z.1⟩
theorem w_R1{c:Ex}{e:Option Sd}{E:En}{P:En->List D->Prop}{X:XP}:Eo (xJ c (e::E)) P X=Eo (c (e::E)) (λE x=>Ie x.2 E λE n=>(vj n=true/\n.toNat<=big)/\P E (jY 0 n)) X:=by
 unfold xJ;rw[jK];congr 1;funext E x;cases x.2 with|int n=>exists kwf|_=>ac_rfl
theorem w_LR1{c:Ex}{e:Option Sd}{E:En}{P:En->Sd->Prop}{X:XP}:Eo (wqr c (e::E)) P X=Eo (c (e::E)) (λE x=>Ie x.2 E λE n=>(vj n=true/\n.toNat<=big)/\P E (.rt,.lst (jY 0 n))) X:=by
 unfold wqr;rw[jK];congr 1;funext E x;cases x.2 with|int n=>exists kwf|_=>ac_rfl
theorem vkq{o:Own}{xs:List D}{lo hi:Option Int}(h:o≠.dp):fSl (o,.lst xs) lo hi=some (.rt,.lst (J9 xs lo hi)):=by
 show(if k8 (o,.lst xs)then _ else _)=_;rw[X7 (by cases o<;>simp_all [k8])]
theorem sub_no:sub .no=.no:=nd (by ac_rfl)
theorem sub_rt:sub .rt=.no:=nd (by ac_rfl)
theorem sub_dp:sub .dp=.dp:=nd (by ac_rfl)
theorem Oo.use{ι:Sort _}{f:Fn}{xs:List Sd}{g:ι->Sd}{S:ι->Prop}{E:En}{P:En->Sd->Prop}{X:XP}(h:Oo f xs (λy=>∃i,y=g i/\S i) X)(k:∀i,S i->P E (g i)):Oe f xs E P X:=h.mono λy ⟨i,e,s⟩=>e▸k i s
theorem Oo.via{f:Fn}{xs:List Sd}{S:Sd->Prop}{E:En}{P:En->Sd->Prop}{X:XP}(h:Oo f xs S X)(k:∀y,S y->P E y):Oe f xs E P X:=h.mono k
theorem qV{E:En}{ys:List Sd}{P:En->Sd->Prop}{X:XP}:Eo (mkL .rt E ys) P X=P E (.rt,.lst (ys.map (·.2))):=nd (by ac_rfl)
theorem w_rz{c:Str}{e:Option Sd}{E:En}{N C:En->Prop}{R:Sd->Prop}{X:XP}:Po (sRz c (e::E)) N C R X=X c:=nd (by ac_rfl)
def Ox(f:Fn)(xs:List Sd)(E:En)(P:En->Sd->Prop)(Y:En->Str->Prop):Prop:=Oo f xs (P E) (Y E)
theorem Oo.ox{f:Fn}{xs:List Sd}{S:Sd->Prop}{W:XP}{E:En}{P:En->Sd->Prop}{Y:En->Str->Prop}(h:Oo f xs S W)(k:∀y,S y->P E y)(l:∀c,W c->Y E c):Ox f xs E P Y:=by
 unfold Ox Oo at *;cases hf:f xs with
 |none=>rw[hf]at h;exists h
 |some r=>rw[hf]at h;cases r with|ok E a=>exists k a h|exc E c=>exists l c h
theorem vzk{i:Nat}{m:Option Fl}{N C:En->Prop}{R:Sd->Prop}{X:XP}:Po (vje i m) N C R X=Po m (λE=>N (E.set i none)) (λE=>C (E.set i none)) R noX:=by
 cases m with|none=>ac_rfl|some r=>cases r<;>ac_rfl
theorem w_tryA{cs:List Str}{i j:Nat}{f:Fn}{as:List Ex}{h:Sm}{e:Option Sd}{E:En}{N C:En->Prop}{R:Sd->Prop}{X:XP}:Po (J7 cs i (jw j (Qw f as)) h (e::E)) N C R X =
  Eo (kW as (e::E)) (λE xs=>Ox f (letAll xs) E (λE y=>N (E.set j (some y))) (λE c=>c∈cs/\Po (h (E.set i (some (.no,.obj c [])))) (λE=>N (E.set i none)) (λE=>C (E.set i none)) R noX)) noX:=by
 unfold J7 jw Qw;cases kW as (e::E)with
 | none=>ac_rfl
 | some r=>
  cases r with
  | exc E1 c=>ac_rfl
  | ok E1 xs=>
   rw [qzm];unfold Ox Oo;dsimp only;cases f (letAll xs)with
   | none=>ac_rfl
   | some r=>
    cases r with
    | ok E2 y=>ac_rfl
    | exc E2 c=>
     dsimp only[ofE]
     by_cases hc:c∈cs
     ·rw[X7 hc,vzk]
      with_unfolding_all exact propext ⟨λz=>⟨hc,z⟩,λz=>z.2⟩
     ·rw[X9 hc]
      with_unfolding_all exact propext ⟨λz=>(show False from z).elim,λz=>absurd z.1 hc⟩
theorem Oo.any{f:Fn}{xs:List Sd}{P:Sd->Prop}{X:XP}(h:Oo f xs P noX):Oo f xs P X:=by
 unfold Oo at *;cases hf:f xs with
 |none=>rw[hf]at h;exists h
 |some r=>rw[hf]at h;cases r with|ok E a=>exists h|exc E c=>exists (show False from h).elim
section
variable {a b c kc vc:Ex}{e:Option Sd}{E:En}{X:XP}{N C:En->Prop}{R:Sd->Prop}{P:En->Sd->Prop}
theorem vwp:Eo (wqi a b (e::E)) P X=Eo (a (e::E)) (λE x=>Eo (b E) (λE y=>Wo (ZZ x.2 y.2) E (λE d=>P E (.dp,d))) X) X:=by
 unfold wqi;rw[jK];congr 1;funext E x;rw[jK];congr 1;funext E y;rw[x8];exact vo_map
theorem vwo{z:Str}:Eo (qzz z c (e::E)) P X=Eo (c (e::E)) (λE x=>Wo (qvq z x.2) E (λE d=>P E (.dp,d))) X:=by
 unfold qzz;rw[jK];congr 1;funext E x;rw[x8];exact vo_map
theorem vwr:Eo (vw4 (e::E)) P X=P (e::E) (.rt,vJ []):=nd (by ac_rfl)
theorem qky{i:Nat}(h:Eo (vc E) (λE1 v=>Kv E1[i]?=true/\Eo (kc E1) (λE2 k=>∃(o:Own) (xs:List D) (j:Int) (n:Nat),E2[i]?=some (some (o,.lst xs))/\o≠.no/\k.2=.int j/\ixN xs.length j=some n/\N (E2.set i (some (.rt,.lst (xs.set n v.2))))) X) X):Po (wqk i kc vc E) N C R X:=by
 unfold wqk;rw[J3];refine h.mono ?_;rintro E1 v ⟨e1,h1⟩;rw[X7 e1,J3];refine h1.mono ?_;rintro E2 k ⟨o,xs,j,n,e2,ho,hk,hn,h4⟩;rw[e2,hk];dsimp only;rw[X9 ho,hn];dsimp only;rw[vqg];exact h4
theorem vve{i:Nat}(h:Eo (vc E) (λE1 v=>vvf E1[i]?=true/\Eo (kc E1) (λE2 k=>∃(kv:List (Int×Int)) (x y:Int),E2[i]?=some (some (.rt,vJ kv))/\k.2=.int x/\v.2=.int y/\kv.length<10000/\N (E2.set i (some (.rt,vJ (zj kv x y))))) X) X):Po (qxo i kc vc E) N C R X:=by
 unfold qxo;rw[J3];refine h.mono ?_;rintro E1 v ⟨e1,h1⟩;rw[X7 e1,J3];refine h1.mono ?_;rintro E2 k ⟨kv,x,y,e2,hk,hv,hl,h4⟩;rw[e2,hk,hv];dsimp only;rw[kz2];dsimp only;rw[X7 (by unfold big;lia),vqg];exact h4
end
theorem wk0{k v:Int}{kv:List (Int×Int)}(h:qJ kv k=some v):ZZ (vJ kv) (.int k)=some (.int v):=by
 unfold ZZ;rw[kz2];dsimp only;rw[h];rfl
section
variable {a b c kc vc:Ex}{e:Option Sd}{E:En}{X:XP}{N C:En->Prop}{R:Sd->Prop}{P:En->Sd->Prop}
theorem vwq:Eo (vj0 a b (e::E)) P X=Eo (a (e::E)) (λE x=>kxz x.2=true/\Eo (b E) (λE y=>Wo (ZJ x.2 y.2) E (λE d=>P E (.dp,d))) X) X:=by
 unfold vj0;rw[jK];congr 1;funext E x;rw[kwf];congr 1;rw[jK];congr 1;funext E y;rw[x8];exact vo_map
end
end Q
local macro_rules
 | `(tactic| simp![$ts,*])=>`(tactic| simp(config:={ maxSteps:=1000000,failIfUnchanged:=false,implicitDefEqProofs:=true }) (disch:=lia) only[↓Q.w_seq,↓Q.w_asg,↓Q.w_ret,↓Q.w_pass,↓Q.w_if,↓Q.w_vV,↓Q.w_cV,↓Q.w_cMv,↓Q.w_cC,↓Q.w_vE,↓Q.w_cH,↓Q.w_f1,↓Q.w_f2,↓Q.w_ix,↓Q.w_tE,↓Q.w_tEQ,↓Q.w_tNot,↓Q.w_tAnd,↓Q.w_tOr,↓Q.w_tYes,↓Q.w_cAnd,↓Q.w_call,↓Q.w_partN,↓Q.w_partS,↓Q.w_sl,↓Q.w_itS,↓Q.w_itEn,↓Q.w_rz,↓Q.w_tryA,↓Q.w_R1,↓Q.w_LR1,Q.rng_ok,true_and,↓Q.ie_i,Q.sl_some,↓Q.andP_bl,↓Q.vo_some,↓Q.vo_map,↓Q.wo_some,↓Q.wo_map,↓Q.args_nil,↓Q.args_cons,↓Q.eo_tup,↓Q.eo_lst,Q.letAll,Q.pu2,Q.pu1,List.map_cons,List.map_nil,List.cons_append,List.nil_append,Xf,List.length_nil,X3,Nat.reduceAdd,Nat.reduceSub,List.replicate,List.set_cons_zero,List.set_cons_succ,List.getElem?_cons_zero,List.getElem?_cons_succ,Q.len_l,Q.len_t,Q.lt_ii,Q.le_ii,Q.add_i,Q.sub_i,Q.div_i,Q.mod_i,Q.pow_i,Q.mulT_i,Q.mul_l,Option.map_some,Q.truth,Q.truthQ,Q.D.pure,↓reduceIte,if_true,if_false,ite_true,ite_false,Q.sub_no,Q.sub_rt,Q.sub_dp,Bool.false_eq_true,reduceCtorEq,Bool.not_true,Bool.not_false,Q.Tg.put,Q.setAll,Q.seqOf,Q.lstOf,$ts,*])
namespace C
open Q PySem
abbrev most:Int:=1000*10 ^ 64
abbrev iL(ns:List Int):D:=.lst (ns.map D.int)
def Each(G:D->Sd->Prop):List D->List Sd->Prop
 |[],[]=>True|d::ds,y::ys=>G d y/\Each G ds ys|_,_=>False
theorem Each.snoc{G:D->Sd->Prop}{d:D}{y:Sd}(h:G d y):∀{ds:List D} {ys:List Sd},Each G ds ys->Each G (ds++[d]) (ys++[y])
 |[],[],_=>⟨h,trivial⟩|_::_,_::_,r=>⟨r.1,Each.snoc h r.2⟩
theorem K2{X:XP}{E:En}{o:Own}{r:List Nat}{it:Ev (List D)}{c:Ex}{P:En->Sd->Prop}(ai:En)(G:D->Sd->Prop)(h0:Eo (it E) (λE1 ds=>r.map (at' E1)=ai/\(∀d∈ds,Eo (c (some (.no,d)::ai)) (λB y=>(∃q,B=q::ai)/\G d y) X)/\∀ys,Each G ds ys->Eo (mkL o (back r ai (clr r E1)) ys) P X) X):Eo (cLC o 1 r it (.n 0) tYes c E) P X:=by
 refine zV (λE1 B ds2 af=>∃ds ds1 q,ds=ds1++ds2/\B=q::ai/\Each G ds1 af/\(∀d∈ds,Eo (c (some (.no,d)::ai)) (λB y=>(∃q,B=q::ai)/\G d y) X)/\∀ys,Each G ds ys->Eo (mkL o (back r ai (clr r E1)) ys) P X) ?_ ?_ ?_
 ·refine h0.mono λE1 ds ⟨h1,h2,h3⟩=>⟨ds,[],none,rfl,by rw[<-h1];rfl,trivial,h2,h3⟩
 ·rintro E1 B d ds2 af ⟨ds,ds1,q,e,rfl,hE,h2,h3⟩;have hp:(Tg.n 0).put d (q::ai)=some (some (.no,d)::ai):=rfl;rw[hp,vo_some,show tYes (some (Own.no,d)::ai)=some (.ok (some (Own.no,d)::ai) true)from rfl,qzm,X7 rfl];refine(h2 d (by rw[e];simp)).mono ?_;rintro B y ⟨⟨q',rfl⟩,hG⟩;exact⟨ds,ds1++[d],q',by rw[e];simp,rfl,hE.snoc hG,h2,h3⟩
 ·rintro E1 B af ⟨ds,ds1,q,e,rfl,hE,h2,h3⟩;rw[Xs]at e;subst e;exact h3 af hE
theorem qki{n:Int}:jY n n=[]:=by unfold jY;rw[Int.sub_self];rfl
theorem kj9{k n:Int}(h:k<n):jY k n=.int k::jY (k+1) n:=by
 unfold jY;have:(n - k).toNat=(n - (k+1)).toNat+1:=by
  obtain⟨m,hm⟩:=Yu (show 0<=n - (k+1)by lia);rw[hm,show n - k=(m+1:Nat)by lia];rfl
 rw[this,List.range_succ_eq_map,List.map_cons,Xh]
 congr 1
 ·simp
 ·apply Yl;intro i _;simp only[Function.comp]
  congr 1
  lia
theorem Wk{k n:Int}{d:D}{ds:List D}(hk:k<=n)(h:d::ds=jY k n):k<n/\d=.int k/\ds=jY (k+1) n:=by
 by_cases hl:k<n
 ·rw[kj9 hl]at h;injection h with h1 h2;exact⟨hl,h1,h2⟩
 ·have:k=n:=⋯
  subst this;rw[qki]at h;cases h
theorem jxz{k n:Int}(hk:k<=n)(h:[]=jY k n):k=n:=by
 by_cases hl:k<n
 ·rw[kj9 hl]at h;cases h
 ·lia
theorem kw6{k n:Int}{d:D}(h:d∈jY k n):∃i:Int,k<=i/\i<n/\d=.int i:=by
 unfold jY at h;obtain⟨j,hj,rfl⟩:=aE h;have:=List.mem_range.mp hj;exact⟨k+j,⋯,⋯,rfl⟩
theorem W5{o1 o2:Own}{a b:Str}(h:a.cps.size+b.cps.size<=10000):jv (o1,.str a) (o2,.str b)=some (.dp,.str (a++b)):=by
 show(if a.cps.size+b.cps.size<=big then _ else _)=_;rw[X7 (by unfold big;lia)]
theorem qxi(a b:Str):(a++b).cps.size=a.cps.size+b.cps.size:=by
 show(a.cps++b.cps).size=_;exact Array.size_append
theorem kvj:∀(ss:List Str),wQ (ss.map D.str)=some ss
 |[]=>rfl|s::ss=>by rw[List.map_cons,wQ,kvj ss];rfl
theorem qxc{o:Own}{ss:List Str}(h:ss.length<64):jzn (o,.lst (ss.map D.str))=some (.rt,.lst ((zJ ss).map D.str)):=by
 unfold jzn;dsimp only;rw[kvj];dsimp only;rw[X7 h]
theorem kz0(a:Str):∀r,(JQ a r).length=r.length+1
 |[]=>rfl|b::r=>by unfold JQ;split<;>simp[kz0 a r]
theorem jxu:∀r,(zJ r).length=r.length
 |[]=>rfl|a::r=>by rw[zJ,kz0,jxu r];rfl
abbrev sL(ss:List Str):D:=.lst (ss.map D.str)
theorem WY{n:Nat}:∀{ks:List D},(∀k∈ks,k.flat n=true)->D.flats n ks=true
 |[],_=>by cases n<;>simp[D.flats]|k::ks,h=>by rw[D.flats,h k X6,WY λe he=>h e (lc9 _ he)];rfl
mutual
theorem Zx:∀{n:Nat} (d:D),d.flat n=true->peq d d=true
 |n,.non,_=>by simp[peq]|n,.bl b,_=>by simp[peq]|n,.int b,_=>by simp[peq]|n,.str b,_=>by simp[peq]|0,.tup xs,h=>by simp[D.flat]at h|0,.lst xs,h=>by simp[D.flat]at h|n+1,.tup xs,h=>by rw[peq];exact peqs_refl xs (by simpa [D.flat]using h)|n+1,.lst xs,h=>by rw[peq];exact peqs_refl xs (by simpa [D.flat]using h)|n,.dct _,h=>by cases n<;>simp[D.flat]at h|n,.obj _ _,h=>by cases n<;>simp[D.flat]at h
theorem peqs_refl:∀{n:Nat} (ds:List D),D.flats n ds=true->peqs ds ds=true
 |_,[],_=>by simp[peqs]
 |n,d::ds,h=>by
  rw[D.flats,Bool.and_eq_true]at h;rw[peqs,Zx d h.1,peqs_refl ds h.2];rfl
end
theorem eq_self{d:D}(h:d.flat 40=true):fEq d d=some (.bl true):=by unfold fEq;rw[h,Zx d h];rfl
theorem p0(a b:D):kY (.tup [a,b]) (.int 0)=some a:=rfl
theorem p1(a b:D):kY (.tup [a,b]) (.int 1)=some b:=rfl
theorem t0(a b c:D):kY (.tup [a,b,c]) (.int 0)=some a:=rfl
theorem t1(a b c:D):kY (.tup [a,b,c]) (.int 1)=some b:=rfl
theorem t2(a b c:D):kY (.tup [a,b,c]) (.int 2)=some c:=rfl
theorem Kw{G:D->Sd->Prop}{h:D->D}(hG:∀d y,G d y->y.2=h d):∀{ds:List D} {ys:List Sd},Each G ds ys->ys.map (·.2)=ds.map h
 |[],[],_=>rfl|d::ds,y::ys,r=>by rw[List.map_cons,List.map_cons,hG d y r.1,Kw hG r.2]
theorem kxn{α:Type}[DecidableEq α]:∀{l m:List α},l.Nodup->(∀x∈l,x∈m)->l.length<=m.length
 |[],_,_,_=>Yh _
 |a::l,m,nd,h=>by
  rw[List.nodup_cons]at nd;have ha:=h a X6;have:=kxn (l:=l) (m:=m.erase a) nd.2 λx hx=>(List.mem_erase_of_ne (by rintro rfl;exact nd.1 hx)).mpr (h x (lc9 _ hx))
  have hl:=List.length_erase_of_mem ha;have:0<m.length:=List.length_pos_of_mem ha;simp only[Xf];lia
theorem wji{o:Own}{xs:List D}(h:o≠.dp):qzl (o,.lst xs)=some (.rt,.lst xs):=by
 show(if k8 (o,.lst xs)then _ else _)=_;rw[X7 (by cases o<;>simp_all [k8])]
theorem wjg{z:Str}{ss:List Str}:JZ (.str z) (sL ss)=some (.bl (!ss.any λw=>w==z)):=by
 show WQ (.str z) (sL ss)=_;unfold WQ;have:fIn (.str z) (sL ss)=some (.bl (ss.any λw=>w==z)):=by
  show(if(D.str z).flat 30&&D.flats 30 (ss.map D.str)then some (D.bl ((ss.map D.str).any λw=>peq w (.str z)))else none)=_;rw[show(D.str z).flat 30=true from rfl,WY (ks:=ss.map D.str) (λk hk=>by obtain⟨w,_,rfl⟩:=aE hk;rfl),List.any_map];rfl
 rw[this];rfl
theorem in_s{z:Str}{ss:List Str}:QQ (.str z) (sL ss)=some (.bl (ss.any λw=>w==z)):=by
 show(if(D.str z).flat 30&&D.flats 30 (ss.map D.str)then some (D.bl ((ss.map D.str).any λw=>peq w (.str z)))else none)=_;rw[show(D.str z).flat 30=true from rfl,WY (ks:=ss.map D.str) (λk hk=>by obtain⟨w,_,rfl⟩:=aE hk;rfl),List.any_map];rfl
theorem qwr{p:Int}{ks:List Int}:(ks.any λw=>w==p)=decide (p∈ks):=by
 rw[Bool.eq_iff_iff];simp
theorem wq1{a b:List D}(hl:a.length+b.length<=10000):jv (.no,.tup a) (.no,.tup b)=some (.no,.tup (a++b)):=by
 show(if a.length+b.length<=big/\k8 (.no,.tup a)/\k8 (.no,.tup b)then _ else _)=_;rw[X7 ⟨by unfold big;lia,rfl,rfl⟩]
theorem vk2{xs:List D}{c:Int}(h0:0<=c)(h1:c<=xs.length):J9 xs none (some c)=xs.take c.toNat:=by
 unfold J9 vq;dsimp only;rw[X9 ⋯,List.drop_zero,Nat.sub_zero,Nat.min_eq_left (Int.toNat_le.mpr h1)]
noncomputable section
end
abbrev rwD(ws:List (Str×Int)):List D:=ws.map λw=>.tup [.str w.1,.int w.2]
noncomputable section
end
end C
namespace B
open Q PySem C
theorem eqi{a b:Int}{k:Bool}(h:(a==b)=k):fEq (.int a) (.int b)=some (.bl k):=by rw[<-h];rfl
end B
namespace B
open PySem Q
def m__law_cell_at:Fn:=fn 2
  (j9 (sIf (tE (cF2 (pu2 fLt) (vV 1) (vE (cF1 (pu1 kX) (vV 0))))) (k7 (cH (qX (vV 0) (vV 1)))) x6)
  (k7 (cC (.int 0))))
end B
namespace B
open Q PySem C
def cellAt(ns:List Int)(k:Nat):Int:=ns.getD k 0
theorem cell_ok(ns:List Int)(k:Nat)(hn:ns.length<=10000):Oo m__law_cell_at [(.no,iL ns),(.no,.int k)] (λy=>∃o':Own,y=(o',.int (cellAt ns k))/\True) noX:=by
 unfold m__law_cell_at;refine qY ?_;simp![]
 by_cases h:(k:Int)<ns.length
 ·have hx:kY (iL ns) (.int k)=some (.int (cellAt ns k)):=by
   refine WK ⋯ ?_;unfold cellAt;rw[Yd,Xp,X5 ⋯,Yx,X5 ⋯];rfl
  have hd:decide ((k:Int)<ns.length)=true:=Xe h;rw[X7 hd];simp![hx];exact⟨_,rfl,trivial⟩
 ·have hd:¬decide ((k:Int)<ns.length)=true:=by rw[Xl h];decide
  rw[X9 hd];refine⟨.dp,?_,trivial⟩;rw[show cellAt ns k=0 by unfold cellAt;rw[Yx,Ym ⋯];rfl]
theorem kwx:∀{ps:List Str},(∀p∈ps,p.length=1)->(ps.map (·.length)).sum=ps.length
 |[],_=>rfl|p::ps,h=>by rw[List.map_cons,List.sum_cons,h p X6,kwx λq hq=>h q (lc9 _ hq),Xf];lia
theorem sl_s{o:Own}{z:Str}{lo hi:Option Int}(h:z.cps.size<=100):fSl (o,.str z) lo hi=some (.dp,.str (Txt.slice z lo hi)):=by
 have hl:(Txt.slice z lo hi).length<=z.length:=Txt.slice_le z lo hi;have h:z.length<=100:=h;show(if(Txt.slice z lo hi).length<=big then _ else none)=_;rw[X7 (by unfold big;lia)]
end B
namespace A
open PySem Q
noncomputable def m__law_mixed:Fn:=fn 3
  (j9 (sIf (tE (cF2 (pu2 fEq) (vE (cF2 (pu2 jW) (vV 0) (C9 2))) (C9 0))) (k7 (cF2 (pu2 qW) (vV 0) (vE (cF2 (pu2 wwm) (C9 2) (vE (cF2 vk (C9 8) (vV 1))))))) x6)
  (j9 (jw 2 (cF2 (pu2 jW) (vE (cF2 vk (vE (cF2 jv (vE (cF2 jv (vE (cF2 (pu2 jW) (vV 0) (C9 2147483647))) (vE (cF2 vk (C9 69621) (vV 1))))) (C9 7919))) (C9 48271))) (C9 2147483647)))
  (j9 (jw 2 (cF2 (pu2 jW) (vE (cF2 vk (vV 2) (vV 2))) (C9 2147483629)))
  (k7 (cF2 (pu2 jW) (vE (cF2 jv (vE (cF2 vk (vV 2) (vV 2))) (vE (cF2 vk (C9 16807) (vV 1))))) (C9 2147483587))))))
noncomputable def m__law_words:Fn:=fn 9
  (j9 (jw 2 (cC (.str "abcdefghijklmnopqrstuvwxyz")))
  (j9 (jw 3 (qzz "" (vE (cLC .rt 1 [2,0] (xJ (C9 8)) (.n 0) tYes (cH (qX (vV 1) (vE (cF2 (pu2 jW) (vE (jQ m__law_mixed [(cV 2),(cV 0)])) (C9 26)))))))))
  (j9 (sIf (tE (cF2 (pu2 fEq) (vE (cF2 (pu2 jW) (vV 0) (C9 3))) (C9 1))) (k7 (cLC .rt 1 [3,0] (xJ (vV 1)) (.n 0) tYes (cSl (vV 1) none (some (vE (cF2 jv (C9 1) (vE (cF2 (pu2 jW) (vE (cF2 jv (vV 0) (vE (cF2 (pu2 qW) (vV 2) (C9 3))))) (C9 8))))))))) x6)
  (j9 (jw 4 (cF2 jv (C9 1) (vE (cF2 (pu2 jW) (vE (cF2 (pu2 qW) (vV 0) (C9 3))) (C9 8)))))
  (j9 (jw 5 (cF2 (pu2 jW) (vE (cF2 (pu2 qW) (vV 0) (C9 24))) (vV 4)))
  (j9 (jw 6 (kj .rt []))
  (j9 (zq (xJ (vV 1)) (.n 7) (j9 (jw 8 (cF2 (pu2 jW) (vE (cF2 jv (vE (vj0 (vV 2) (qX (vV 3) (vV 5)))) (vE (cF2 vk (vV 7) (vE (cF2 jv (C9 1) (vE (cF2 (pu2 jW) (vE (cF2 (pu2 qW) (vV 0) (C9 192))) (C9 5))))))))) (C9 26)))
  (z3 z5 6 (cF2 jv (vE (cF2 jv (vE (cSl (vV 3) none (some (vV 5)))) (qX (vV 2) (vV 8)))) (vE (cSl (vV 3) (some (vE (cF2 jv (vV 5) (C9 1)))) (some (vV 4))))))))
  (k7 (cMv 6)))))))))
noncomputable def m__law_number:Fn:=fn 1
  (j9 (sIf (tE (cF2 (pu2 fEq) (vE (cF2 (pu2 jW) (vV 0) (C9 3))) (C9 0))) (k7 (cF2 (pu2 Vx) (vE (cF2 (pu2 jW) (vE (cF2 (pu2 qW) (vV 0) (C9 3))) (C9 19))) (C9 9))) x6)
  (k7 (cF2 jv (vE (cF2 (pu2 Vx) (vE (cF2 (pu2 jW) (vE (cF2 vk (vV 0) (vE (cF2 (pu2 J5) (C9 7919) (C9 15))))) (vE (cF2 (pu2 Vx) (vE (cF2 vk (C9 2) (vE (cF2 (pu2 J5) (C9 10) (C9 60))))) (C9 1))))) (vE (cF2 (pu2 J5) (C9 10) (C9 60))))) (C9 1))))
end A
namespace A
open Q PySem C B
theorem vzi{n:Nat}(h:n<=8000):((2:Int)*2 ^ n).natAbs.log2<9000:=by
 have e:((2:Int)*2 ^ n).natAbs=2 ^ (n+1):=by
  rw[Int.natAbs_mul,Int.natAbs_pow,Nat.pow_succ,Nat.mul_comm];rfl
 rw[e,Nat.log2_two_pow];lia
theorem wva{n:Int}(h0:0<=n)(h1:n<=8000):wwm (.int 2) (.int n)=some (.int (2*2 ^ n.toNat)):=by
 show(if 0<=n/\n<=1000000/\(2:Int).natAbs<2 ^ 64 then some (2*2 ^ n.toNat)else none).map D.int=_;rw[X7 ⟨h0,⋯,⋯⟩];rfl
theorem wwt{c n:Int}(h1:n<=8000):qW (.int c) (.int (2*2 ^ n.toNat))=some (.int (c / (2*2 ^ n.toNat))):=by
 show(if 0<(2:Int)*2 ^ n.toNat/\((2:Int)*2 ^ n.toNat).natAbs.log2<9000 then some (c / (2*2 ^ n.toNat))else none).map D.int=_;rw[X7 ⟨Int.mul_pos ⋯ (Int.pow_pos ⋯),vzi ⋯⟩];rfl
theorem mixed_ok(c k:Int)(h0:0<=k)(h1:k<=100):Oo m__law_mixed [(.no,.int c),(.no,.int k)] (λy=>∃v:Int,y=(.dp,.int v)/\True) noX:=by
 unfold m__law_mixed;refine qY ?_
 by_cases h:c % 2=0
 ·have hd:(c % 2==0)=true:=by simp[h]
  simp![eqi hd,wva (n:=8*k) ⋯ ⋯,wwt (c:=c) (n:=8*k) ⋯];exact⟨_,rfl,trivial⟩
 ·have hd:(c % 2==0)=false:=beq_false_of_ne h;have m0:=Xu c (show(2147483647:Int)≠0 by decide);have m1:=Xn c (show(0:Int)<2147483647 by decide);generalize hu:c % 2147483647=u at m0 m1;have e1:=mul_l (o1:=.no) (o2:=.no) (a:=u+69621*k+7919) (b:=48271) ⋯ ⋯;have n0:=Xu ((u+69621*k+7919)*48271) (show(2147483647:Int)≠0 by decide);have n1:=Xn ((u+69621*k+7919)*48271) (show(0:Int)<2147483647 by decide);simp![eqi hd,hu,e1];generalize (u+69621*k+7919)*48271 % 2147483647=w at n0 n1;have e2:=mul_l (o1:=.no) (o2:=.no) (a:=w) (b:=w) ⋯ ⋯;have e2':=mul_l (o1:=.dp) (o2:=.dp) (a:=w) (b:=w) ⋯ ⋯;have p0:=Xu (w*w) (show(2147483629:Int)≠0 by decide);have p1:=Xn (w*w) (show(0:Int)<2147483629 by decide);simp![e2,e2'];generalize w*w % 2147483629=t at p0 p1;have e3:=mul_l (o1:=.no) (o2:=.no) (a:=t) (b:=t) ⋯ ⋯;have e3':=mul_l (o1:=.dp) (o2:=.dp) (a:=t) (b:=t) ⋯ ⋯;simp![e3,e3'];exact⟨_,rfl,trivial⟩
def Sh(c:Int):Prop:=c.natAbs.log2<1100000
theorem number_ok(c:Int)(hc:Sh c):Oo m__law_number [(.no,.int c)] (λy=>∃v:Int,y=(.dp,.int v)/\True) noX:=by
 have hp:((10:Int) ^ (Int.toNat 60))=10 ^ 60:=rfl;have jn:((7919:Int) ^ (Int.toNat 15))=7919 ^ 15:=rfl;unfold m__law_number;refine qY ?_
 by_cases h:c % 3=0
 ·have hd:(c % 3==0)=true:=by simp[h]
  simp![eqi hd];exact⟨_,rfl,trivial⟩
 ·have hd:(c % 3==0)=false:=beq_false_of_ne h;have e1:=vqz (o1:=.no) (o2:=.no) (a:=c) (b:=7919 ^ 15) (by unfold Sh at hc;lia) ⋯;have hm:jW (.int (c*7919 ^ 15)) (.int (2*10 ^ 60 - 1))=some (.int (c*7919 ^ 15 % (2*10 ^ 60 - 1))):=mod_i ⋯;simp![eqi hd,hp,jn,e1,hm];exact⟨_,rfl,trivial⟩
abbrev AZ:Str:="abcdefghijklmnopqrstuvwxyz"
theorem az_found:∀ch∈AZ.cps.toList,∃i:Nat,ZJ (.str AZ) (.str ⟨#[ch]⟩)=some (.int i):=by
 have h:∀ch∈AZ.cps.toList,(Builtin.Str.occurrences AZ ⟨#[ch]⟩ 0 AZ.length 1).isEmpty=false:=by decide +kernel
 intro ch hc;have:=h ch hc;unfold ZJ;dsimp only;cases e:Builtin.Str.occurrences AZ ⟨#[ch]⟩ 0 AZ.length 1 with|nil=>rw[e]at this;cases this|cons i r=>exact⟨i,rfl⟩
theorem ix_strM(z:Str)(i:Int)(h0:0<=i)(h1:i<z.cps.size):∃c∈z.cps.toList,kY (.str z) (.int i)=some (.str ⟨#[c]⟩):=by
 have:i.toNat<z.cps.toList.length:=by rw[X4];lia
 refine⟨z.cps.toList[i.toNat],Y2 _,?_⟩;show((Q.ixN z.cps.size i).bind λj=>(z.cps.toList[j]?).map λc=>D.str ⟨#[c]⟩)=_;unfold Q.ixN;rw[X7 h0,X7 h1];show((z.cps.toList[i.toNat]?).map λc=>D.str ⟨#[c]⟩)=_;rw[X5 this];rfl
theorem list_app(a b:Str):(a++b).cps.toList=a.cps.toList++b.cps.toList:=by
 show(a.cps++b.cps).toList=_;exact Array.toList_append
theorem kxx{L:List Nat}:∀{ps:List Str},(∀p∈ps,∃c∈L,p=⟨#[c]⟩)->(Str.join "" ps).cps.toList.length=ps.length/\∀c∈(Str.join "" ps).cps.toList,c∈L
 | [],_=>⟨rfl,λc h=>by exact absurd h (by simp[Str.join,Str.empty])⟩
 | [x],h=>by
  obtain⟨c,hc,rfl⟩:=h x X6;refine⟨rfl,λd hd=>?_⟩;have:d=c:=by simpa [Str.join]using hd
  rw[this];exact hc
 | x::y::r,h=>by
  obtain⟨c,hc,rfl⟩:=h x X6;obtain⟨i1,i2⟩:=kxx (ps:=y::r) λp hp=>h p (lc9 _ hp)
  have e:(Str.join "" ((⟨#[c]⟩:Str)::y::r)).cps.toList=c::(Str.join "" (y::r)).cps.toList:=by
   show((⟨#[c]⟩:Str)++""++Str.join "" (y::r)).cps.toList=_;rw[list_app,list_app];rfl
  rw[e];refine⟨by rw[Xf,i1];rfl,λd hd=>?_⟩;rcases aD hd with rfl|hd
  ·exact hc
  ·exact i2 d hd
theorem each_one{L:List Nat}{G:D->Sd->Prop}(hG:∀d y,G d y->∃c∈L,y.2=.str ⟨#[c]⟩):∀{ds:List D} {ys:List Sd},Each G ds ys->∃ps:List Str,ys.map (·.2)=ps.map D.str/\ps.length=ds.length/\∀p∈ps,∃c∈L,p=⟨#[c]⟩
 |[],[],_=>⟨[],rfl,rfl,λ_ h=>nomatch h⟩
 |d::ds,y::ys,r=>by
  obtain⟨i,hi,e⟩:=hG d y r.1;obtain⟨ps,h1,h2,h3⟩:=each_one hG r.2;exact⟨⟨#[i]⟩::ps,by simp[e,h1],by simp[h2],λp hp=>(aD hp).elim (λz=>z▸⟨i,hi,rfl⟩) (h3 p)⟩
theorem join_az{ps:List Str}(h:∀p∈ps,∃c∈AZ.cps.toList,p=⟨#[c]⟩)(h1:ps.length<=100):∃z:Str,qvq "" (.lst (ps.map D.str))=some (.str z)/\z.cps.size=ps.length/\∀c∈z.cps.toList,c∈AZ.cps.toList:=by
 have hz:("":Str).length=0:=rfl;have hs:=kwx (ps:=ps) λp hp=>by obtain⟨c,_,rfl⟩:=h p hp;rfl
 obtain⟨j1,j2⟩:=kxx h;refine⟨Txt.join "" ps,?_,?_,?_⟩
 ·unfold qvq;dsimp only;rw[kvj];dsimp only;rw[X7 (by rw[hs,hz];lia)]
 ·unfold Txt.join;rw[StrLaws.glued_eq_join,<-j1,X4]
 ·unfold Txt.join;rw[StrLaws.glued_eq_join];exact j2
end A
namespace Kp
open Q PySem C
theorem bk(E:En):back [] [] (clr [] E)=E:=rfl
end Kp
namespace U
open Q PySem C B
theorem kz7:∀(l af:List Int),af.Nodup->(l.foldl (λl k=>if l.any (· == k)then l else l++[k]) af).Nodup/\∀x,x∈l.foldl (λl k=>if l.any (· == k)then l else l++[k]) af↔x∈af\/x∈l
 | [],af,h=>⟨h,λx=>by simp⟩
 | a::l,af,h=>by
  rw[Z5]
  by_cases ha:a∈af
  ·rw[X7 (by rw[qwr];exact Xe ha)];obtain⟨h1,h2⟩:=kz7 l af h;refine⟨h1,λx=>?_⟩;rw[h2,Y3];constructor
   ·exact λz=>z.imp id .inr
   ·rintro (z|rfl|z)
    ·exact .inl z
    ·exact .inl ha
    ·exact .inr z
  ·rw[X9 (by rw[qwr];simpa using ha)];obtain⟨h1,h2⟩:=kz7 l (af++[a]) (List.nodup_append.mpr ⟨h,by simp,λx hx y hy e=>by rw[aC hy]at e;exact ha (e▸hx)⟩);refine⟨h1,λx=>?_⟩;rw[h2,List.mem_append,List.mem_singleton,Y3];constructor
   ·rintro ((z|z)|z)
    ·exact .inl z
    ·exact .inr (.inl z)
    ·exact .inr (.inr z)
   ·rintro (z|z|z)
    ·exact .inl (.inl z)
    ·exact .inl (.inr z)
    ·exact .inr z
theorem ddI_nd(l:List Int):(ddI l).Nodup:=(kz7 l [] Y4).1
theorem ddI_mem{l:List Int}{x:Int}:x∈ddI l↔x∈l:=by
 have:=(kz7 l [] Y4).2 x;rw[show x∈ddI l↔_ from this];simp
theorem qve:∀l:List Int,zw (l.map D.int)=some l
 |[]=>rfl
 |a::l=>by
  rw[List.map_cons,zw,qve l];rfl
theorem lenset_i{l:List Int}(h:l.length<4000):QJ (.lst (l.map D.int))=some (.int (ddI l).length):=by
 cases l with
 |nil=>rfl
 |cons a l=>
  have e:wQ ((a::l).map D.int)=none:=rfl;unfold QJ;dsimp only;rw[e];dsimp only;rw[qve];dsimp only;rw[X7 h]
end U
namespace V
open Q PySem C
def m_shape_of:Fn:=fn 5
  (j9 (jw 1 vw4)
  (j9 (jw 2 (kj .rt []))
  (j9 (zq (itS (cV 0)) (.t [3,4]) (j9 (sIf (tE (cF2 (pu2 Jw) (vV 4) (vV 1))) (qxo 1 (vV 4) (cF1 (pu1 Qx) (vV 1))) x6)
  (z3 z5 2 (v5 .no [(cV 3),(cH (wqi (vV 1) (vV 4)))]))))
  (k7 (cMv 2)))))
def m_names_in:Fn:=fn 1
  (k7 (cF1 (pu1 QJ) (vE (cLC .rt 2 [] (itS (cV 0)) (.t [0,1]) tYes (cV 1)))))
def m_case_to:Fn:=fn 2
  (j9 (sIf (tE (cF2 (pu2 Jj) (vV 0) (vV 1))) (k7 (cC .non)) x6)
  (k7 (v5 .no [(cH (wqh (vV 1) (vV 0))),(wqp (vE (jQ m_names_in [(cV 0)])))])))
noncomputable def m_steps_at:Fn:=fn 6
  (j9 (jw 3 (wqr (vE (cF2 jv (vE (jQ m_names_in [(cV 0)])) (C9 1)))))
  (j9 (jw 4 (kj .rt []))
  (j9 (zq (itS (cV 1)) (.n 5) (z3 z5 4 (cLC .rt 1 [0,5,2] (itS (cV 3)) (.n 0) tYes (jQ m_case_to [(cF2 jv (vV 1) (vE (v5 .no [(v5 .no [(cV 2),(cV 0)])]))),(cV 3)]))))
  (k7 (cMv 4)))))
def m_signs_in:Fn:=fn 3
  (j9 (jw 1 (kj .rt []))
  (j9 (zq (itS (cV 0)) (.n 2) (Q9 1 (cLC .rt 2 [] (itS (cV 2)) (.t [0,1]) tYes (cV 0))))
  (k7 (cMv 1))))
noncomputable def m_beginnings_of:Fn:=fn 3
  (j9 (jw 1 (kj .rt [(v5 .no [(cC (.int 0)),(v5 .no [])])]))
  (j9 (zq (itS (cV 0)) (.n 2) (Q9 1 (cLC .rt 1 [2] (xJ (vE (cF2 jv (vE (cF1 (pu1 kX) (vV 2))) (C9 1)))) (.n 0) tYes (v5 .no [(cV 0),(wqq (vV 1) none (some (vV 0)))]))))
  (k7 (cLC .rt 2 [] (itS (cF1 QY (vV 1))) (.t [0,1]) tYes (cV 1)))))
theorem Q8(a:List Int)(x:Int):ddI (a++[x])=if x∈ddI a then ddI a else ddI a++[x]:=by
 unfold ddI;rw[Zh,Z5,List.foldl_nil]
 by_cases h:x∈a.foldl (λl k=>if l.any (· == k)then l else l++[k]) []
 ·rw[X7 h,X7 (by simpa using h)]
 ·rw[X9 h,X9 (by simpa using h)]
theorem vjz:∀(b a:List Int) (x:Int),x∈ddI a\/x∈b->x∈ddI (a++b)
 | [],a,x,h=>by rw[Xs];exact h.elim id λz=>nomatch z
 | y::b,a,x,h=>by
  rw[show a++y::b=(a++[y])++b by simp];refine vjz b _ x ?_;rw[Q8];rcases h with h|h
  ·left
   split
   ·exact h
   ·exact ll9 _ h
  ·rcases aD h with rfl|h
   ·left
    split
    ·assumption
    ·simp
   ·exact .inr h
def idx(S:List Int)(n:Int):Int:=(S.idxOf n:Nat)
def kvS(S:List Int):List (Int×Int):=S.zipIdx.map λp=>(p.1,(p.2:Int))
theorem qza(S:List Int)(x:Int):kvS (S++[x])=kvS S++[(x,(S.length:Int))]:=by
 unfold kvS;rw[List.zipIdx_append];simp
theorem qv5(S:List Int):(kvS S).length=S.length:=by unfold kvS;simp
theorem kwp(n:Int):∀(S:List Int) (k:Nat),qJ ((S.zipIdx k).map λp=>(p.1,(p.2:Int))) n=if n∈S then some ((S.idxOf n+k:Nat):Int)else none
 | [],k=>rfl
 | x::S,k=>by
  rw[List.zipIdx_cons,List.map_cons];unfold qJ;rw[Yk]
  by_cases e:x=n
  ·subst e;simp
  ·have:=kwp n S (k+1);unfold qJ at this;dsimp only;rw[Xl e];dsimp only;rw[this]
   by_cases hm:n∈S
   ·rw[X7 hm,X7 (lc9 _ hm),List.idxOf_cons,beq_false_of_ne e];simp;lia
   ·rw[X9 hm,X9 (by simp[hm,Ne.symm e])]
theorem kjt(S:List Int)(n:Int):qJ (kvS S) n=if n∈S then some (idx S n)else none:=kwp n S 0
theorem vq6{S:List Int}{x:Int}(h:x∉S):zj (kvS S) x S.length=kvS (S++[x]):=by
 have hv:=kjt S x;rw[X9 h]at hv;unfold zj;rw[X9 ?_,qza];intro ha;rw[List.any_eq_true]at ha;obtain⟨p,hp,e⟩:=ha;unfold qJ at hv;rw[Option.map_eq_none_iff,List.find?_eq_none]at hv;exact hv p hp e
theorem vvm{S:List Int}{x n:Int}(h:n∈S):idx (S++[x]) n=idx S n:=by
 unfold idx;rw[List.idxOf_append,X7 h]
abbrev ns2(ws:List (Str×Int)):List Int:=ws.map (·.2)
def shW(ws:List (Str×Int)):List (Str×Int):=ws.map λw=>(w.1,idx (ddI (ns2 ws)) w.2)
theorem kvp(ws:List (Str×Int)):(shW ws).length=ws.length:=by unfold shW;rw[X3]
theorem kxk{k:Int}{kv:List (Int×Int)}:Jw (.int k) (vJ kv)=some (.bl (!(qJ kv k).isSome)):=by
 unfold Jw;rw[kz2]
theorem wjl{kv:List (Int×Int)}:Qx (vJ kv)=some (.int kv.length):=by
 unfold Qx;rw[kz2]
theorem vk0(b:List Int):∀a:List Int,(ddI (a++b)).length<=(ddI a).length+b.length:=by
 induction b with
 | nil=>intro a;rw[Xs];exact Xa _
 | cons y b ih=>
  intro a;rw[show a++y::b=(a++[y])++b by simp];have:=ih (a++[y]);have e:(ddI (a++[y])).length<=(ddI a).length+1:=by
   rw[Q8]
   split
   ·lia
   ·simp
  rw[Xf];lia
theorem kjz(f:List (Str×Int))(w:Str×Int):rwD (shW (f++[w]))=rwD (shW f)++[.tup [.str w.1,.int (idx (ddI (ns2 f++[w.2])) w.2)]]:=by
 have hn:ns2 (f++[w])=ns2 f++[w.2]:=by simp
 unfold shW;rw[hn,Xj];unfold rwD;rw[Xj]
 congr 1
 refine congrArg (List.map _) (Yl λa ha=>?_);have hm:a.2∈ddI (ns2 f):=vjz (ns2 f) [] a.2 (.inr (List.mem_map.mpr ⟨a,ha,rfl⟩));rw[Q8]
 split
 ·rfl
 ·rw[vvm hm]
theorem qxl(ws:List (Str×Int))(hw:ws.length<=1000):Oo m_shape_of [(.no,.lst (rwD ws))] (λy=>y=(.rt,.lst (rwD (shW ws)))) noX:=by
 unfold m_shape_of;refine qY ?_;simp![↓vwr];refine Q0 (λE ai=>∃(f1 f2:List (Str×Int)) (l3 l4:Option Sd),E=[some (.no,.lst (rwD ws)),some (.rt,vJ (kvS (ddI (ns2 f1)))),some (.rt,.lst (rwD (shW f1))),l3,l4]/\ws=f1++f2/\ai=rwD f2) ?_ ?_ ?_
 ·simp![];exact⟨[],ws,_,_,rfl,rfl,rfl⟩
 ·rintro E d ds ⟨f1,f2,l3,l4,rfl,hf,hr⟩;cases f2 with
  | nil=>cases hr
  | cons w f2=>
   have hr:d::ds=.tup [.str w.1,.int w.2]::rwD f2:=hr;injection hr with e1 e2;subst e1 e2;have ah:f1.length+(f2.length+1)=ws.length:=by rw[hf];simp
   have hn:ns2 (f1++[w])=ns2 f1++[w.2]:=by simp
   have hsn:=Q8 (ns2 f1) w.2
   by_cases hm:w.2∈ddI (ns2 f1)
   ·rw[X7 hm]at hsn;have hv:qJ (kvS (ddI (ns2 f1))) w.2=some (idx (ddI (ns2 f1)) w.2):=by rw[kjt,X7 hm]
    have oi:Jw (.int w.2) (vJ (kvS (ddI (ns2 f1))))=some (.bl false):=by rw[kxk,hv];rfl
    simp![oi];refine Vj rfl ?_;simp![↓vwp,wk0 hv];refine⟨_,rfl,by rw[X3,kvp];lia,f1++[w],f2,some (.no,.str w.1),some (.no,.int w.2),?_,by rw[hf];simp,rfl⟩;rw[kjz,hn,hsn]
   ·rw[X9 hm]at hsn;have hv:qJ (kvS (ddI (ns2 f1))) w.2=none:=by rw[kjt,X9 hm]
    have oi:Jw (.int w.2) (vJ (kvS (ddI (ns2 f1))))=some (.bl true):=by rw[kxk,hv];rfl
    have hv2:qJ (kvS (ddI (ns2 f1)++[w.2])) w.2=some (idx (ddI (ns2 f1)++[w.2]) w.2):=by rw[kjt,X7 (by simp)]
    simp![oi];refine vve ?_;simp![wjl];refine⟨rfl,?_⟩;simp![];refine⟨_,_,_,rfl,rfl,rfl,?_,?_⟩
    ·rw[qv5];have:=vk0 (ns2 f1) [];rw[List.nil_append,X3]at this;have e:(ddI []).length=0:=rfl;lia
    rw[qv5,vq6 hm];simp![];refine Vj rfl ?_;simp![↓vwp,wk0 hv2];refine⟨_,rfl,by rw[X3,kvp];lia,f1++[w],f2,some (.no,.str w.1),some (.no,.int w.2),?_,by rw[hf];simp,rfl⟩;rw[kjz,hn,hsn]
 ·rintro E ⟨f1,f2,l3,l4,rfl,hf,hr⟩;have rh:f2=[]:=by cases f2 with|nil=>rfl|cons=>cases hr
  subst rh;rw[Xs]at hf;subst hf;simp![]
theorem vjv{i:Nat}{c:Ex}{E:En}{xs:List D}{N Cc:En->Prop}{R:Sd->Prop}{X:XP}(h0:E[i]?=some (some (.rt,.lst xs)))(h:Eo (c E) (λE1 x=>∃ys zs,E1[i]?=some (some (.rt,.lst ys))/\x=(.rt,.lst zs)/\ys.length+zs.length<big/\N (E1.set i (some (.rt,.lst (ys++zs))))) X):Po (Q9 i c E) N Cc R X:=by
 unfold Q9;rw[h0];show Po (if true=true then _ else _) N Cc R X;rw[X7 rfl,J3];refine h.mono ?_;rintro E1 x ⟨ys,zs,h1,rfl,hb,hN⟩;rw[h1];dsimp only;rw[X9 (λz=>by rcases z with z|z|z;cases z;cases z;exact z hb),vqg];exact hN
theorem wqw{a:Ex}{lo hi:Option Ex}{e:Option Sd}{E:En}{P:En->Sd->Prop}{X:XP}:Eo (wqq a lo hi (e::E)) P X=Eo (a (e::E)) (λE x=>Eo (zW lo E) (λE l=>Eo (zW hi E) (λE h=>Wo (V4 x l h) E P) X) X) X:=by
 unfold wqq;rw[jK];congr 1;funext E x;rw[jK];congr 1;funext E l;rw[jK];congr 1;funext E h;exact x8
abbrev Sh:=List (Str×Int)
abbrev tD(s:Sh):D:=.tup (rwD s)
def nk(s:Sh):Nat:=(ddI (ns2 s)).length
theorem qkb:∀{a b:Sh},rwD a=rwD b->a=b:=by
 intro a
 induction a with
 | nil=>intro b h;cases b with|nil=>rfl|cons=>cases h
 | cons x a ih=>
  intro b h;cases b with
  |nil=>cases h
  |cons y b=>
   simp only[rwD,List.map_cons,List.cons.injEq,D.tup.injEq,D.str.injEq,D.int.injEq,and_true]at h;rw[Prod.ext h.1.1 h.1.2,ih h.2]
theorem kww{a b:Sh}(h:tD a=tD b):a=b:=qkb (D.tup.inj h)
theorem jxp(s:Sh)(hl:s.length<=1000):Oo m_names_in [(.no,tD s)] (λy=>∃o:Own,y=(o,.int (nk s))/\True) noX:=by
 unfold m_names_in;refine qY ?_;simp![];refine zV (λE1 B ds af=>E1=[some (.no,tD s)]/\∃(q0 q1:Option Sd) (s1 s2:Sh),B=[q0,q1]/\ds=rwD s2/\s=s1++s2/\af.map (·.2)=(ns2 s1).map D.int) ?_ ?_ ?_
 ·simp![];exact⟨_,_,[],s,rfl,rfl,rfl,rfl⟩
 ·rintro E1 B d ds af ⟨rfl,q0,q1,s1,s2,rfl,ba,hs,ha⟩;cases s2 with
  |nil=>cases ba
  |cons w s2=>
   injection ba with e1 e2;subst e1 e2;simp![];exact⟨_,_,s1++[w],s2,rfl,rfl,by rw[hs];simp,by rw[Xj,ha];simp⟩
 ·rintro E1 B af ⟨rfl,q0,q1,s1,s2,rfl,ba,hs,ha⟩;have:s2=[]:=by cases s2 with|nil=>rfl|cons=>cases ba
  subst this;rw[Xs]at hs;subst hs;rw[qV,ha];simp only[xz,back,clr];simp![U.lenset_i (l:=ns2 s) (by rw[X3];lia)];exact⟨_,rfl,trivial⟩
end V
namespace V
open Q PySem C Tl
abbrev pD(s:Sh):D:=.tup [.int s.length,tD s]
def pre(s:Sh):List Sh:=(List.range (s.length+1)).map s.take
def wZ(b7:List Sh):List Sh:=[]::b7.flatMap pre
theorem kxg{a b:Sh}(h:pD a=pD b):a=b:=by
 simp only[pD,D.tup.injEq,List.cons.injEq,and_true]at h;exact qkb h.2
theorem kvu(n:Nat):jY 0 (n:Int)=(List.range n).map λ(k:Nat)=>D.int k:=by
 unfold jY;rw[Int.sub_zero,Yd];exact Yl λk _=>by rw[Int.zero_add]
theorem qxg{s:Sh}{e:Nat}(h:e<=s.length):V4 (.no,tD s) none (some (e:Int))=some (.no,tD (s.take e)):=by
 have hl:(rwD s).length=s.length:=X3 _;have h1:vq (rwD s).length 0 none=0:=rfl;have h2:vq (rwD s).length (rwD s).length (some (e:Int))=e:=by
  unfold vq;dsimp only;rw[X9 ⋯,hl];simp;lia
 unfold V4;dsimp only
 by_cases he:e=s.length
 ·subst he;rw[X7 ⟨rfl,h1,by rw[h2,hl]⟩,List.take_length]
 ·rw[X9 (λz=>he (by have:=z.2.2;rw[h2,hl]at this;exact this))];unfold fSl;dsimp only;rw[X7 ⟨rfl,λz=>he (by have:=z.2;rw[h2,hl]at this;exact this)⟩];unfold J9;rw[h1,h2,List.drop_zero,Nat.sub_zero];show some (Own.no,D.tup ((rwD s).take e))=_;rw[show(rwD s).take e=rwD (s.take e)from List.map_take.symm]
theorem vv5:∀(a b:Sh),(ltDs (rwD a) (rwD b)).isSome=true:=by
 intro a
 induction a with
 | nil=>intro b;cases b<;>rfl
 | cons x a ih=>
  intro b;cases b with
  | nil=>rfl
  | cons y b=>
   show(ltDs (.tup [.str x.1,.int x.2]::rwD a) (.tup [.str y.1,.int y.2]::rwD b)).isSome=true;unfold ltDs
   split
   ·exact ih b
   ·unfold ltD ltDs
    split
    ·unfold ltDs
     split
     ·rfl
     ·rfl
    ·rfl
theorem ww0(a b:Sh):(ltD (pD a) (pD b)).isSome=true:=by
 unfold ltD ltDs
 split
 ·unfold ltDs
  split
  ·rfl
  ·unfold ltD;exact vv5 a b
 ·rfl
theorem vjs{n:Nat}:∀s:Sh,keyDs (n+1) (rwD s)=true:=by
 intro s
 induction s with
 |nil=>rfl
 |cons x s ih=>
  show(j7 (n+1) (.tup [.str x.1,.int x.2])&&keyDs (n+1) (rwD s))=true;rw[ih,Bool.and_true];unfold j7;simp[keyDs,j7]
theorem YV(s:Sh):wv (tD s)=true:=by
 show(j7 6 (.tup (rwD s))&&true)=true;unfold j7;rw[vjs];rfl
theorem vqu(L:List Sh):okT (L.map pD)=true:=by
 unfold okT;rw[Bool.and_eq_true,Ya,Ya];refine⟨λd hd=>?_,λd hd=>List.all_eq_true.mpr λe he=>?_⟩
 ·obtain⟨s,_,rfl⟩:=aE hd;show(j7 6 (.tup [.int s.length,.tup (rwD s)])&&true)=true;unfold j7 keyDs;simp only[j7,keyDs];rw[vjs];rfl
 ·obtain⟨s,_,rfl⟩:=aE hd;obtain⟨t,_,rfl⟩:=aE he;exact ww0 s t
theorem qzq:∀(ds ls:List D),ls.Nodup->(ds.foldl v4 ls).Nodup:=by
 intro ds
 induction ds with
 | nil=>exact λls h=>h
 | cons d ds ih=>
  intro ls h;refine ih _ ?_;unfold v4
  split
  ·exact h
  ·rename_i hn;exact List.nodup_append.mpr ⟨h,by simp,λa ha b hb e=>hn (by rw[List.mem_singleton]at hb;rw[<-hb,<-e];exact ha)⟩
theorem qw0:∀(ds ls:List D) {d:D},d∈ls\/d∈ds->d∈ds.foldl v4 ls:=by
 intro ds
 induction ds with
 | nil=>exact λls d h=>h.elim id λz=>nomatch z
 | cons a ds ih=>
  intro ls d h;refine ih _ ?_;unfold v4;rcases h with h|h
  ·left
   split
   ·exact h
   ·exact ll9 _ h
  ·rcases aD h with rfl|h
   ·left
    split
    ·assumption
    ·simp
   ·exact .inr h
theorem vvx:∀(ds ls:List D),(ds.foldl v4 ls).length<=ls.length+ds.length:=by
 intro ds
 induction ds with
 | nil=>intro ls;simp
 | cons d ds ih=>
  intro ls;refine Yn (ih _) ?_;have:(v4 ls d).length<=ls.length+1:=by
   unfold v4
   split
   ·lia
   ·simp
  rw[Xf];lia
theorem qx5:∀(b7:List Sh) (ls:List D),pD []∈ls->(∀s∈b7,s.length<=5)->(((b7.flatMap pre).map pD).foldl v4 ls).length<=ls.length+5*b7.length:=by
 intro b7
 induction b7 with
 | nil=>intro ls _ _;simp
 | cons s b7 ih=>
  intro ls h0 hl;rw[Yw,Xj,Zh];have e:(pre s).map pD=pD []::((List.range s.length).map λi=>pD (s.take (i+1))):=by
   unfold pre;rw[List.range_succ_eq_map,List.map_cons,List.map_cons,List.take_zero,Xh,Xh];rfl
  have h1:(((pre s).map pD).foldl v4 ls).length<=ls.length+5:=by
   rw[e,Z5,show v4 ls (pD [])=ls from X7 h0];have:=vvx ((List.range s.length).map λi=>pD (s.take (i+1))) ls;rw[X3,Y1]at this;have:=hl s X6;lia
  have:=ih (((pre s).map pD).foldl v4 ls) (qw0 _ _ (.inl h0)) λt ht=>hl t (lc9 _ ht)
  rw[Xf];lia
theorem kxh(b:Sh)(h:b≠[]):ltD (pD []) (pD b)=some true/\ltD (pD b) (pD [])=some false:=by
 have hl:0<b.length:=List.length_pos_iff.mpr h;have ne:∀{x y:Int},x≠y->D.int x≠D.int y:=λh e=>h (D.int.inj e)
 constructor
 ·unfold ltD ltDs;rw[X9 (ne (by simp;lia))];show some (decide (((0:Nat):Int)<b.length))=_;rw[Xe ⋯]
 ·unfold ltD ltDs;rw[X9 (ne (by simp;lia))];show some (decide ((b.length:Int)<((0:Nat):Int)))=_;rw[Xl ⋯]
theorem kzl:∀(l:List D),(∀d∈l,∃x,d=pD x)->l.Nodup->pD []∈l->∃t,vQ l=pD []::t:=by
 intro l
 induction l with
 | nil=>exact λ_ _ h=>nomatch h
 | cons a r ih=>
  intro ha nd h0;rw[List.nodup_cons]at nd;obtain⟨x,rfl⟩:=ha a X6;show ∃t,J6 (pD x) (vQ r)=pD []::t
  by_cases hx:x=[]
  ·subst hx;cases hs:vQ r with
   |nil=>exact⟨[],rfl⟩
   |cons b t=>
    have hb:b∈r:=(z6 r).mem_iff.mp (by rw[hs];exact X6);obtain⟨y,rfl⟩:=ha b (lc9 _ hb);have hy:y≠[]:=λz=>nd.1 (by rw[<-z];exact hb)
    unfold J6;rw[X9 (by rw[(kxh y hy).2];decide)];exact⟨_,rfl⟩
  ·have h1:pD []∈r:=(aD h0).resolve_left λz=>hx (kxg z).symm
   obtain⟨t,e⟩:=ih (λd hd=>ha d (lc9 _ hd)) nd.2 h1;rw[e];unfold J6;rw[X7 (kxh x hx).1];exact⟨_,rfl⟩
theorem vv3:∀{l:List D},(∀d∈l,∃x,d=pD x)->∃xs:List Sh,l=xs.map pD:=by
 intro l
 induction l with
 |nil=>exact λ_=>⟨[],rfl⟩
 |cons a r ih=>
  intro h;obtain⟨x,rfl⟩:=h a X6;obtain⟨xs,rfl⟩:=ih λd hd=>h d (lc9 _ hd)
  exact⟨x::xs,rfl⟩
structure Beg (b7 bs:List Sh):Prop where
 nd:bs.Nodup
 hd:bs[0]?=some []
 mem:∀x,x∈bs↔x∈wZ b7
 len:bs.length<=59
theorem wkx{b7:List Sh}(hl:b7.length<=11)(h5:∀s∈b7,s.length<=5):∃bs,(∀o:Own,QY (o,.lst ((wZ b7).map pD))=some (.rt,.lst (bs.map pD)))/\Beg b7 bs:=by
 have ia:∀d∈ddT ((wZ b7).map pD),∃x,d=pD x:=λd hd=>by
  rcases kkn _ _ hd with z|z
  ·exact nomatch z
  ·obtain⟨x,_,rfl⟩:=aE z;exact⟨x,rfl⟩
 have r9:∀d∈vQ (ddT ((wZ b7).map pD)),∃x,d=pD x:=λd hd=>ia d ((z6 _).mem_iff.mp hd)
 have hn:(ddT ((wZ b7).map pD)).Nodup:=qzq _ [] Y4;have h0:pD []∈ddT ((wZ b7).map pD):=qw0 _ _ (.inr X6);have ah:(ddT ((wZ b7).map pD)).length<=59:=by
  have:=qx5 b7 [pD []] X6 h5;have e:ddT ((wZ b7).map pD)=((b7.flatMap pre).map pD).foldl v4 [pD []]:=rfl;rw[e];rw[Zc]at this;lia
 obtain⟨bs,hb⟩:=vv3 r9;obtain⟨t,ht⟩:=kzl _ ia hn h0;refine⟨bs,λo=>?_,?_,?_,λx=>?_,?_⟩
 ·unfold QY;dsimp only;rw[X7 ⟨ah,vqu _⟩,hb]
 ·have:(bs.map pD).Nodup:=by rw[<-hb];exact(z6 _).nodup_iff.mpr hn
  rw[List.nodup_iff_pairwise_ne,Yy]at this;rw[List.nodup_iff_pairwise_ne];exact this.imp λh e=>h (by rw[e])
 ·rw[hb]at ht;cases bs with
  | nil=>cases ht
  | cons b bs=>
   injection ht with e _;rw[kxg e];rfl
 ·have:x∈bs↔pD x∈bs.map pD:=⟨λh=>List.mem_map.mpr ⟨x,h,rfl⟩,λh=>by obtain⟨y,hy,e⟩:=aE h;rw[<-kxg e];exact hy⟩;rw[this,<-hb,(z6 _).mem_iff];constructor
  ·intro h;rcases kkn _ _ h with z|z
   ·exact nomatch z
   ·obtain⟨y,hy,e⟩:=aE z;rw[<-kxg e];exact hy
  ·exact λh=>qw0 _ _ (.inr (List.mem_map.mpr ⟨x,h,rfl⟩))
 ·have:=congrArg List.length hb;rw[X3,(z6 _).length_eq]at this;lia
theorem kkt{b7:List Sh}(hl:b7.length<=11)(h5:∀s∈b7,s.length<=5):Oo m_beginnings_of [(.no,.lst (b7.map tD))] (λy=>∃bs,y=(.rt,.lst (bs.map tD))/\Beg b7 bs) noX:=by
 have tl:∀f:List Sh,(∀s∈f,s.length<=5)->(wZ f).length<=1+6*f.length:=by
  intro f
  induction f with
  | nil=>intro _;decide
  | cons s f ih=>
   intro h;have h1:=h s X6;have h2:=ih λt ht=>h t (lc9 _ ht)
   unfold wZ at h2 ⊢;rw[Xf]at h2 ⊢;rw[Yw,Xv,Xf];have:(pre s).length=s.length+1:=by unfold pre;rw[X3,Y1]
   lia
 obtain⟨bs,hs,hB⟩:=wkx hl h5;unfold m_beginnings_of;refine qY ?_;simp![];refine Q0 (λE ai=>∃(f1 f2:List Sh) (l2:Option Sd),E=[some (.no,.lst (b7.map tD)),some (.rt,.lst ((wZ f1).map pD)),l2]/\b7=f1++f2/\ai=f2.map tD) ?_ ?_ ?_
 ·simp![];exact⟨[],b7,_,rfl,rfl,rfl⟩
 ·rintro E d ds ⟨f1,f2,l2,rfl,hf,hr⟩;cases f2 with
  | nil=>cases hr
  | cons s f2=>
   injection hr with e1 e2;subst e1 e2;have hs5:s.length<=5:=h5 s (by rw[hf];simp);have hf1:=tl f1 λt ht=>h5 t (by rw[hf];simp[ht])
   have hfl:f1.length<=11:=by have:=congrArg List.length hf;simp at this;lia
   simp![];refine vjv rfl ?_;refine K2 [some (.no,tD s)] (λd y=>y.2=match d with|.int e=>pD (s.take e.toNat)|_=>.non) ?_;refine YY ?_;have hln:kX (tD s)=some (.int s.length):=by show some (D.int ((rwD s).length:Nat))=_;rw[X3]
   simp![hln];refine⟨s.length+1,rfl,⋯,⋯,rfl,λd hd=>?_,λys hy=>?_⟩
   ·obtain⟨i,i0,i1,rfl⟩:=kw6 hd;obtain⟨e,rfl⟩:=Yu i0;have kr:=qxg (s:=s) (e:=e) ⋯;have du:((s.take e).length:Int)=e:=by rw[Xx];lia
    simp![wqw,kr];refine⟨⟨_,rfl⟩,?_⟩;show D.tup [.int e,tD (s.take e)]=D.tup [.int (s.take e).length,tD (s.take e)];rw[du]
   ·have e1:(jY 0 ((s.length:Int)+1)).map (λd=>match d with|.int e=>pD (s.take e.toNat)|_=>.non)=(pre s).map pD:=by
     rw[show(s.length:Int)+1=((s.length+1:Nat):Int)by lia,kvu,Xh];unfold pre;rw[Xh];exact Yl λk _=>by simp
    rw[qV,Kw (h:=λd=>match d with|.int e=>pD (s.take e.toNat)|_=>.non) (λ_ _ h=>h) hy,e1];simp only[back,clr,at',List.map_cons,List.map_nil,List.set_cons_zero,List.set_cons_succ];have e2:wZ (f1++[s])=wZ f1++pre s:=by unfold wZ;rw[List.flatMap_append];simp
    refine⟨_,_,rfl,rfl,?_,f1++[s],f2,some (.no,tD s),by rw[e2,Xj],by rw[hf];simp,rfl⟩;rw[X3,X3];have:(pre s).length=s.length+1:=by unfold pre;rw[X3,Y1]
    unfold big;lia
 ·rintro E ⟨f1,f2,l2,rfl,hf,hr⟩;have:f2=[]:=by cases f2 with|nil=>rfl|cons=>cases hr
  subst this;rw[Xs]at hf;subst hf;simp![];refine zV (λE1 B ds af=>∃(q0 q1:Option Sd) (s1 s2:List Sh),B=[q0,q1]/\ds=s2.map pD/\bs=s1++s2/\af.map (·.2)=s1.map tD) ?_ ?_ ?_
  ·simp![hs];exact⟨_,_,[],bs,rfl,rfl,rfl,rfl⟩
  ·rintro E1 B d ds af ⟨q0,q1,s1,s2,rfl,ba,hb,ha⟩;cases s2 with
   |nil=>cases ba
   |cons x s2=>
    injection ba with e1 e2;subst e1 e2;simp![];exact⟨_,_,s1++[x],s2,rfl,rfl,by rw[hb];simp,by rw[Xj,ha];simp⟩
  ·rintro E1 B af ⟨q0,q1,s1,s2,rfl,ba,hb,ha⟩;have:s2=[]:=by cases s2 with|nil=>rfl|cons=>cases ba
   subst this;rw[Xs]at hb;subst hb;rw[qV,ha];exact⟨bs,rfl,hB⟩
def z4(bs:List Sh):D:=.dct (bs.zipIdx.map λp=>(tD p.1,.int p.2))
theorem vzh:∀l:List (Sh×Nat),prT (l.map λp=>D.tup [tD p.1,.int p.2])=some (l.map λp=>(tD p.1,(p.2:Int))):=by
 intro l
 induction l with
 |nil=>rfl
 |cons p l ih=>
  rw[List.map_cons];unfold prT;rw[X7 (YV p.1),ih];rfl
theorem qjl(bs:List Sh):bs.zipIdx.map (λp=>tD p.1)=bs.map tD:=by
 rw[show(λp:Sh×Nat=>tD p.1)=tD∘Prod.fst from rfl,<-Xh,List.zipIdx_map_fst]
theorem vvv{o:Own}{bs:List Sh}(hn:bs.Nodup)(hl:bs.length<=59):kqz (o,.lst (bs.zipIdx.map λp=>D.tup [tD p.1,.int p.2]))=some (.rt,z4 bs):=by
 have hc:(bs.zipIdx.map λp:Sh×Nat=>(tD p.1,(p.2:Int))).length<big/\((bs.zipIdx.map λp:Sh×Nat=>(tD p.1,(p.2:Int))).map (·.1)).Nodup:=by
  refine⟨by rw[X3,List.length_zipIdx];unfold big;lia,?_⟩;rw[Xh];show(bs.zipIdx.map λp=>tD p.1).Nodup;rw[qjl,List.nodup_iff_pairwise_ne,Yy];exact(List.nodup_iff_pairwise_ne.mp hn).imp λh e=>h (kww e)
 unfold kqz;dsimp only;rw[vzh];dsimp only;rw[X7 hc,Xh];rfl
theorem vwt(bs:List Sh):unm (bs.zipIdx.map λp=>(tD p.1,D.int p.2))=true:=by
 cases bs with|nil=>rfl|cons=>rfl
theorem ww8{bs:List Sh}{x:Sh}:tD x∈(bs.zipIdx.map λp=>(tD p.1,D.int p.2)).map (·.1)↔x∈bs:=by
 rw[Xh];show tD x∈bs.zipIdx.map (λp=>tD p.1)↔_;rw[qjl];exact⟨λh=>by obtain⟨y,hy,e⟩:=aE h;rw[<-kww e];exact hy,λh=>List.mem_map.mpr ⟨x,h,rfl⟩⟩
theorem vqx{bs:List Sh}{x:Sh}:Jj (tD x) (z4 bs)=some (.bl (!decide (x∈bs))):=by
 unfold Jj z4;dsimp only;rw[X7 ⟨YV x,vwt bs⟩]
 congr 3
 exact decide_eq_decide.mpr ww8
theorem qzi(x:Sh):∀(bs:List Sh) (k:Nat),x∈bs->((bs.zipIdx k).map λp=>(tD p.1,D.int p.2)).find? (λe=>decide (e.1=tD x))=some (tD x,.int ((bs.idxOf x+k:Nat):Int)):=by
 intro bs
 induction bs with
 | nil=>exact λk h=>nomatch h
 | cons b bs ih=>
  intro k h;rw[List.zipIdx_cons,List.map_cons,Yk]
  by_cases e:b=x
  ·subst e;simp
  ·dsimp only;rw[Xl λz=>e (kww z)];dsimp only;rw[ih (k+1) ((aD h).resolve_left λz=>e z.symm),List.idxOf_cons,beq_false_of_ne e];simp;lia
theorem ix_B{bs:List Sh}{x:Sh}(h:x∈bs):XY (z4 bs) (tD x)=some (.int (bs.idxOf x:Nat)):=by
 have hp:D.pures ((bs.zipIdx.map λp=>(tD p.1,D.int p.2)).map (·.2))=true:=by
  rw[Xh];exact D.pures_map _ _ λ_ _=>rfl
 unfold XY z4;dsimp only;rw[X7 ⟨YV x,vwt bs,hp⟩];unfold Jv;rw[qzi x bs 0 h];rfl
def Q3(bs:List Sh)(x:Sh):D:=if x∈bs then .tup [.int (bs.idxOf x:Nat),.tup ((List.range (nk x)).map λ(k:Nat)=>D.int k)]else .non
theorem wqx{a b:Ex}{e:Option Sd}{E:En}{P:En->Sd->Prop}{X:XP}:Eo (wqh a b (e::E)) P X=Eo (a (e::E)) (λE x=>Eo (b E) (λE y=>Wo (XY x.2 y.2) E (λE d=>P E (.dp,d))) X) X:=by
 unfold wqh;rw[jK];congr 1;funext E x;rw[jK];congr 1;funext E y;rw[x8];exact vo_map
theorem wv0{c:Ex}{E:En}{P:En->Sd->Prop}{X:XP}(h:Eo (c E) (λE x=>∃n:Nat,x.2=.int n/\n<=1000/\P E (.no,.tup ((List.range n).map λ(k:Nat)=>D.int k))) X):Eo (wqp c E) P X:=by
 unfold wqp;rw[jK];refine h.mono ?_;rintro E x ⟨n,e,hn,hP⟩;rw[e];dsimp only;rw[X7 ⟨by unfold vj;simp;lia,by unfold big;simp;lia⟩,qzm,kvu];exact hP
theorem wje(x:Sh):nk x<=x.length:=by
 have:=vk0 (ns2 x) [];rw[List.nil_append,X3]at this;have e:(ddI []).length=0:=rfl;unfold nk;lia
theorem vw2{bs:List Sh}{x:Sh}(hl:x.length<=1000):Oo m_case_to [(.no,tD x),(.no,z4 bs)] (λy=>∃o:Own,y=(o,Q3 bs x)/\True) noX:=by
 unfold m_case_to;refine qY ?_;have hn:=vqx (bs:=bs) (x:=x)
 by_cases h:x∈bs
 ·rw[Xe h]at hn;have hn:Jj (tD x) (z4 bs)=some (.bl false):=hn;simp![hn,↓wqx,ix_B h];refine wv0 ?_;simp![];refine(jxp x hl).use ?_;intro o _;refine⟨nk x,rfl,by have:=wje x;lia,?_⟩;simp![];exact⟨.no,by unfold Q3;rw[X7 h],trivial⟩
 ·rw[Xl h]at hn;have hn:Jj (tD x) (z4 bs)=some (.bl true):=hn;simp![hn];exact⟨_,by unfold Q3;rw[X9 h],trivial⟩
abbrev lD(s:Sh):D:=.lst (rwD s)
theorem vzn(a b:Sh):peq (tD a) (tD b)=decide (a=b):=by
 have ka:j7 6 (tD a)=true:=by have:=YV a;unfold wv at this;rw[Bool.and_eq_true]at this;exact this.1
 have kb:j7 6 (tD b)=true:=by have:=YV b;unfold wv at this;rw[Bool.and_eq_true]at this;exact this.1
 rw[Wz ka kb];exact decide_eq_decide.mpr ⟨kww,λe=>by rw[e]⟩
theorem wq0(x:Sh):∀K:List Sh,((K.map tD).any λz=>peq z (tD x))=decide (x∈K):=by
 intro K
 induction K with
 |nil=>simp
 |cons k K ih=>
  rw[List.map_cons,List.any_cons,ih,vzn,<-Bool.decide_or];exact decide_eq_decide.mpr (by rw[Y3];exact⟨λh=>h.imp Eq.symm id,λh=>h.imp Eq.symm id⟩)
theorem qvo{n:Nat}(s:Sh):D.flats (n+1) (rwD s)=true:=WY λd hd=>by
 obtain⟨w,_,rfl⟩:=aE hd;cases n<;>rfl
theorem wwf{x:Sh}{K:List Sh}:QQ (tD x) (.lst (K.map tD))=some (.bl (decide (x∈K))):=by
 have f1:(tD x).flat 30=true:=qvo (n:=28) x;have f2:D.flats 30 (K.map tD)=true:=WY λd hd=>by obtain⟨s,_,rfl⟩:=aE hd;exact qvo (n:=28) s
 show(if(tD x).flat 30&&D.flats 30 (K.map tD)then some (D.bl ((K.map tD).any λz=>peq z (tD x)))else none)=_;rw[f1,f2,wq0];rfl
def Kz(bs:List Sh)(ss:List Str)(b:Sh):List D:=ss.map λz=>.lst ((List.range (nk b+1)).map λ(k:Nat)=>Q3 bs (b++[(z,(k:Int))]))
theorem wq2{b:Sh}{z:Str}{k:Int}(h:b.length<=1000):jv (.no,tD b) (.no,.tup [.tup [.str z,.int k]])=some (.no,tD (b++[(z,k)])):=by
 have:=wq1 (a:=rwD b) (b:=[.tup [.str z,.int k]]) (by rw[X3,Zc];lia);rw[this];show some (Own.no,D.tup (rwD b++rwD [(z,k)]))=_;rw[show rwD b++rwD [(z,k)]=rwD (b++[(z,k)])from List.map_append.symm]
theorem qxb{bs:List Sh}{ss:List Str}{b:Sh}(hb:b.length<=10)(hs:ss.length<=3):Oo m_steps_at [(.no,tD b),(.no,sL ss),(.no,z4 bs)] (λy=>∃_:Unit,y=(.rt,.lst (Kz bs ss b))/\True) noX:=by
 have hn:=wje b;unfold m_steps_at;refine qY ?_;simp![];refine(jxp b ⋯).use ?_;intro _ _;simp![];rw [show(nk b:Int)+1=((nk b+1:Nat):Int)by lia,kvu];refine Q0 (λE ai=>∃(o1 o2 o3:Own) (d1:D) (s1 s2:List Str) (l5:Option Sd),E=[some (.no,tD b),some (o1,d1),some (.no,z4 bs),some (o3,.lst ((List.range (nk b+1)).map λ(k:Nat)=>D.int k)),some (.rt,.lst (Kz bs s1 b)),l5]/\ss=s1++s2/\ai=s2.map D.str) ?_ ?_ ?_
 ·simp![];exact⟨_,.no,_,_,[],ss,_,rfl,rfl,rfl⟩
 ·rintro E d ds ⟨o1,o2,o3,d1,s1,s2,l5,rfl,he,hr⟩;cases s2 with
  | nil=>cases hr
  | cons z s2=>
   injection hr with e1 e2;subst e1 e2;have kh:s1.length<=3:=by have:=congrArg List.length he;simp at this;lia
   simp![];refine Vj rfl ?_;refine K2 [some (.no,tD b),some (.no,.str z),some (.no,z4 bs)] (λd y=>y.2=match d with|.int k=>Q3 bs (b++[(z,k)])|_=>.non) ?_;simp![];refine⟨rfl,λd hd=>?_,λys hy=>?_⟩
   ·obtain⟨k,_,rfl⟩:=aE hd;simp![wq2 (b:=b) (z:=z) (k:=k) ⋯];refine(vw2 (bs:=bs) (x:=b++[(z,(k:Int))]) (by simp;lia)).use ?_;intro _ _;exact⟨⟨_,rfl⟩,rfl⟩
   ·rw[qV,Kw (h:=λd=>match d with|.int k=>Q3 bs (b++[(z,k)])|_=>.non) (λ_ _ h=>h) hy,Xh];simp only[back,clr,at',List.map_cons,List.map_nil,List.set_cons_zero,List.set_cons_succ];have e4:Kz bs (s1++[z]) b=Kz bs s1 b++[.lst ((List.range (nk b+1)).map λ(k:Nat)=>Q3 bs (b++[(z,(k:Int))]))]:=by unfold Kz;rw[Xj];rfl
    exact⟨_,rfl,by unfold Kz;rw[X3];lia,o1,.no,.no,d1,s1++[z],s2,some (.no,.str z),by rw[e4];rfl,by rw[he];simp,rfl⟩
 ·rintro E ⟨o1,o2,o3,d1,s1,s2,l5,rfl,he,hr⟩;have:s2=[]:=by cases s2 with|nil=>rfl|cons=>cases hr
  subst this;rw[Xs]at he;subst he;simp![]
  first|trivial|exact⟨(),trivial⟩|exact⟨(),rfl,trivial⟩
theorem qxj{b7:List Sh}(hl:b7.length<=11)(h5:∀s∈b7,s.length<=5):Oo m_signs_in [(.no,.lst (b7.map tD))] (λy=>∃_:Unit,y=(.rt,sL (b7.flatMap λs=>s.map (·.1)))/\True) noX:=by
 unfold m_signs_in;refine qY ?_;simp![];refine Q0 (λE ai=>∃(f1 f2:List Sh) (l2:Option Sd),E=[some (.no,.lst (b7.map tD)),some (.rt,sL (f1.flatMap λs=>s.map (·.1))),l2]/\b7=f1++f2/\ai=f2.map tD) ?_ ?_ ?_
 ·simp![];exact⟨[],b7,_,rfl,rfl,rfl⟩
 ·rintro E d ds ⟨f1,f2,l2,rfl,hf,hr⟩;cases f2 with
  | nil=>cases hr
  | cons s f2=>
   injection hr with e1 e2;subst e1 e2;have hs5:s.length<=5:=h5 s (by rw[hf];simp);have hfl:f1.length<=11:=by have:=congrArg List.length hf;simp at this;lia
   have tl:∀f:List Sh,(∀s∈f,s.length<=5)->(f.flatMap λs=>s.map (·.1)).length<=5*f.length:=by
    intro f
    induction f with
    |nil=>intro _;simp
    |cons s f ih=>
     intro h;have h1:=h s X6;have h2:=ih λt ht=>h t (lc9 _ ht)
     rw[Yw,Xv,Xf,X3];lia
   have hf1:=tl f1 λt ht=>h5 t (by rw[hf];simp[ht])
   simp![];refine vjv rfl ?_;refine zV (λE1 B ds af=>E1=[some (.no,.lst (b7.map tD)),some (.rt,sL (f1.flatMap λs=>s.map (·.1))),some (.no,tD s)]/\∃(q0 q1:Option Sd) (s1 s2:Sh),B=[q0,q1]/\ds=rwD s2/\s=s1++s2/\af.map (·.2)=(s1.map (·.1)).map D.str) ?_ ?_ ?_
   ·simp![];exact⟨_,_,[],s,rfl,rfl,rfl,rfl⟩
   ·rintro E1 B d ds af ⟨rfl,q0,q1,s1,s2,rfl,ba,hs,ha⟩;cases s2 with
    |nil=>cases ba
    |cons w s2=>
     injection ba with e1 e2;subst e1 e2;simp![];exact⟨_,_,s1++[w],s2,rfl,rfl,by rw[hs];simp,by rw[Xj,ha];simp⟩
   ·rintro E1 B af ⟨rfl,q0,q1,s1,s2,rfl,ba,hs,ha⟩;have:s2=[]:=by cases s2 with|nil=>rfl|cons=>cases ba
    subst this;rw[Xs]at hs;subst hs;rw[qV,ha];have e2:((f1++[s]).flatMap λs=>s.map (·.1))=(f1.flatMap λs=>s.map (·.1))++s.map (·.1):=by rw[List.flatMap_append];simp
    have e3:∀A B:List Str,sL (A++B)=.lst (A.map D.str++B.map D.str):=λA B=>by rw[sL,Xj]
    refine⟨_,_,rfl,rfl,?_,f1++[s],f2,some (.no,tD s),by rw[e2,e3];rfl,by rw[hf];simp,rfl⟩;rw[X3,X3,X3];unfold big;lia
 ·rintro E ⟨f1,f2,l2,rfl,hf,hr⟩;have:f2=[]:=by cases f2 with|nil=>rfl|cons=>cases hr
  subst this;rw[Xs]at hf;subst hf;simp![]
  first|trivial|exact⟨(),trivial⟩|exact⟨(),rfl,trivial⟩
def vxb(b7 bs:List Sh)(ss:List Str)(b:Sh):D:=.tup [.int (nk b),.bl (decide (b∈b7)),.lst (Kz bs ss b)]
theorem vvq(bs:List Sh):∀k:Nat,xX k (bs.map tD)=(bs.zipIdx k).map λp=>.tup [.int p.2,tD p.1]:=by
 induction bs with
 |nil=>intro k;rfl
 |cons b bs ih=>
  intro k;rw[List.map_cons,xX,ih,List.zipIdx_cons];rfl
theorem vkr(f:Sh)(x:Str×Int):shW (f++[x])=shW f++[(x.1,idx (ddI (ns2 f++[x.2])) x.2)]:=qkb (by rw[kjz,rwD,rwD,Xj];rfl)
theorem vvl{S:List Int}{x:Int}(h:x∉S):idx (S++[x]) x=S.length:=by
 unfold idx;rw[List.idxOf_append,X9 h];simp
theorem vkx{P:Sh->Prop}(h0:P [])(h1:∀f x,P f->P (f++[x]))(w:Sh):P w:=by
 have:∀r:Sh,P r.reverse:=by
  intro r
  induction r with|nil=>exact h0|cons x r ih=>rw[List.reverse_cons];exact h1 _ x ih
 have e:=this w.reverse
 rwa [List.reverse_reverse]at e
theorem wwu(w:Sh):ddI (ns2 (shW w))=(List.range (ddI (ns2 w)).length).map λ(k:Nat)=>(k:Int):=by
 refine vkx (P:=λw=>ddI (ns2 (shW w))=(List.range (ddI (ns2 w)).length).map λ(k:Nat)=>(k:Int)) rfl (λf x ih=>?_) w
 ·have e1:ns2 (shW (f++[x]))=ns2 (shW f)++[idx (ddI (ns2 f++[x.2])) x.2]:=by rw[vkr,ns2,Xj];rfl
  have e2:ns2 (f++[x])=ns2 f++[x.2]:=by rw[ns2,Xj];rfl
  rw[e1,e2,Q8,ih]
  by_cases h:x.2∈ddI (ns2 f)
  ·have e3:ddI (ns2 f++[x.2])=ddI (ns2 f):=by rw[Q8,X7 h]
   rw[e3,X7];exact List.mem_map.mpr ⟨(ddI (ns2 f)).idxOf x.2,List.mem_range.mpr (List.idxOf_lt_length_of_mem h),rfl⟩
  ·have e3:ddI (ns2 f++[x.2])=ddI (ns2 f)++[x.2]:=by rw[Q8,X9 h]
   rw[e3,vvl h,X9,Xv,Zc,List.range_succ,Xj]
   ·rfl
   ·intro z;obtain⟨k,hk,e⟩:=aE z;have:=List.mem_range.mp hk;lia
theorem wjd(w:Sh):nk (shW w)=(ddI (ns2 w)).length:=by unfold nk;rw[wwu,X3,Y1]
end V
namespace W3
open Q PySem C
abbrev AZ:Str:="abcdefghijklmnopqrstuvwxyz"
def Sg(z:Str):Prop:=1<=z.cps.size/\z.cps.size<=8/\∀c∈z.cps.toList,c∈AZ.cps.toList
theorem kqg{n:Nat}{f:Nat->Str}(h:∀i j,i<j->j<n->f i≠f j):((List.range n).map f).Nodup:=by
 unfold List.Nodup;rw[Yy];exact List.pairwise_lt_range.imp_of_mem λ_ hj c9=>h _ _ c9 (List.mem_range.mp hj)
theorem vx4{z:Str}{j:Int}(h0:0<=j)(h1:j<=z.cps.size):(Txt.slice z none (some j)).cps.toList=z.cps.toList.take j.toNat:=by
 have:=StrLaws.sliceText_to (x:=z) (j:=j) ⟨h0,by rw[X4];exact h1⟩;rw[show Txt.slice z none (some j)=StrLaws.sliceText z none (some j)from rfl,this];simp
theorem vx6{z:Str}{i j:Int}(h0:0<=i)(lc:i<=j)(h1:j<=z.cps.size):(Txt.slice z (some i) (some j)).cps.toList=(z.cps.toList.drop i.toNat).take (j - i).toNat:=by
 have:=StrLaws.sliceText_plain (x:=z) (i:=i) (j:=j) ⟨h0,lc,by rw[X4];exact h1⟩;rw[show Txt.slice z (some i) (some j)=StrLaws.sliceText z (some i) (some j)from rfl,this]
def chr(t:Int):Nat:=AZ.cps.toList.getD t.toNat 0
theorem wk1{t:Int}(h0:0<=t)(h1:t<26):kY (.str AZ) (.int t)=some (.str ⟨#[chr t]⟩)/\chr t∈AZ.cps.toList:=by
 have hl:AZ.cps.toList.length=26:=by decide +kernel
 have hs:AZ.cps.size=26:=by decide +kernel
 have e:AZ.cps.toList[t.toNat]?=some (chr t):=by
  unfold chr;rw[Yx,X5 ⋯];rfl
 refine⟨?_,Xz e⟩;show((Q.ixN AZ.cps.size t).bind λj=>(AZ.cps.toList[j]?).map λc=>D.str ⟨#[c]⟩)=_;unfold Q.ixN;rw[X7 h0,X7 ⋯];show((AZ.cps.toList[t.toNat]?).map λc=>D.str ⟨#[c]⟩)=_;rw[e];rfl
theorem vw0{t u:Int}(h0:0<=t)(h1:t<26)(g0:0<=u)(g1:u<26)(e:chr t=chr u):t=u:=by
 have h:∀i:Fin 26,∀j:Fin 26,AZ.cps.toList.getD i 0=AZ.cps.toList.getD j 0->i=j:=by decide +kernel
 have:=h ⟨t.toNat,⋯⟩ ⟨u.toNat,⋯⟩ e;have:=congrArg Fin.val this;have:t.toNat=u.toNat:=this;lia
def wdA(z:Str)(c:Int)(k:Nat):Str:=Txt.slice z none (some (1+((k:Int)+c / 3) % 8))
theorem qjp{z:Str}{c:Int}(hz:z.cps.size=8)(hl:∀x∈z.cps.toList,x∈AZ.cps.toList)(k:Nat):Sg (wdA z c k)/\((wdA z c k).cps.size:Int)=1+((k:Int)+c / 3) % 8:=by
 have t0:=Xu ((k:Int)+c / 3) (show(8:Int)≠0 by decide);have t1:=Xn ((k:Int)+c / 3) (show(0:Int)<8 by decide);have e:=vx4 (z:=z) (j:=1+((k:Int)+c / 3) % 8) ⋯ ⋯;have hs:((wdA z c k).cps.size:Int)=1+((k:Int)+c / 3) % 8:=by
  unfold wdA;rw[<-X4,e,Xx,X4];lia
 refine⟨⟨⋯,⋯,λx hx=>hl x ?_⟩,hs⟩;unfold wdA at hx;rw[e]at hx;exact List.mem_of_mem_take hx
theorem qjq{z:Str}{c:Int}(hz:z.cps.size=8)(hl:∀x∈z.cps.toList,x∈AZ.cps.toList){n:Nat}(hn:n<=3):((List.range n).map (wdA z c)).Nodup:=kqg λi j lc hj e=>by
 have h1:=(qjp (c:=c) hz hl i).2;have h2:=(qjp (c:=c) hz hl j).2;rw[e]at h1;lia
def wdB(w1 w2:Str)(ii s:Int)(k:Nat):Str:=w1++⟨#[chr ((ii+(k:Int)*s) % 26)]⟩++w2
theorem jxl(w1 w2:Str)(ii s:Int)(k:Nat):(wdB w1 w2 ii s k).cps.toList=w1.cps.toList++(chr ((ii+(k:Int)*s) % 26)::w2.cps.toList):=by
 unfold wdB;rw[A.list_app,A.list_app,Yb];rfl
theorem vwn{w1 w2:Str}{ii s:Int}(hs:w1.cps.size+w2.cps.size<=7)(h1:∀x∈w1.cps.toList,x∈AZ.cps.toList)(h2:∀x∈w2.cps.toList,x∈AZ.cps.toList)(k:Nat):Sg (wdB w1 w2 ii s k):=by
 have t0:=Xu (ii+(k:Int)*s) (show(26:Int)≠0 by decide);have t1:=Xn (ii+(k:Int)*s) (show(0:Int)<26 by decide);have hz:(wdB w1 w2 ii s k).cps.size=w1.cps.size+w2.cps.size+1:=by
  rw[<-X4,jxl,Xv,Xf,X4,X4];lia
 refine⟨⋯,⋯,λx hx=>?_⟩;rw[jxl]at hx;rcases aA hx with hx|hx
 ·exact h1 x hx
 ·rcases aD hx with rfl|hx
  ·exact(wk1 t0 t1).2
  ·exact h2 x hx
theorem qjo{w1 w2:Str}{ii s:Int}(s1:1<=s)(s5:s<=5){n:Nat}(hn:n<=3):((List.range n).map (wdB w1 w2 ii s)).Nodup:=kqg λi j lc hj e=>by
 have e:(wdB w1 w2 ii s i).cps.toList=(wdB w1 w2 ii s j).cps.toList:=by rw[e]
 rw[jxl,jxl]at e;have e:=List.append_cancel_left e;injection e with e _;have b:=λk:Nat=>Xu (ii+(k:Int)*s) (show(26:Int)≠0 by decide)
 have d:=λk:Nat=>Xn (ii+(k:Int)*s) (show(0:Int)<26 by decide)
 have e:=vw0 (b i) (d i) (b j) (d j) e;have hi:i=0\/i=1:=⋯
 have hj:j=1\/j=2:=⋯
 rcases hi with rfl|rfl<;>rcases hj with rfl|rfl<;>lia
def hW(f:Nat->Str):D->D
 |.int k=>.str (f k.toNat)|d=>d
theorem qjb{G:D->Sd->Prop}{f:Nat->Str}{n:Int}{ys:List Sd}(hG:∀d y,G d y->y.2=hW f d)(h:Each G (jY 0 n) ys):ys.map (·.2)=((List.range n.toNat).map f).map D.str:=by
 rw[Kw (h:=hW f) hG h];unfold jY;rw[Xh,Xh,Int.sub_zero]
 congr 1
 funext k;show D.str (f (0+(k:Int)).toNat)=_;rw[show(0+(k:Int)).toNat=k by lia];rfl
theorem words2(c gj:Int)(h0:1<=gj)(h1:gj<=3):Oo A.m__law_words [(.no,.int c),(.no,.int gj)] (λy=>∃l,y=(.rt,sL l)/\(l.length:Int)=gj/\l.Nodup/\∀z∈l,Sg z) noX:=by
 unfold A.m__law_words;refine qY ?_;simp![↓vwo];refine K2 [some (.dp,.str AZ),some (.no,.int c)] (λ_ y=>∃ch∈AZ.cps.toList,y.2=.str ⟨#[ch]⟩) ?_;simp![];refine⟨rfl,λd hd=>?_,λys hys=>?_⟩
 ·obtain⟨j,j0,j1,rfl⟩:=kw6 hd;simp![];refine(A.mixed_ok c j j0 ⋯).use ?_;intro v _;have t0:=Xu v (show(26:Int)≠0 by decide);have t1:=Xn v (show(0:Int)<26 by decide);obtain⟨ch,f9,hc⟩:=A.ix_strM AZ (v % 26) t0 t1;simp![hc];exact⟨⟨_,rfl⟩,ch,f9,rfl⟩
 obtain⟨ps,g1,g2,g3⟩:=A.each_one (λd y h=>h) hys;have b9:ps.length=8:=by rw[g2];rfl
 obtain⟨z,hz,z0,z1⟩:=A.join_az g3 ⋯;rw [qV,g1];simp only[back,clr,at',List.map_cons,List.map_nil,List.set_cons_zero,List.set_cons_succ];have zs:z.cps.size<=100:=⋯
 have z8:z.cps.size=8:=⋯
 by_cases h3:c % 3=1
 ·have hd:fEq (.int (c % 3)) (.int 1)=some (.bl true):=by rw[h3];rfl
  simp![hz,hd];refine K2 [some (.dp,.str z),some (.no,.int c)] (λd y=>y.2=hW (wdA z c) d) ?_;simp![];refine⟨rfl,λd hd=>?_,λys hys=>?_⟩
  ·obtain⟨j,j0,j1,rfl⟩:=kw6 hd;have s1:=B.sl_s (o:=.no) (z:=z) (lo:=none) (hi:=some (1+(j+c / 3) % 8)) zs;have s1':=B.sl_s (o:=.dp) (z:=z) (lo:=none) (hi:=some (1+(j+c / 3) % 8)) zs;simp![s1,s1'];refine⟨⟨_,rfl⟩,?_⟩;show _=D.str (wdA z c j.toNat);unfold wdA;rw[show((j.toNat:Nat):Int)=j by lia]
  ·rw[qV,qjb (λ_ _ h=>h) hys];exact⟨_,rfl,by rw[X3,Y1];lia,qjq z8 z1 ⋯,λw hw=>by
    obtain⟨k,_,rfl⟩:=aE hw;exact(qjp z8 z1 k).1⟩
 ·have hd:fEq (.int (c % 3)) (.int 1)=some (.bl false):=by rw[wwo];simp[h3]
  have a0:=Xu (c / 3) (show(8:Int)≠0 by decide);have a1:=Xn (c / 3) (show(0:Int)<8 by decide);have b0:=Xu (c / 24) (show 1+c / 3 % 8≠0 by lia);have b1:=Xn (c / 24) (show 0<1+c / 3 % 8 by lia);simp![hz,hd,mod_i (a:=c / 24) (b:=1+c / 3 % 8) ⋯];generalize c / 24 % (1+c / 3 % 8)=f8 at b0 b1;obtain⟨lg,hlg⟩:∃lg,lg=1+c / 3 % 8:=⟨_,rfl⟩;rw[<-hlg]at b1 ⊢;have c0:=Xu (c / 192) (show(5:Int)≠0 by decide);have c1:=Xn (c / 192) (show(0:Int)<5 by decide);obtain⟨ch,f9,hix⟩:=A.ix_strM z f8 b0 ⋯;obtain⟨ii,hii⟩:=A.az_found ch (z1 ch f9);have e1:=vx4 (z:=z) (j:=f8) b0 ⋯;have e2:=vx6 (z:=z) (i:=f8+1) (j:=lg) ⋯ ⋯ ⋯;have s1:=λo=>B.sl_s (o:=o) (z:=z) (lo:=none) (hi:=some f8) zs
  have s2:=λo=>B.sl_s (o:=o) (z:=z) (lo:=some (f8+1)) (hi:=some lg) zs
  generalize Txt.slice z none (some f8)=w1 at e1 s1;generalize Txt.slice z (some (f8+1)) (some lg)=w2 at e2 s2;have n1:(w1.cps.size:Int)=f8:=by rw[<-X4,e1,Xx,X4];lia
  have n2:(w2.cps.size:Int)=lg - (f8+1):=by rw[<-X4,e2,Xx,Ys,X4];lia
  have v1:∀x∈w1.cps.toList,x∈AZ.cps.toList:=λx hx=>z1 x (by rw[e1]at hx;exact List.mem_of_mem_take hx)
  have v2:∀x∈w2.cps.toList,x∈AZ.cps.toList:=λx hx=>z1 x (by rw[e2]at hx;exact List.mem_of_mem_drop (List.mem_of_mem_take hx))
  refine Q0 (λE ai=>∃(j:Nat) (l7 l8:Option Sd) (o2 o3 o4 o5:Own),E=[some (.no,.int c),some (.no,.int gj),some (o2,.str AZ),some (o3,.str z),some (o4,.int lg),some (o5,.int f8),some (.rt,sL ((List.range j).map (wdB w1 w2 ii (1+c / 192 % 5)))),l7,l8]/\(j:Int)<=gj/\ai=jY j gj) ?_ ?_ ?_
  ·simp![];exact⟨0,_,_,_,_,_,_,rfl,⋯,rfl⟩
  ·rintro E d ds ⟨j,l7,l8,o2,o3,o4,o5,rfl,j1,hr⟩;obtain⟨hj,rfl,rfl⟩:=Wk j1 hr;have m1:=mul_l (o1:=.no) (o2:=.no) (a:=(j:Int)) (b:=1+c / 192 % 5) ⋯ ⋯;have t0:=Xu ((ii:Int)+j*(1+c / 192 % 5)) (show(26:Int)≠0 by decide);have t1:=Xn ((ii:Int)+j*(1+c / 192 % 5)) (show(0:Int)<26 by decide);simp![↓vwq,hix,hii,m1,show kxz (.str AZ)=true from rfl];have hx:=(wk1 t0 t1).1;have fu:((⟨#[chr (((ii:Int)+j*(1+c / 192 % 5)) % 26)]⟩:Str).cps.size)=1:=rfl;have a1:=W5 (o1:=.no) (o2:=.no) (a:=w1) (b:=⟨#[chr (((ii:Int)+j*(1+c / 192 % 5)) % 26)]⟩) (by rw[fu];lia);have a2:=W5 (o1:=.no) (o2:=.no) (a:=w1++⟨#[chr (((ii:Int)+j*(1+c / 192 % 5)) % 26)]⟩) (b:=w2) (by rw[qxi,fu];lia);have a1':=W5 (o1:=.no) (o2:=sub o2) (a:=w1) (b:=⟨#[chr (((ii:Int)+j*(1+c / 192 % 5)) % 26)]⟩) (by rw[fu];lia);refine Vj rfl ?_;simp![s1,s2,hx,a1,a2,a1'];refine⟨_,rfl,by rw[X3,X3,Y1];lia,?_⟩;rw[show((List.range j).map (wdB w1 w2 ii (1+c / 192 % 5))).map D.str++[D.str (w1++⟨#[chr (((ii:Int)+j*(1+c / 192 % 5)) % 26)]⟩++w2)]=((List.range (j+1)).map (wdB w1 w2 ii (1+c / 192 % 5))).map D.str by rw[List.range_succ,Xj,Xj];rfl];exact⟨j+1,_,_,_,_,_,_,rfl,⋯,by rw[show((j:Int)+1)=((j+1:Nat):Int)by lia]⟩
  ·rintro E ⟨j,l7,l8,o2,o3,o4,o5,rfl,j1,hr⟩;have:=jxz j1 hr;simp![];exact⟨_,rfl,by rw[X3,Y1];lia,qjo ⋯ ⋯ ⋯,λw hw=>by
    obtain⟨k,_,rfl⟩:=aE hw;exact vwn ⋯ v1 v2 k⟩
end W3
namespace Nk72
open PySem Q
def m_shape_of : Fn:= V.m_shape_of
def m_beginnings_of : Fn:= V.m_beginnings_of
def m_names_in : Fn:= V.m_names_in
def m_case_to : Fn:= V.m_case_to
def m_steps_at : Fn:= V.m_steps_at
def m_signs_in : Fn:= V.m_signs_in
noncomputable def XQ:Fn:=fn 5
  (j9 (jw 2 (cLC .rt 1 [] (itS (cV 1)) (.n 0) tYes (cF1 XZ (vE (jQ m_shape_of [(cV 0)])))))
  (j9 (sIf (tNot (tEQ (vE (cF1 (pu1 W9) (vE (cLC .rt 1 [0] (itS (jQ m_signs_in [(cV 2)])) (.n 0) tYes (cF2 (pu2 QQ) (vV 0) (vV 1)))))))) (sRz "NoFit") x6)
  (j9 (sIf (tNot (tEQ (vE (cF1 (pu1 W9) (vE (cLC .rt 1 [] (itS (cV 2)) (.n 0) tYes (cF2 (pu2 fLe) (vE (jQ m_names_in [(cV 0)])) (C9 3)))))))) (sRz "TooGreat") x6)
  (j9 (jw 3 (jQ m_beginnings_of [(cV 2)]))
  (j9 (jw 4 (cF1 kqz (vE (cLC .rt 2 [] (wqo (cV 3)) (.t [0,1]) tYes (v5 .no [(cV 1),(cV 0)])))))
  (k7 (v5 .no [(cF1 qzl (vV 0)),(cLC .rt 1 [2,0,4] (itS (cV 3)) (.n 0) tYes (v5 .no [(jQ m_names_in [(cV 0)]),(cF2 (pu2 QQ) (vV 0) (vV 1)),(jQ m_steps_at [(cV 0),(cV 2),(cV 3)])]))])))))))
def m__law_cell_at : Fn:= B.m__law_cell_at
def m__law_mixed : Fn:= A.m__law_mixed
def m__law_words : Fn:= A.m__law_words
def m__law_number : Fn:= A.m__law_number
def WZ:Fn:=fn 1
  (k7 (cF1 jzn (vE (jQ m__law_words [(cF2 (pu2 qW) (vV 0) (C9 4)),(cF2 jv (C9 1) (vE (cF2 (pu2 jW) (vV 0) (C9 3))))]))))
noncomputable def XV:Fn:=fn 14
  (j9 (jw 4 (jQ m__law_cell_at [(cV 0),(cV 1)]))
  (j9 (jw 5 (jQ m__law_number [(jQ m__law_cell_at [(cV 0),(cF2 jv (vV 1) (C9 1))])]))
  (j9 (jw 6 (kj .rt [(cV 5),(cF2 jv (vE (cF2 (pu2 qW) (vV 5) (C9 2))) (vE (cF2 (pu2 J5) (C9 10) (C9 59)))),(cF2 (pu2 Vx) (vE (cF2 (pu2 qW) (vV 5) (C9 2))) (vE (cF2 (pu2 J5) (C9 10) (C9 59))))]))
  (j9 (jw 7 (kj .rt []))
  (j9 (zq (xJ (vE (cF2 (pu2 jW) (vV 4) (vE (cF2 jv (vV 3) (C9 1)))))) (.n 8) (j9 (jw 9 (jQ m__law_mixed [(jQ m__law_cell_at [(cV 0),(cF2 jv (vE (cF2 jv (vV 1) (C9 2))) (vV 8))]),(cC (.int 0))]))
  (j9 (jw 10 (kj .rt []))
  (j9 (jw 11 (cF2 (pu2 jW) (vV 9) (C9 6)))
  (j9 (zq (xJ (vV 11)) (.n 12) (j9 (jw 13 (cF2 (pu2 qW) (vV 9) (qX (vE (kj .rt [(cC (.int 6)),(cC (.int 54)),(cC (.int 486)),(cC (.int 4374)),(cC (.int 39366))])) (vV 12))))
  (z3 z5 10 (v5 .no [(cH (qX (vV 2) (vE (cF2 (pu2 jW) (vV 13) (vE (cF1 (pu1 kX) (vV 2))))))),(cH (qX (vV 6) (vE (cF2 (pu2 jW) (vE (cF2 (pu2 qW) (vV 13) (C9 3))) (C9 3)))))]))))
  (z3 z5 7 (cV 10)))))))
  (k7 (cMv 7)))))))
noncomputable def YQ:Fn:=fn 3
  (j9 (jw 2 (cF2 jv (vE (cF2 jv (vE (cLC .rt 1 [] (itS (cV 0)) (.n 0) tYes (cF2 jv (vV 0) (vE (cC (.str "z")))))) (vE (cLC .rt 1 [] (itS (cV 0)) (.n 0) tYes (cSl (vV 0) none (some (vE (cF1 (pu1 Vv) (C9 1))))))))) (vE (kj .rt [(cC (.str "q")),(cC (.str "")),(cC (.str "zz")),(cF2 jv (qX (vV 0) (C9 0)) (vE (cC (.str " "))))]))))
  (j9 (jw 2 (cLC .rt 1 [0] (itS (cV 2)) (.n 0) (tAnd (tE (cF2 (pu2 JZ) (vV 0) (vV 1))) (tAnd (tEQ (vE (cF1 (pu1 YX) (vV 0)))) (tE (cF2 (pu2 fLe) (vE (cF1 (pu1 kX) (vV 0))) (C9 8))))) (cV 0)))
  (j9 (jw 2 (cF2 jv (vV 2) (vE (cSl (vE (cLC .rt 1 [0] (itS (kj .rt [(cC (.str "zzzzzzzz")),(cC (.str "yyyyyyyy")),(cC (.str "xxxxxxxx")),(cC (.str "wwwwwwww"))])) (.n 0) (tE (cF2 (pu2 JZ) (vV 0) (vV 1))) (cV 0))) none (some (C9 1))))))
  (k7 (cH (qX (vV 2) (vE (cF2 (pu2 jW) (vV 1) (vE (cF1 (pu1 kX) (vV 2)))))))))))
noncomputable def V0:Fn:=fn 4
  (j9 (jw 3 (cF2 (pu2 jW) (vV 1) (vE (cF2 (pu2 J5) (C9 10) (C9 40)))))
  (k7 (cLC .rt 1 [0,1,3] (xJ (vV 2)) (.n 0) tYes (v5 .no [(cH (qX (vV 1) (vE (cF2 (pu2 jW) (vE (jQ m__law_mixed [(cV 2),(cV 0)])) (vE (cF1 (pu1 kX) (vV 1))))))),(cF2 jv (vV 3) (qX (vE (kj .rt [(cV 0),(cF1 (pu1 Vv) (vV 0))])) (vE (cF2 (pu2 jW) (vV 2) (C9 2)))))]))))
noncomputable def jjl:Fn:=fn 4
  (j9 (jw 2 (cLC .rt 1 [0,1] (xJ (vE (cF2 jv (C9 2) (vE (cF2 (pu2 jW) (vV 1) (C9 4)))))) (.n 0) tYes (v5 .no [(cH (qX (vV 1) (vE (cF2 (pu2 jW) (vE (jQ m__law_mixed [(cV 2),(cV 0)])) (vE (cF1 (pu1 kX) (vV 1))))))),(cF2 (pu2 jW) (vV 0) (C9 2))])))
  (j9 (jw 3 (cF2 (pu2 jW) (vE (cF2 (pu2 qW) (vV 1) (C9 4))) (vE (cF1 (pu1 kX) (vV 2)))))
  (j9 (wqk 2 (vV 3) (v5 .no [(jQ YQ [(cV 0),(cF2 (pu2 qW) (vV 1) (C9 20))]),(cH (qX (qX (vV 2) (vV 3)) (C9 1)))]))
  (k7 (cMv 2)))))
noncomputable def xj:Fn:=fn 5
  (j9 (jw 2 (kj .rt [(cC (.str "taken"))]))
  (j9 (jw 3 (cC .non))
  (j9 (J7 ["NoFit","TooGreat"] 4 (jw 3 (Qw XQ [(cV 0),(cV 1)])) (jw 2 (kj .rt [(cF1 (pu1 (vK [("NoFit",true),("TooGreat",true)])) (vV 4)),(cF1 (pu1 (vK [("NoFit",true),("TooGreat",false)])) (vV 4)),(cF1 (pu1 (vK [("NoFit",false),("TooGreat",true)])) (vV 4)),(cF1 (pu1 (vK [("NoFit",false),("TooGreat",false)])) (vV 4))])))
  (j9 (sIf (tAnd (tE (cF2 (pu2 fEq) (vV 2) (vE (kj .rt [(cC (.str "taken"))])))) (tOr (tNot (tEQ (vE (cF1 (pu1 (Wv "tuple")) (vV 3))))) (tE (cF2 (pu2 fNe) (vE (cF1 (pu1 kX) (vV 3))) (C9 2))))) (k7 (kj .rt [])) x6)
  (k7 (cMv 2))))))
noncomputable def m_law:Fn:=fn 11
  (j9 (jw 1 (jQ WZ [(jQ m__law_cell_at [(cV 0),(cC (.int 0))])]))
  (j9 (jw 2 (jQ XV [(cV 0),(cC (.int 3)),(cV 1),(cC (.int 7))]))
  (j9 (jw 3 (jQ m__law_cell_at [(cV 0),(cC (.int 1))]))
  (j9 (jw 4 (cF2 (pu2 jW) (vV 3) (vE (cF2 jv (vE (cF1 (pu1 kX) (vV 2))) (C9 1)))))
  (j9 (jw 5 (cF2 (pu2 jW) (vE (cF2 (pu2 qW) (vV 3) (C9 8))) (vE (cF2 jv (vE (cF1 (pu1 kX) (vV 2))) (C9 2)))))
  (j9 (jw 6 (jQ jjl [(cV 1),(cF2 (pu2 qW) (vV 3) (C9 80))]))
  (j9 (jw 7 (cF2 jv (vE (cF2 jv (vE (cSl (vV 2) none (some (vV 4)))) (vE (kj .rt [(cV 6)])))) (vE (cSl (vV 2) (some (vV 4)) none))))
  (j9 (jw 8 (jQ V0 [(cV 1),(jQ m__law_cell_at [(cV 0),(cC (.int 2))]),(cF2 jv (C9 4) (vE (cF2 (pu2 jW) (vV 3) (C9 2))))]))
  (j9 (jw 9 (cF2 jv (vE (cF2 jv (vE (cSl (vV 7) none (some (vV 5)))) (vE (kj .rt [(cV 8)])))) (vE (cSl (vV 7) (some (vV 5)) none))))
  (j9 (jw 10 (cF2 jv (vE (cF2 jv (vE (cSl (vV 2) none (some (vV 4)))) (vE (kj .rt [(jQ V0 [(cV 1),(jQ m__law_cell_at [(cV 0),(cC (.int 2))]),(cC (.int 3))])])))) (vE (cSl (vV 2) (some (vV 4)) none))))
  (j9 (sIf (tOr (tE (cF2 (pu2 fNe) (vE (jQ xj [(cV 1),(cV 2)])) (vE (kj .rt [(cC (.str "taken"))])))) (tE (cF2 (pu2 fNe) (vE (jQ xj [(cV 1),(cV 10)])) (vE (kj .rt [(cC (.str "taken"))]))))) (k7 (cC (.bl false))) x6)
  (j9 (sIf (tE (cF2 (pu2 fNe) (vE (jQ xj [(cV 1),(cV 7)])) (vE (kj .rt [(cC (.bl true)),(cC (.bl true)),(cC (.bl false)),(cC (.bl false))])))) (k7 (cC (.bl false))) x6)
  (j9 (sIf (tE (cF2 (pu2 fNe) (vE (jQ xj [(cV 1),(cF2 jv (vE (cF2 jv (vE (cSl (vV 2) none (some (vV 4)))) (vE (kj .rt [(cV 8)])))) (vE (cSl (vV 2) (some (vV 4)) none)))])) (vE (kj .rt [(cC (.bl true)),(cC (.bl false)),(cC (.bl true)),(cC (.bl false))])))) (k7 (cC (.bl false))) x6)
  (k7 (wkv (vE (cF2 (pu2 fEq) (vE (jQ xj [(cV 1),(cV 9)])) (vE (kj .rt [(cC (.bl true)),(cC (.bl true)),(cC (.bl false)),(cC (.bl false))])))) (cF2 (pu2 fEq) (vE (jQ xj [(cV 1),(cV 2)])) (vE (kj .rt [(cC (.str "taken"))]))))))))))))))))))
end Nk72
namespace Nk72
open Q PySem C V
theorem vjw:m__law_cell_at=B.m__law_cell_at:=rfl
theorem qvv:m__law_mixed=A.m__law_mixed:=rfl
theorem vvr:m__law_words=A.m__law_words:=rfl
theorem qzn:m__law_number=A.m__law_number:=rfl
theorem qxk(c:Int):Oo WZ [(.no,.int c)] (λy=>∃ss,y=(.rt,sL ss)/\1<=ss.length/\ss.length<=3/\∀z∈ss,z.cps.size<=8) noX:=by
 have m0:=Xu c (show(3:Int)≠0 by decide);have m1:=Xn c (show(0:Int)<3 by decide);unfold WZ;refine qY ?_;rw[vvr];simp![mod_i (a:=c) (b:=3) ⋯,div_i (a:=c) (b:=4) ⋯ ⋯];refine(W3.words2 (c / 4) (1+c % 3) ⋯ ⋯).use ?_;rintro ss ⟨hl,_,hg⟩;simp![qxc (o:=.no) (ss:=ss) ⋯];exact⟨zJ ss,rfl,by rw[jxu];lia,by rw[jxu];lia,λz hz=>(hg z ((jqj ss).mem_iff.mp hz)).2.1⟩
theorem qqk:∀(l m:List Int),l.Nodup->(∀x∈l,x∈m)->l.length<=m.length:=by
 intro l
 induction l with
 |nil=>intro m _ _;exact Yh _
 |cons a l ih=>
  intro m hn hs;rw[List.nodup_cons]at hn;have ha:=hs a X6;have:=ih (m.erase a) hn.2 λx hx=>(List.mem_erase_of_ne (show x≠a from λe=>hn.1 (e▸hx))).mpr (hs x (lc9 _ hx))
  rw[List.length_erase_of_mem ha]at this;have h1:0<m.length:=List.length_pos_of_mem ha;rw[Xf];lia
theorem vw1{ns:List Int}(hb:∀i∈ns,Builtin.Int.intBits i<=1048576)(k:Nat):(B.cellAt ns k).natAbs.log2<=1048576:=by
 unfold B.cellAt;rw[Yx]
 by_cases h:k<ns.length
 ·rw[X5 h];have:=hb _ (Y2 h);show(ns[k]).natAbs.log2<=1048576;unfold Builtin.Int.intBits at this
  split at this
  ·rename_i e;have:ns[k].natAbs=0:=by simpa using e
   rw[this];decide
  ·omega
 ·rw[Ym (by omega)];decide
theorem vks{ns:List Int}(hb:∀i∈ns,Builtin.Int.intBits i<=1048576)(k:Nat):A.Sh (B.cellAt ns k):=by
 have:=vw1 hb k;unfold A.Sh;omega
structure Tab (ss:List Str)(aj:List Sh):Prop where
 len:aj.length<=7
 l5:∀w∈aj,w.length<=5
 sg:∀w∈aj,∀p∈w,p.1∈ss
 nm:∀w∈aj,∃P:List Int,P.length=3/\∀p∈w,p.2∈P
theorem Tab.n3{ss:List Str}{aj:List Sh}(h:Tab ss aj):∀w∈aj,nk (shW w)<=3:=λw hw=>by
 obtain⟨P,hP,h2⟩:=h.nm w hw;rw[wjd,<-hP];exact qqk _ _ (U.ddI_nd _) λx hx=>by
  obtain⟨p,hp,rfl⟩:=aE (U.ddI_mem.mp hx);exact h2 p hp
theorem qx8(ns:List Int)(hn:ns.length<=63)(hb:∀i∈ns,Builtin.Int.intBits i<=1048576){ss:List Str}(h1:1<=ss.length)(h3:ss.length<=3):
  Oo XV [(.no,iL ns),(.no,.int 3),(.no,sL ss),(.no,.int 7)] (λy=>∃aj,y=(.rt,.lst (aj.map lD))/\Tab ss aj) noX:=by
 have lv:∀k:Nat,Oo B.m__law_cell_at [(.no,iL ns),(.no,.int k)] (λy=>∃o':Own,y=(o',.int (B.cellAt ns k))/\True) noX:=λk=>B.cell_ok ns k ⋯
 have p59:J5 (.int 10) (.int 59)=some (.int (10 ^ 59)):=rfl;unfold XV;simp only[vjw,qvv,qzn];refine qY ?_;simp![];refine(lv 3).use ?_;intro _ _;simp![];refine(lv 4).use ?_;intro _ _;simp![];refine(A.number_ok _ (vks hb 4)).use ?_;intro one _;generalize B.cellAt ns 3=hd;simp![p59];obtain⟨P,hP,hPl⟩:∃P:List Int,[D.int one,D.int (one / 2+10 ^ 59),D.int (one / 2 - 10 ^ 59)]=P.map D.int/\P.length=3:=⟨[one,one / 2+10 ^ 59,one / 2 - 10 ^ 59],rfl,rfl⟩;rw [hP];have q0:=Xu hd (show(8:Int)≠0 by decide);have q1:=Xn hd (show(0:Int)<8 by decide);have hmh:jW (.int hd) (.int (7+1))=some (.int (hd % 8)):=mod_i ⋯;obtain⟨N,hN⟩:=Yu q0;rw [hN]at hmh q1;have hpx:∀i:Int,0<=i->i<3->∃v∈P,kY (.lst (P.map D.int)) (.int i)=some (.int v):=λi i0 i1=>by
  have hl:i.toNat<P.length:=⋯
  exact⟨P[i.toNat],Y2 _,WK i0 (by rw[Xp,X5 hl];rfl)⟩
 have hsx:∀i:Int,0<=i->i<ss.length->∃z∈ss,kY (sL ss) (.int i)=some (.str z):=λi i0 i1=>by
  have hl:i.toNat<ss.length:=⋯
  exact⟨ss[i.toNat],Y2 _,WK i0 (by rw[Xp,X5 hl];rfl)⟩
 have dv:∀i:Int,0<=i->i<5->∃v:Int,0<v/\v<100000/\kY (.lst [.int 6,.int 54,.int 486,.int 4374,.int 39366]) (.int i)=some (.int v):=λi i0 i1=>by
  rcases(show i=0\/i=1\/i=2\/i=3\/i=4 by lia)with rfl|rfl|rfl|rfl|rfl<;>exact⟨_,⋯,⋯,rfl⟩
 refine Q0 (λE ai=>∃(k:Int) (aj:List Sh) (o1 o4 o5:Own) (d4 d5:D) (l8 l9 l10 l11 mf my:Option Sd),E=[some (.no,iL ns),some (o1,.int 3),some (.no,sL ss),some (.no,.int 7),some (o4,d4),some (o5,d5),some (.rt,.lst (P.map D.int)),some (.rt,.lst (aj.map lD)),l8,l9,l10,l11,mf,my]/\0<=k/\k<=N/\ai=jY k N/\(aj.length:Int)=k/\Tab ss aj) ?_ ?_ ?_
 ·refine YY ?_;simp![hmh];exact⟨N,rfl,⋯,⋯,0,[],_,_,_,_,_,_,_,_,_,_,_,rfl,⋯,⋯,rfl,rfl,⟨⋯,(λ_ h=>nomatch h),(λ_ h=>nomatch h),λ_ h=>nomatch h⟩⟩
 ·rintro E d ds ⟨k,aj,o1,o4,o5,d4,d5,l8,l9,l10,l11,mf,my,rfl,k0,k1,hr,qe,hT⟩;obtain⟨hk,rfl,rfl⟩:=Wk k1 hr;obtain⟨kn,rfl⟩:=Yu k0;simp![];have c3:=lv (5+kn);rw[show((5+kn:Nat):Int)=3+2+(kn:Int)by lia]at c3;refine c3.use ?_;intro _ _;simp![];refine(A.mixed_ok _ 0 ⋯ ⋯).use ?_;intro v _;have v0:=Xu v (show(6:Int)≠0 by decide);have v1:=Xn v (show(0:Int)<6 by decide);simp![mod_i (a:=v) (b:=6) ⋯];refine Q0 (λE ai=>∃(j:Int) (w:Sh) (o9 o11:Own) (mf my:Option Sd),E=[some (.no,iL ns),some (o1,.int 3),some (.no,sL ss),some (.no,.int 7),some (o4,d4),some (o5,d5),some (.rt,.lst (P.map D.int)),some (.rt,.lst (aj.map lD)),some (.no,.int kn),some (o9,.int v),some (.rt,lD w),some (o11,.int (v % 6)),mf,my]/\0<=j/\j<=v % 6/\ai=jY j (v % 6)/\(w.length:Int)=j/\(∀p∈w,p.1∈ss)/\∀p∈w,p.2∈P) ?_ ?_ ?_
  ·refine YY ?_;simp![];exact⟨v % 6,rfl,⋯,⋯,0,[],_,_,_,_,rfl,⋯,⋯,rfl,rfl,(λ_ h=>nomatch h),λ_ h=>nomatch h⟩
  ·rintro E d ds ⟨j,w,o9,o11,mf,my,rfl,j0,j1,hr,mr,hw1,hw2⟩;obtain⟨hj,rfl,rfl⟩:=Wk j1 hr;obtain⟨b,b0,b1,hbb⟩:=dv j j0 ⋯;simp![hbb,div_i (a:=v) (b:=b) b0 ⋯];refine Vj rfl ?_;have t0:=Xu (v / b) (show(ss.length:Int)≠0 by lia);have t1:=Xn (v / b) (show(0:Int)<ss.length by lia);have u0:=Xu (v / b / 3) (show(3:Int)≠0 by decide);have u1:=Xn (v / b / 3) (show(0:Int)<3 by decide);obtain⟨z,hz,ez⟩:=hsx _ t0 t1;obtain⟨x,hx,ex⟩:=hpx _ u0 u1;simp![mod_i (a:=v / b) (b:=ss.length) ⋯,ez,div_i (a:=v / b) (b:=3) ⋯ ⋯,mod_i (a:=v / b / 3) (b:=3) ⋯,ex];refine⟨_,rfl,by rw[X3];lia,j+1,w++[(z,x)],_,_,_,_,by rw[show lD (w++[(z,x)])=.lst (rwD w++[.tup [.str z,.int x]])by rw[lD,rwD,Xj];rfl],⋯,⋯,rfl,by simp;lia,λp hp=>?_,λp hp=>?_⟩
   ·rcases aA hp with q|q
    ·exact hw1 p q
    ·rw[aC q];exact hz
   ·rcases aA hp with q|q
    ·exact hw2 p q
    ·rw[aC q];exact hx
  ·rintro E ⟨j,w,o9,o11,mf,my,rfl,j0,j1,hr,mr,hw1,hw2⟩;refine Vj rfl ?_;simp![];refine⟨_,rfl,by rw[X3];lia,kn+1,aj++[w],_,_,_,_,_,_,_,_,_,_,_,by rw[Xj];rfl,⋯,⋯,rfl,by simp;lia,?_⟩;refine⟨by simp;lia,λy hy=>?_,λy hy=>?_,λy hy=>?_⟩
   all_goals
    rcases aA hy with q|q
   ·exact hT.l5 y q
   ·rw[aC q];lia
   ·exact hT.sg y q
   ·rw[aC q];exact hw1
   ·exact hT.nm y q
   ·rw[aC q];exact⟨P,hPl,hw2⟩
 ·rintro E ⟨k,aj,o1,o4,o5,d4,d5,l8,l9,l10,l11,mf,my,rfl,k0,k1,hr,qe,hT⟩;simp![];exact⟨aj,rfl,hT⟩
end Nk72
namespace Nk72
open Q PySem C V Tl
theorem qvu:m_shape_of=V.m_shape_of:=rfl
theorem qvt:m_signs_in=V.m_signs_in:=rfl
theorem vvt:m_names_in=V.m_names_in:=rfl
theorem wkl:m_beginnings_of=V.m_beginnings_of:=rfl
theorem vvs:m_steps_at=V.m_steps_at:=rfl
theorem kzc(g:D->Bool):∀ds:List D,W9 (.lst (ds.map λd=>D.bl (g d)))=some (.bl (ds.all g)):=by
 have h:∀ds:List D,bls (ds.map λd=>D.bl (g d))=some (ds.map g):=by
  intro ds
  induction ds with|nil=>rfl|cons d ds ih=>rw[List.map_cons,bls,ih];rfl
 intro ds;show(bls (ds.map λd=>D.bl (g d))).map _=_;rw[h];simp[List.all_map,Function.comp_def]
def ZK(ss:List Str):D->Bool
 |.str z=>ss.any λw=>w==z|_=>false
def zX:D->Nat
 |.tup ds=>(ddI (ds.map λd=>match d with|.tup [_,.int i]=>i|_=>0)).length
 |_=>0
theorem qk7(s:Sh):zX (tD s)=nk s:=by
 unfold zX nk;dsimp only;rw[Xh];rfl
theorem wwz{ss:List Str}{aj:List Sh}{P:Sd->Prop}{X:XP}(hs:ss.length<=3)(hl:aj.length<=11)(h5:∀w∈aj,w.length<=5)
  (hG:(∀w∈aj,∀p∈w,p.1∈ss)->(∀w∈aj,nk (shW w)<=3)->∀a b:D,P (.no,.tup [a,b])) (hN:¬(∀w∈aj,∀p∈w,p.1∈ss)->X "NoFit") (hT:(∀w∈aj,∀p∈w,p.1∈ss)->¬(∀w∈aj,nk (shW w)<=3)->X "TooGreat"):
  Oo XQ [(.no,sL ss),(.no,.lst (aj.map lD))] P X:=by
 have rd:∀s∈aj.map shW,s.length<=5:=λs hs=>by obtain⟨w,hw,rfl⟩:=aE hs;rw[kvp];exact h5 w hw
 have shl:(aj.map shW).length<=11:=by rw[X3];exact hl
 have shg:(∀w∈aj,∀p∈w,p.1∈ss)↔((sL ((aj.map shW).flatMap λs=>s.map (·.1)))=sL ((aj.map shW).flatMap λs=>s.map (·.1))/\(((aj.map shW).flatMap λs=>s.map (·.1)).map D.str).all (ZK ss)=true):=by
  rw[Ya];constructor
  ·refine λh=>⟨rfl,λd hd=>?_⟩
   obtain⟨z,hz,rfl⟩:=aE hd;obtain⟨s,fu,hz⟩:=List.mem_flatMap.mp hz;obtain⟨w,hw,rfl⟩:=aE fu;obtain⟨p,hp,rfl⟩:=aE hz;unfold shW at hp;obtain⟨q,hq,rfl⟩:=aE hp;exact List.any_eq_true.mpr ⟨q.1,h w hw q hq,beq_self_eq_true _⟩
  ·rintro ⟨_,h⟩ w hw p hp;have:=h (.str p.1) (List.mem_map.mpr ⟨p.1,List.mem_flatMap.mpr ⟨shW w,List.mem_map.mpr ⟨w,hw,rfl⟩,List.mem_map.mpr ⟨(p.1,_),List.mem_map.mpr ⟨p,hp,rfl⟩,rfl⟩⟩,rfl⟩);obtain⟨y,hy,e⟩:=List.any_eq_true.mp this;rw[<-eq_of_beq e];exact hy
 have sh3:(∀w∈aj,nk (shW w)<=3)↔((aj.map shW).map tD).all (λd=>decide (zX d<=3))=true:=by
  rw[Ya];constructor
  ·intro h d hd;obtain⟨s,fu,rfl⟩:=aE hd;obtain⟨w,hw,rfl⟩:=aE fu;rw[qk7];exact Xe (h w hw)
  ·intro h w hw;have:=h (tD (shW w)) (List.mem_map.mpr ⟨shW w,List.mem_map.mpr ⟨w,hw,rfl⟩,rfl⟩);rw[qk7]at this;exact Zi this
 unfold XQ;rw[qvu,qvt,vvt,wkl,vvs];refine qY ?_;simp![];refine zV (λE1 B ds af=>E1=[some (.no,sL ss),some (.no,.lst (aj.map lD)),none,none,none]/\∃(q0:Option Sd) (r1 r2:List Sh),B=[q0]/\ds=r2.map lD/\aj=r1++r2/\af.map (·.2)=(r1.map shW).map tD) ?_ ?_ ?_
 ·simp![];exact⟨_,[],aj,rfl,rfl,rfl,rfl⟩
 ·rintro E1 B d ds af ⟨rfl,q0,r1,r2,rfl,ba,hr,ha⟩;cases r2 with
  |nil=>cases ba
  |cons w r2=>
   injection ba with e1 e2;subst e1 e2;have hw:=h5 w (by rw[hr];simp);simp![];refine Oo.via (qxl w ⋯).any ?_;rintro _ rfl;simp![wqy (o:=.no) (xs:=rwD (shW w)) ⋯];exact⟨_,r1++[w],r2,rfl,rfl,by rw[hr];simp,by rw[Xj,ha];simp⟩
 rintro E1 B af ⟨rfl,q0,r1,r2,rfl,ba,hr,ha⟩;have:r2=[]:=by cases r2 with|nil=>rfl|cons=>cases ba
 subst this;rw[Xs]at hr;subst hr;rw[qV,ha];simp only[xz,back,clr,at',List.drop,List.map_cons,List.map_nil,List.set_cons_zero,List.set_cons_succ];generalize hS:aj.map shW=b7 at rd shl shg sh3;simp![];refine K2 [some (.no,sL ss)] (λd y=>y.2=.bl (ZK ss d)) ?_;simp![];refine Oo.use (qxj shl rd).any ?_;intro _ _;simp![];refine⟨rfl,λd hd=>?_,λys hy=>?_⟩
 ·obtain⟨z,hz,rfl⟩:=aE hd;simp![in_s];exact⟨⟨_,rfl⟩,rfl⟩
 rw[qV,Kw (h:=λd=>.bl (ZK ss d)) (λ_ _ h=>h) hy];simp only[back,clr,at',List.map_cons,List.map_nil,List.set_cons_zero,List.set_cons_succ]
 by_cases hA:∀w∈aj,∀p∈w,p.1∈ss
 rotate_left
 ·have hf:((b7.flatMap λs=>s.map (·.1)).map D.str).all (ZK ss)=false:=by
   cases h:((b7.flatMap λs=>s.map (·.1)).map D.str).all (ZK ss)with|false=>rfl|true=>exact absurd (shg.mpr ⟨rfl,h⟩) hA
  simp![kzc,hf,↓w_rz];exact hN hA
 have hf:=(shg.mp hA).2;simp![kzc,hf];refine K2 [] (λd y=>y.2=.bl (decide (zX d<=3))) ?_;simp![];refine⟨λd hd=>?_,λys hy=>?_⟩
 ·obtain⟨s,fu,rfl⟩:=aE hd;simp![];refine Oo.use (jxp s (by have:=rd s fu;lia)).any ?_;intro _ _;have:fLe (.int (nk s)) (.int 3)=some (.bl (decide (zX (tD s)<=3))):=by rw[le_ii,qk7];congr 2;exact decide_eq_decide.mpr ⋯
  simp![this];exact⟨⟨_,rfl⟩,trivial⟩
 rw[qV,Kw (h:=λd=>.bl (decide (zX d<=3))) (λ_ _ h=>h) hy];simp only[back,clr]
 by_cases hC:∀w∈aj,nk (shW w)<=3
 rotate_left
 ·have rh:(b7.map tD).all (λd=>decide (zX d<=3))=false:=by
   cases h:(b7.map tD).all (λd=>decide (zX d<=3))with|false=>rfl|true=>exact absurd (sh3.mpr h) hC
  simp![kzc (λd=>decide (zX d<=3)),rh,↓w_rz];exact hT hA hC
 have rh:=sh3.mp hC;simp![kzc (λd=>decide (zX d<=3)),rh];refine Oo.use (kkt shl rd).any ?_;intro bs hB;simp![];refine zV (λE1 B ds af=>E1=[some (.no,sL ss),some (.no,.lst (aj.map lD)),some (.no,.lst (b7.map tD)),some (.no,.lst (bs.map tD)),none]/\∃(q0 q1:Option Sd) (r1 r2:List (Sh×Nat)),B=[q0,q1]/\ds=(r2.map λp=>.tup [.int p.2,tD p.1])/\bs.zipIdx=r1++r2/\af.map (·.2)=r1.map λp=>.tup [tD p.1,.int p.2]) ?_ ?_ ?_
 ·simp![↓w_itEn,vvq];exact⟨_,_,[],bs.zipIdx,rfl,rfl,rfl,rfl⟩
 ·rintro E1 B d ds af ⟨rfl,q0,q1,r1,r2,rfl,ba,hr,ha⟩;cases r2 with
  |nil=>cases ba
  |cons p r2=>
   injection ba with e1 e2;subst e1 e2;simp![];exact⟨_,_,r1++[p],r2,rfl,rfl,by rw[hr];simp,by rw[Xj,ha];simp⟩
 rintro E1 B af ⟨rfl,q0,q1,r1,r2,rfl,hds2,hr,ha2⟩;have:r2=[]:=by cases r2 with|nil=>rfl|cons=>cases hds2
 subst this;rw[Xs]at hr;subst hr;rw[qV,ha2];simp only[xz,back,clr,at',List.drop,List.map_cons,List.map_nil,List.set_cons_zero,List.set_cons_succ];have hbs5:∀b∈bs,b.length<=5:=λb hb=>by
  have:=(hB.mem b).mp hb;rcases aD this with rfl|h
  ·simp
  ·obtain⟨s,fu,h⟩:=List.mem_flatMap.mp h;unfold pre at h;obtain⟨k,_,rfl⟩:=aE h;rw[Xx];have:=rd s fu;lia
 simp![vvv (o:=.no) hB.nd hB.len,wji (o:=.no) (xs:=ss.map D.str) ⋯];refine zV (λE1 B ds af=>∃(q0:Option Sd) (o1 o2 o3:Own) (r1 r2:List Sh),B=[q0,some (o1,.lst (b7.map tD)),some (o2,sL ss),some (o3,z4 bs)]/\ds=r2.map tD/\bs=r1++r2/\af.map (·.2)=r1.map (vxb b7 bs ss)) ?_ ?_ ?_
 ·simp![];exact⟨_,_,_,_,[],bs,rfl,rfl,rfl,rfl⟩
 ·rintro E1 B d ds af ⟨q0,o1,o2,o3,r1,r2,rfl,ba,hr,ha⟩;cases r2 with
  |nil=>cases ba
  |cons b r2=>
   injection ba with e1 e2;subst e1 e2;have hb5:=hbs5 b (by rw[hr];simp);simp![];refine Oo.use (jxp b ⋯).any ?_;intro _ _;simp![wwf];refine Oo.use (qxb (bs:=bs) (ss:=ss) (b:=b) ⋯ hs).any ?_;intro _ _;simp![];exact⟨_,_,_,_,r1++[b],r2,rfl,rfl,by rw[hr];simp,by rw[Xj,ha];simp[vxb]⟩
 ·rintro E1 B af ⟨q0,o1,o2,o3,r1,r2,rfl,ba,hr,ha⟩;have:r2=[]:=by cases r2 with|nil=>rfl|cons=>cases ba
  subst this;rw[Xs]at hr;subst hr;rw[qV,ha];unfold kW;rw[qzm];exact hG hA hC _ _
end Nk72
namespace Nk72
open Q PySem C V
theorem kvi{ss:List Str}{aj:List Sh}(hs:ss.length<=3)(hl:aj.length<=11)(h5:∀w∈aj,w.length<=5):
  Oo xj [(.no,sL ss),(.no,.lst (aj.map lD))] (λy=>y=(.rt,.lst [.str "taken"])/\(∀w∈aj,∀p∈w,p.1∈ss)/\(∀w∈aj,nk (shW w)<=3)\/y=(.rt,.lst [.bl true,.bl true,.bl false,.bl false])/\¬(∀w∈aj,∀p∈w,p.1∈ss) \/
   y=(.rt,.lst [.bl true,.bl false,.bl true,.bl false])/\(∀w∈aj,∀p∈w,p.1∈ss)/\¬(∀w∈aj,nk (shW w)<=3)) noX:=by
 have hby:=wwz (P:=λy=>(∃a b,y=(.no,.tup [a,b]))/\(∀w∈aj,∀p∈w,p.1∈ss)/\(∀w∈aj,nk (shW w)<=3)) (X:=λc=>c="NoFit"/\¬(∀w∈aj,∀p∈w,p.1∈ss)\/c="TooGreat"/\(∀w∈aj,∀p∈w,p.1∈ss)/\¬(∀w∈aj,nk (shW w)<=3)) hs hl h5 (λh1 h2 a b=>⟨⟨a,b,rfl⟩,h1,h2⟩) (λh=>.inl ⟨rfl,h⟩) (λh1 h2=>.inr ⟨rfl,h1,h2⟩);unfold xj;refine qY ?_;have eq1:fEq (.lst [.str "taken"]) (.lst [.str "taken"])=some (.bl true):=C.eq_self rfl;simp![↓w_tryA];refine hby.ox ?_ ?_
 ·rintro _ ⟨⟨a,b,rfl⟩,h1,h2⟩;have i1:Wv "tuple" (.tup [a,b])=some (.bl true):=rfl;have n1:fNe (.int ((2:Nat):Int)) (.int 2)=some (.bl false):=rfl;simp![eq1,i1,n1];exact .inl ⟨h1,h2⟩
 ·rintro c (⟨rfl,h⟩|⟨rfl,h1,h2⟩)
  ·have x1:vK [("NoFit",true),("TooGreat",true)] (.obj "NoFit" [])=some (.bl true):=rfl;have x2:vK [("NoFit",true),("TooGreat",false)] (.obj "NoFit" [])=some (.bl true):=rfl;have x3:vK [("NoFit",false),("TooGreat",true)] (.obj "NoFit" [])=some (.bl false):=rfl;have x4:vK [("NoFit",false),("TooGreat",false)] (.obj "NoFit" [])=some (.bl false):=rfl;have q1:fEq (.lst [.bl true,.bl true,.bl false,.bl false]) (.lst [.str "taken"])=some (.bl false):=rfl;refine⟨by simp,?_⟩;simp![x1,x2,x3,x4,q1];exact .inr (.inl h)
  ·have x1:vK [("NoFit",true),("TooGreat",true)] (.obj "TooGreat" [])=some (.bl true):=rfl;have x2:vK [("NoFit",true),("TooGreat",false)] (.obj "TooGreat" [])=some (.bl false):=rfl;have x3:vK [("NoFit",false),("TooGreat",true)] (.obj "TooGreat" [])=some (.bl true):=rfl;have x4:vK [("NoFit",false),("TooGreat",false)] (.obj "TooGreat" [])=some (.bl false):=rfl;have q1:fEq (.lst [.bl true,.bl false,.bl true,.bl false]) (.lst [.str "taken"])=some (.bl false):=rfl;refine⟨by simp,?_⟩;simp![x1,x2,x3,x4,q1];exact .inr (.inr ⟨h1,h2⟩)
theorem vx7{o:Own}{z:Str}{lo hi:Option Int}(h:z.cps.size<=1000000):fSl (o,.str z) lo hi=some (.dp,.str (Txt.slice z lo hi)):=by
 have hl:(Txt.slice z lo hi).length<=z.length:=Txt.slice_le z lo hi;have h:z.length<=1000000:=h;show(if(Txt.slice z lo hi).length<=big then _ else none)=_;rw[X7 (by unfold big;lia)]
theorem wjf{z:Str}{ss:List Str}(h:z∈ss):JZ (.str z) (sL ss)=some (.bl false):=by
 have:(ss.any λw=>w==z)=true:=List.any_eq_true.mpr ⟨z,h,beq_self_eq_true _⟩;rw[wjg,this];rfl
theorem qz6{z:Str}{ss:List Str}(h:z∉ss):JZ (.str z) (sL ss)=some (.bl true):=by
 rw[wjg];cases e:(ss.any λw=>w==z)with
 |false=>rfl
 |true=>
  obtain⟨w,hw,e⟩:=List.any_eq_true.mp e;exact absurd (eq_of_beq e▸hw) h
theorem ixS{ss:List Str}(i:Int)(h0:0<=i)(h1:i<ss.length):∃z∈ss,kY (sL ss) (.int i)=some (.str z):=by
 have hl:i.toNat<ss.length:=⋯
 exact⟨ss[i.toNat],Y2 _,WK h0 (by rw[Xp,X5 hl];rfl)⟩
abbrev farWords:List Str:=["zzzzzzzz","yyyyyyyy","xxxxxxxx","wwwwwwww"]
abbrev W0(z:Str):Str:=z++"z"
abbrev XJ(z:Str):Str:=Txt.slice z none (some (-1))
def vqt:D->D
 |.str z=>.str (W0 z)|d=>d
def qqg:D->D
 |.str z=>.str (XJ z)|d=>d
theorem qk1(f:Str->Str)(g:D->D)(h:∀z,g (.str z)=.str (f z))(ss:List Str):(ss.map D.str).map g=(ss.map f).map D.str:=by
 rw[Xh,Xh];exact Yl λz _=>h z
theorem kzk{ss:List Str}{c:Int}(h1:1<=ss.length)(h3:ss.length<=3)(hs:∀z∈ss,z.cps.size<=8):Oo YQ [(.no,sL ss),(.no,.int c)] (λy=>∃(z:Str),y=(.no,.str z)/\z∉ss) noX:=by
 obtain⟨z0,hz0,e0⟩:=ixS (ss:=ss) 0 ⋯ ⋯;have n1:Vv (.int 1)=some (.int (-1)):=rfl;have al:∀z:Str,YX (.str z)=some (.bl (Txt.isalpha z)):=λ_=>rfl
 have ln:∀z:Str,kX (.str z)=some (.int z.cps.size):=λ_=>rfl
 unfold YQ;refine qY ?_;simp![];refine K2 [] (λd y=>y.2=vqt d) ?_;simp![];refine⟨λd hd=>?_,λys hy=>?_⟩
 ·obtain⟨z,hz,rfl⟩:=aE hd;have:=hs z hz;simp![W5 (o1:=.no) (o2:=.no) (a:=z) (b:="z") (by show z.cps.size+1<=10000;lia)];exact⟨⟨_,rfl⟩,rfl⟩
 rw [qV,Kw (h:=vqt) (λ_ _ h=>h) hy,qk1 W0 vqt (λ_=>rfl)];simp only[back,clr,at',List.map_nil];simp![];refine K2 [] (λd y=>y.2=qqg d) ?_;simp![];refine⟨λd hd=>?_,λys hy=>?_⟩
 ·obtain⟨z,hz,rfl⟩:=aE hd;have:=hs z hz;simp![n1,vx7 (o:=.no) (z:=z) (lo:=none) (hi:=some (-1)) ⋯];exact⟨⟨_,rfl⟩,rfl⟩
 rw [qV,Kw (h:=qqg) (λ_ _ h=>h) hy,qk1 XJ qqg (λ_=>rfl)];simp only[back,clr,at',List.map_nil];have hz8:=hs z0 hz0;have ad1:∀(o1 o2:Own) (a b:List Str),o1≠.dp->o2≠.dp->a.length+b.length<10000->jv (o1,sL a) (o2,sL b)=some (.rt,sL (a++b)):=λo1 o2 a b h1 h2 h=>by
  rw [show sL a=.lst (a.map D.str)from rfl,show sL b=.lst (b.map D.str)from rfl,vka h1 h2 (by rw[X3,X3];exact h),<-Xj]
 obtain⟨us,hul,ad4⟩:∃us:List Str,us.length<=10/\jv (.no,sL (ss.map W0++ss.map XJ)) (.no,.lst [.str "q",.str "",.str "zz",.str (z0++" ")])=some (.rt,sL us):=⟨_,by simp;lia,ad1 .no .no (ss.map W0++ss.map XJ) (["q","","zz",z0++" "]:List Str) ⋯ ⋯ (by simp;lia)⟩;simp![ad1 .no .no (ss.map W0) (ss.map XJ) ⋯ ⋯ (by simp;lia),e0,W5 (o1:=.no) (o2:=.no) (a:=z0) (b:=" ") (by show z0.cps.size+1<=10000;lia),ad4];refine zV (λE1 B ds af=>E1=[some (.no,sL ss),some (.no,.int c),some (.no,sL us)]/\∃(q0:Option Sd) (r vs:List Str),B=[q0,some (.no,sL ss)]/\ds=r.map D.str/\af.map (·.2)=vs.map D.str/\(∀v∈vs,v∉ss)/\vs.length+r.length<=10) ?_ ?_ ?_
 ·simp![];exact⟨_,us,[],rfl,rfl,rfl,(λ_ h=>nomatch h),by simp;lia⟩
 ·rintro E1 B d ds af ⟨rfl,q0,r,vs,rfl,ba,ha,hv,hvl⟩;cases r with
  | nil=>cases ba
  | cons z r=>
   injection ba with e1 e2;subst e1 e2;rw [Xf]at hvl
   by_cases hz:z∈ss
   ·simp![wjf hz];exact⟨_,r,vs,rfl,rfl,ha,hv,⋯⟩
   ·have next:∃(q0:Option Sd) (r' mq:List Str),[some (Own.no,D.str z),some (Own.no,sL ss)]=[q0,some (.no,sL ss)]/\r.map D.str=r'.map D.str/\(af++[(Own.no,D.str z)]).map (·.2)=mq.map D.str/\(∀v∈mq,v∉ss)/\mq.length+r'.length<=10:=⟨_,r,vs++[z],rfl,rfl,by rw[Xj,ha];simp,λv h=>by
     rcases aA h with h|h
     ·exact hv v h
     ·rw[aC h];exact hz,by simp;lia⟩
    cases i4:Txt.isalpha z with
    | false=>
     simp![qz6 hz,al,i4];exact⟨_,r,vs,rfl,rfl,ha,hv,⋯⟩
    | true=>
     by_cases h8:(z.cps.size:Int)<=8
     ·have le:fLe (.int z.cps.size) (.int 8)=some (.bl true):=by rw[le_ii,Xe h8]
      simp![qz6 hz,al,i4,ln,le];exact next
     ·have le:fLe (.int z.cps.size) (.int 8)=some (.bl false):=by rw[le_ii,Xl h8]
      simp![qz6 hz,al,i4,ln,le];exact⟨_,r,vs,rfl,rfl,ha,hv,⋯⟩
 rintro E1 B af ⟨rfl,q0,r,vs,rfl,ba,ha,hv,hvl⟩;rw [qV,ha];simp only[xz,back,clr,at',List.drop,List.map_cons,List.map_nil,List.set_cons_zero,List.set_cons_succ];simp![];refine zV (λE1 B ds af=>E1=[some (.no,sL ss),some (.no,.int c),some (.rt,sL vs)]/\∃(q0:Option Sd) (r1 r2:List Str),B=[q0,some (.no,sL ss)]/\farWords=r1++r2/\ds=r2.map D.str/\af.map (·.2)=(r1.filter λz=>decide (z∉ss)).map D.str) ?_ ?_ ?_
 ·simp![];exact⟨_,[],farWords,rfl,rfl,rfl,rfl⟩
 ·rintro E1 B d ds af ⟨rfl,q0,r1,r2,rfl,hf,ba,hc⟩;cases r2 with
  | nil=>cases ba
  | cons z r2=>
   injection ba with e1 e2;subst e1 e2
   by_cases hz:z∈ss
   ·simp![wjf hz];refine⟨_,r1++[z],r2,rfl,by rw[hf];simp,rfl,?_⟩;rw[hc,List.filter_append];simp[hz]
   ·simp![qz6 hz];refine⟨_,r1++[z],r2,rfl,by rw[hf];simp,rfl,?_⟩;rw[Xj,hc,List.filter_append];simp[hz]
 rintro E1 B acc2 ⟨rfl,q1,r1,r2,rfl,hf,hds2,hc⟩;have:r2=[]:=by cases r2 with|nil=>rfl|cons=>cases hds2
 subst this;rw [Xs]at hf;subst hf;obtain⟨w,ws,hw⟩:∃w ws,(farWords.filter λz=>decide (z∉ss))=w::ws:=by
  cases e:farWords.filter λz=>decide (z∉ss)with
  | cons w ws=>exact⟨w,ws,rfl⟩
  | nil=>
   exfalso;have:=kxn (l:=farWords) (m:=ss) ⋯ λz hz=>by
    cases Decidable.em (z∈ss)with|inl h=>exact h|inr h=>exact absurd (List.mem_filter.mpr ⟨hz,Xe h⟩) (by rw[e];exact λz=>nomatch z)
   have:farWords.length=4:=rfl;lia
 have hwn:w∉ss:=by
  have:w∈farWords.filter λz=>decide (z∉ss):=by rw[hw];exact X6
  exact Zi (List.mem_filter.mp this).2
 rw[qV,hc,hw];simp only[xz,back,clr,at',List.drop,List.map_cons,List.map_nil,List.set_cons_zero,List.set_cons_succ];have c1:fSl (.no,.lst (.str w::ws.map D.str)) none (some 1)=some (.rt,sL [w]):=by
  rw[vkq ⋯,vk2 ⋯ (by simp;lia)];rfl
 simp![c1,ad1 .rt .no vs [w] ⋯ ⋯ (by simp;lia)];have t0:=Xu c (show((vs++[w]).length:Int)≠0 by simp;lia);have t1:=Xn c (show(0:Int)<(vs++[w]).length by simp);obtain⟨z,hz,ez⟩:=ixS (ss:=vs++[w]) _ t0 t1;have ls:kX (sL (vs++[w]))=some (.int (vs++[w]).length):=by show some (D.int (((vs++[w]).map D.str).length:Nat))=_;rw[X3]
 simp![ls,mod_i (a:=c) (b:=(vs++[w]).length) (by simp),ez];refine⟨z,rfl,λh=>?_⟩;rcases aA hz with q|q
 ·exact hv z q h
 ·rw[aC q]at h;exact hwn h
theorem qqo(c k:Int)(h0:0<=k)(h1:k<=100):Oo m__law_mixed [(.no,.int c),(.no,.int k)] (λy=>∃v:Int,y=(.dp,.int v)/\True) noX:=by rw[qvv];exact A.mixed_ok c k h0 h1
theorem wjk{ss:List Str}:kX (sL ss)=some (.int ss.length):=by show some (D.int ((ss.map D.str).length:Nat))=_;rw[X3]
theorem qka(w:Sh)(z:Str)(x:Int):rwD w++[.tup [.str z,.int x]]=rwD (w++[(z,x)]):=by rw[rwD,rwD,Xj];rfl
theorem qjn{ss:List Str}{c m:Int}(h1:1<=ss.length)(m0:0<=m)(m5:m<=5):Oo V0 [(.no,sL ss),(.no,.int c),(.no,.int m)] (λy=>∃w:Sh,y=(.rt,lD w)/\(w.length:Int)=m/\(∀p∈w,p.1∈ss)/\(ns2 w).Nodup) noX:=by
 have p40:J5 (.int 10) (.int 40)=some (.int (10 ^ 40)):=rfl;obtain⟨s,hs,he⟩:∃s:Int,(s=1\/s=-1)/\∀j:Int,kY (.lst [.int j,.int (-j)]) (.int (c % 2))=some (.int (s*j)):=by
  rcases Int.emod_two_eq c with h|h
  ·exact⟨1,.inl rfl,λj=>by rw[h,Int.one_mul];rfl⟩
  ·exact⟨-1,.inr rfl,λj=>by rw[h,Int.neg_mul,Int.one_mul];rfl⟩
 have ng:∀j:Int,Vv (.int j)=some (.int (-j)):=λ_=>rfl
 unfold V0;refine qY ?_;simp![p40,mod_i (a:=c) (b:=10 ^ 40) ⋯];generalize c % 10 ^ 40=base;refine zV (λE1 B ds af=>∃(q0:Option Sd) (o3:Own) (j:Int) (w:Sh),B=[q0,some (.no,sL ss),some (.no,.int c),some (o3,.int base)]/\0<=j/\j<=m/\ds=jY j m/\af.map (·.2)=rwD w/\(w.length:Int)=j/\(∀p∈w,p.1∈ss)/\(ns2 w).Nodup/\∀x∈ns2 w,∃i:Int,i<j/\x=base+s*i) ?_ ?_ ?_
 ·refine YY ?_;simp![];exact⟨m,rfl,⋯,⋯,_,_,0,[],rfl,⋯,⋯,rfl,rfl,rfl,(λ_ h=>nomatch h),Y4,λ_ h=>nomatch h⟩
 ·rintro E1 B d ds af ⟨q0,o3,j,w,rfl,j0,j1,hr,ha,hl,hw,hn,hx⟩;obtain⟨hj,rfl,rfl⟩:=Wk j1 hr;simp![];refine(qqo c j j0 ⋯).use ?_;intro v _;obtain⟨z,hz,ez⟩:=ixS (ss:=ss) (v % ss.length) (Xu v ⋯) (Xn v ⋯);simp![wjk,mod_i (a:=v) (b:=ss.length) ⋯,ez,ng,mod_i (a:=c) (b:=2) ⋯,he];refine⟨_,_,j+1,w++[(z,base+s*j)],rfl,⋯,⋯,rfl,by rw[Xj,ha,<-qka];rfl,by simp;lia,λp hp=>?_,?_,λx h=>?_⟩
  ·rcases aA hp with q|q
   ·exact hw p q
   ·rw[aC q];exact hz
  ·rw[show ns2 (w++[(z,base+s*j)])=ns2 w++[base+s*j]by simp];refine List.nodup_append.mpr ⟨hn,by simp,λx h y hy=>?_⟩;obtain⟨i,hi,rfl⟩:=hx x h;rw[aC hy];rcases hs with rfl|rfl<;>lia
  ·rw[show ns2 (w++[(z,base+s*j)])=ns2 w++[base+s*j]by simp]at h;rcases aA h with q|q
   ·obtain⟨i,hi,e⟩:=hx x q;exact⟨i,⋯,e⟩
   ·exact⟨j,⋯,aC q⟩
 ·rintro E1 B af ⟨q0,o3,j,w,rfl,j0,j1,hr,ha,hl,hw,hn,hx⟩;have:=jxz j1 hr;rw[qV,ha];exact⟨w,rfl,⋯,hw,hn⟩
theorem vqw{ss:List Str}{c:Int}(h1:1<=ss.length)(h3:ss.length<=3)(hs:∀z∈ss,z.cps.size<=8):Oo jjl [(.no,sL ss),(.no,.int c)] (λy=>∃w:Sh,y=(.rt,lD w)/\w.length<=5/\∃p∈w,p.1∉ss) noX:=by
 have c0:=Xu c (show(4:Int)≠0 by decide);have c1:=Xn c (show(0:Int)<4 by decide);unfold jjl;refine qY ?_;simp![];refine zV (λE1 B ds af=>E1=[some (.no,sL ss),some (.no,.int c),none,none]/\∃(q0:Option Sd) (j:Int) (w:Sh),B=[q0,some (.no,sL ss),some (.no,.int c)]/\0<=j/\j<=2+c % 4/\ds=jY j (2+c % 4)/\af.map (·.2)=rwD w/\(w.length:Int)=j) ?_ ?_ ?_
 ·refine YY ?_;simp![mod_i (a:=c) (b:=4) ⋯];exact⟨2+c % 4,rfl,⋯,⋯,_,0,[],rfl,⋯,⋯,rfl,rfl,rfl⟩
 ·rintro E1 B d ds af ⟨rfl,q0,j,w,rfl,j0,j1,hr,ha,hl⟩;obtain⟨hj,rfl,rfl⟩:=Wk j1 hr;simp![];refine(qqo c j j0 ⋯).use ?_;intro v _;obtain⟨z,hz,ez⟩:=ixS (ss:=ss) (v % ss.length) (Xu v ⋯) (Xn v ⋯);simp![wjk,mod_i (a:=v) (b:=ss.length) ⋯,ez,mod_i (a:=j) (b:=2) ⋯];exact⟨_,j+1,w++[(z,j % 2)],rfl,⋯,⋯,rfl,by rw[Xj,ha,<-qka];rfl,by simp;lia⟩
 rintro E1 B af ⟨rfl,q0,j,w,rfl,j0,j1,hr,ha,hl⟩;have hj:=jxz j1 hr;rw[qV,ha];simp only[xz,back,clr,at',List.drop,List.map_cons,List.map_nil,List.set_cons_zero,List.set_cons_succ];have mr:(w.length:Int)≠0:=⋯
 have ln:kX (.lst (rwD w))=some (.int w.length):=by show some (D.int ((rwD w).length:Nat))=_;rw[X3]
 have t0:=Xu (c / 4) mr;have t1:=Xn (c / 4) (show(0:Int)<w.length by lia);simp![ln,div_i (a:=c) (b:=4) ⋯ ⋯,mod_i (a:=c / 4) (b:=w.length) ⋯];generalize c / 4 % w.length=k at t0 t1;have hk:k.toNat<w.length:=⋯
 have ex:kY (.lst (rwD w)) (.int k)=some (.tup [.str w[k.toNat].1,.int w[k.toNat].2]):=WK t0 (by rw[Xp,X5 hk];rfl);have j1:∀a b:D,kY (.tup [a,b]) (.int 1)=some b:=λ_ _=>rfl
 refine qky ?_;simp![div_i (a:=c) (b:=20) ⋯ ⋯];refine(kzk h1 h3 hs).use ?_;intro z hz;simp![ex,j1];refine⟨rfl,?_⟩;refine⟨_,_,k,k.toNat,rfl,⋯,rfl,by rw[X3];unfold ixN;rw[X7 t0,X7 ⋯],?_⟩;have e5:(rwD w).set k.toNat (.tup [.str z,.int w[k.toNat].2])=rwD (w.set k.toNat (z,w[k.toNat].2)):=by rw[rwD,rwD,List.map_set]
 rw[e5];simp![];exact⟨_,rfl,by rw[Zd];lia,(z,w[k.toNat].2),List.mem_set hk _,hz⟩
abbrev q9(L:List Sh):D:=.lst (L.map lD)
abbrev qx(L:List Sh)(a:Nat)(r:Sh):List Sh:=L.take a++[r]++L.drop a
theorem ins_mem{L:List Sh}{a:Nat}{r w:Sh}:w∈qx L a r↔w=r\/w∈L:=by
 unfold qx;rw[List.mem_append,List.mem_append,List.mem_singleton];constructor
 ·rintro ((h|h)|h)
  ·exact .inr (List.mem_of_mem_take h)
  ·exact .inl h
  ·exact .inr (List.mem_of_mem_drop h)
 ·rintro (h|h)
  ·exact .inl (.inr h)
  ·rw[<-List.take_append_drop a L]at h;rcases aA h with h|h
   ·exact .inl (.inl h)
   ·exact .inr h
theorem kwc{L:List Sh}{a:Nat}{r:Sh}:(qx L a r).length=L.length+1:=by
 unfold qx;rw[Xv,Xv,Xx,Ys,Zc];lia
theorem wks{o:Own}(ho:o≠.dp){u:List Sh}{j:Nat}(h1:j<=u.length):fSl (o,q9 u) none (some (j:Int))=some (.rt,q9 (u.take j)):=by
 rw[vkq ho,vk2 ⋯ (by rw[X3];lia),<-List.map_take];rfl
theorem wkr{o:Own}(ho:o≠.dp){u:List Sh}{j:Nat}(h1:j<=u.length):fSl (o,q9 u) (some (j:Int)) none=some (.rt,q9 (u.drop j)):=by
 rw[vkq ho];unfold J9 vq;dsimp only;rw[X9 ⋯,X3,Nat.min_eq_left ⋯,List.take_of_length_le (by rw[Ys,X3];lia),<-List.map_drop];rfl
theorem vj7{u v:List Sh}(h:u.length+v.length<=1000):jv (.no,q9 u) (.no,q9 v)=some (.rt,q9 (u++v)):=by
 rw[vka ⋯ ⋯ (by rw[X3,X3];lia),<-Xj]
section
variable {ss:List Str}{aj:List Sh}(hs:ss.length<=3)(hl:aj.length<=11)(h5:∀w∈aj,w.length<=5)
include hs hl h5
theorem kwu(h1:∀w∈aj,∀p∈w,p.1∈ss)(h2:∀w∈aj,nk (shW w)<=3):Oo xj [(.no,sL ss),(.no,q9 aj)] (λy=>y=(.rt,.lst [.str "taken"])) noX:=
 (kvi hs hl h5).mono λy h=>by
  rcases h with⟨h,_⟩|⟨_,h⟩|⟨_,_,h⟩
  ·exact h
  ·exact absurd h1 h
  ·exact absurd h2 h
theorem kwt{w:Sh}{p:Str×Int}(hw:w∈aj)(hp:p∈w)(h1:p.1∉ss):Oo xj [(.no,sL ss),(.no,q9 aj)] (λy=>y=(.rt,.lst [.bl true,.bl true,.bl false,.bl false])) noX:=
 (kvi hs hl h5).mono λy h=>by
  rcases h with⟨_,h,_⟩|⟨h,_⟩|⟨_,h,_⟩
  ·exact absurd (h w hw p hp) h1
  ·exact h
  ·exact absurd (h w hw p hp) h1
theorem qx6(h1:∀w∈aj,∀p∈w,p.1∈ss){w:Sh}(hw:w∈aj)(h2:3<nk (shW w)):Oo xj [(.no,sL ss),(.no,q9 aj)] (λy=>y=(.rt,.lst [.bl true,.bl false,.bl true,.bl false])) noX:=
 (kvi hs hl h5).mono λy h=>by
  rcases h with⟨_,_,h⟩|⟨_,h⟩|⟨h,_⟩
  ·exact absurd (h w hw) ⋯
  ·exact absurd h1 h
  ·exact h
end
theorem qqi{w:Sh}(h:(ns2 w).Nodup):nk (shW w)=w.length:=by
 rw[wjd];have a:=qqk _ _ h λx hx=>U.ddI_mem.mpr hx
 have b:=qqk _ _ (U.ddI_nd (ns2 w)) λx hx=>U.ddI_mem.mp hx
 rw[X3]at a b;lia
theorem wjr(ns:List Int)(hn:ns.length<=63)(hb:∀i∈ns,Builtin.Int.intBits i<=1048576):Oo m_law [(.no,iL ns)] (λy=>y.2=.bl true) noX:=by
 have n1:fNe (.lst [.str "taken"]) (.lst [.str "taken"])=some (.bl false):=rfl;have n2:fNe (.lst [.bl true,.bl true,.bl false,.bl false]) (.lst [.bl true,.bl true,.bl false,.bl false])=some (.bl false):=rfl;have n3:fNe (.lst [.bl true,.bl false,.bl true,.bl false]) (.lst [.bl true,.bl false,.bl true,.bl false])=some (.bl false):=rfl;have e1:fEq (.lst [.str "taken"]) (.lst [.str "taken"])=some (.bl true):=rfl;have e2:fEq (.lst [.bl true,.bl true,.bl false,.bl false]) (.lst [.bl true,.bl true,.bl false,.bl false])=some (.bl true):=rfl;have lv:∀k:Nat,Oo B.m__law_cell_at [(.no,iL ns),(.no,.int k)] (λy=>∃o':Own,y=(o',.int (B.cellAt ns k))/\True) noX:=λk=>B.cell_ok ns k ⋯
 unfold m_law;rw[vjw];refine qY ?_;simp![];refine(lv 0).use ?_;intro _ _;simp![];refine(qxk _).use ?_;rintro ss ⟨h1,h3,hs⟩;simp![];refine(qx8 ns hn hb h1 h3).use ?_;intro L hT;have hl:=hT.len;simp![];refine(lv 1).use ?_;intro _ _;generalize B.cellAt ns 1=c;have hA0:=Xu c (show(L.length:Int)+1≠0 by lia);have hA1:=Xn c (show 0<(L.length:Int)+1 by lia);have hB0:=Xu (c / 8) (show(L.length:Int)+2≠0 by lia);have hB1:=Xn (c / 8) (show 0<(L.length:Int)+2 by lia);have mA:jW (.int c) (.int (L.length+1))=some (.int (c % (L.length+1))):=mod_i ⋯;have mB:jW (.int (c / 8)) (.int (L.length+2))=some (.int (c / 8 % (L.length+2))):=mod_i ⋯;obtain⟨a,ha⟩:=Yu hA0;obtain⟨b,d9⟩:=Yu hB0;rw[ha]at hA1 mA;rw[d9]at hB1 mB;have ll:kX (q9 L)=some (.int L.length):=by show some (D.int ((L.map lD).length:Nat))=_;rw[X3]
 simp![ll,mA,div_i (a:=c) (b:=8) ⋯ ⋯,mB,div_i (a:=c) (b:=80) ⋯ ⋯];refine(vqw h1 h3 hs).use ?_;rintro u ⟨hu5,p,hp,hpn⟩;have ca:∀o:Own,o≠.dp->_:=λo ho=>wks (o:=o) ho (u:=L) (j:=a) ⋯
 have cb:∀o:Own,o≠.dp->_:=λo ho=>wkr (o:=o) ho (u:=L) (j:=a) ⋯
 have a1:∀r:Sh,jv (.no,q9 (L.take a)) (.no,.lst [lD r])=some (.rt,q9 (L.take a++[r])):=λr=>vj7 (v:=[r]) (by rw[Xx];simp;lia)
 have a2:∀r:Sh,jv (.no,q9 (L.take a++[r])) (.no,q9 (L.drop a))=some (.rt,q9 (qx L a r)):=λr=>vj7 (by rw[Xv,Xx,Ys];simp;lia)
 simp![ca .no ⋯,ca .rt ⋯,cb .no ⋯,cb .rt ⋯,a1,a2];refine(lv 2).use ?_;intro _ _;have hc0:=Xu c (show(2:Int)≠0 by decide);have hc1:=Xn c (show(0:Int)<2 by decide);simp![mod_i (a:=c) (b:=2) ⋯];refine(qjn h1 ⋯ ⋯).use ?_;rintro v ⟨hvl,hv,hvn⟩;have hU:(qx L a u).length=L.length+1:=kwc;have da:∀o:Own,o≠.dp->_:=λo ho=>wks (o:=o) ho (u:=qx L a u) (j:=b) ⋯
 have db:∀o:Own,o≠.dp->_:=λo ho=>wkr (o:=o) ho (u:=qx L a u) (j:=b) ⋯
 have b1:jv (.no,q9 ((qx L a u).take b)) (.no,.lst [lD v])=some (.rt,q9 ((qx L a u).take b++[v])):=vj7 (v:=[v]) (by rw[Xx];simp;lia);have b2:jv (.no,q9 ((qx L a u).take b++[v])) (.no,q9 ((qx L a u).drop b))=some (.rt,q9 (qx (qx L a u) b v)):=vj7 (by rw[Xv,Xx,Ys];simp;lia);generalize hI:qx L a u=U at a2 da db b1 b2 hU;simp![da .no ⋯,da .rt ⋯,db .no ⋯,db .rt ⋯,b1,b2,ca .no ⋯,ca .rt ⋯];refine(lv 2).use ?_;intro _ _;simp![];refine(qjn h1 ⋯ ⋯).use ?_;rintro t ⟨htl,ht,htn⟩;simp![a1,a2,cb .no ⋯,cb .rt ⋯];have hI5:∀r:Sh,r.length<=5->∀w∈qx L a r,w.length<=5:=λr hr w hw=>by
  rcases ins_mem.mp hw with rfl|h
  ·exact hr
  ·exact hT.l5 w h
 have hIs:∀r:Sh,(∀p∈r,p.1∈ss)->∀w∈qx L a r,∀p∈w,p.1∈ss:=λr hr w hw=>by
  rcases ins_mem.mp hw with rfl|h
  ·exact hr
  ·exact hT.sg w h
 have hU5:=hI5 u hu5;have hUu:u∈qx L a u:=ins_mem.mpr (.inl rfl);rw[hI]at hU5 hUu;have lI:∀r:Sh,(qx L a r).length<=11:=λr=>by rw[kwc];lia
 have t1:=kwu h3 (show L.length<=11 by lia) hT.l5 hT.sg hT.n3;have t2:=kwu h3 (lI t) (hI5 t ⋯) (hIs t ht) λw hw=>by
  rcases ins_mem.mp hw with rfl|h
  ·rw[qqi htn];lia
  ·exact hT.n3 w h
 have t3:=kwt h3 (show U.length<=11 by lia) hU5 hUu hp hpn;have t4:=qx6 h3 (lI v) (hI5 v ⋯) (hIs v hv) (ins_mem.mpr (.inl rfl)) (show 3<nk (shW v)by rw[qqi hvn];lia);have t5:=kwt h3 (show(qx U b v).length<=11 by rw[kwc];lia) (λw hw=>by
  rcases ins_mem.mp hw with rfl|h
  ·lia
  ·exact hU5 w h) (ins_mem.mpr (.inr hUu)) hp hpn
 refine t1.via ?_;rintro _ rfl;simp![n1];refine t2.via ?_;rintro _ rfl;simp![n1];refine t3.via ?_;rintro _ rfl;simp![n2,ca .no ⋯,ca .rt ⋯,cb .no ⋯,cb .rt ⋯,a1,a2];refine t4.via ?_;rintro _ rfl;simp![n3];refine t5.via ?_;rintro _ rfl;simp![e2];refine t1.via ?_;rintro _ rfl;simp![e1]
theorem law_true(ns:List Int)(hl:ns.length<=63)(hb:∀i∈ns,Builtin.Int.intBits i<=1048576):∃E o,m_law [(.no,.lst (ns.map D.int))]=some (.ok E (o,.bl true)):=by
 obtain⟨E,⟨o,d⟩,h,hd⟩:=(wjr ns hl hb).out;have hd:d=.bl true:=hd;subst hd;exact⟨E,o,h⟩
end Nk72
namespace Nk72
open PySem L2 L3 Q
def top(i:Nat):Stmt:=PySem.Challenge.pw_freshrooms_k72_tables_refused.main.body.getD i (.Pass ⟨0,0,0,0⟩)
abbrev jwv:Stmt:=top 6
abbrev jq0:Stmt:=top 12
abbrev jwx:Stmt:=top 11
abbrev jxy:Stmt:=top 14
abbrev jwt:Stmt:=top 13
abbrev jwu:Stmt:=top 10
abbrev jww:Stmt:=top 9
abbrev jqg:Stmt:=top 16
abbrev jv5:Stmt:=top 17
abbrev jv2:Stmt:=top 18
abbrev jqq:Stmt:=top 19
abbrev jv4:Stmt:=top 20
abbrev jv3:Stmt:=top 21
abbrev jqf:Stmt:=top 22
abbrev jq1:Stmt:=top 23
abbrev jka:Stmt:=top 24
abbrev jvt:Stmt:=top 25
abbrev vkv:Stmt:=top 26
theorem sc_shape_of:FnScope ["row","numbers","shape","sign","name"] ["row"] (kq jwv):=mkS
theorem sc_beginnings_of:FnScope ["shapes","told","shape"] ["shapes"] (kq jq0):=mkS
theorem kvr:FnScope ["shape"] ["shape"] (kq jwx):=mkS
theorem kzm:FnScope ["shape","numbers"] ["shape","numbers"] (kq jxy):=mkS
theorem sc_steps_at:FnScope ["shape","signs","numbers","names","steps","sign"] ["shape","signs","numbers"] (kq jwt):=mkS
theorem sc_signs_in:FnScope ["shapes","signs","shape"] ["shapes"] (kq jwu):=mkS
theorem sc_plain_by:FnScope ["signs","table","shapes","beginnings","numbers"] ["signs","table"] (kq jww):=mkS
theorem jxx:FnScope ["_law_script","_law_k"] ["_law_script","_law_k"] (kq jqg):=mkS
theorem sc__law_mixed:FnScope ["_law_cell","_law_k","_law_number_here"] ["_law_cell","_law_k"] (kq jv5):=mkS
theorem sc__law_words:FnScope ["_law_cell","_law_many","_law_letters","_law_word","_law_long","_law_at","_law_some","_law_k","_law_turn"] ["_law_cell","_law_many"] (kq jv2):=mkS
theorem jzy:FnScope ["_law_cell"] ["_law_cell"] (kq jqq):=mkS
theorem kk0:FnScope ["_law_cell"] ["_law_cell"] (kq jv4):=mkS
theorem sc__law_table:FnScope ["_law_script","_law_start","_law_signs_here","_law_most","_law_head","_law_one","_law_pool","_law_table_here","_law_k","_law_number_here","_law_row","_law_many","_law_j","_law_part"] ["_law_script","_law_start","_law_signs_here","_law_most"] (kq jv3):=mkS
theorem sc__law_strange:FnScope ["_law_signs_here","_law_cell","_law_some"] ["_law_signs_here","_law_cell"] (kq jqf):=mkS
theorem sc__law_wide_row:FnScope ["_law_signs_here","_law_cell","_law_many","_law_base"] ["_law_signs_here","_law_cell","_law_many"] (kq jq1):=mkS
theorem sc__law_strange_row:FnScope ["_law_signs_here","_law_cell","_law_row","_law_at"] ["_law_signs_here","_law_cell"] (kq jka):=mkS
theorem sc__law_told:FnScope ["_law_signs_here","_law_table_here","_law_word","_law_found","e"] ["_law_signs_here","_law_table_here"] (kq jvt):=mkS
theorem sc_law:FnScope ["_law_script","_law_signs_here","_law_table_here","_law_cell","_law_at","_law_other","_law_strange_here","_law_strange_at","_law_wide","_law_both","_law_three"] ["_law_script"] (kq vkv):=mkS
structure Txt (K:Frag)(mg:Str->Option Value)(a9 a7 a8 ae:Addr):Prop where
 b_ValueError:mg "ValueError"=none
 b_all:mg "all"=none
 b_dict:mg "dict"=none
 b_enumerate:mg "enumerate"=none
 b_isinstance:mg "isinstance"=none
 b_len:mg "len"=none
 b_list:mg "list"=none
 b_range:mg "range"=none
 b_set:mg "set"=none
 b_sorted:mg "sorted"=none
 b_tuple:mg "tuple"=none
 c_MOST_NAMES:Cst mg "MOST_NAMES" (V.int (3))
 n_NoFit:nsIn K mainGlobals "NoFit"=some (some (.ref a9))
 m_NoFit:mg "NoFit"=some (.ref a9)
 e_NoFit:ECls K mg "NoFit" a9
 n_TooGreat:nsIn K mainGlobals "TooGreat"=some (some (.ref a7))
 m_TooGreat:mg "TooGreat"=some (.ref a7)
 e_TooGreat:ECls K mg "TooGreat" a7
 n_RoomError:nsIn K mainGlobals "RoomError"=some (some (.ref a8))
 m_RoomError:mg "RoomError"=some (.ref a8)
 n_NoText:nsIn K mainGlobals "NoText"=some (some (.ref ae))
 m_NoText:mg "NoText"=some (.ref ae)
 h_TooGreat_RoomError:PySem.W.exmOne K (.ref a7) (.ref a8)=some true
 h_NoFit_RoomError:PySem.W.exmOne K (.ref a9) (.ref a8)=some true
 i_TooGreat_ValueError:kitOne K (.ref a7) (.type "ValueError")=some true
 i_NoFit_ValueError:kitOne K (.ref a9) (.type "ValueError")=some true
 i_TooGreat_NoFit:kitOne K (.ref a7) (.ref a9)=some false
 i_NoFit_NoFit:kitOne K (.ref a9) (.ref a9)=some true
 i_TooGreat_TooGreat:kitOne K (.ref a7) (.ref a7)=some true
 i_NoFit_TooGreat:kitOne K (.ref a9) (.ref a7)=some false
 i_TooGreat_NoText:kitOne K (.ref a7) (.ref ae)=some false
 i_NoFit_NoText:kitOne K (.ref a9) (.ref ae)=some false
section
variable (P:Program)(w:PySem.World)(K:Frag)(mg:Str->Option Value)(base:Heap)
abbrev kjp:=kQ P w K mg base 1 "shape_of" ["row"] (spF K mg 1 m_shape_of)
abbrev jvc:=kQ P w K mg base 1 "beginnings_of" ["shapes"] (spF K mg 1 m_beginnings_of)
abbrev jvl:=kQ P w K mg base 1 "names_in" ["shape"] (spF K mg 1 m_names_in)
abbrev kve:=kQ P w K mg base 2 "case_to" ["shape","numbers"] (spF K mg 2 m_case_to)
abbrev kjn:=kQ P w K mg base 3 "steps_at" ["shape","signs","numbers"] (spF K mg 3 m_steps_at)
abbrev kjo:=kQ P w K mg base 1 "signs_in" ["shapes"] (spF K mg 1 m_signs_in)
abbrev kjq:=kQ P w K mg base 4 "plain_by" ["signs","table"] (spF K mg 2 XQ)
abbrev jqi:=kQ P w K mg base 1 "_law_cell_at" ["_law_script","_law_k"] (spF K mg 2 m__law_cell_at)
abbrev Wj:=kQ P w K mg base 1 "_law_mixed" ["_law_cell","_law_k"] (spF K mg 2 m__law_mixed)
abbrev jxb:=kQ P w K mg base 2 "_law_words" ["_law_cell","_law_many"] (spF K mg 2 m__law_words)
abbrev jwp:=kQ P w K mg base 1 "_law_number" ["_law_cell"] (spF K mg 1 m__law_number)
abbrev jxd:=kQ P w K mg base 3 "_law_signs" ["_law_cell"] (spF K mg 1 WZ)
abbrev jxc:=kQ P w K mg base 2 "_law_table" ["_law_script","_law_start","_law_signs_here","_law_most"] (spF K mg 4 XV)
abbrev jvp:=kQ P w K mg base 1 "_law_strange" ["_law_signs_here","_law_cell"] (spF K mg 2 YQ)
abbrev jvd:=kQ P w K mg base 2 "_law_wide_row" ["_law_signs_here","_law_cell","_law_many"] (spF K mg 3 V0)
abbrev jqd:=kQ P w K mg base 2 "_law_strange_row" ["_law_signs_here","_law_cell"] (spF K mg 2 jjl)
abbrev jzu:=kQ P w K mg base 5 "_law_told" ["_law_signs_here","_law_table_here"] (spF K mg 2 xj)
end
section
variable {a9 a7 a8 ae:Addr}
variable {P:Program}{w:PySem.World}{K:Frag}{mg:Str->Option Value}{base:Heap}{f:Addr}{fd:FuncData}
theorem kw1(T:Txt K mg a9 a7 a8 ae)  (F:Fun K "shape_of" "shape_of" jwv f fd):FnOk P w K mg base (CXE P w) 1 f fd ["row"] (spF K mg 1 m_shape_of):=
 qK F sc_shape_of (qQ rfl) λbi A outer s H vs Q E hr h=>have nd:=sc_shape_of.nd;qZ rfl
  (jk (qA nd vz3) (jk (qA nd (kK (o:=.rt) j8)) (jk (qF (vw (cv 0)) (W7 (is:=[3,4]) (YJ K (t:=gNs [3,4]) (n:=2) (zY (gn nd) (zY (gn nd) Ww)))) (jk (xY (wq (qz3 hr.units) qwt (vv 4) (vv 1) (by rfl) qwk) (jV (vxw (i:=1) hr.units (pv 1) (vv 4) (ZW qwc vwa (vv 1) T.b_len vk4))) xZ) (jV (qP (wK (o:=.no) (j4 (cv 3) (j4 (J4 (wvo hr.units (vv 1) (vv 4) (λ_ _=>rfl))) j8))))))) (jV (kJ (Q6 (pv 2))))))) h
theorem jxh(T:Txt K mg a9 a7 a8 ae)  (F:Fun K "beginnings_of" "beginnings_of" jq0 f fd):FnOk P w K mg base (CXE P w) 1 f fd ["shapes"] (spF K mg 1 m_beginnings_of):=
 qK F sc_beginnings_of (qQ rfl) λbi A outer s H vs Q E hr h=>have nd:=sc_beginnings_of.nd;qZ rfl
  (jk (qA nd (kK (o:=.rt) (j4 (wK (o:=.no) (j4 kI (j4 (wK (o:=.no) j8) j8))) j8))) (jk (qF (vw (cv 0)) (gN nd) (jV (vz2 (i:=1) (qM .rt 1 [2] 3 ["end","shape"] (Kj (j3 (oA (j3 (qL (vv 2) T.b_len)) ki)) rfl T.b_range) (λ_ _ _ _ _=>(wK (o:=.no) (j4 (cv 0) (j4 (wvk (vv 1) xW (ww (vv 0))) j8)))))))) (jV (kJ (qm .rt 2 [] 3 ["size","shape"] (vw (wvj rfl rfl hr.units (vv 1) T.b_sorted T.b_set)) (λhN _ _ _ _ _=>(W7 (is:=[0,1]) (YJ K (t:=gNs [0,1]) (n:=2) (zY (wW (i:=0) hN rfl (by trivial)) (zY (wW (i:=1) hN rfl (by trivial)) Ww))))) (λ_ _ _ _ _=>Vw) (λ_ _ _ _ _=>(cv 1))))))) h
theorem kw3(T:Txt K mg a9 a7 a8 ae)  (F:Fun K "names_in" "names_in" jwx f fd):FnOk P w K mg base (CXE P w) 1 f fd ["shape"] (spF K mg 1 m_names_in):=
 qK F kvr (qQ rfl) λbi A outer s H vs Q E hr h=>qZ rfl
  (jV (kJ (qxt rfl rfl (j3 (qm .rt 2 [] 1 ["sign","name"] (vw (cv 0)) (λhN _ _ _ _ _=>(W7 (is:=[0,1]) (YJ K (t:=gNs [0,1]) (n:=2) (zY (wW (i:=0) hN rfl (by trivial)) (zY (wW (i:=1) hN rfl (by trivial)) Ww))))) (λ_ _ _ _ _=>Vw) (λ_ _ _ _ _=>(cv 1)))) T.b_len T.b_set))) h
theorem kzy(T:Txt K mg a9 a7 a8 ae)(aq:jvl P w K mg base)(F:Fun K "case_to" "case_to" jxy f fd):FnOk P w K mg base (CXE P w) 2 f fd ["shape","numbers"] (spF K mg 2 m_case_to):=
 qK F kzm (qQ rfl) λbi A outer s H vs Q E hr h=>qZ rfl
  (jk (xY (wq (qz4 hr.units) qwu (vv 0) (vv 1) (by rfl) qwl) (jV (kJ kN)) xZ) (jV (kJ (wK (o:=.no) (j4 (J4 (wvn hr.units (vv 1) (vv 0) (λ_ _=>rfl))) (j4 (wvi (j3 (qC aq hr (j4 (cv 0) j8))) T.b_range T.b_tuple) j8)))))) h
theorem kvz(T:Txt K mg a9 a7 a8 ae)(aq:jvl P w K mg base)(dh:kve P w K mg base)(F:Fun K "steps_at" "steps_at" jwt f fd):FnOk P w K mg base (CXE P w) 3 f fd ["shape","signs","numbers"] (spF K mg 3 m_steps_at):=
 qK F sc_steps_at (qQ rfl) λbi A outer s H vs Q E hr h=>have nd:=sc_steps_at.nd;qZ rfl
  (jk (qA nd (wvm (j3 (oA (j3 (qC aq hr (j4 (cv 0) j8))) ki)) T.b_range T.b_list)) (jk (qA nd (kK (o:=.rt) j8)) (jk (qF (vw (cv 1)) (gN nd) (jV (qP (qM .rt 1 [0,5,2] 6 ["name","shape","sign","numbers"] (vw (cv 3)) (λ_ _ _ _ _=>(qC dh hr (j4 (oA (vv 1) (j3 (wK (o:=.no) (j4 (wK (o:=.no) (j4 (cv 2) (j4 (cv 0) j8))) j8)))) (j4 (cv 3) j8)))))))) (jV (kJ (Q6 (pv 4))))))) h
theorem kw0(T:Txt K mg a9 a7 a8 ae)  (F:Fun K "signs_in" "signs_in" jwu f fd):FnOk P w K mg base (CXE P w) 1 f fd ["shapes"] (spF K mg 1 m_signs_in):=
 qK F sc_signs_in (qQ rfl) λbi A outer s H vs Q E hr h=>have nd:=sc_signs_in.nd;qZ rfl
  (jk (qA nd (kK (o:=.rt) j8)) (jk (qF (vw (cv 0)) (gN nd) (jV (vz2 (i:=1) (qm .rt 2 [] 3 ["sign","name"] (vw (cv 2)) (λhN _ _ _ _ _=>(W7 (is:=[0,1]) (YJ K (t:=gNs [0,1]) (n:=2) (zY (wW (i:=0) hN rfl (by trivial)) (zY (wW (i:=1) hN rfl (by trivial)) Ww))))) (λ_ _ _ _ _=>Vw) (λ_ _ _ _ _=>(cv 0)))))) (jV (kJ (Q6 (pv 1)))))) h
theorem kw2(T:Txt K mg a9 a7 a8 ae)(b5:jvc P w K mg base)(cf:kjp P w K mg base)(aq:jvl P w K mg base)(cj:kjn P w K mg base)(cq:kjo P w K mg base)(F:Fun K "plain_by" "plain_by" jww f fd):FnOk P w K mg base (CXE P w) 4 f fd ["signs","table"] (spF K mg 2 XQ):=
 qK F sc_plain_by (qQ rfl) λbi A outer s H vs Q E hr h=>have nd:=sc_plain_by.nd;qZ rfl
  (jk (qA nd (qM .rt 1 [] 5 ["row"] (vw (cv 1)) (λ_ _ _ _ _=>(qT (j3 (qC cf hr (j4 (cv 0) j8))) T.b_tuple)))) (jk (xY (qkr (kk1 (j3 (ZW (qwg K) vkd (j3 (qM .rt 1 [0] 5 ["sign","signs"] (vw (qC cq hr (j4 (cv 2) j8))) (λ_ _ _ _ _=>(WJ (wj7 hr.units) wq9 (vv 0) (vv 1) (by rfl))))) T.b_all vk5)))) (jV (qkv T.e_NoFit T.m_NoFit KW kxe)) xZ) (jk (xY (qkr (kk1 (j3 (ZW (qwg K) vkd (j3 (qM .rt 1 [] 5 ["shape"] (vw (cv 2)) (λ_ _ _ _ _=>(WJ wj4 (vwb (g:=λa b=>decide (a<=b))) (j3 (qC aq hr (j4 (cv 0) j8))) (j3 (q_C (vzx T.c_MOST_NAMES) (λ_=>xx))) (wX _))))) T.b_all vk5)))) (jV (qkv T.e_TooGreat T.m_TooGreat KW kxe)) xZ) (jk (qA nd (qC b5 hr (j4 (cv 2) j8))) (jk (qA nd (wvh (qjd hr.units) vja (j3 (qm .rt 2 [] 5 ["number","shape"] (vxv (cv 3) rfl T.b_enumerate) (λhN _ _ _ _ _=>(W7 (is:=[0,1]) (YJ K (t:=gNs [0,1]) (n:=2) (zY (wW (i:=0) hN rfl (by trivial)) (zY (wW (i:=1) hN rfl (by trivial)) Ww))))) (λ_ _ _ _ _=>Vw) (λ_ _ _ _ _=>(wK (o:=.no) (j4 (cv 1) (j4 (cv 0) j8)))))) T.b_dict vw7)) (jV (kJ (wK (o:=.no) (j4 (wvh (qzy K) vw9 (vv 0) T.b_list qwi) (j4 (qM .rt 1 [2,0,4] 5 ["shape","shapes","signs","numbers"] (vw (cv 3)) (λ_ _ _ _ _=>(wK (o:=.no) (j4 (qC aq hr (j4 (cv 0) j8)) (j4 (WJ (wj7 hr.units) wq9 (vv 0) (vv 1) (by rfl)) (j4 (qC cj hr (j4 (cv 0) (j4 (cv 2) (j4 (cv 3) j8)))) j8)))))) j8)))))))))) h
theorem jz5(T:Txt K mg a9 a7 a8 ae)  (F:Fun K "_law_cell_at" "_law_cell_at" jqg f fd):FnOk P w K mg base (CXE P w) 1 f fd ["_law_script","_law_k"] (spF K mg 2 m__law_cell_at):=
 qK F jxx (qQ rfl) λbi A outer s H vs Q E hr h=>qZ rfl
  (jk (xY (wq ww3 (vwb (g:=λa b=>decide (a<b))) (vv 1) (j3 (qL (vv 0) T.b_len)) (wX _) wkw) (jV (kJ (J4 (kx (vv 0) (vv 1))))) xZ) (jV (kJ kI))) h
theorem kkb(T:Txt K mg a9 a7 a8 ae)  (F:Fun K "_law_mixed" "_law_mixed" jv5 f fd):FnOk P w K mg base (CXE P w) 1 f fd ["_law_cell","_law_k"] (spF K mg 2 m__law_mixed):=
 qK F sc__law_mixed (qQ rfl) λbi A outer s H vs Q E hr h=>have nd:=sc__law_mixed.nd;qZ rfl
  (jk (xY (wq (V1 hr.units) Qj (j3 (oM (vv 0) ki)) ki (wX _) vj5) (jV (kJ (k9 vX wj (vv 0) (j3 (k9 wj2 wq4 ki (j3 (oX ki (vv 1)))))))) xZ) (jk (qA nd (oM (j3 (oX (j3 (oA (j3 (oA (j3 (oM (vv 0) ki)) (j3 (oX ki (vv 1))))) ki)) ki)) ki)) (jk (qA nd (oM (j3 (oX (vv 2) (vv 2))) ki)) (jV (kJ (oM (j3 (oA (j3 (oX (vv 2) (vv 2))) (j3 (oX ki (vv 1))))) ki)))))) h
theorem kk8(T:Txt K mg a9 a7 a8 ae)(ak:Wj P w K mg base)(F:Fun K "_law_words" "_law_words" jv2 f fd):FnOk P w K mg base (CXE P w) 2 f fd ["_law_cell","_law_many"] (spF K mg 2 m__law_words):=
 qK F sc__law_words (qQ rfl) λbi A outer s H vs Q E hr h=>have nd:=sc__law_words.nd;qZ rfl
  (jk (qA nd kS) (jk (qA nd (vxu kxe (j3 (qM .rt 1 [2,0] 9 ["_law_j","_law_letters","_law_cell"] (Kj ki rfl T.b_range) (λ_ _ _ _ _=>(J4 (kx (vv 1) (j3 (oM (j3 (qC ak hr (j4 (cv 2) (j4 (cv 0) j8)))) ki))))))))) (jk (xY (wq (V1 hr.units) Qj (j3 (oM (vv 0) ki)) ki (wX _) vj5) (jV (kJ (qM .rt 1 [3,0] 9 ["_law_k","_law_word","_law_cell"] (Kj (vv 1) rfl T.b_range) (λ_ _ _ _ _=>(xv (vv 1) xW (ww (j3 (oA ki (j3 (oM (j3 (oA (vv 0) (j3 (k9 vX wj (vv 2) ki)))) ki)))))))))) xZ) (jk (qA nd (oA ki (j3 (oM (j3 (k9 vX wj (vv 0) ki)) ki)))) (jk (qA nd (oM (j3 (k9 vX wj (vv 0) ki)) (vv 4))) (jk (qA nd (kK (o:=.rt) j8)) (jk (qF (Kj (vv 1) rfl T.b_range) (gN nd) (jk (qA nd (oM (j3 (oA (j3 (vxx (vv 2) (kx (vv 3) (vv 5)))) (j3 (oX (vv 7) (j3 (oA ki (j3 (oM (j3 (k9 vX wj (vv 0) ki)) ki)))))))) ki)) (jV (qP (oA (j3 (oA (j3 (xv (vv 3) xW (ww (vv 5)))) (kx (vv 2) (vv 8)))) (j3 (xv (vv 3) (ww (j3 (oA (vv 5) ki))) (ww (vv 4))))))))) (jV (kJ (Q6 (pv 6))))))))))) h
theorem jzz(T:Txt K mg a9 a7 a8 ae)  (F:Fun K "_law_number" "_law_number" jqq f fd):FnOk P w K mg base (CXE P w) 1 f fd ["_law_cell"] (spF K mg 1 m__law_number):=
 qK F jzy (qQ rfl) λbi A outer s H vs Q E hr h=>qZ rfl
  (jk (xY (wq (V1 hr.units) Qj (j3 (oM (vv 0) ki)) ki (wX _) vj5) (jV (kJ (k9 kxi kzd (j3 (oM (j3 (k9 vX wj (vv 0) ki)) ki)) ki))) xZ) (jV (kJ (oA (j3 (k9 kxi kzd (j3 (oM (j3 (oX (vv 0) (j3 (k9 VY V5 ki ki)))) (j3 (k9 kxi kzd (j3 (oX ki (j3 (k9 VY V5 ki ki)))) ki)))) (j3 (k9 VY V5 ki ki)))) ki)))) h
theorem kka(T:Txt K mg a9 a7 a8 ae)(bu:jxb P w K mg base)(F:Fun K "_law_signs" "_law_signs" jv4 f fd):FnOk P w K mg base (CXE P w) 3 f fd ["_law_cell"] (spF K mg 1 WZ):=
 qK F kk0 (qQ rfl) λbi A outer s H vs Q E hr h=>qZ rfl
  (jV (kJ (ZW (kwj rfl) qws (j3 (qC bu hr (j4 (k9 vX wj (vv 0) ki) (j4 (oA ki (j3 (oM (vv 0) ki))) j8)))) T.b_sorted qwh))) h
theorem kk9(T:Txt K mg a9 a7 a8 ae)(ag:jqi P w K mg base)(bo:jwp P w K mg base)(ak:Wj P w K mg base)(F:Fun K "_law_table" "_law_table" jv3 f fd):FnOk P w K mg base (CXE P w) 2 f fd ["_law_script","_law_start","_law_signs_here","_law_most"] (spF K mg 4 XV):=
 qK F sc__law_table (qQ rfl) λbi A outer s H vs Q E hr h=>have nd:=sc__law_table.nd;qZ rfl
  (jk (qA nd (qC ag hr (j4 (cv 0) (j4 (cv 1) j8)))) (jk (qA nd (qC bo hr (j4 (qC ag hr (j4 (cv 0) (j4 (oA (vv 1) ki) j8))) j8))) (jk (qA nd (kK (o:=.rt) (j4 (cv 5) (j4 (oA (j3 (k9 vX wj (vv 5) ki)) (j3 (k9 VY V5 ki ki))) (j4 (k9 kxi kzd (j3 (k9 vX wj (vv 5) ki)) (j3 (k9 VY V5 ki ki))) j8))))) (jk (qA nd (kK (o:=.rt) j8)) (jk (qF (Kj (j3 (oM (vv 4) (j3 (oA (vv 3) ki)))) rfl T.b_range) (gN nd) (jk (qA nd (qC ak hr (j4 (qC ag hr (j4 (cv 0) (j4 (oA (j3 (oA (vv 1) ki)) (vv 8)) j8))) (j4 kI j8)))) (jk (qA nd (kK (o:=.rt) j8)) (jk (qA nd (oM (vv 9) ki)) (jk (qF (Kj (vv 11) rfl T.b_range) (gN nd) (jk (qA nd (k9 vX wj (vv 9) (kx (j3 (kK (o:=.rt) (j4 kI (j4 kI (j4 kI (j4 kI (j4 kI j8))))))) (vv 12)))) (jV (qP (wK (o:=.no) (j4 (J4 (kx (vv 2) (j3 (oM (vv 13) (j3 (qL (vv 2) T.b_len)))))) (j4 (J4 (kx (vv 6) (j3 (oM (j3 (k9 vX wj (vv 13) ki)) ki)))) j8))))))) (jV (qP (cv 10)))))))) (jV (kJ (Q6 (pv 7))))))))) h
theorem jz4(T:Txt K mg a9 a7 a8 ae)  (F:Fun K "_law_strange" "_law_strange" jqf f fd):FnOk P w K mg base (CXE P w) 1 f fd ["_law_signs_here","_law_cell"] (spF K mg 2 YQ):=
 qK F sc__law_strange (qQ rfl) λbi A outer s H vs Q E hr h=>have nd:=sc__law_strange.nd;qZ rfl
  (jk (qA nd (oA (j3 (oA (j3 (qM .rt 1 [] 3 ["_law_sign"] (vw (cv 0)) (λ_ _ _ _ _=>(oA (vv 0) ks)))) (j3 (qM .rt 1 [] 3 ["_law_sign"] (vw (cv 0)) (λ_ _ _ _ _=>(xv (vv 0) xW (ww (j3 (wxn vjc vkb ki))))))))) (j3 (kK (o:=.rt) (j4 kS (j4 kS (j4 kS (j4 (oA (kx (vv 0) ki) ks) j8)))))))) (jk (qku (i:=2) (o:=.rt) (k:=1) (R:=[0]) ["_law_sign","_law_signs_here"] nd rfl (by trivial) (vw (cv 2)) (λ_ _ _ _ _=>(ZV (wW (i:=0) (show(["_law_sign","_law_signs_here"]:List Str).Nodup by decide +kernel) rfl (by trivial)))) (λ_ _ _ _ _=>(vxq (QW.pt (qkt (wq (kxj hr.units) kze (vv 0) (vv 1) (by rfl) kza) (qkt (kk1 (j3 (qkw (vv 0)))) (qks (wq wj4 (vwb (g:=λa b=>decide (a<=b))) (j3 (qL (vv 0) T.b_len)) ki (wX _) wkw))))))) (λ_ _ _ _ _=>(cv 0)) KW ⟨_,_,rfl,rfl⟩ ⋯ (show ∀j∈([0]:List Nat) ,j<3 by decide)) (jk (qA nd (oA (vv 2) (j3 (xv (j3 (qm .rt 1 [0] 3 ["_law_sign","_law_signs_here"] (vw (kK (o:=.rt) (j4 kS (j4 kS (j4 kS (j4 kS j8)))))) (λhN _ _ _ _ _=>(ZV (wW (i:=0) hN rfl (by trivial)))) (λ_ _ _ _ _=>(vxq (wq (kxj hr.units) kze (vv 0) (vv 1) (by rfl) kza))) (λ_ _ _ _ _=>(cv 0)))) xW (ww ki))))) (jV (kJ (J4 (kx (vv 2) (j3 (oM (vv 1) (j3 (qL (vv 2) T.b_len))))))))))) h
theorem jxi(T:Txt K mg a9 a7 a8 ae)(ak:Wj P w K mg base)(F:Fun K "_law_wide_row" "_law_wide_row" jq1 f fd):FnOk P w K mg base (CXE P w) 2 f fd ["_law_signs_here","_law_cell","_law_many"] (spF K mg 3 V0):=
 qK F sc__law_wide_row (qQ rfl) λbi A outer s H vs Q E hr h=>have nd:=sc__law_wide_row.nd;qZ rfl
  (jk (qA nd (oM (vv 1) (j3 (k9 VY V5 ki ki)))) (jV (kJ (qM .rt 1 [0,1,3] 4 ["_law_j","_law_signs_here","_law_cell","_law_base"] (Kj (vv 2) rfl T.b_range) (λ_ _ _ _ _=>(wK (o:=.no) (j4 (J4 (kx (vv 1) (j3 (oM (j3 (qC ak hr (j4 (cv 2) (j4 (cv 0) j8)))) (j3 (qL (vv 1) T.b_len)))))) (j4 (oA (vv 3) (kx (j3 (kK (o:=.rt) (j4 (cv 0) (j4 (wxn vjc vkb (vv 0)) j8)))) (j3 (oM (vv 2) ki)))) j8)))))))) h
theorem jvw(T:Txt K mg a9 a7 a8 ae)(bf:jvp P w K mg base)(ak:Wj P w K mg base)(F:Fun K "_law_strange_row" "_law_strange_row" jka f fd):FnOk P w K mg base (CXE P w) 2 f fd ["_law_signs_here","_law_cell"] (spF K mg 2 jjl):=
 qK F sc__law_strange_row (qQ rfl) λbi A outer s H vs Q E hr h=>have nd:=sc__law_strange_row.nd;qZ rfl
  (jk (qku (i:=2) (o:=.rt) (k:=1) (R:=[0,1]) ["_law_j","_law_signs_here","_law_cell"] nd rfl (by trivial) (Kj (j3 (oA ki (j3 (oM (vv 1) ki)))) rfl T.b_range) (λ_ _ _ _ _=>(ZV (wW (i:=0) (show(["_law_j","_law_signs_here","_law_cell"]:List Str).Nodup by decide +kernel) rfl (by trivial)))) (λ_ _ _ _ _=>Vw) (λ_ _ _ _ _=>(wK (o:=.no) (j4 (J4 (kx (vv 1) (j3 (oM (j3 (qC ak hr (j4 (cv 2) (j4 (cv 0) j8)))) (j3 (qL (vv 1) T.b_len)))))) (j4 (oM (vv 0) ki) j8)))) KW ⟨_,_,rfl,rfl⟩ ⋯ (show ∀j∈([0,1]:List Nat) ,j<4 by decide)) (jk (qA nd (oM (j3 (k9 vX wj (vv 1) ki)) (j3 (qL (vv 2) T.b_len)))) (jk (wvl (i:=2) (pv 2) (vv 3) (wK (o:=.no) (j4 (qC bf hr (j4 (cv 0) (j4 (k9 vX wj (vv 1) ki) j8))) (j4 (J4 (kx (kx (vv 2) (vv 3)) ki)) j8)))) (jV (kJ (Q6 (pv 2))))))) h
theorem kqd(T:Txt K mg a9 a7 a8 ae)(ci:kjq P w K mg base)(F:Fun K "_law_told" "_law_told" jvt f fd):FnOk P w K mg base (CXE P w) 5 f fd ["_law_signs_here","_law_table_here"] (spF K mg 2 xj):=
 qK F sc__law_told (qQ rfl) λbi A outer s H vs Q E hr h=>have nd:=sc__law_told.nd;qZ rfl
  (jk (qA nd (kK (o:=.rt) (j4 kS j8))) (jk (qA nd kN) (jk (vxr (i:=4) (j:=3) (cs:=["NoFit","TooGreat"]) nd rfl rfl ⟨_,_,rfl,rfl⟩ T.m_RoomError rfl (jzq T.e_NoFit T.n_NoFit T.h_NoFit_RoomError (jzq T.e_TooGreat T.n_TooGreat T.h_TooGreat_RoomError qjc)) rfl (by trivial) (vq3 ci (hr.mono ⋯) (j4 (cv 0) (j4 (cv 1) j8))) (λx_x=>(jV (qA nd (kK (o:=.rt) (j4 (qxu (vv 4) T.b_isinstance (qqb (v:=.ty "ValueError") rfl T.b_ValueError kkq rfl) rfl (vjt T.n_NoFit T.i_NoFit_ValueError (vjt T.n_TooGreat T.i_TooGreat_ValueError kkh))) (j4 (qxu (vv 4) T.b_isinstance (qq7 T.m_NoFit) rfl (Qv T.n_NoFit T.i_NoFit_NoFit (Qv T.n_TooGreat T.i_TooGreat_NoFit kkh))) (j4 (qxu (vv 4) T.b_isinstance (qq7 T.m_TooGreat) rfl (Qv T.n_NoFit T.i_NoFit_TooGreat (Qv T.n_TooGreat T.i_TooGreat_TooGreat kkh))) (j4 (qxu (vv 4) T.b_isinstance (qq7 T.m_NoText) rfl (Qv T.n_NoFit T.i_NoFit_NoText (Qv T.n_TooGreat T.i_TooGreat_NoText kkh))) j8))))))))) (jk (xY (QW.pt (qkt (wq (V1 hr.units) Qj (vv 2) (j3 (kK (o:=.rt) (j4 kS j8))) (wX _) vj5) (qks (QW.pt (vxs (qkr (kk1 (j3 (wvp (vv 3) T.b_isinstance T.b_tuple kkp rfl)))) (vjh (wq (WX hr.units) Zz (j3 (qL (vv 3) T.b_len)) ki (wX _) Zw))))))) (jV (kJ (kK (o:=.rt) j8))) xZ) (jV (kJ (Q6 (pv 2)))))))) h
theorem wj9(T:Txt K mg a9 a7 a8 ae)(bt:jxd P w K mg base)(br:jxc P w K mg base)(ag:jqi P w K mg base)(ay:jqd P w K mg base)(ax:jvd P w K mg base)(av:jzu P w K mg base)(F:Fun K "law" "law" vkv f fd):FnOk P w K mg base (CXE P w) 6 f fd ["_law_script"] (spF K mg 1 m_law):=
 qK F sc_law (qQ rfl) λbi A outer s H vs Q E hr h=>have nd:=sc_law.nd;qZ rfl
  (jk (qA nd (qC bt hr (j4 (qC ag hr (j4 (cv 0) (j4 kI j8))) j8))) (jk (qA nd (qC br hr (j4 (cv 0) (j4 kI (j4 (cv 1) (j4 kI j8)))))) (jk (qA nd (qC ag hr (j4 (cv 0) (j4 kI j8)))) (jk (qA nd (oM (vv 3) (j3 (oA (j3 (qL (vv 2) T.b_len)) ki)))) (jk (qA nd (oM (j3 (k9 vX wj (vv 3) ki)) (j3 (oA (j3 (qL (vv 2) T.b_len)) ki)))) (jk (qA nd (qC ay hr (j4 (cv 1) (j4 (k9 vX wj (vv 3) ki) j8)))) (jk (qA nd (oA (j3 (oA (j3 (xv (vv 2) xW (ww (vv 4)))) (j3 (kK (o:=.rt) (j4 (cv 6) j8))))) (j3 (xv (vv 2) (ww (vv 4)) xW)))) (jk (qA nd (qC ax hr (j4 (cv 1) (j4 (qC ag hr (j4 (cv 0) (j4 kI j8))) (j4 (oA ki (j3 (oM (vv 3) ki))) j8))))) (jk (qA nd (oA (j3 (oA (j3 (xv (vv 7) xW (ww (vv 5)))) (j3 (kK (o:=.rt) (j4 (cv 8) j8))))) (j3 (xv (vv 7) (ww (vv 5)) xW)))) (jk (qA nd (oA (j3 (oA (j3 (xv (vv 2) xW (ww (vv 4)))) (j3 (kK (o:=.rt) (j4 (qC ax hr (j4 (cv 1) (j4 (qC ag hr (j4 (cv 0) (j4 kI j8))) (j4 kI j8)))) j8))))) (j3 (xv (vv 2) (ww (vv 4)) xW)))) (jk (xY (QW.pt (vxs (wq (WX hr.units) Zz (j3 (qC av hr (j4 (cv 1) (j4 (cv 2) j8)))) (j3 (kK (o:=.rt) (j4 kS j8))) (wX _) Zw) (vjh (wq (WX hr.units) Zz (j3 (qC av hr (j4 (cv 1) (j4 (cv 10) j8)))) (j3 (kK (o:=.rt) (j4 kS j8))) (wX _) Zw)))) (jV (kJ (q_C vY (λ_=>vx)))) xZ) (jk (xY (wq (WX hr.units) Zz (j3 (qC av hr (j4 (cv 1) (j4 (cv 7) j8)))) (j3 (kK (o:=.rt) (j4 (q_C vY (λ_=>vx)) (j4 (q_C vY (λ_=>vx)) (j4 (q_C vY (λ_=>vx)) (j4 (q_C vY (λ_=>vx)) j8)))))) (wX _) Zw) (jV (kJ (q_C vY (λ_=>vx)))) xZ) (jk (xY (wq (WX hr.units) Zz (j3 (qC av hr (j4 (cv 1) (j4 (oA (j3 (oA (j3 (xv (vv 2) xW (ww (vv 4)))) (j3 (kK (o:=.rt) (j4 (cv 8) j8))))) (j3 (xv (vv 2) (ww (vv 4)) xW))) j8)))) (j3 (kK (o:=.rt) (j4 (q_C vY (λ_=>vx)) (j4 (q_C vY (λ_=>vx)) (j4 (q_C vY (λ_=>vx)) (j4 (q_C vY (λ_=>vx)) j8)))))) (wX _) Zw) (jV (kJ (q_C vY (λ_=>vx)))) xZ) (jV (kJ (wvt (j3 (WJ (V1 hr.units) Qj (j3 (qC av hr (j4 (cv 1) (j4 (cv 9) j8)))) (j3 (kK (o:=.rt) (j4 (q_C vY (λ_=>vx)) (j4 (q_C vY (λ_=>vx)) (j4 (q_C vY (λ_=>vx)) (j4 (q_C vY (λ_=>vx)) j8)))))) (wX _))) (vxt (WJ (V1 hr.units) Qj (j3 (qC av hr (j4 (cv 1) (j4 (cv 2) j8)))) (j3 (kK (o:=.rt) (j4 kS j8))) (wX _))))))))))))))))))) h
end
theorem all_mk{l:PySem.W.OpenLaw}{w:PySem.World}{K:Frag}{h:Heap}{mg:Str->Option Value}{fa:Addr}(X:K.In h)(G:h.Ns mainGlobals mg)(hfa:mg "law"=some (.ref fa)){cy:Value}{a9 a7 a8 ae:Addr}
  (g0:Gf K "shape_of" jwv)
  (g1:Gf K "beginnings_of" jq0)
  (g2:Gf K "names_in" jwx)
  (g3:Gf K "case_to" jxy)
  (g4:Gf K "steps_at" jwt)
  (g5:Gf K "signs_in" jwu)
  (g6:Gf K "plain_by" jww)
  (g7:Gf K "_law_cell_at" jqg)
  (g8:Gf K "_law_mixed" jv5)
  (g9:Gf K "_law_words" jv2)
  (g10:Gf K "_law_number" jqq)
  (g11:Gf K "_law_signs" jv4)
  (g12:Gf K "_law_table" jv3)
  (g13:Gf K "_law_strange" jqf)
  (g14:Gf K "_law_wide_row" jq1)
  (g15:Gf K "_law_strange_row" jka)
  (g16:Gf K "_law_told" jvt)
  (g17:Gf K "law" vkv)
  (q_MOST_NAMES:nsIn K mainGlobals "MOST_NAMES"=some (some cy)) (r_MOST_NAMES:RelV (V.int (3)) cy)
  (z_ValueError:nsIn K mainGlobals "ValueError"=some none)
  (z_all:nsIn K mainGlobals "all"=some none)
  (z_dict:nsIn K mainGlobals "dict"=some none)
  (z_enumerate:nsIn K mainGlobals "enumerate"=some none)
  (z_isinstance:nsIn K mainGlobals "isinstance"=some none)
  (z_len:nsIn K mainGlobals "len"=some none)
  (z_list:nsIn K mainGlobals "list"=some none)
  (z_range:nsIn K mainGlobals "range"=some none)
  (z_set:nsIn K mainGlobals "set"=some none)
  (z_sorted:nsIn K mainGlobals "sorted"=some none)
  (z_tuple:nsIn K mainGlobals "tuple"=some none)
  (n_NoFit:nsIn K mainGlobals "NoFit"=some (some (.ref a9)))
  (ec_NoFit:PySem.W.excIn K a9 bmV "ValueError.__new__"=true) (ga_NoFit:findIn K (.ref a9) "__getattribute__"=some (some (.builtin "BaseException.__getattribute__"))) (gt_NoFit:findIn K (.ref a9) "__getattr__"=some none) (fa_NoFit:findIn K (.ref a9) "__class__"=some (some (.builtin "object.__class__"))) (fg_NoFit:PySem.W.specialIn K (.builtin "object.__class__") "__get__"=some (some (.builtin "getset_descriptor.__get__"))) (ft_NoFit:PySem.W.takesIn K (.builtin "object.__class__")=some true) (ob_NoFit:PySem.W.mroIn K a9 (.type "object")=some true) (bx_NoFit:PySem.W.mroIn K a9 (.type "BaseException")=some true) (cl_NoFit:PySem.W.isClsIn K a9=true)
  (n_TooGreat:nsIn K mainGlobals "TooGreat"=some (some (.ref a7)))
  (ec_TooGreat:PySem.W.excIn K a7 bmV "ValueError.__new__"=true) (ga_TooGreat:findIn K (.ref a7) "__getattribute__"=some (some (.builtin "BaseException.__getattribute__"))) (gt_TooGreat:findIn K (.ref a7) "__getattr__"=some none) (fa_TooGreat:findIn K (.ref a7) "__class__"=some (some (.builtin "object.__class__"))) (fg_TooGreat:PySem.W.specialIn K (.builtin "object.__class__") "__get__"=some (some (.builtin "getset_descriptor.__get__"))) (ft_TooGreat:PySem.W.takesIn K (.builtin "object.__class__")=some true) (ob_TooGreat:PySem.W.mroIn K a7 (.type "object")=some true) (bx_TooGreat:PySem.W.mroIn K a7 (.type "BaseException")=some true) (cl_TooGreat:PySem.W.isClsIn K a7=true)
  (n_RoomError:nsIn K mainGlobals "RoomError"=some (some (.ref a8)))
  (n_NoText:nsIn K mainGlobals "NoText"=some (some (.ref ae)))
  (h_TooGreat_RoomError:PySem.W.exmOne K (.ref a7) (.ref a8)=some true)
  (h_NoFit_RoomError:PySem.W.exmOne K (.ref a9) (.ref a8)=some true)
  (i_TooGreat_ValueError:kitOne K (.ref a7) (.type "ValueError")=some true)
  (i_NoFit_ValueError:kitOne K (.ref a9) (.type "ValueError")=some true)
  (i_TooGreat_NoFit:kitOne K (.ref a7) (.ref a9)=some false)
  (i_NoFit_NoFit:kitOne K (.ref a9) (.ref a9)=some true)
  (i_TooGreat_TooGreat:kitOne K (.ref a7) (.ref a7)=some true)
  (i_NoFit_TooGreat:kitOne K (.ref a9) (.ref a7)=some false)
  (i_TooGreat_NoText:kitOne K (.ref a7) (.ref ae)=some false)
  (i_NoFit_NoText:kitOne K (.ref a9) (.ref ae)=some false)
  : ∃fd:FuncData,(∀(s:Shared) (v:Value),BindsTo s fd ⟨[v],[]⟩ [("_law_script",v)])/\∀base:Heap,K.In base->base.Ns mainGlobals mg->FnOk l.prog w K mg base (CXE l.prog w) 6 fa fd ["_law_script"] (spF K mg 1 m_law):=by
 have T:Txt K mg a9 a7 a8 ae:=⟨Ye X G z_ValueError,Ye X G z_all,Ye X G z_dict,Ye X G z_enumerate,Ye X G z_isinstance,Ye X G z_len,Ye X G z_list,Ye X G z_range,Ye X G z_set,Ye X G z_sorted,Ye X G z_tuple,⟨_,Za X G q_MOST_NAMES,r_MOST_NAMES⟩,n_NoFit,Za X G n_NoFit,⟨Za X G n_NoFit,ec_NoFit,qjm ga_NoFit gt_NoFit fa_NoFit fg_NoFit ft_NoFit ob_NoFit bx_NoFit cl_NoFit⟩,n_TooGreat,Za X G n_TooGreat,⟨Za X G n_TooGreat,ec_TooGreat,qjm ga_TooGreat gt_TooGreat fa_TooGreat fg_TooGreat ft_TooGreat ob_TooGreat bx_TooGreat cl_TooGreat⟩,n_RoomError,Za X G n_RoomError,n_NoText,Za X G n_NoText,h_TooGreat_RoomError,h_NoFit_RoomError,i_TooGreat_ValueError,i_NoFit_ValueError,i_TooGreat_NoFit,i_NoFit_NoFit,i_TooGreat_TooGreat,i_NoFit_TooGreat,i_TooGreat_NoText,i_NoFit_NoText⟩;refine g17.law X G hfa fun {base _ _} F=>?_
 have cf:kjp l.prog w K mg base:=g0.d X G (kw1 T );have b5:jvc l.prog w K mg base:=g1.d X G (jxh T );have aq:jvl l.prog w K mg base:=g2.d X G (kw3 T );have dh:kve l.prog w K mg base:=g3.d X G (kzy T aq);have cj:kjn l.prog w K mg base:=g4.d X G (kvz T aq dh);have cq:kjo l.prog w K mg base:=g5.d X G (kw0 T );have ci:kjq l.prog w K mg base:=g6.d X G (kw2 T b5 cf aq cj cq);have ag:jqi l.prog w K mg base:=g7.d X G (jz5 T );have ak:Wj l.prog w K mg base:=g8.d X G (kkb T );have bu:jxb l.prog w K mg base:=g9.d X G (kk8 T ak);have bo:jwp l.prog w K mg base:=g10.d X G (jzz T );have bt:jxd l.prog w K mg base:=g11.d X G (kka T bu);have br:jxc l.prog w K mg base:=g12.d X G (kk9 T ag bo ak);have bf:jvp l.prog w K mg base:=g13.d X G (jz4 T );have ax:jvd l.prog w K mg base:=g14.d X G (jxi T ak);have ay:jqd l.prog w K mg base:=g15.d X G (jvw T bf ak);have av:jzu l.prog w K mg base:=g16.d X G (kqd T ci);exact wj9 T bt br ag ay ax av F
end Nk72
namespace PySem.W.Fast
def tw12782123266213560284:=()
def tw14587773418178179032:=()
def tw12627535328225609500:=()
def tw3615414401141464466:=()
def tw52397027685250622:=()
def tw4259706622089466893:=()
def tw5379620763674504845:=()
def tw8458026710810047481:=()
def tw18377872253355076132:=()
def tw5261442318394564495:=()
def tw5508314433070050834:=()
def tw9972541480399239833:=()
def tw16840330748899626130:=()
def tw13856359643178074040:=()
def tw7863848141743459425:=()
def tw16746281574636027577:=()
def tw15618625064505651599:=()
def tw7672915409971215026:=()
def tw9948846507399666959:=()
def tw914990616448736978:=()
def tw17915827390340053372:=()
def tw8125745860416471468:=()
def tw14307648523311092917:=()
def tw4969994685111028095:=()
def tw3755145630658600488:=()
def tw13134499558696834092:=()
def tw15684160180449329385:=()
def tw171228935498846208:=()
def tw11822058989875743682:=()
def tw7714347456037773917:=()
def tw17819428156468720119:=()
def tw15618467333759871616:=()
def tw4439609196161802464:=()
def tw1020147386359261049:=()
def tw7578390568711182321:=()
def tw13079965298844288229:=()
def tw11938925260319521472:=()
def tw7602870041708930436:=()
def tw14688083585254650659:=()
def tw10956029385824487760:=()
def tw13446656821716778716:=()
def tw2492687597371570360:=()
def tw9498380437670676617:=()
def tw18018508925860295485:=()
def tw17619244645341521995:=()
def tw7490241506696518274:=()
def tw4617020759629745091:=()
def tw9560418620218870161:=()
def tw13587566913979348179:=()
def tw7270539984004924018:=()
def tw12717274930814699049:=()
def tw15193942173134606759:=()
def tw9349570524502549747:=()
def tw3639468913900103540:=()
def tw15821021405028838826:=()
def tw2294663110836493376:=()
def tw10337952167052741297:=()
def tw16862938505252165121:=()
def tw13806961620841386980:=()
def tw16844301804681340068:=()
def tw14150395176431091749:=()
def tw2092118102679654734:=()
def tw5156765158232006626:=()
def tw9443315438285204773:=()
def tw17363729644592031537:=()
def tw57584116641815297:=()
def tw8224457962888476197:=()
def tw10458891252951142582:=()
def tw13122913833364225278:=()
def tw16196623590171466813:=()
def tw14621870843370375457:=()
def tw17031573045349491593:=()
end PySem.W.Fast
open PySem PySem.W PyProof.Rows
set_option maxRecDepth 100000 in
set_option maxHeartbeats 0 in
theorem PySem.Challenge.cw_freshrooms_k72_tables_refused_holds : PySem.Challenge.rw_freshrooms_k72_tables_refused.Holds := by
 w_on;o_law;k_head;(case hw=>w_witness2)
 k_fill
 refine Q.walkQ (l:=PySem.Challenge.rw_freshrooms_k72_tables_refused) (n:=63) (k:=6) (x:="_law_script") (f:=Nk72.m_law) rfl ⋯ rfl ⟨rfl,⋯,⋯,rfl⟩ (fun w h Y=>PySem.W.kIn_of Y) ?F Nk72.law_true
 case F =>
  intro w mg fa h KX G hmg
  refine' Nk72.all_mk KX G hmg ?_ ?_ ?_ ?_ ?_ ?_ ?_ ?_ ?_ ?_ ?_ ?_ ?_ ?_ ?_ ?_ ?_ ?_ ?q_MOST_NAMES ?r_MOST_NAMES ?z_ValueError ?z_all ?z_dict ?z_enumerate ?z_isinstance ?z_len ?z_list ?z_range ?z_set ?z_sorted ?z_tuple ?n_NoFit ?ec_NoFit ?ga_NoFit ?gt_NoFit ?fa_NoFit ?fg_NoFit ?ft_NoFit ?ob_NoFit ?bx_NoFit ?cl_NoFit ?n_TooGreat ?ec_TooGreat ?ga_TooGreat ?gt_TooGreat ?fa_TooGreat ?fg_TooGreat ?ft_TooGreat ?ob_TooGreat ?bx_TooGreat ?cl_TooGreat ?n_RoomError ?n_NoText ?h_TooGreat_RoomError ?h_NoFit_RoomError ?i_TooGreat_ValueError ?i_NoFit_ValueError ?i_TooGreat_NoFit ?i_NoFit_NoFit ?i_TooGreat_TooGreat ?i_NoFit_TooGreat ?i_TooGreat_NoText ?i_NoFit_NoText
  all_goals try (refine' Q.Gf.mk ?a ?b ?c ?d;(case a=>k_is);(case b=>k_is);(case c=>k_is);(case d=>k_is))
  (case q_MOST_NAMES=>k_is)
  (case r_MOST_NAMES=>exact ⟨_,rfl⟩)
  (case z_ValueError=>k_is)
  (case z_all=>k_is)
  (case z_dict=>k_is)
  (case z_enumerate=>k_is)
  (case z_isinstance=>k_is)
  (case z_len=>k_is)
  (case z_list=>k_is)
  (case z_range=>k_is)
  (case z_set=>k_is)
  (case z_sorted=>k_is)
  (case z_tuple=>k_is)
  (case n_NoFit=>k_is)
  (case ec_NoFit=>k_exc)
  (case ga_NoFit=>k_is)
  (case gt_NoFit=>k_is)
  (case fa_NoFit=>k_is)
  (case fg_NoFit=>k_is)
  (case ft_NoFit=>k_is)
  (case ob_NoFit=>k_is)
  (case bx_NoFit=>k_is)
  (case cl_NoFit=>k_is)
  (case n_TooGreat=>k_is)
  (case ec_TooGreat=>k_exc)
  (case ga_TooGreat=>k_is)
  (case gt_TooGreat=>k_is)
  (case fa_TooGreat=>k_is)
  (case fg_TooGreat=>k_is)
  (case ft_TooGreat=>k_is)
  (case ob_TooGreat=>k_is)
  (case bx_TooGreat=>k_is)
  (case cl_TooGreat=>k_is)
  (case n_RoomError=>k_is)
  (case n_NoText=>k_is)
  (case h_TooGreat_RoomError=>kts_exm)
  (case h_NoFit_RoomError=>kts_exm)
  (case i_TooGreat_ValueError=>kit_is)
  (case i_NoFit_ValueError=>kit_is)
  (case i_TooGreat_NoFit=>kit_is)
  (case i_NoFit_NoFit=>kit_is)
  (case i_TooGreat_TooGreat=>kit_is)
  (case i_NoFit_TooGreat=>kit_is)
  (case i_TooGreat_NoText=>kit_is)
  (case i_NoFit_NoText=>kit_is)
