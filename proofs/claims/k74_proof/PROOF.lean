import PyProof.Rows.All
import Wide.All
import OpenK.AllK
import Wide.FinOn
import Lean
import PySem.Challenge.RW_freshrooms_k74_whole_shapes_of_tables
open PySem.W(Frag kitOne nsIn findIn)
set_option Elab.async false
set_option linter.all false
set_option bootstrap.genMatcherCode false
set_option compiler.extract_closed false
set_option maxRecDepth 100000
local macro_rules|`(⋯)=>`(by first|decide|lia)
local macro_rules|`(tactic|ac_rfl)=>`(tactic|with_unfolding_all rfl)
local macro_rules|`(tactic|exists$e)=>`(tactic|with_unfolding_all exact$e)
abbrev VP9:=PySem.Value->PySem.Shared->Prop
abbrev LA9:=List (PySem.Addr×PySem.Obj)
abbrev Kq9(k:List Int):=∀p∈k,0<=p/\p<=3
theorem aA{α}{a:α}{s t:List α}:a∈s++t->a∈s∨a∈t:=List.mem_append.mp
theorem aB{α}{a b:α}:a=b->a∈[b]:=List.mem_singleton.mpr
theorem aC{α}{a b:α}:a∈[b]->a=b:=List.mem_singleton.mp
theorem aD{α}{a b:α}{l:List α}:a∈b::l->a=b∨a∈l:=List.mem_cons.mp
theorem aE{α β}{f:α->β}{l:List α}{b:β}:b∈l.map f->∃a,a∈l∧f a=b:=List.mem_map.mp
local macro_rules|`(tactic|trivial)=>`(tactic|first|exact Or.inl rfl|exact Or.inr rfl)
def Ŕq(_:True:=by rfl):True:=trivial
def Ŕq.z:True:=trivial
open Ŕq renaming _auto_1→Ŕ
def ŕq(_:True:=by decide):True:=trivial
def ŕq.z:True:=trivial
open ŕq renaming _auto_1→ŕ
def Ŗq(_:True:=by intro _;rfl):True:=trivial
def Ŗq.z:True:=trivial
open Ŗq renaming _auto_1→Ŗ
def ŗq(_:True:=by decide +kernel):True:=trivial
def ŗq.z:True:=trivial
open ŗq renaming _auto_1→ŗ
def Řq(_:True:=by first|exact .inl rfl|exact .inr rfl|assumption):True:=trivial
def Řq.z:True:=trivial
open Řq renaming _auto_1→Ř
def řq(_:True:=by first|exact Or.inl rfl|exact Or.inr (Or.inl rfl)|exact Or.inr (Or.inr rfl)):True:=trivial
def řq.z:True:=trivial
open řq renaming _auto_1→ř
def Śq(_:True:=by trivial):True:=trivial
def Śq.z:True:=trivial
open Śq renaming _auto_1→Ś
def śq(_:True:=by first|exact .inl rfl|exact .inr rfl):True:=trivial
def śq.z:True:=trivial
open śq renaming _auto_1→ś
theorem oq9{α : Type _}{a b : α}(h:some a=some b):a=b:=Option.some.inj h
theorem lr9{α : Type _}{a : α}{b : List α}(c : List α)(h:a ∈ b):a ∈ c ++ b:=List.mem_append_right c h
theorem ll9{α : Type _}{a : α}{b : List α}(c : List α)(h:a ∈ b):a ∈ b ++ c:=List.mem_append_left c h
theorem lc9{α : Type _}{a : α}{l : List α}(b : α)(h:a ∈ l):a ∈ b::l:=List.mem_cons_of_mem b h
section
open PySem PySem.Spec PyProof.Rows
theorem X0:type_of% @wpAny_bind:=@wpAny_bind
theorem X1:type_of% @List.length_map:=@List.length_map
theorem X2:type_of% @List.getElem?_eq_getElem:=@List.getElem?_eq_getElem
theorem X3:type_of% @Heap.get?_push_of_some:=@Heap.get?_push_of_some
theorem X4:type_of% @wpAny_pure:=@wpAny_pure
theorem X5:type_of% @List.mem_cons_self:=@List.mem_cons_self
theorem X6:type_of% @if_pos:=@if_pos
theorem X7:type_of% @Array.length_toList:=@Array.length_toList
theorem X8:type_of% @if_neg:=@if_neg
theorem X9:type_of% @List.size_toArray:=@List.size_toArray
theorem Xa:type_of% @Nat.le_refl:=@Nat.le_refl
theorem Xb:type_of% @decide_eq_true:=@decide_eq_true
theorem Xd:type_of% @Heap.lt_size:=@Heap.lt_size
theorem Xe:type_of% @List.getElem?_map:=@List.getElem?_map
theorem Xf:type_of% @List.map_append:=@List.map_append
theorem Xg:type_of% @Heap.get?_push_size:=@Heap.get?_push_size
theorem Xh:type_of% @List.map_map:=@List.map_map
theorem Xi:type_of% @decide_eq_false:=@decide_eq_false
theorem Xj:type_of% @Array.getElem?_eq_getElem:=@Array.getElem?_eq_getElem
theorem Xk:type_of% @List.length_cons:=@List.length_cons
theorem Xl:type_of% @Nat.ne_of_lt:=@Nat.ne_of_lt
theorem Xm:type_of% @List.nodup_append:=@List.nodup_append
theorem Xn:type_of% @Nat.lt_of_lt_of_le:=@Nat.lt_of_lt_of_le
theorem Xp:type_of% @List.length_append:=@List.length_append
def Xq:type_of% @List.append_nil:=@List.append_nil
theorem Xr:type_of% @List.getD_eq_getElem?_getD:=@List.getD_eq_getElem?_getD
theorem Xs:type_of% @List.mem_map_of_mem:=@List.mem_map_of_mem
theorem Xu:type_of% @List.length_range:=@List.length_range
theorem Xv:type_of% @List.mem_of_getElem?:=@List.mem_of_getElem?
theorem Xw:type_of% @Array.getElem?_toList:=@Array.getElem?_toList
theorem Xx:type_of% @Int.emod_lt_of_pos:=@Int.emod_lt_of_pos
theorem Xy:type_of% @Int.toNat_natCast:=@Int.toNat_natCast
theorem Xz:type_of% @List.mem_cons:=@List.mem_cons
theorem Y0:type_of% @AutoSeq1.wpAny_loadPart':=@AutoSeq1.wpAny_loadPart'
theorem Y1:type_of% @wpAny_newObj_type:=@wpAny_newObj_type
theorem Y2:type_of% @List.getElem_mem:=@List.getElem_mem
theorem Y3:type_of% @Int.emod_nonneg:=@Int.emod_nonneg
theorem Y4:type_of% @List.append_assoc:=@List.append_assoc
theorem Y5:type_of% @List.length_take:=@List.length_take
theorem Y6:type_of% @wpAny_call_entry:=@wpAny_call_entry
theorem Y7:type_of% @List.all_eq_true:=@List.all_eq_true
theorem Y8:type_of% @List.not_mem_nil:=@List.not_mem_nil
theorem Y9:type_of% @wpAny_holding:=@wpAny_holding
theorem Ya:type_of% @PyProof.Rows.callWith_type1:=@PyProof.Rows.callWith_type1
theorem Yb:type_of% @Around.under_plainId:=@Around.under_plainId
theorem Yc:type_of% @List.pairwise_map:=@List.pairwise_map
theorem Yd:type_of% @Nat.zero_le:=@Nat.zero_le
theorem Ye:type_of% @beq_false_of_ne:=@beq_false_of_ne
theorem Yf:type_of% @List.nodup_nil:=@List.nodup_nil
theorem Yg:type_of% @List.idxOf_lt_length_of_mem:=@List.idxOf_lt_length_of_mem
theorem Yh:type_of% @Heap.get?_update_self:=@Heap.get?_update_self
theorem Yi:type_of% @List.getElem?_eq_none:=@List.getElem?_eq_none
theorem Yj:type_of% @List.map_congr_left:=@List.map_congr_left
theorem Yk:type_of% @PySem.W.kia_one:=@PySem.W.kia_one
theorem Yl:type_of% @wpAny_setState_of:=@wpAny_setState_of
theorem Ym:type_of% @List.getElem?_append_left:=@List.getElem?_append_left
theorem Yn:type_of% @Nat.le_trans:=@Nat.le_trans
theorem Yo:type_of% @PySem.W.mg_none_of:=@PySem.W.mg_none_of
theorem Yp:type_of% @List.find?_cons:=@List.find?_cons
def Yq:type_of% @codeAny_builtin:=@codeAny_builtin
theorem Yr:type_of% @sizeLine_eq:=@sizeLine_eq
theorem Ys:type_of% @of_decide_eq_true:=@of_decide_eq_true
theorem Yt:type_of% @Nat.lt_succ_of_lt:=@Nat.lt_succ_of_lt
theorem Yu:type_of% @Array.getD_eq_getD_getElem?:=@Array.getD_eq_getD_getElem?
theorem Yv:type_of% @wpAny_callSpecial?_slot:=@wpAny_callSpecial?_slot
theorem Yw:type_of% @wpAny_Call_Name_kw:=@wpAny_Call_Name_kw
theorem Yx:type_of% @Heap.SameBut.update:=@Heap.SameBut.update
theorem Yy:type_of% @List.flatMap_cons:=@List.flatMap_cons
theorem Yz:type_of% @List.length_singleton:=@List.length_singleton
theorem Z0:type_of% @List.foldl_cons:=@List.foldl_cons
theorem Z1:type_of% @Nat.lt_irrefl:=@Nat.lt_irrefl
theorem Z2:type_of% @List.nodup_iff_pairwise_ne:=@List.nodup_iff_pairwise_ne
theorem Z3:type_of% @PySem.mem_of_lookup:=@PySem.mem_of_lookup
theorem Z4:type_of% @Heap.get?_update_ne:=@Heap.get?_update_ne
theorem Z5:type_of% @wpAny_specialOf:=@wpAny_specialOf
theorem Z6:type_of% @PyProof.Rows.slot_tuple_getitem:=@PyProof.Rows.slot_tuple_getitem
theorem Z7:type_of% @List.drop_eq_getElem_cons:=@List.drop_eq_getElem_cons
theorem Z8:type_of% @List.length_replicate:=@List.length_replicate
theorem Z9:type_of% @List.take_append_drop:=@List.take_append_drop
theorem Za:type_of% @List.perm_append_comm:=@List.perm_append_comm
theorem Zb:type_of% @wpAny_typeOf:=@wpAny_typeOf
theorem Zc:type_of% @List.getElem?_set_ne:=@List.getElem?_set_ne
theorem Zd:type_of% @wpAny_setField:=@wpAny_setField
theorem Ze:type_of% @List.foldl_append:=@List.foldl_append
theorem Zf:type_of% @Int.eq_ofNat_of_zero_le:=@Int.eq_ofNat_of_zero_le
theorem Zg:type_of% @Heap.get?_update_other:=@Heap.get?_update_other
theorem Zh:type_of% @List.take_of_length_le:=@List.take_of_length_le
theorem Zi:type_of% @plainId_quiet:=@plainId_quiet
theorem Zj:type_of% @List.length_drop:=@List.length_drop
theorem Zk:type_of% @List.take_length:=@List.take_length
theorem Zl:type_of% @List.filter_append:=@List.filter_append
theorem Zm:type_of% @wpAny_truthy_bool:=@wpAny_truthy_bool
theorem Zn:type_of% @List.flatten_cons:=@List.flatten_cons
theorem Zo:type_of% @List.lookup_cons:=@List.lookup_cons
theorem Zp:type_of% @wpAny_forIn_list:=@wpAny_forIn_list
def Zq:type_of% @wpAny_askSetting:=@wpAny_askSetting
theorem Zr:type_of% @wpAny_field:=@wpAny_field
theorem Zs:type_of% @True.intro:=@True.intro
theorem Zt:type_of% @List.any_map:=@List.any_map
theorem Zu:type_of% @Nat.succ.inj:=@Nat.succ.inj
end
noncomputable section
namespace L2
open PySem PySem.Spec PyProof.Rows
abbrev Key:=Sum Int Str
def QY:Key->Value->Bool
 |.inl k,v=>Value.isInt k v|.inr x,v=>Value.isStrOf x v
def keyH(w:World):Key->Int
 |.inl k=>hashInt k|.inr x=>hashStr w x
theorem JX:∀{k:Key} {v:Value},QY k v=true->(∃i t,k=Sum.inl i/\v=Value.int i t)\/(∃x t,k=Sum.inr x/\v=Value.str x t)
 |.inl i,v,h=>by
  obtain⟨t,e⟩:=Value.isInt_shape (k:=i) (v:=v) h;exact .inl ⟨i,t,rfl,e⟩
 |.inr x,v,h=>by
  obtain⟨t,e⟩:=Value.isStrOf_shape (x:=x) (v:=v) h;exact .inr ⟨x,t,rfl,e⟩
theorem qw2(i:Int)(t:Tok):QY (.inl i) (.int i t)=true:=by simp[QY,Value.isInt]
theorem qw1(x:Str)(t:Tok):QY (.inr x) (.str x t)=true:=by simp[QY,Value.isStrOf]
theorem wks(a b:Int):decide ((Sum.inl a:Key)=Sum.inl b)=(a==b):=by
 by_cases e:a=b
 ·subst e;simp
 ·have h:¬(Sum.inl a:Key)=Sum.inl b:=λq=>e (Sum.inl.inj q)
  rw[Xi h];exact(beq_eq_false_iff_ne.mpr e).symm
theorem wkp(a b:Str):decide ((Sum.inr a:Key)=Sum.inr b)=decide (a=b):=by
 by_cases e:a=b
 ·subst e;simp
 ·have h:¬(Sum.inr a:Key)=Sum.inr b:=λq=>e (Sum.inr.inj q)
  rw[Xi h,Xi e]
theorem wkr(a:Int)(b:Str):decide ((Sum.inl a:Key)=Sum.inr b)=false:=Xi (λq=>nomatch q)
theorem wkq(a:Str)(b:Int):decide ((Sum.inr a:Key)=Sum.inl b)=false:=Xi (λq=>nomatch q)
noncomputable def x6(prog:Program)(w:World):PySem.KeyKind prog w Key where
 is:=QY
 hash:=keyH w
 inj:=λv a b ha hb=>by
  rcases JX ha with⟨i,t,rfl,rfl⟩|⟨x,t,rfl,rfl⟩
  ·rcases JX hb with⟨j,u,rfl,e⟩|⟨y,u,rfl,e⟩
   ·injection e with e1 _;rw[e1]
   ·exact nomatch e
  ·rcases JX hb with⟨j,u,rfl,e⟩|⟨y,u,rfl,e⟩
   ·exact nomatch e
   ·injection e with e1 _;rw[e1]
 byValue:=λk v h=>by
  rcases JX h with⟨i,t,rfl,rfl⟩|⟨x,t,rfl,rfl⟩<;>rfl
 pyHash:=λhv h=>by
  rcases JX hv with⟨i,t,rfl,rfl⟩|⟨x,t,rfl,rfl⟩
  ·exact wpAny_pyHash_int h
  ·exact wpAny_pyHash_str h
 eqBool:=λhu hv h=>by
  rcases JX hu with⟨i,t,rfl,rfl⟩|⟨x,t,rfl,rfl⟩
  ·rcases JX hv with⟨j,u,rfl,rfl⟩|⟨y,u,rfl,rfl⟩
   ·rw[wks]at h;exact wpAny_eqBool_int h
   ·rw[wkr]at h;exact SeqAt.EqAt.int_str i t y u _ _ _ _ h
  ·rcases JX hv with⟨j,u,rfl,rfl⟩|⟨y,u,rfl,rfl⟩
   ·rw[wkq]at h;exact SeqAt.EqAt.str_int x t j u _ _ _ _ h
   ·rw[wkp]at h;exact wpAny_eqBool_str h
 «strs»:=λk x t v h=>by
  rcases JX h with⟨i,u,rfl,e⟩|⟨y,u,rfl,e⟩
  ·exact nomatch e
  ·injection e with e1 _;subst e1;cases v<;>rfl
theorem kx0(prog:Program)(w:World)(i:Int)(t:Tok):(x6 prog w).is (.inl i) (.int i t)=true:=qw2 i t
theorem kwz(prog:Program)(w:World)(x:Str)(t:Tok):(x6 prog w).is (.inr x) (.str x t)=true:=qw1 x t
inductive V where
 |non|bl (b:Bool)|int (i:Int)|str (x:Str)|byt (b:Array UInt8)|flt (b:UInt64)|ref (a:Addr)|ty (n:String)
 deriving DecidableEq
def RelV:V->Value->Prop
 |.non,u=>u=Value.none|.bl b,u=>u=Value.bool b|.int i,u=>∃t,u=Value.int i t|.str x,u=>∃t,u=Value.str x t|.byt b,u=>∃t,u=Value.bytes b t|.flt b,u=>∃t,u=Value.float b t|.ref a,u=>u=Value.ref a|.ty n,u=>u=Value.type n
abbrev Vals:List V->List Value->Prop:=Paired RelV
theorem Vals.length{xs:List V}{us:List Value}(r:Vals xs us):xs.length=us.length:=Paired.length r
theorem Vals.get:∀{xs:List V} {us:List Value} {i:Nat} {x:V},Vals xs us->xs[i]?=some x->∃u,us[i]?=some u/\RelV x u
 |_,_,_,_,.nil,e=>by simp at e|_,_,0,_,.cons r _,e=>by simp at e;subst e;exact⟨_,rfl,r⟩
 |_,_,i+1,x,.cons _ t,e=>by
  obtain⟨u,h1,h2⟩:=Vals.get (i:=i) (x:=x) t (by simpa using e);exact⟨u,by simpa using h1,h2⟩
theorem Vals.append:∀{xs ys:List V} {us ws:List Value},Vals xs us->Vals ys ws->Vals (xs++ys) (us++ws)
 |_,_,_,_,.nil,s=>s|_,_,_,_,.cons r t,s=>.cons r (Vals.append t s)
theorem Vals.take:∀{xs:List V} {us:List Value} (n:Nat),Vals xs us->Vals (xs.take n) (us.take n)
 |_,_,0,_=>.nil|_,_,_+1,.nil=>.nil|_,_,n+1,.cons r t=>.cons r (Vals.take n t)
theorem Vals.drop:∀{xs:List V} {us:List Value} (n:Nat),Vals xs us->Vals (xs.drop n) (us.drop n)
 |_,_,0,r=>r|_,_,_+1,.nil=>.nil|_,_,n+1,.cons _ t=>Vals.drop n t
def RelO:Option V->Option Value->Prop
 |some v,some u=>RelV v u|none,none=>True|_,_=>False
def KV{κ:Type}:List (κ×V)->List (κ×Value)->Prop:=Paired λ(p:κ×V) (q:κ×Value)=>p.1=q.1/\RelV p.2 q.2
def kV:Key->V
 |.inl i=>.int i|.inr x=>.str x
inductive HO where
 |lst (xs:List V)
 |tup (xs:List V)
 |dK (a9:List (Key×V))|dT (a9:List (List Key×V))
 |set (S:Int->Bool) (n:Nat)
 |ins (C dx:Addr) (fs:List (Str×V))
 |own (x:Addr)
 |xd (fs:List (Str×V))
 |met (f x:Addr)
 |rng (lo hi:Int)
 |frz (o:Obj) (u:HO)
 |tbl (ps:Array Value)
 |ext (φ:World->Heap->Prop)
abbrev Hp:=Addr->Option HO
def IsTupD(h:Heap)(a:Addr)(items:Array Value):Prop:=∃o,h.get? a=some o/\o.cls=.type "tuple"/\o.dict=none/\∃n,o.data=.seq items n
theorem IsTupD.tup{h:Heap}{a:Addr}{items:Array Value}(p:IsTupD h a items):IsTup h a items:=by
 obtain⟨o,e,c,_,n,d⟩:=p;exact⟨o,e,c,n,d⟩
theorem IsTupD.new(h:Heap)(xs:Array Value):IsTupD (h.push { cls:=.type "tuple",data:=.seq xs }) h.objs.size xs:=⟨_,Xg _ rfl,rfl,rfl,0,rfl⟩
def upd(H:Hp)(a:Addr)(o:HO):Hp:=λb=>if b=a then some o else H b
theorem vX{H:Hp}{a:Addr}{o:HO}:upd H a o a=some o:=by unfold upd;rw[X6 rfl]
theorem k9{H:Hp}{a b:Addr}{o:HO}(h:b≠a):upd H a o b=H b:=by unfold upd;rw[X8 h]
theorem wwo{H:Hp}{a b:Addr}{o u:HO}(h:H a=some o)(h':H b=some u)(d:o≠u):a≠b:=by
 intro e;subst e;rw[h]at h';exact d (oq9 h')
theorem z6{H:Hp}{a b:Addr}{o:HO}(h:H a=some o)(h':H b=none):a≠b:=by
 intro e;subst e;rw[h]at h';cases h'
section
variable (P:Program)(w:World)
noncomputable def ObjOk(H : Hp)(h : Heap)(a : Addr): HO -> Prop
  |.lst xs=>xs.length<=sizeLine /\ ∃(a8 : List Value) (n : Nat), Vals xs a8 /\ h.get? a = some { cls:= .type "list", data:= .seq a8.toArray n }|.tup xs=>xs.length<=sizeLine /\ ∃a8 : List Value, Vals xs a8 /\ IsTupD h a a8.toArray|.dK a9=>a9.length<=sizeLine /\ (a==sysModules) = false /\ ∃vs, KV a9 vs /\ h.DictOf (x6 P w) a vs
  |.dT a9=>a9.length<=sizeLine /\ (a==sysModules) = false /\ ∃xs : List (List Key × Addr × Value),
      Paired (λ(p : List Key × V) (q : List Key × Addr × Value)=>p.1 = q.1 /\ H q.2.1 = some (.tup (p.1.map kV)) /\ RelV p.2 q.2.2) a9 xs /\
      ∃o es ep, h.get? a = some o /\ o.ExactDict /\ o.data = .dict es ep /\ es.toList = xs.map (entryOfKey (tupleKind (x6 P w))) /\ (xs.map (·.1)).Nodup
  |.set S n=>h.SetOf (intKind P w) a S n
  |.ins C dx fs=>H dx = some (.own a) /\ fs.length<=1000 /\ dx≠a /\ h.get? a = some (PySem.W.instObj C dx) /\
      ∃mA, h.Ns1 dx mA /\ (∀f, RelO (fs.lookup f) (mA f)) /\ PySem.Within mA (fs.map (·.1))
  |.own _=> ∃o, h.get? a = some o|.xd fs=> ∃mA, h.Ns1 a mA /\ ∀f, RelO (fs.lookup f) (mA f)|.rng lo hi=> ∃t u v, h.get? a = some { cls:= .type "range", data:= .fields #[.int lo t, .int hi u, .int 1 v] }|.frz o u=>h.get? a = some o /\ ObjOk H h a u|.tbl ps=>h.get? a = some { cls:= .none, data:= .fields ps }|.met f x=>h.get? a = some (PySem.W.methodObj (.ref f) (.ref x))|.ext φ=>φ w h /\ (∃o, h.get? a = some o) /\ ∀h1 h2 : Heap, φ w h1 -> (∀o, h1.get? a = some o -> h2.get? a = some o) -> φ w h2
def HOk(H:Hp)(h:Heap):Prop:=∀a o,H a=some o->ObjOk P w H h a o
end
section
variable {P:Program}{w:World}{H H':Hp}{h h':Heap}{a:Addr}{o:HO}
theorem ObjOk.lt(x:ObjOk P w H h a o):a<h.objs.size:=by
 cases o with|lst xs=>obtain⟨_,_,_,_,e⟩:=x;exact Xd e|tup xs=>obtain⟨_,_,_,p⟩:=x;exact p.tup.lt|dK a9=>obtain⟨_,_,_,_,o,_,_,e,_⟩:=x;exact Xd e|dT a9=>obtain⟨_,_,_,_,o,_,_,e,_⟩:=x;exact Xd e|set S n=>obtain⟨o,_,_,_,e,_⟩:=x;exact Xd e|ins C dx fs=>obtain⟨_,_,_,e,_⟩:=x;exact Xd e|own y=>obtain⟨_,e⟩:=x;exact Xd e|xd fs=>obtain⟨_,⟨_,_,_,e,_⟩,_⟩:=x;exact Xd e|rng lo hi=>obtain⟨_,_,_,e⟩:=x;exact Xd e|frz ob u=>obtain⟨e,_⟩:=x;exact Xd e|tbl ps=>exact Xd (show h.get? a=some _ from x)|met f y=>exact Xd (show h.get? a=some _ from x)|ext φ=>obtain⟨_,⟨_,e⟩,_⟩:=x;exact Xd e
theorem Paired.mapP{α β:Type}{F G:α->β->Prop}:∀{l₁:List α} {l₂:List β},Paired F l₁ l₂->(∀a b,F a b->G a b)->Paired G l₁ l₂
 |_,_,.nil,_=>.nil|_,_,.cons r t,f=>.cons (f _ _ r) (Paired.mapP t f)
theorem ObjOk.stay(x:ObjOk P w H h a o)(k:∀b u,(b=a\/H b=some (.own a))->h.get? b=some u->h'.get? b=some u)
  (ho:∀b,H b=some (.own a)->H' b=some (.own a)) (ht:∀b xs,H b=some (.tup xs)->H' b=some (.tup xs)):ObjOk P w H' h' a o:=by
 induction o with
 |lst xs=>obtain⟨z,a8,n,r,e⟩:=x;exact⟨z,a8,n,r,k _ _ (.inl rfl) e⟩|tup xs=>obtain⟨z,a8,r,ob,e,c⟩:=x;exact⟨z,a8,r,ob,k _ _ (.inl rfl) e,c⟩|dK a9=>obtain⟨z,y,vs,r,ob,es,ep,e,c⟩:=x;exact⟨z,y,vs,r,ob,es,ep,k _ _ (.inl rfl) e,c⟩
 |dT a9=>
  obtain⟨z,y,xs,r,ob,es,ep,e,c⟩:=x;exact⟨z,y,xs,Paired.mapP r λp q z=>⟨z.1,ht _ _ z.2.1,z.2.2⟩,ob,es,ep,k _ _ (.inl rfl) e,c⟩
 |set S n=>obtain⟨ob,es,ep,t,e,c⟩:=x;exact⟨ob,es,ep,t,k _ _ (.inl rfl) e,c⟩
 |ins C dx fs=>
  obtain⟨d,z,ne,e,mA,⟨od,es,ep,e2,c⟩,r⟩:=x;exact⟨ho _ d,z,ne,k _ _ (.inl rfl) e,mA,⟨od,es,ep,k _ _ (.inr d) e2,c⟩,r⟩
 |own y=>obtain⟨ob,e⟩:=x;exact⟨ob,k _ _ (.inl rfl) e⟩|xd fs=>obtain⟨mA,⟨od,es,ep,e,c⟩,r⟩:=x;exact⟨mA,⟨od,es,ep,k _ _ (.inl rfl) e,c⟩,r⟩|rng lo hi=>obtain⟨t,u,v,e⟩:=x;exact⟨t,u,v,k _ _ (.inl rfl) e⟩|frz ob u ih=>obtain⟨e,q⟩:=x;exact⟨k _ _ (.inl rfl) e,ih q⟩
 |tbl ps=>
  have e:h.get? a=some { cls:=.none,data:=.fields ps }:=x;show h'.get? a=some { cls:=.none,data:=.fields ps };exact k a _ (.inl rfl) e
 |met f y=>
  have e:h.get? a=some (PySem.W.methodObj (.ref f) (.ref y)):=x;show h'.get? a=some (PySem.W.methodObj (.ref f) (.ref y));exact k a _ (.inl rfl) e
 |ext φ=>obtain⟨p,⟨o,e⟩,st⟩:=x;exact⟨st _ _ p λo q=>k _ _ (.inl rfl) q,⟨o,k _ _ (.inl rfl) e⟩,st⟩
theorem HOk.lt(x:HOk P w H h)(e:H a=some o):a<h.objs.size:=(x a o e).lt
theorem HOk.fresh(x:HOk P w H h)(e:h.objs.size<=a):H a=none:=by
 cases q:H a with|none=>rfl|some u=>exact absurd (Xn (x.lt q) e) (Z1 _)
theorem HOk.kept(x:HOk P w H h)(k:∀b u,h.get? b=some u->h'.get? b=some u):HOk P w H h':=λa o e=>
 (x a o e).stay (λb u _ q=>k b u q) (λ_ q=>q) λ_ _ q=>q
theorem HOk.laid(x:HOk P w H h)(k:∀b u,h.get? b=some u->h'.get? b=some u)(hp:h.objs.size<=a)(new:ObjOk P w (upd H a o) h' a o):HOk P w (upd H a o) h':=λb u e=>by
 have hn:=x.fresh hp
 by_cases hb:b=a
 ·subst hb;rw[vX]at e;cases e;exact new
 ·rw[k9 hb]at e;exact(x b u e).stay (λc v _ q=>k c v q) (λc q=>by rw[k9 (z6 q hn)];exact q) λc xs q=>by rw[k9 (z6 q hn)];exact q
end
def Rd(H:Hp)(a:Addr)(u:HO):Prop:=H a=some u\/∃o,H a=some (.frz o u)
theorem Rd.ok{P:Program}{w:World}{H:Hp}{h:Heap}{a:Addr}{u:HO}(r:Rd H a u)(x:HOk P w H h):ObjOk P w H h a u:=by
 rcases r with r|⟨o,r⟩
 ·exact x a u r
 ·obtain⟨_,q⟩:=x a _ r;exact q
def Mut:Option HO->Prop
 |some (.lst _)=>True|some (.dK _)=>True|some (.dT _)=>True|some (.set _ _)=>True|some (.ins _ _ _)=>True|some (.ext _)=>True|_=>False
section
variable {P:Program}{w:World}{H:Hp}{h h':Heap}{x e:Addr}{o':HO}
theorem HOk.write(ok:HOk P w H h)(mu:Mut (H x))(he:e=x\/H e=some (.own x))(k:∀b u,b≠e->h.get? b=some u->h'.get? b=some u)(n9:∃u,h'.get? e=some u)
  (new:ObjOk P w (upd H x o') h' x o'):HOk P w (upd H x o') h':=λb u q=>by
 have oh:∀c y,H c=some (.own y)->c≠x:=λc y r z=>by subst z;rw[r]at mu;exact mu
 have ntup:∀c xs,H c=some (.tup xs)->c≠x:=λc xs r z=>by subst z;rw[r]at mu;exact mu
 by_cases hb:b=x
 ·subst hb;rw[vX]at q;cases q;exact new
 ·rw[k9 hb]at q
  by_cases hbe:b=e
  ·have q':H b=some (.own x):=by
    rcases he with z|z
    ·exact absurd (hbe.trans z) hb
    ·rw[hbe];exact z
   rw[q]at q';cases q';obtain⟨v,hv⟩:=n9;exact⟨v,by rw[hbe];exact hv⟩
  ·refine(ok b u q).stay (λc v hc r=>k c v ?_ r) (λc r=>by rw[k9 (oh c b r)];exact r) λc xs r=>by rw[k9 (ntup c xs r)];exact r
   rcases hc with rfl|hc
   ·exact hbe
   ·rintro rfl;rcases he with z|z
    ·exact oh c b hc z
    ·rw[hc]at z;cases z;exact hb rfl
end
structure Un (fs ex:List Addr)(H H':Hp)(h h':Heap):Prop where
 keep:∀b o,h.get? b=some o->H b=none->b∉fs->b∉ex->h'.get? b=some o
 slot:∀b o,h.get? b=some o->H b=none->b∈fs->b∉ex->∃sl,h'.get? b=some { o with slots:=sl }
 free:∀b o,h.get? b=some o->H b=none->b∉ex->H' b=none
 there:∀b o,h.get? b=some o->b∉ex->∃o',h'.get? b=some o'
 tups:∀b xs,H b=some (.tup xs)->H' b=some (.tup xs)
 frzs:∀b o u,H b=some (.frz o u)->H' b=some (.frz o u)
 tbls:∀b ps,H b=some (.tbl ps)->∃more,H' b=some (.tbl (ps++more))
section
variable {fs fs' ex ex':List Addr}{H H1 H2:Hp}{h h1 h2 h':Heap}{a x e:Addr}{o:HO}
theorem Un.any(u:Un fs ex H H1 h h1){b:Addr}{ob:Obj}(q:h.get? b=some ob)(n:H b=none)(hx:b∉ex):∃sl,h1.get? b=some { ob with slots:=sl }:=by
 by_cases hb:b∈fs
 ·exact u.slot b ob q n hb hx
 ·exact⟨ob.slots,u.keep b ob q n hb hx⟩
theorem Un.kept(k:∀b u,h.get? b=some u->h'.get? b=some u):Un fs ex H H h h':=
 ⟨λb ob q _ _ _=>k b ob q,λb ob q _ _ _=>⟨ob.slots,k b ob q⟩,λ_ _ _ n _=>n,λb ob q _=>⟨ob,k b ob q⟩,λ_ _ q=>q,λ_ _ _ q=>q,λ_ ps q=>⟨#[],by rw[q];simp⟩⟩
theorem Un.refl:Un fs ex H H h h:=Un.kept λ_ _ q=>q
theorem Un.laid(k:∀b u,h.get? b=some u->h'.get? b=some u)(hp:h.objs.size<=a)(hn:H a=none):Un fs ex H (upd H a o) h h' where
 keep:=λb u q _ _ _=>k b u q
 slot:=λb u q _ _ _=>⟨u.slots,k b u q⟩
 free:=λb u q n _=>by rw[k9 (Xl (Xn (Xd q) hp))];exact n
 there:=λb u q _=>⟨u,k b u q⟩
 tups:=λb xs q=>by rw[k9 (z6 q hn)];exact q
 frzs:=λb u xs q=>by rw[k9 (z6 q hn)];exact q
 tbls:=λb ps q=>⟨#[],by rw[k9 (z6 q hn),q];simp⟩
theorem Un.write(mu:Mut (H x))(he:e=x\/H e=some (.own x))(k:∀b u,b≠e->h.get? b=some u->h'.get? b=some u)(n9:∃u,h'.get? e=some u):Un fs ex H (upd H x o) h h':=by
 have hx:∀b,H b=none->b≠x:=λb n z=>by subst z;rw[n]at mu;exact mu
 have hb:∀b,H b=none->b≠e:=λb n z=>by
  subst z;rcases he with r|r
  ·exact hx b n r
  ·rw[n]at r;cases r
 have hm:∀b u,H b=some u->¬Mut (some u)->b≠x:=λb u q nm z=>by subst z;rw[q]at mu;exact nm mu
 refine⟨λb u q n _ _=>k b u (hb b n) q,λb u q n _ _=>⟨u.slots,k b u (hb b n) q⟩,λb u q n _=>by rw[k9 (hx b n)];exact n,λb u q _=>?_,
  λb xs q=>by rw[k9 (hm b _ q λz=>z)];exact q,λb u xs q=>by rw[k9 (hm b _ q λz=>z)];exact q,λb ps q=>⟨#[],by rw[k9 (hm b _ q λz=>z),q];simp⟩⟩
 by_cases hbe:b=e
 ·subst hbe;exact n9
 ·exact⟨u,k b u hbe q⟩
end
def trk(h:Heap)(H:Hp):List Addr:=(List.range h.objs.size).filter λa=>(H a).isSome
def K3(h:Heap)(H:Hp):Heap:=PySem.W.hideAll h (trk h H)
theorem qwc(h:Heap)(H:Hp):(K3 h H).objs.size=h.objs.size:=PySem.W.hideAll_size _ _
theorem vjc{h:Heap}{H:Hp}{b:Addr}{o:Obj}(e:h.get? b=some o)(n:H b=none):(K3 h H).get? b=some o:=
 PySem.W.hideAll_get _ e λhm=>by
  have q:(H b).isSome=true:=(List.mem_filter.mp hm).2;rw[n]at q;simp at q
theorem vvm{h:Heap}{H:Hp}{b:Addr}{o:Obj}(e:(K3 h H).get? b=some o):h.get? b=some o/\H b=none:=by
 have e':h.get? b=some o:=PySem.W.of_hideAll (trk h H) e;refine⟨e',?_⟩;cases q:H b with
 |none=>rfl
 |some x=>
  have hm:b∈trk h H:=List.mem_filter.mpr ⟨List.mem_range.mpr (Xd e'),by simp[q]⟩;have z:(K3 h H).get? b=none:=PySem.W.hideAll_none (trk h H) hm;rw[z]at e;cases e
structure Mod (K:Frag)(mg:Str->Option Value)(base:Heap):Prop where
 kin:K.In base
 glob:base.Ns mainGlobals mg
 blt:∃mb,base.Ns builtinsNs mb/\∀x:Str,x≠"__name__"->mb x=bootBuiltins x
 nolimit:base.NoLimit
structure Cx where
 prog:Program
 w:World
 K:Frag
 mg:Str->Option Value
 base:Heap
 A:Around
 N:List Str
 s₀:Shared
 H₀:Hp
 env:Env
 outer:List Env
 stack:List Env
 ex:List Addr
 fn:Str->Bool
 calm:Bool
 pn:LA9
 xe:VP9
def frs(l:List Env):List Addr:=l.filterMap (·.frame)
abbrev Cx.fs(X:Cx):List Addr:=frs X.outer
def Vis(sc:Scope)(x:Str):Prop:=sc.names.lookup x=some .local\/sc.names.lookup x=some .cell\/sc.names.lookup x=some .free
def Loc(sc:Scope)(x:Str):Prop:=sc.names.lookup x=some .local\/sc.names.lookup x=some .cell
def Look(env:Env)(h:Heap)(m:Str->Option Value)(x:Str)(u:Value):Prop:=
 (env.kindOf x=some .local/\m x=some u)\/((env.kindOf x=some .cell\/env.kindOf x=some .free)/\∃c,env.cells.lookup x=some c/\h.IsCell c (some u))
structure Cx.Ok (X:Cx):Prop where
 mod:Mod X.K X.mg X.base
 kind:X.env.scope.kind=.function
 glob:X.env.globals=mainGlobals
 blt:X.env.builtins=builtinsNs
 above:X.s₀.heap.objs.size<=X.env.locals
 inj:∀x y c,X.env.cells.lookup x=some c->X.env.cells.lookup y=some c->x=y
 has:∀x,(X.env.kindOf x=some .cell\/X.env.kindOf x=some .free)->∃c,X.env.cells.lookup x=some c
 cab:∀x c,X.fn x=true->X.env.cells.lookup x=some c->X.s₀.heap.objs.size<=c
 hd:X.calm=true->X.A.handled=none
 frames:X.A.frames=some X.stack
 stk:X.stack=X.outer\/(X.stack=X.env::X.outer/\X.env.frame=some X.env.locals)
 exf:∀b∈X.ex,b≠X.env.locals/\∀x c,X.env.cells.lookup x=some c->c≠b
 bs:∀b o,X.base.get? b=some o->X.s₀.heap.get? b=some o/\X.H₀ b=none
 bsz:X.base.objs.size<=X.s₀.heap.objs.size
 noex:∀b o,X.base.get? b=some o->b∉X.ex
 exfs:∀b∈X.ex,b∉X.fs
 funs:X.s₀.heap.FunFrames X.base X.outer
 frf:∀b∈X.fs,X.H₀ b=none
structure Inv (X:Cx)(pins:LA9)(σ:List (Option V))(H:Hp)(s:Shared):Prop where
 ok:X.Ok
 os:s.os=X.s₀.os
 bare:AllBare s.gens
 base:Un X.fs X.ex X.H₀ H X.s₀.heap s.heap
 loc:∃m,s.heap.Ns X.env.locals m/\∀(i:Nat) (x:Str) (v:V),X.N[i]?=some x->σ[i]?=some (some v)->Vis X.env.scope x->∃u,RelV v u/\Look X.env s.heap m x u
 cell:∀x c,X.env.cells.lookup x=some c->∃v,s.heap.IsCell c v
 free:H X.env.locals=none
 freeC:∀x c,X.env.cells.lookup x=some c->H c=none
 pin:∀p∈X.pn++pins,s.heap.get? p.1=some p.2/\H p.1=none/\p.1≠X.env.locals/\p.1∉X.fs/\∀v,p.2.data≠.cell v
 hok:HOk X.prog X.w H s.heap
 len:σ.length=X.N.length
section
variable {X:Cx}{pins:LA9}{σ:List (Option V)}{H H':Hp}{s:Shared}{h':Heap}
theorem Cx.Ok.nofr(ok:X.Ok){b:Addr}{o:Obj}(e:X.base.get? b=some o):b∉X.fs:=λhb=>by
 have:=(ok.funs.mem hb).1;rw[e]at this;cases this
theorem Inv.bs(I:Inv X pins σ H s):∀b o,X.base.get? b=some o->s.heap.get? b=some o/\H b=none:=λb o e=>
 ⟨I.base.keep b o (I.ok.bs b o e).1 (I.ok.bs b o e).2 (I.ok.nofr e) (I.ok.noex b o e),I.base.free b o (I.ok.bs b o e).1 (I.ok.bs b o e).2 (I.ok.noex b o e)⟩
theorem Inv.bk(I:Inv X pins σ H s):∀b o,X.base.get? b=some o->s.heap.get? b=some o:=λb o e=>(I.bs b o e).1
theorem Inv.mod(I:Inv X pins σ H s):Mod X.K X.mg X.base:=I.ok.mod
theorem Inv.kIn(I:Inv X pins σ H s):X.K.In s.heap:=I.ok.mod.kin.keeps I.bk
theorem Inv.lt(I:Inv X pins σ H s):X.env.locals<s.heap.objs.size:=let ⟨_,hn,_⟩:=I.loc;hn.lt
theorem Inv.sz(I:Inv X pins σ H s):X.s₀.heap.objs.size<=s.heap.objs.size:=Yn I.ok.above (Nat.le_of_lt I.lt)
theorem Inv.nofs(I:Inv X pins σ H s){a:Addr}(h:s.heap.objs.size<=a):a∉X.fs:=λhb=>by
 obtain⟨_,o,ho,_⟩:=I.ok.funs.mem hb;exact absurd (Xn (Xd ho) (Yn I.sz h)) (Z1 _)
theorem Inv.cne(I:Inv X pins σ H s):∀x c,X.env.cells.lookup x=some c->c≠X.env.locals:=λx c e z=>by
 obtain⟨v,o,ho,hd⟩:=I.cell x c e;obtain⟨m,⟨o',es,ep,dq,jc,_⟩,_⟩:=I.loc;rw[z,dq]at ho;cases ho;rw[jc]at hd;cases hd
theorem Inv.funs(I:Inv X pins σ H s):s.heap.FunFrames X.base X.outer:=by
 have all:∀(l:List Env),(∀b∈frs l,b∈X.fs)->X.s₀.heap.FunFrames X.base l->s.heap.FunFrames X.base l:=by
  intro l
  induction l with
  |nil=>intro _ _;trivial
  |cons env r ih=>
   intro hs hl;obtain⟨hk,⟨L,o,hf,hn,ho,hd⟩,hr⟩:=hl;have hL:L∈X.fs:=hs L (by unfold frs;rw[List.filterMap_cons,hf];exact X5);obtain⟨sl,e⟩:=I.base.slot L o ho (I.ok.frf L hL) hL λz=>I.ok.exfs L z hL
   exact⟨hk,⟨L,_,hf,hn,e,hd⟩,ih (λb hb=>hs b (by unfold frs;rw[List.filterMap_cons,hf];exact lc9 _ hb)) hr⟩
 exact all X.outer (λ_ hb=>hb) I.ok.funs
theorem Inv.stack(I:Inv X pins σ H s):s.heap.FunFrames X.base X.stack:=by
 rcases I.ok.stk with e|⟨e,hf⟩
 ·rw[e];exact I.funs
 ·rw[e];obtain⟨m,hn,_⟩:=I.loc;refine .cons (by rw[I.ok.kind];decide) hf hn ?_ I.funs;exact Heap.get?_none_of_le (Yn I.ok.bsz I.ok.above)
theorem Inv.stkSub(I:Inv X pins σ H s):∀b∈frs X.stack,b∈X.env.locals::X.fs:=λb hb=>by
 rcases I.ok.stk with e|⟨e,hf⟩
 ·rw[e]at hb;exact lc9 _ hb
 ·rw[e]at hb;unfold frs at hb;rw[List.filterMap_cons,hf]at hb;exact hb
theorem Inv.stkFree(I:Inv X pins σ H s):∀b∈frs X.stack,H b=none:=λb hb=>by
 rcases aD (I.stkSub b hb)with e|hb
 ·rw[e];exact I.free
 ·obtain⟨_,o,ho,_⟩:=I.ok.funs.mem hb;exact I.base.free b o ho (I.ok.frf b hb) λz=>I.ok.exfs b z hb
theorem Inv.step{g':Array GenState}{t':Nat}{d':Drawn}{ch:List Addr}(I:Inv X pins σ H s)
  (dh:∀b∈ch,(b∈X.ex\/X.s₀.heap.objs.size<=b)/\b≠X.env.locals/\(∀x c,X.env.cells.lookup x=some c->c≠b)/\∀p∈X.pn++pins,p.1≠b)
  (keep:∀b o,b≠X.env.locals->b∉X.fs->b∉ch->s.heap.get? b=some o->H b=none->h'.get? b=some o)
  (slot:∀b o,b≠X.env.locals->b∈X.fs->b∉ch->s.heap.get? b=some o->H b=none->∃sl,h'.get? b=some { o with slots:=sl }) (free:∀b o,b∉ch->s.heap.get? b=some o->H b=none->H' b=none)
  (there:∀b o,b∉ch->s.heap.get? b=some o->∃o',h'.get? b=some o')
  (tups:∀b xs,H b=some (.tup xs)->H' b=some (.tup xs)) (frzs:∀b o u,H b=some (.frz o u)->H' b=some (.frz o u)) (tbls:∀b ps,H b=some (.tbl ps)->∃more,H' b=some (.tbl (ps++more)))
  (ns:∀m,s.heap.Ns X.env.locals m->h'.Ns X.env.locals m) (hok:HOk X.prog X.w H' h') (hg:AllBare g'):
  Inv X pins σ H' { s with heap:=h',gens:=g',drawn:=d',toks:=t' }:=by
 have nv:∀b o,X.s₀.heap.get? b=some o->b≠X.env.locals:=λb o e=>Xl (Xn (Xd e) I.ok.above)
 have js:∀b o,X.s₀.heap.get? b=some o->b∉X.ex->b∉ch:=λb o e hx hb=>by
  rcases(dh b hb).1 with z|z
  ·exact hx z
  ·exact absurd (Xn (Xd e) z) (Z1 _)
 have ff:∀x c,X.env.cells.lookup x=some c->∀v,s.heap.IsCell c v->h'.IsCell c v:=λx c e v ⟨o,ho,hd⟩=>by
  have ip:c∉ch:=λz=>(dh c z).2.2.1 x c e rfl
  by_cases hc:c∈X.fs
  ·obtain⟨sl,q⟩:=slot c o (I.cne x c e) hc ip ho (I.freeC x c e);exact⟨_,q,hd⟩
  ·exact⟨o,keep c o (I.cne x c e) hc ip ho (I.freeC x c e),hd⟩
 refine⟨I.ok,I.os,hg,⟨λb o e n hb hx=>?_,λb o e n hb hx=>?_,λb o e n hx=>?_,λb o e hx=>?_,λb xs e=>tups b xs (I.base.tups b xs e),λb o xs e=>frzs b o xs (I.base.frzs b o xs e),λb ps e=>?_⟩,?_,λx c e=>?_,?_,λx c e=>?_,λp hp=>?_,hok,I.len⟩
 ·exact keep b o (nv b o e) hb (js b o e hx) (I.base.keep b o e n hb hx) (I.base.free b o e n hx)
 ·obtain⟨sl,e1⟩:=I.base.slot b o e n hb hx;obtain⟨sl',e2⟩:=slot b _ (nv b o e) hb (js b o e hx) e1 (I.base.free b o e n hx);exact⟨sl',e2⟩
 ·obtain⟨o',e1⟩:=I.base.there b o e hx;exact free b o' (js b o e hx) e1 (I.base.free b o e n hx)
 ·obtain⟨o',e1⟩:=I.base.there b o e hx;exact there b o' (js b o e hx) e1
 ·obtain⟨m1,e1⟩:=I.base.tbls b ps e;obtain⟨m2,e2⟩:=tbls b _ e1;exact⟨m1++m2,by rw[e2,Array.append_assoc]⟩
 ·obtain⟨m,hn,hl⟩:=I.loc;refine⟨m,ns m hn,λi x v e1 e2 e3=>?_⟩;obtain⟨u,r,l⟩:=hl i x v e1 e2 e3;refine⟨u,r,?_⟩;rcases l with l|⟨k,c,e,z⟩
  ·exact .inl l
  ·exact .inr ⟨k,c,e,ff x c e _ z⟩
 ·obtain⟨v,z⟩:=I.cell x c e;exact⟨v,ff x c e v z⟩
 ·obtain⟨m,⟨o,_,_,ho,_⟩,_⟩:=I.loc;exact free _ o (λz=>(dh _ z).2.1 rfl) ho I.free
 ·obtain⟨v,o,ho,hd⟩:=I.cell x c e;exact free c o (λz=>(dh c z).2.2.1 x c e rfl) ho (I.freeC x c e)
 ·obtain⟨e,n,ne,nf,d⟩:=I.pin p hp;have ip:p.1∉ch:=λz=>(dh p.1 z).2.2.2 p hp rfl
  exact⟨keep p.1 p.2 ne nf ip e n,free p.1 p.2 ip e n,ne,nf,d⟩
theorem Inv.un{t':Nat}(I:Inv X pins σ H s)(u:Un X.fs [] H H' s.heap h')(hok:HOk X.prog X.w H' h'):Inv X pins σ H' { s with heap:=h',toks:=t' }:=by
 obtain⟨m,⟨o,es,ep,ho,r⟩,_⟩:=id I.loc;obtain⟨sl,hL⟩:=u.any ho I.free (by simp);exact I.step (g':=s.gens) (d':=s.drawn) (ch:=[]) (λ_ z=>nomatch z) (λb o _ hb _ e n=>u.keep b o e n hb (by simp)) (λb o _ hb _ e n=>u.slot b o e n hb (by simp)) (λb o _ e n=>u.free b o e n (by simp)) (λb o _ e=>u.there b o e (by simp)) u.tups u.frzs u.tbls (λm' hm=>by
  obtain⟨o',es',r6,dq,r'⟩:=hm;rw[ho]at dq;cases dq;exact⟨_,es',r6,hL,r'⟩) hok I.bare
theorem Inv.call{g':Array GenState}{t':Nat}{d':Drawn}{ch:List Addr}(I:Inv X pins σ H s)(u:Un (frs X.stack) ch H H' s.heap h')(hok:HOk X.prog X.w H' h')(hg:AllBare g')
  (dh:∀b∈ch,(b∈X.ex\/X.s₀.heap.objs.size<=b)/\b≠X.env.locals/\(∀x c,X.env.cells.lookup x=some c->c≠b)/\∀p∈X.pn++pins,p.1≠b):
  Inv X pins σ H' { s with heap:=h',gens:=g',drawn:=d',toks:=t' }:=by
 obtain⟨m,⟨o,es,ep,ho,r⟩,_⟩:=id I.loc;obtain⟨sl,hL⟩:=u.any ho I.free λz=>(dh _ z).2.1 rfl
 exact I.step (ch:=ch) dh (λb o hL hb hc e n=>u.keep b o e n (λz=>(aD (I.stkSub b z)).elim hL hb) hc) (λb o _ _ hc e n=>u.any e n hc) (λb o hc e n=>u.free b o e n hc) (λb o hc e=>u.there b o e hc) u.tups u.frzs u.tbls (λm' hm=>by
  obtain⟨o',es',r6,dq,r'⟩:=hm;rw[ho]at dq;cases dq;exact⟨_,es',r6,hL,r'⟩) hok hg
theorem Inv.turned{t':Nat}{it:Addr}(I:Inv X pins σ H s)(k:∀b o,b≠it->s.heap.get? b=some o->h'.get? b=some o)(hn:H it=none)(hL:it≠X.env.locals)
  (h1:it∈X.ex\/X.s₀.heap.objs.size<=it) (h2:∀x c,X.env.cells.lookup x=some c->c≠it) (h3:∀p∈X.pn++pins,p.1≠it):Inv X pins σ H { s with heap:=h',toks:=t' }:=by
 have ro:∀b u,H b=some u->b≠it:=λb u e z=>by rw[z,hn]at e;cases e
 refine I.step (g':=s.gens) (d':=s.drawn) (ch:=[it]) (λb hb=>?_) (λb o _ _ hc e _=>k b o (λz=>hc (by simp[z])) e) (λb o _ _ hc e _=>⟨o.slots,k b o (λz=>hc (by simp[z])) e⟩) (λ_ _ _ _ n=>n)
  (λb o hc e=>⟨o,k b o (λz=>hc (by simp[z])) e⟩) (λ_ _ e=>e) (λ_ _ _ e=>e) (λb ps e=>⟨#[],by rw[e];simp⟩) (λm hm=>?_) (λb u e=>?_) I.bare
 ·have e:b=it:=by simpa using hb
  subst e;exact⟨h1,hL,h2,h3⟩
 ·obtain⟨o,es,ep,ho,r⟩:=hm;exact⟨o,es,ep,k _ o (Ne.symm hL) ho,r⟩
 ·refine(I.hok b u e).stay (λc v hc q=>k c v ?_ q) (λ_ q=>q) λ_ _ q=>q
  rcases hc with z|z
  ·rw[z];exact ro b u e
  ·exact ro c _ z
theorem Inv.tok(I:Inv X pins σ H s)(t:Nat):Inv X pins σ H { s with toks:=t }:=I.un (h':=s.heap) (t':=t) Un.refl I.hok
theorem Inv.kept{t':Nat}(I:Inv X pins σ H s)(k:∀b u,s.heap.get? b=some u->h'.get? b=some u):Inv X pins σ H { s with heap:=h',toks:=t' }:=I.un (Un.kept k) (I.hok.kept k)
theorem Inv.laid{a:Addr}{o:HO}{t':Nat}(I:Inv X pins σ H s)(k:∀b u,s.heap.get? b=some u->h'.get? b=some u)(hp:s.heap.objs.size<=a)(new:ObjOk X.prog X.w (upd H a o) h' a o):
  Inv X pins σ (upd H a o) { s with heap:=h',toks:=t' }:=I.un (Un.laid k hp (I.hok.fresh hp)) (I.hok.laid k hp new)
theorem Inv.write{x e:Addr}{o:HO}{t':Nat}(I:Inv X pins σ H s)(mu:Mut (H x))(he:e=x\/H e=some (.own x))(k:∀b u,b≠e->s.heap.get? b=some u->h'.get? b=some u)(n9:∃u,h'.get? e=some u)
  (new:ObjOk X.prog X.w (upd H x o) h' x o):Inv X pins σ (upd H x o) { s with heap:=h',toks:=t' }:=I.un (Un.write mu he k n9) (I.hok.write mu he k n9 new)
theorem Inv.pins_of{bo:LA9}(I:Inv X pins σ H s)(h:∀p∈bo,s.heap.get? p.1=some p.2/\H p.1=none/\p.1≠X.env.locals/\p.1∉X.fs/\∀v,p.2.data≠.cell v):Inv X bo σ H s:=
 ⟨I.ok,I.os,I.bare,I.base,I.loc,I.cell,I.free,I.freeC,λp hp=>(aA hp).elim (λz=>I.pin p (ll9 _ z)) (h p),I.hok,I.len⟩
theorem kzl{N:List Str}(hN:N.Nodup){i j:Nat}{x:Str}(a:N[i]?=some x)(b:N[j]?=some x):i=j:=by
 obtain⟨h1,e1⟩:=List.getElem?_eq_some_iff.mp a;obtain⟨h2,e2⟩:=List.getElem?_eq_some_iff.mp b;exact(List.getElem_inj hN).mp (e1.trans e2.symm)
theorem qkx{M:Model}{A:Around}{E:VP9}{i:Nat}{x:Str}{v:V}{u:Value}{Q:Unit->Shared->Prop}(I:Inv X pins σ H s)(hN:X.N.Nodup)(hi:X.N[i]?=some x)(hx:Loc X.env.scope x)(r:RelV v u)
  (h:∀s',Inv X pins (σ.set i (some v)) H s'->(∃a,Heap.SameBut a s.heap s'.heap/\(a=X.env.locals\/X.env.cells.lookup x=some a))->Q () s') (hf:autoParam (X.fn x=true\/X.env.scope.names.lookup x=some .local) Ř):wpAny M A (storeName X.env x u) Q E s:=by
 obtain⟨m,hn,hl⟩:=id I.loc;have hcls:(X.env.scope.kind == .class||(X.env.scope.kind == .module&&X.env.locals != X.env.globals))=false:=by rw[I.ok.kind];rfl
 have hiσ:i < σ.length:=by rw[I.len];exact(List.getElem?_eq_some_iff.mp hi).1
 have cne:=I.cne;have gi:∀{a:Addr} {h':Heap},(∃o,s.heap.get? a=some o/\H a=none)->Heap.SameBut a s.heap h'->HOk X.prog X.w H h':=fun {a h'} ha hs b ob e=>by
  obtain⟨_,_,b6⟩:=ha;refine(I.hok b ob e).stay (λc w' hc q=>(hs.2 c ?_).trans q) (λ_ q=>q) λ_ _ q=>q
  rintro rfl;rcases hc with rfl|hc
  ·rw[b6]at e;cases e
  ·rw[b6]at hc;cases hc
 rcases hx with hk|hk
 ·refine wpAny_storeName_local hk hn (λh' hn' hs=>?_) hcls;obtain⟨oL,_,_,jo,_⟩:=id hn;refine h _ ⟨I.ok,I.os,I.bare,⟨λb o e n hb hx=>?_,λb o e n hb hx=>?_,I.base.free,λb o e hx=>?_,I.base.tups,I.base.frzs,I.base.tbls⟩,⟨_,hn',λj y v' e1 e2 e3=>?_⟩,λy c e=>?_,I.free,I.freeC,λp hp=>?_,gi ⟨oL,jo,I.free⟩ hs,by simpa using I.len⟩ ⟨_,hs,.inl rfl⟩
  ·exact(hs.2 b (Xl (Xn (Xd e) I.ok.above))).trans (I.base.keep b o e n hb hx)
  ·obtain⟨sl,e1⟩:=I.base.slot b o e n hb hx;exact⟨sl,(hs.2 b (Xl (Xn (Xd e) I.ok.above))).trans e1⟩
  ·obtain⟨o',e1⟩:=I.base.there b o e hx;exact⟨o',(hs.2 b (Xl (Xn (Xd e) I.ok.above))).trans e1⟩
  ·by_cases hj:j=i
   ·subst hj;rw[hi]at e1;cases e1;rw[List.getElem?_set_self hiσ]at e2;cases e2;exact⟨u,r,.inl ⟨hk,by simp⟩⟩
   ·rw[Zc (Ne.symm hj)]at e2;obtain⟨u',r',q⟩:=hl j y v' e1 e2 e3;refine⟨u',r',?_⟩;rcases q with⟨k,e⟩|⟨k,c,e,z⟩
    ·refine .inl ⟨k,?_⟩;have:y≠x:=λe=>hj (kzl hN e1 (e▸hi))
     simp[this,e]
    ·exact .inr ⟨k,c,e,z.sameBut hs (cne y c e)⟩
  ·obtain⟨w',z⟩:=I.cell y c e;exact⟨w',z.sameBut hs (cne y c e)⟩
  ·obtain⟨e,n,ne,nf,d⟩:=I.pin p hp;exact⟨(hs.2 p.1 ne).trans e,n,ne,nf,d⟩
 ·have hfn:X.fn x=true:=by
   rcases hf with z|z
   ·exact z
   ·rw[z]at hk;cases hk
  obtain⟨c,hc⟩:=I.ok.has x (.inl hk);obtain⟨w',z⟩:=I.cell x c hc;refine wpAny_storeName_cell I.ok.kind hk hc z (λh' fy hs=>?_);obtain⟨oc,hoc,hocd⟩:=id z;refine h { s with heap:=h' } ⟨I.ok,I.os,I.bare,⟨λb o e n hb hx=>?_,λb o e n hb hx=>?_,I.base.free,λb o e hx=>?_,I.base.tups,I.base.frzs,I.base.tbls⟩,⟨m,hn.sameBut hs (Ne.symm (cne x c hc)),λj y v' e1 e2 e3=>?_⟩,λy c' e=>?_,I.free,I.freeC,λp hp=>?_,gi ⟨oc,hoc,I.freeC x c hc⟩ hs,by simpa using I.len⟩ ⟨c,hs,.inr hc⟩
  ·exact(hs.2 b (Xl (Xn (Xd e) (I.ok.cab x c hfn hc)))).trans (I.base.keep b o e n hb hx)
  ·obtain⟨sl,e1⟩:=I.base.slot b o e n hb hx;exact⟨sl,(hs.2 b (Xl (Xn (Xd e) (I.ok.cab x c hfn hc)))).trans e1⟩
  ·obtain⟨o',e1⟩:=I.base.there b o e hx;exact⟨o',(hs.2 b (Xl (Xn (Xd e) (I.ok.cab x c hfn hc)))).trans e1⟩
  ·by_cases hj:j=i
   ·subst hj;rw[hi]at e1;cases e1;rw[List.getElem?_set_self hiσ]at e2;cases e2;exact⟨u,r,.inr ⟨.inl hk,c,hc,fy⟩⟩
   ·rw[Zc (Ne.symm hj)]at e2;obtain⟨u',r',q⟩:=hl j y v' e1 e2 e3;refine⟨u',r',?_⟩;rcases q with q|⟨k,c',e,z'⟩
    ·exact .inl q
    ·refine .inr ⟨k,c',e,z'.sameBut hs ?_⟩;rintro rfl;exact hj (kzl hN e1 (I.ok.inj _ _ _ e hc▸hi))
  ·by_cases d8:c'=c
   ·subst d8;exact⟨_,fy⟩
   ·obtain⟨w2,z2⟩:=I.cell y c' e;exact⟨w2,z2.sameBut hs d8⟩
  ·obtain⟨e,n,ne,nf,d⟩:=I.pin p hp;refine⟨(hs.2 p.1 ?_).trans e,n,ne,nf,d⟩;intro q;rw[q,hoc]at e;have q':oc=p.2:=oq9 e;exact d w' (by rw[<-q'];exact hocd)
theorem kk4{M:Model}{A:Around}{E:VP9}{i:Nat}{x:Str}{v:V}{u:Value}{Q:Unit->Shared->Prop}(I:Inv X pins σ H s)(hN:X.N.Nodup)(hi:X.N[i]?=some x)(hx:Loc X.env.scope x)(r:RelV v u)
  (h:∀s',Inv X pins (σ.set i (some v)) H s'->Q () s') (hf:autoParam (X.fn x=true\/X.env.scope.names.lookup x=some .local) Ř):wpAny M A (storeName X.env x u) Q E s:=
 qkx I hN hi hx r (λs' I' _=>h s' I') hf
theorem Inv.call'{s':Shared}{ch:List Addr}(I:Inv X pins σ H s)(ho:s'.os=s.os)(u:Un (frs X.stack) ch H H' s.heap s'.heap)(hok:HOk X.prog X.w H' s'.heap)(hg:AllBare s'.gens)
  (dh:∀b∈ch,(b∈X.ex\/X.s₀.heap.objs.size<=b)/\b≠X.env.locals/\(∀x c,X.env.cells.lookup x=some c->c≠b)/\∀p∈X.pn++pins,p.1≠b):Inv X pins σ H' s':=by
 obtain⟨h',g',d',t',o'⟩:=s';have e:o'=s.os:=ho;subst e;exact I.call (g':=g') (t':=t') (d':=d') u hok hg dh
end
abbrev XK:=Value->Option Addr->Hp->Prop
abbrev St:=List (Option V)
abbrev VK:=V->Hp->Prop
abbrev TE:=St->Hp->VK->Prop
abbrev TT:=St->Hp->(Bool->Hp->Prop)->Prop
abbrev TA:=St->Hp->(List V->Hp->Prop)->Prop
structure Ends where
 nx:St->Hp->Prop
 rt:VK
 bk:St->Hp->Prop:=λ_ _=>False
 ct:St->Hp->Prop:=λ_ _=>False
abbrev TS:=Ends->St->Hp->Prop
def EP(X:Cx)(pins:LA9)(σ:St)(Q:VK)(u:Value)(s':Shared):Prop:=∃v H',Inv X pins σ H' s'/\RelV v u/\Q v H'
def TP(X:Cx)(pins:LA9)(σ:St)(Q:Bool->Hp->Prop)(b:Bool)(s':Shared):Prop:=∃H',Inv X pins σ H' s'/\Q b H'
def AP(X:Cx)(pins:LA9)(σ:St)(Q:List V->Hp->Prop)(us:List Value)(s':Shared):Prop:=∃vs H',Inv X pins σ H' s'/\Vals vs us/\Q vs H'
def SP(X:Cx)(pins:LA9)(D:Ends)(f:Flow)(s':Shared):Prop:=
 match f with
 |.next=>∃ σ' H',Inv X pins σ' H' s'/\D.nx σ' H'|.brk=>∃ σ' H',Inv X pins σ' H' s'/\D.bk σ' H'|.cont=>∃ σ' H',Inv X pins σ' H' s'/\D.ct σ' H'|.ret u=>∃v σ' H',Inv X pins σ' H' s'/\RelV v u/\D.rt v H'
def PE(X:Cx)(e:Expr)(t:TE):Prop:=
 ∀(pins:LA9) (s:Shared) (σ:St) (H:Hp) (Q:VK),Inv X pins σ H s->t σ H Q->wpAny (model X.prog X.w) X.A (eval e X.env) (EP X pins σ Q) X.xe s
def PT(X:Cx)(e:Expr)(t:TT):Prop:=
 ∀(pins:LA9) (s:Shared) (σ:St) (H:Hp) (Q:Bool->Hp->Prop),Inv X pins σ H s->t σ H Q->wpAny (model X.prog X.w) X.A (isTrue e X.env (eval e X.env)) (TP X pins σ Q) X.xe s
def PW(X:Cx)(e:Expr)(t:TT):Prop:=
 ∀(dk:Sem Value) (pins:LA9) (s:Shared) (σ:St) (H:Hp) (Q:Bool->Hp->Prop),Inv X pins σ H s->t σ H Q->wpAny (model X.prog X.w) X.A (isTrue e X.env dk) (TP X pins σ Q) X.xe s
theorem PW.pt{X:Cx}{e:Expr}{t:TT}(h:PW X e t):PT X e t:=h _
def PA(X:Cx)(es:List Expr)(t:TA):Prop:=
 ∀(pos:Pos) (pins:LA9) (s:Shared) (σ:St) (H:Hp) (Q:List V->Hp->Prop),Inv X pins σ H s->t σ H Q->wpAny (model X.prog X.w) X.A (spliced (backTo pos (starEach es X.env))) (AP X pins σ Q) X.xe s
def PS(X:Cx)(st:Stmt)(t:TS):Prop:=
 ∀(pins:LA9) (s:Shared) (σ:St) (H:Hp) (D:Ends),Inv X pins σ H s->t D σ H->wpAny (model X.prog X.w) X.A (exec st X.env) (SP X pins D) X.xe s
def PSs(X:Cx)(st:List Stmt)(t:TS):Prop:=
 ∀(pins:LA9) (s:Shared) (σ:St) (H:Hp) (D:Ends),Inv X pins σ H s->t D σ H->wpAny (model X.prog X.w) X.A (execs st X.env) (SP X pins D) X.xe s
theorem thn{α:Type}{t:Sem α}{Q Q':α->Shared->Prop}{M:Model}{A:Around}{E:VP9}{s:Shared}(h:wpAny M A t Q E s)(hQ:∀a s,Q a s->Q' a s):wpAny M A t Q' E s:=wpAny_mono h hQ λ_ _ x=>x
section
variable {X:Cx}
abbrev JZ(i:Nat):TE:=fun σ H Q=>∃v,σ[i]?=some (some v)/\Q v H
abbrev tC(v:V):TE:=λ_ H Q=>Q v H
theorem wjs{i:Nat}{x:Str}{pos:Pos}(hN:X.N[i]?=some x)(hv:Vis X.env.scope x)(hd:autoParam ((x==("__debug__":Str))=false) ŕ)(fi:autoParam ((x==("__classdict__":Str))=false) ŕ):PE X (.Name x pos) (JZ i):=by
 intro pins s σ H Q I h;obtain⟨v,e,h⟩:=h;obtain⟨m,hn,hl⟩:=I.loc;obtain⟨u,r,l⟩:=hl i x v hN e hv;have fin:EP X pins σ Q u s:=⟨v,H,I,r,h⟩;rcases l with⟨hk,hm⟩|⟨hk,c,hc,hcell⟩
 ·exact wpAny_Name (wpAny_loadName_local I.ok.kind hk hn hm fin) hd
 ·rcases hk with hk|hk
  ·exact wpAny_Name (wpAny_loadName_cell I.ok.kind hk hc hcell fin) hd
  ·exact wpAny_Name (wpAny_loadName_free I.ok.kind hk hc hcell fin fi) hd
theorem wjy{i j pos}:PE X (.Constant (.int i) j pos) (tC (.int i)):=λ_ _ _ H _ I h=>wpAny_Constant_int ⟨.int i,H,I.tok _,⟨_,rfl⟩,h⟩
theorem wwf{b j pos}:PE X (.Constant (.bool b) j pos) (tC (.bl b)):=λ_ _ _ H _ I h=>Constant_bool ⟨.bl b,H,I,rfl,h⟩
theorem wjv{j pos}:PE X (.Constant .none j pos) (tC .non):=λ_ _ _ H _ I h=>Constant_none ⟨.non,H,I,rfl,h⟩
theorem vk8{x j pos}:PE X (.Constant (.str x) j pos) (tC (.str x)):=λ_ _ _ H _ I h=>Calls.Constant_str ⟨.str x,H,I.tok _,⟨_,rfl⟩,h⟩
def Gl(X:Cx)(x:Str):Prop:=X.env.kindOf x=some .globalImplicit
theorem qvt{E:VP9}{pins:LA9}{s:Shared}{σ:St}{H:Hp}{x:Str}{u:Value}{pos:Pos}{Q:VP9}(I:Inv X pins σ H s)(hg:Gl X x)(hm:X.mg x=some u)(h:Q u s)
  (hd:autoParam ((x==("__debug__":Str))=false) ŕ):wpAny (model X.prog X.w) X.A (eval (.Name x pos) X.env) Q E s:=
 Calls.Name_function_global I.ok.kind hg (Calls.loadGlobal_global (by rw[I.ok.glob];exact I.mod.glob.keeps I.bk) hm h) hd
theorem xW{E:VP9}{pins:LA9}{s:Shared}{σ:St}{H:Hp}{x:Str}{u:Value}{pos:Pos}{Q:VP9}(I:Inv X pins σ H s)(hg:Gl X x)(hm:X.mg x=none)(hv:bootBuiltins x=some u)(h:Q u s)
  (hn:autoParam (x≠"__name__") ŕ) (hd:autoParam ((x==("__debug__":Str))=false) ŕ):wpAny (model X.prog X.w) X.A (eval (.Name x pos) X.env) Q E s:=by
 obtain⟨mb,h1,h2⟩:=I.mod.blt;exact Calls.Name_function_global I.ok.kind hg (Calls.loadGlobal_builtin (by rw[I.ok.glob];exact I.mod.glob.keeps I.bk) hm (by rw[I.ok.blt];exact h1.keeps I.bk) ((h2 x hn).trans hv) h) hd
theorem vv9{x:Str}{v:V}{u:Value}{pos:Pos}(hg:Gl X x)(hm:X.mg x=some u)(r:RelV v u)(hd:autoParam ((x==("__debug__":Str))=false) ŕ):PE X (.Name x pos) (tC v):=
 λ_ _ _ H _ I h=>qvt I hg hm ⟨v,H,I,r,h⟩ hd
theorem vve{x:Str}{v:V}{u:Value}{pos:Pos}(hg:Gl X x)(hm:X.mg x=none)(hv:bootBuiltins x=some u)(r:RelV v u)(hn:autoParam (x≠"__name__") ŕ)(hd:autoParam ((x==("__debug__":Str))=false) ŕ):PE X (.Name x pos) (tC v):=
 λ_ _ _ H _ I h=>xW I hg hm hv ⟨v,H,I,r,h⟩ hn hd
variable {a b:Expr}{ta tb:TE}{pos:Pos}
variable {tA tB':TT}{ab:List Expr}
abbrev tAnd(t u:TT):TT:=fun σ H Q=>t σ H λc H1=>if c=true then u σ H1 Q else Q false H1
abbrev tOr(t u:TT):TT:=fun σ H Q=>t σ H λc H1=>if c=true then Q true H1 else u σ H1 Q
abbrev tNot(t:TT):TT:=fun σ H Q=>t σ H λc H1=>Q (!c) H1
theorem vqw(ha:PT X a tA):PW X (.BoolOp .And [a] pos) tA:=by
 intro wh pins s σ H Q I h;refine isTrue_and (thn (ha pins s σ H Q I h) λc s1 e=>?_);cases c with|true=>exact isTrue_and_nil e|false=>exact e
theorem wjd(ha:PT X a tA):PW X (.BoolOp .Or [a] pos) tA:=by
 intro wh pins s σ H Q I h;refine isTrue_or (thn (ha pins s σ H Q I h) λc s1 e=>?_);cases c with|false=>exact isTrue_or_nil e|true=>exact e
theorem wje(ha:PT X a tA)(hb:PW X (.BoolOp .And (b::ab) pos) tB'):PW X (.BoolOp .And (a::b::ab) pos) (tAnd tA tB'):=by
 intro wh pins s σ H Q I h;refine isTrue_and (thn (ha pins s σ H _ I h) λc s1 ⟨H1,I1,q1⟩=>?_);cases c with|true=>exact hb wh pins s1 σ H1 Q I1 q1|false=>exact⟨H1,I1,q1⟩
theorem wwb(ha:PT X a tA)(hb:PW X (.BoolOp .Or (b::ab) pos) tB'):PW X (.BoolOp .Or (a::b::ab) pos) (tOr tA tB'):=by
 intro wh pins s σ H Q I h;refine isTrue_or (thn (ha pins s σ H _ I h) λc s1 ⟨H1,I1,q1⟩=>?_);cases c with|true=>exact⟨H1,I1,q1⟩|false=>exact hb wh pins s1 σ H1 Q I1 q1
theorem wji(ha:PT X a tA):PT X (.UnaryOp .Not a pos) (tNot tA):=by
 intro pins s σ H Q I h;exact isTrue_not (ha pins s σ H (λc H1=>Q (!c) H1) I h)
abbrev tIf(t:TT)(ta tb:TE):TE:=fun σ H Q=>t σ H λc H1=>if c=true then ta σ H1 Q else tb σ H1 Q
theorem qzs{c:Expr}(hc:PT X c tA)(ha:PE X a ta)(hb:PE X b tb):PE X (.IfExp c a b pos) (tIf tA ta tb):=by
 intro pins s σ H Q I h;refine wpAny_IfExp (thn (hc pins s σ H _ I h) λd s1 ⟨H1,I1,q1⟩=>?_);cases d with|true=>exact ha pins s1 σ H1 Q I1 q1|false=>exact hb pins s1 σ H1 Q I1 q1
end
def SqL(K:Frag)(H:Hp)(a:Addr)(xs:List V):Prop:=
 Rd H a (.lst xs) \/
  ∃(o:Obj) (a8:Array Value) (n:Nat),K.lookup a=some o/\o.cls=.type "list"/\o.dict=none/\o.data=.seq a8 n/\a8.size<=sizeLine/\Vals xs a8.toList
def SqT(K:Frag)(H:Hp)(a:Addr)(xs:List V):Prop:=
 Rd H a (.tup xs) \/
  ∃(o:Obj) (a8:Array Value) (n:Nat),K.lookup a=some o/\o.cls=.type "tuple"/\o.dict=none/\o.data=.seq a8 n/\a8.size<=sizeLine/\Vals xs a8.toList
def absV:Value->Option V
 |.none=>some .non|.bool b=>some (.bl b)|.int i _=>some (.int i)|.str x _=>some (.str x)|.bytes b _=>some (.byt b)|.float b _=>some (.flt b)|.ref a=>some (.ref a)|.type n=>some (.ty n)|_=>none
theorem RelV.abs{x:V}{u:Value}(r:RelV x u):absV u=some x:=by
 cases x with|non=>cases r;rfl|bl _=>cases r;rfl|int _=>obtain⟨t,rfl⟩:=r;rfl|str _=>obtain⟨t,rfl⟩:=r;rfl|byt _=>obtain⟨t,rfl⟩:=r;rfl|flt _=>obtain⟨t,rfl⟩:=r;rfl|ref _=>cases r;rfl|ty _=>cases r;rfl
theorem RelV.inj{x y:V}{u:Value}(r:RelV x u)(q:RelV y u):x=y:=oq9 (r.abs.symm.trans q.abs)
theorem Vals.inj:∀{xs ys:List V} {us:List Value},Vals xs us->Vals ys us->xs=ys
 |_,_,_,.nil,.nil=>rfl|_,_,_,.cons r t,.cons r' t'=>by rw[r.inj r',Vals.inj t t']
section
variable {X:Cx}{pins:LA9}{σ:St}{H:Hp}{s:Shared}{a:Addr}{xs ys:List V}
theorem SqL.of{K:Frag}(h:H a=some (.lst xs)):SqL K H a xs:=.inl (.inl h)
theorem SqT.of{K:Frag}(h:H a=some (.tup xs)):SqT K H a xs:=.inl (.inl h)
theorem Inv.list(I:Inv X pins σ H s)(h:SqL X.K H a xs):∃a8:List Value,Vals xs a8/\PlainL s.heap a a8.toArray/\xs.length<=sizeLine:=by
 rcases h with h|⟨o,a8,n,hk,hc,hd,hs,hz,r⟩
 ·obtain⟨z,a8,n,r,e⟩:=h.ok I.hok;exact⟨a8,r,⟨_,n,e,rfl,rfl,rfl⟩,z⟩
 ·refine⟨a8.toList,r,⟨o,n,I.kIn a o hk,hc,hd,by simpa using hs⟩,?_⟩;have e:=r.length;simp only[X7]at e;lia
theorem Inv.tuple(I:Inv X pins σ H s)(h:SqT X.K H a xs):∃a8:List Value,Vals xs a8/\IsTup s.heap a a8.toArray/\xs.length<=sizeLine:=by
 rcases h with h|⟨o,a8,n,hk,hc,_,hs,hz,r⟩
 ·obtain⟨z,a8,r,p⟩:=h.ok I.hok;exact⟨a8,r,p.tup,z⟩
 ·refine⟨a8.toList,r,⟨o,I.kIn a o hk,hc,n,by simpa using hs⟩,?_⟩;have e:=r.length;simp only[X7]at e;lia
theorem Inv.tupleD(I:Inv X pins σ H s)(h:SqT X.K H a xs):∃o,s.heap.get? a=some o/\o.dict=none:=by
 rcases h with h|⟨o,a8,n,hk,hc,hd,hs,hz,r⟩
 ·obtain⟨z,a8,r,o,e,_,d,_⟩:=h.ok I.hok;exact⟨o,e,d⟩
 ·exact⟨o,I.kIn a o hk,hd⟩
theorem Inv.list_inj(I:Inv X pins σ H s)(h:SqL X.K H a xs)(h':SqL X.K H a ys):xs=ys:=by
 obtain⟨a8,r,⟨o,n,e,_,_,d⟩,_⟩:=I.list h;obtain⟨its',r',⟨o',n',e',_,_,d'⟩,_⟩:=I.list h';rw[e]at e';cases e';rw[d]at d';injection d' with d1 _;have:a8=its':=by simpa using congrArg Array.toList d1
 subst this;exact r.inj r'
theorem Inv.tuple_inj(I:Inv X pins σ H s)(h:SqT X.K H a xs)(h':SqT X.K H a ys):xs=ys:=by
 obtain⟨a8,r,⟨o,e,_,n,d⟩,_⟩:=I.tuple h;obtain⟨its',r',⟨o',e',_,n',d'⟩,_⟩:=I.tuple h';rw[e]at e';cases e';rw[d]at d';injection d' with d1 _;have:a8=its':=by simpa using congrArg Array.toList d1
 subst this;exact r.inj r'
end
abbrev Cx.wish(X:Cx)(E:VP9):Cx:={ X with xe:=E }
theorem Cx.Ok.wish{X:Cx}(ok:X.Ok)(E:VP9):(X.wish E).Ok:=
 ⟨ok.mod,ok.kind,ok.glob,ok.blt,ok.above,ok.inj,ok.has,ok.cab,ok.hd,ok.frames,ok.stk,ok.exf,ok.bs,ok.bsz,ok.noex,ok.exfs,ok.funs,ok.frf⟩
theorem Cx.Ok.unwish{X:Cx}{E:VP9}(ok:(X.wish E).Ok):X.Ok:=
 ⟨ok.mod,ok.kind,ok.glob,ok.blt,ok.above,ok.inj,ok.has,ok.cab,ok.hd,ok.frames,ok.stk,ok.exf,ok.bs,ok.bsz,ok.noex,ok.exfs,ok.funs,ok.frf⟩
section
variable {X:Cx}{pins:LA9}{σ:St}{H:Hp}{s:Shared}{E:VP9}
theorem Inv.wish(I:Inv X pins σ H s)(E:VP9):Inv (X.wish E) pins σ H s:=⟨I.ok.wish E,I.os,I.bare,I.base,I.loc,I.cell,I.free,I.freeC,I.pin,I.hok,I.len⟩
theorem Inv.unwish(I:Inv (X.wish E) pins σ H s):Inv X pins σ H s:=⟨I.ok.unwish,I.os,I.bare,I.base,I.loc,I.cell,I.free,I.freeC,I.pin,I.hok,I.len⟩
theorem SP.unwish{D:Ends}{f:Flow}{s':Shared}(h:SP (X.wish E) pins D f s'):SP X pins D f s':=by
 cases f with|next=>obtain⟨σ',H',I,q⟩:=h;exact⟨σ',H',I.unwish,q⟩|brk=>obtain⟨σ',H',I,q⟩:=h;exact⟨σ',H',I.unwish,q⟩|cont=>obtain⟨σ',H',I,q⟩:=h;exact⟨σ',H',I.unwish,q⟩|ret u=>obtain⟨v,σ',H',I,r,q⟩:=h;exact⟨v,σ',H',I.unwish,r,q⟩
end
section
variable {X:Cx}{st:Stmt}{ab:List Stmt}{t u:TS}{e:Expr}{te:TE}{pos:Pos}
abbrev wvn:TS:=λD σ H=>D.nx σ H
abbrev tSeq(t u:TS):TS:=λD σ H=>t { D with nx:=u D } σ H
theorem vv3:PSs X [] wvn:=λ_ _ σ H _ I h=>wpAny_execs_nil ⟨σ,H,I,h⟩
theorem qzp(h1:PS X st t)(h2:PSs X ab u):PSs X (st::ab) (tSeq t u):=by
 intro pins s σ H D I h;refine wpAny_execs_cons (thn (h1 pins s σ H { D with nx:=u D } I h) λf s1 q=>?_);cases f with
 |next=>
  obtain⟨σ',H',I',q⟩:=q;exact h2 pins s1 σ' H' D I' q
 |ret v=>exact q|brk=>exact q|cont=>exact q
theorem vv2(h1:PS X st t):PSs X [st] t:=by
 intro pins s σ H D I h;refine wpAny_execs_cons (thn (h1 pins s σ H D I h) λf s1 q=>?_);cases f with|next=>exact wpAny_execs_nil q|ret v=>exact q|brk=>exact q|cont=>exact q
theorem Inv.quiet{pins:LA9}{σ:St}{H:Hp}{s:Shared}(I:Inv X pins σ H s):interactive X.env=false:=by simp[interactive,I.ok.kind]
abbrev wvo(te:TE):TS:=λD σ H=>te σ H λ_ H1=>D.nx σ H1
theorem kwk(he:PE X e te)(hs:autoParam (swapsWith e none pos.line X.env=pure false) Ŕ):PS X (.Expr e pos) (wvo te):=by
 intro pins s σ H D I h;exact wpAny_Expr_any (thn (he pins s σ H _ I h) λv s1 ⟨x,H1,I1,r1,q1⟩=>⟨σ,H1,I1,q1⟩) I.quiet hs
abbrev tRet(te:TE):TS:=λD σ H=>te σ H D.rt
theorem wjk(he:PE X e te):PS X (.Return (some e) pos) (tRet te):=by
 intro pins s σ H D I h;exact wpAny_Return_some (thn (he pins s σ H _ I h) λv s1 ⟨x,H1,I1,r1,q1⟩=>⟨x,σ,H1,I1,r1,q1⟩)
abbrev tIfS(c:TT)(t u:TS):TS:=λD σ H=>c σ H λb H1=>if b=true then t D σ H1 else u D σ H1
theorem wwc{c:Expr}{a b:List Stmt}{tc:TT}(hc:PT X c tc)(ha:PSs X a t)(hb:PSs X b u):PS X (.If c a b pos) (tIfS tc t u):=by
 intro pins s σ H D I h;refine wpAny_If (thn (hc pins s σ H _ I h) λd s1 ⟨H1,I1,q1⟩=>?_);cases d with|true=>exact ha pins s1 σ H1 D I1 q1|false=>exact hb pins s1 σ H1 D I1 q1
end
abbrev TG:=V->St->Hp->(St->Hp->Prop)->Prop
abbrev TGs:=List V->St->Hp->(St->Hp->Prop)->Prop
def PG(X:Cx)(cy:Expr)(t:TG):Prop:=
 ∀(pins:LA9) (s:Shared) (σ:St) (H:Hp) (v:V) (u:Value) (Q:St->Hp->Prop),Inv X pins σ H s->RelV v u->t v σ H Q ->
  wpAny (model X.prog X.w) X.A (assign cy X.env u) (λ_ s'=>∃ σ' H',Inv X pins σ' H' s'/\Q σ' H') X.xe s
def PGs(X:Cx)(ts:List Expr)(t:TGs):Prop:=
 ∀(pins:LA9) (s:Shared) (σ:St) (H:Hp) (vs:List V) (us:List Value) (Q:St->Hp->Prop),Inv X pins σ H s->Vals vs us->t vs σ H Q ->
  wpAny (model X.prog X.w) X.A (assignInOrder ((assignEach ts X.env).map (·.2)) us) (λ_ s'=>∃ σ' H',Inv X pins σ' H' s'/\Q σ' H') X.xe s
section
variable {X:Cx}{pos:Pos}
abbrev WQ(i:Nat):TG:=λv σ H Q=>Q (σ.set i (some v)) H
theorem qV{i:Nat}{x:Str}(hN:X.N.Nodup)(hi:X.N[i]?=some x)(hx:Loc X.env.scope x)(hf:autoParam (X.fn x=true\/X.env.scope.names.lookup x=some .local) Ř):PG X (.Name x pos) (WQ i):=by
 intro pins s σ H v u Q I r h;exact wpAny_assign_Name (kk4 I hN hi hx r (λs' I'=>⟨_,H,I',h⟩) hf)
abbrev wzm:TGs:=λvs σ H Q=>vs=[]/\Q σ H
abbrev wq5(t:TG)(u:TGs):TGs:=λvs σ H Q=>∃v r,vs=v::r/\t v σ H fun σ' H'=>u r σ' H' Q
theorem JV:PGs X [] wzm:=by
 intro pins s σ H vs us Q I r h;obtain⟨e,h⟩:=h;subst e;cases r;exact assignInOrder_nil ⟨σ,H,I,h⟩
theorem v5{e:Expr}{es:List Expr}{t:TG}{u:TGs}(h1:PG X e t)(h2:PGs X es u)
  (hs:autoParam ((assignEach (e::es) X.env).map (·.2)=assign e X.env::(assignEach es X.env).map (·.2)) Ŕ):PGs X (e::es) (wq5 t u):=by
 intro pins s σ H vs us Q I r h;obtain⟨v,vr,e1,h⟩:=h;subst e1;cases r with
 |cons r rr=>
  rw[hs];refine assignInOrder_cons (thn (h1 pins s σ H _ _ _ I r h) λ_ s1 ⟨σ1,H1,I1,q1⟩=>?_);exact h2 pins s1 σ1 H1 _ _ Q I1 rr q1
abbrev tAsg(te:TE)(g:TG):TS:=λD σ H=>te σ H λx H1=>g x σ H1 D.nx
theorem wjj{i:Nat}{x:Str}{e:Expr}{te:TE}{bm:Pos}(hN:X.N.Nodup)(hi:X.N[i]?=some x)(hx:Loc X.env.scope x)(he:PE X e te)(hs:autoParam (swapsWith e (some (.Name x bm)) pos.line X.env=pure false) Ŕ)(hf:autoParam (X.fn x=true\/X.env.scope.names.lookup x=some .local) Ř):
  PS X (.Assign [.Name x bm] e pos) (tAsg te (WQ i)):=by
 intro pins s σ H D I h;refine wpAny_Assign_Name (thn (he pins s σ H _ I h) λv s1 ⟨y,H1,I1,r1,q1⟩=>?_) hs;exact kk4 I1 hN hi hx r1 (λs2 I2=>⟨_,H1,I2,q1⟩) hf
end
structure It where
 go:Nat->Hp->Prop
 yld:Nat->Hp->V->Hp->Prop
 stop:Nat->Hp->Prop
def qK(X:Cx)(pins:LA9)(H:Hp)(b:Addr):Prop:=
 H b=none/\b≠X.env.locals/\b∉X.fs/\(b∈X.ex\/X.s₀.heap.objs.size<=b)/\(∀x c,X.env.cells.lookup x=some c->c≠b)/\∀p∈X.pn++pins,p.1≠b
theorem Inv.fpOk{X:Cx}{pins:LA9}{σ:St}{H H':Hp}{s:Shared}{b:Addr}(I:Inv X pins σ H s)(hb:s.heap.objs.size<=b)(hn:H' b=none):qK X pins H' b:=by
 refine⟨hn,Nat.ne_of_gt (Xn I.lt hb),I.nofs hb,.inr (Yn I.sz hb),λx c e z=>?_,λp hp z=>?_⟩
 ·obtain⟨v,q⟩:=I.cell x c e;exact absurd (Xn q.lt (by rw[z];exact hb)) (Z1 _)
 ·exact absurd (Xn (Xd (I.pin p hp).1) (by rw[z];exact hb)) (Z1 _)
structure Turn (P:Program)(w:World)(K:Frag)(tg:Expr)(J:It)(fp:List Addr)(it:Addr)(tn:Nat->Heap->Prop):Prop where
 mem:it∈fp
 obj:∀i h,tn i h->∀b∈fp,∃o,h.get? b=some o/\∀v,o.data≠.cell v
 keep:∀i h h',tn i h->(∀b∈fp,∀o,h.get? b=some o->h'.get? b=some o)->tn i h'
 item:∀(X:Cx),X.prog=P->X.w=w->X.K=K->X.calm=true->∀(i:Nat) (pins:LA9) (s:Shared) (σ:St) (H:Hp) (E:VP9),Inv X pins σ H s->(∀b∈fp,qK X pins H b)->tn i s.heap->J.go i H ->
  wpAny (model P w) X.A (pyNext (.ref it)) (λr s1=>∃u,r=some u /\
   wpAny (model P w) X.A (letOwnedTupleGo tg (.ref it) u) (λ_ s2=>∃x H',Inv X pins σ H' s2/\RelV x u/\J.yld i H x H'/\tn (i+1) s2.heap/\∀b∈fp,H' b=none) E s1) E s
 done:∀(X:Cx),X.prog=P->X.w=w->X.K=K->X.calm=true->∀(i:Nat) (pins:LA9) (s:Shared) (σ:St) (H:Hp) (E:VP9),Inv X pins σ H s->(∀b∈fp,qK X pins H b)->tn i s.heap->J.stop i H ->
  wpAny (model P w) X.A (pyNext (.ref it)) (λr s1=>r=none/\Inv X pins σ H s1) E s
 self:∀(A:Around) (i:Nat) (s:Shared) (Q:VP9) (E:VP9),tn i s.heap->Q (.ref it) s->wpAny (model P w) A (pyIter (.ref it)) Q E s
abbrev TI:=St->Hp->(It->Hp->Prop)->Prop
def PIE(X:Cx)(pins:LA9)(σ:St)(tg:Expr)(R:It->Hp->Prop)(itv:Value)(s2:Shared):Prop:=
 ∃(it:Addr) (fp:List Addr) (tn:Nat->Heap->Prop) (J:It) (H':Hp),itv=.ref it/\Inv X pins σ H' s2/\Turn X.prog X.w X.K tg J fp it tn/\tn 0 s2.heap/\(∀b∈fp,qK X pins H' b)/\R J H'
def PI(X:Cx)(tg aj:Expr)(wi:TI):Prop:=
 ∀(pins:LA9) (s:Shared) (σ:St) (H:Hp) (R:It->Hp->Prop),Inv X pins σ H s->wi σ H R ->
  wpAny (model X.prog X.w) X.A (eval aj X.env) (λv s1=>wpAny (model X.prog X.w) X.A (pyIter v) (PIE X pins σ tg R) X.xe s1) X.xe s
theorem vjf {M : Model} {A : Around} {E : Value -> Shared -> Prop} {s : Shared} {tg : Expr} {it : Addr} {u : Value} {o : Obj} {n : String} {vs : Array Value} {Q : Unit -> Shared -> Prop} (ho : s.heap.get? it = some o) (hc : o.cls = .type n) (hd : o.data = .fields vs)
    (hn : ["enumerate", "zip", "dict_itemiterator", "dict_reverseitemiterator", "odict_iterator", "itertools.zip_longest", "itertools.pairwise"].contains n = false) (hQ : Q () s): wpAny M A (letOwnedTupleGo tg (.ref it) u) Q E s:= by
  unfold letOwnedTupleGo;cases tg <;> first
    |exact X4 hQ
    |(cases u <;> first
        |exact X4 hQ
        | (refine X0 (wpAny_load ho ?_)
           rw[hc, hd];show wpAny M A (if(["enumerate", "zip", "dict_itemiterator", "dict_reverseitemiterator", "odict_iterator", "itertools.zip_longest", "itertools.pairwise"].contains n&&vs[0]? == some (rawInt _)) = true then _ else _) Q E s;rw[X8 (by intro h; rw[hn, Bool.false_and]at h; cases h)];exact X4 hQ))
def Itl(K:Frag)(a:Addr):It:=
 ⟨λi H=>∃xs x,SqL K H a xs/\xs[i]?=some x,λi H x H'=>H'=H/\∀xs,SqL K H a xs->xs[i]?=some x,λi H=>∃xs,SqL K H a xs/\xs.length<=i⟩
def Itt(K:Frag)(a:Addr):It:=
 ⟨λi H=>∃xs x,SqT K H a xs/\xs[i]?=some x,λi H x H'=>H'=H/\∀xs,SqT K H a xs->xs[i]?=some x,λi H=>∃xs,SqT K H a xs/\xs.length<=i⟩
def Itr(lo:Int)(n:Nat):It:=⟨λi _=>i<n,λi H x H'=>H'=H/\x=.int (lo+i),λi _=>n<=i⟩
theorem qkq{P:Program}{w:World}{K:Frag}{tg:Expr}(a it:Addr):Turn P w K tg (Itl K a) [it] it (λi h=>h.IsListIter it a i) where
 mem:=by simp
 obj:=λi h st b hb=>by
  have e:b=it:=by simpa using hb
  subst e;obtain⟨o,e,c,d⟩:=st;exact⟨o,e,λv z=>by rw[d]at z;cases z⟩
 keep:=λi h h' st k=>st.at λo e=>k it (by simp) o e
 item:=by
  intro X hP hw hK hc i pins s σ H E I hf st hg;subst hP hw hK;obtain⟨xs,x,hq,hx⟩:=hg;obtain⟨a8,rv,p,hz⟩:=I.list hq;obtain⟨u,hu,ru⟩:=rv.get hx;obtain⟨f0,f1,f2,f3,f4,f5⟩:=hf it (by simp);refine wpAny_pyNext_list_item st p.isList (x:=u) (by simpa using hu) λh' dn sb=>?_
  have I1:Inv X pins σ H { s with heap:=h' }:=I.turned (t':=s.toks) (λb o hb e=>(sb.2 b hb).trans e) f0 f1 f3 f4 f5;obtain⟨o,e,c,d⟩:=id dn;exact⟨u,rfl,vjf (s:={ s with heap:=h' }) e c d ⋯ ⟨x,H,I1,ru,⟨rfl,λys hy=>by rw[I.list_inj hy hq];exact hx⟩,dn,λb hb=>(hf b hb).1⟩⟩
 done:=by
  intro X hP hw hK hc i pins s σ H E I hf st hg;subst hP hw hK;obtain⟨xs,hq,hx⟩:=hg;obtain⟨a8,rv,p,hz⟩:=I.list hq;obtain⟨f0,f1,f2,f3,f4,f5⟩:=hf it (by simp);have hl:=rv.length;exact wpAny_pyNext_list_end (I.ok.hd hc) st p.isList (by simp;lia) λh' eb=>⟨rfl,I.turned (t':=s.toks) (λb o hb e=>eb b o hb e) f0 f1 f3 f4 f5⟩
 self:=λ_ _ _ _ _ st h=>wpAny_pyIter_listiter st h
theorem qjh{P:Program}{w:World}{K:Frag}{tg:Expr}(a it:Addr):Turn P w K tg (Itt K a) [it] it (λi h=>h.IsTupleIter it a i) where
 mem:=by simp
 obj:=λi h st b hb=>by
  have e:b=it:=by simpa using hb
  subst e;obtain⟨o,e,c,d⟩:=st;exact⟨o,e,λv z=>by rw[d]at z;cases z⟩
 keep:=λi h h' st k=>st.at λo e=>k it (by simp) o e
 item:=by
  intro X hP hw hK hc i pins s σ H E I hf st hg;subst hP hw hK;obtain⟨xs,x,hq,hx⟩:=hg;obtain⟨a8,rv,p,hz⟩:=I.tuple hq;obtain⟨u,hu,ru⟩:=rv.get hx;obtain⟨f0,f1,f2,f3,f4,f5⟩:=hf it (by simp);refine wpAny_pyNext_tuple_item st (show s.heap.IsTuple a a8.toArray from p) (x:=u) (by simpa using hu) λh' dn sb=>?_
  have I1:Inv X pins σ H { s with heap:=h' }:=I.turned (t':=s.toks) (λb o hb e=>(sb.2 b hb).trans e) f0 f1 f3 f4 f5;obtain⟨o,e,c,d⟩:=id dn;exact⟨u,rfl,vjf (s:={ s with heap:=h' }) e c d ⋯ ⟨x,H,I1,ru,⟨rfl,λys hy=>by rw[I.tuple_inj hy hq];exact hx⟩,dn,λb hb=>(hf b hb).1⟩⟩
 done:=by
  intro X hP hw hK hc i pins s σ H E I hf st hg;subst hP hw hK;obtain⟨xs,hq,hx⟩:=hg;obtain⟨a8,rv,p,hz⟩:=I.tuple hq;obtain⟨f0,f1,f2,f3,f4,f5⟩:=hf it (by simp);have hl:=rv.length;exact wpAny_pyNext_tuple_end (I.ok.hd hc) st (show s.heap.IsTuple a a8.toArray from p) (by simp;lia) λh' eb=>⟨rfl,I.turned (t':=s.toks) (λb o hb e=>eb b o hb e) f0 f1 f3 f4 f5⟩
 self:=λ_ _ _ _ _ st h=>wpAny_pyIter_tupleiter st h
theorem qji{P:Program}{w:World}{K:Frag}{tg:Expr}(it:Addr)(lo:Int)(n:Nat):Turn P w K tg (Itr lo n) [it] it (λi h=>IsRangeIter h it (lo+(i:Nat)*1) ((n:Int) - (i:Nat)) 1) where
 mem:=by simp
 obj:=λi h st b hb=>by
  have e:b=it:=by simpa using hb
  subst e;exact⟨_,st,λv z=>by
   have z':Data.fields _=Data.cell v:=z;cases z'⟩
 keep:=λi h h' st k=>k it (by simp) _ st
 item:=by
  intro X hP hw hK hc i pins s σ H E I hf st hg;subst hP hw hK;obtain⟨f0,f1,f2,f3,f4,f5⟩:=hf it (by simp);have W:=Walks.range (prog:=X.prog) (w:=X.w) (I.ok.hd hc) it lo 1 n;refine W.item i s _ _ hg st λv h' tk hv dn kk=>?_
  obtain⟨t,rfl⟩:=hv;have I1:Inv X pins σ H { s with heap:=h',toks:=tk }:=I.turned (λb o hb e=>kk b o (by simpa using hb) e) f0 f1 f3 f4 f5;refine⟨_,rfl,vjf (s:={ s with heap:=h',toks:=tk }) (n:="range_iterator") dn rfl rfl ⋯ ⟨.int (lo+i),H,I1,⟨t,?_⟩,⟨rfl,rfl⟩,dn,λb hb=>(hf b hb).1⟩⟩;rw[Int.mul_one]
 done:=by
  intro X hP hw hK hc i pins s σ H E I hf st hg;subst hP hw hK;obtain⟨f0,f1,f2,f3,f4,f5⟩:=hf it (by simp);exact wpAny_pyNext_range_end (I.ok.hd hc) st (by have:n<=i:=hg;lia) λh' eb=>⟨rfl,I.turned (t':=s.toks) (λb o hb e=>eb b o hb e) f0 f1 f3 f4 f5⟩
 self:=λ_ _ _ _ _ st h=>wpAny_pyIter_rangeiter st h
section
variable {X:Cx}{tg:Expr}
theorem qzi{pins:LA9}{σ:St}{H:Hp}{s:Shared}{R:It->Hp->Prop}{E:VP9}{lo hi:Int}{t u v:Tok}{tk:Nat}(I:Inv X pins σ H s)(h1:-(2 ^ 62)<=lo)(h2:lo<2 ^ 62)(h3:-(2 ^ 62)<=hi)(h4:hi<2 ^ 62)
  (q:R (Itr lo (hi - lo).toNat) H):wpAny (model X.prog X.w) X.A (pyIter (.ref s.heap.objs.size)) (PIE X pins σ tg R) E { s with heap:=s.heap.push { cls:=.type "range",data:=.fields #[.int lo t,.int hi u,.int 1 v] },toks:=tk }:=by
 refine wpAny_pyIter_range (IsRange.new ..) (small_one h1 h2 h3 h4) ?_;have I1:Inv X pins σ H { s with heap:=s.heap.push { cls:=.type "range",data:=.fields #[.int lo t,.int hi u,.int 1 v] },toks:=tk }:=I.kept λb o e=>X3 _ e
 refine⟨(s.heap.push { cls:=.type "range",data:=.fields #[.int lo t,.int hi u,.int 1 v] }).objs.size,[(s.heap.push { cls:=.type "range",data:=.fields #[.int lo t,.int hi u,.int 1 v] }).objs.size],_,_,H,rfl,
  I1.kept (t':=tk) λb o e=>X3 _ e,qji _ lo (hi - lo).toNat,?_,λb hb=>?_,q⟩
 ·have e1:lo+((0:Nat):Int)*1=lo:=by simp
  have e2:(((hi - lo).toNat:Nat):Int) - ((0:Nat):Int)=Builtin.Range.rangeSize lo hi 1:=by rw[rangeSize_one];split<;>lia
  show IsRangeIter _ _ (lo+((0:Nat):Int)*1) ((((hi - lo).toNat:Nat):Int) - ((0:Nat):Int)) 1;rw[e1,e2];exact Xg _ rfl
 ·have e:b=(s.heap.push { cls:=.type "range",data:=.fields #[.int lo t,.int hi u,.int 1 v] }).objs.size:=by simpa using hb
  subst e;exact I1.fpOk (Xa _) (I1.hok.fresh (Xa _))
abbrev wx0(ta:TA):TI:=fun σ H R=>ta σ H λvs H1=>∃j:Int,vs=[.int j]/\-(2 ^ 62)<=j/\j<2 ^ 62/\R (Itr 0 j.toNat) H1
theorem qqw{a:Expr}{ta:TA}{p pos:Pos}(hg:Gl X "range")(hm:X.mg "range"=none)(ha:PA X [a] ta)(hs:autoParam (starEach [a] X.env=[(false,eval a X.env)]) Ŕ):PI X tg (.Call (.Name "range" p) [a] [] pos) (wx0 ta):=by
 intro pins s σ H R I h;refine Call_ (xW I hg hm boot_range (Ya (thn (ha pos pins s σ H _ I h) λus s1 ⟨vs,H1,I1,r1,q1⟩=>?_) hs rfl));obtain⟨j,e,q1,q2,q⟩:=q1;subst e;cases r1 with
 |cons r rr=>
  cases rr;obtain⟨t,rfl⟩:=r;exact call_range_1 (qzi I1 ⋯ ⋯ q1 q2 (by simpa using q))
abbrev tFor(wi:TI)(g:TG)(tb:TS):TS:=λD σ H=>wi σ H λJ H1=>∃W:Nat->Nat->St->Hp->Prop,(∃m,W 0 m σ H1)/\∀i m σ H,W i m σ H ->
 (J.stop i H/\D.nx σ H)\/(J.go i H/\∃N:St->Hp->Prop,(∀ σ' H',N σ' H'->∃m',m'<m/\W (i+1) m' σ' H')/\∀x H',J.yld i H x H'->g x σ H' fun σ2 H2=>tb { D with nx:=N,ct:=N,bk:=D.nx } σ2 H2)
def Jj(fp:List Addr)(h:Heap):LA9:=fp.filterMap λb=>(h.get? b).map λo=>(b,o)
theorem jx6{fp:List Addr}{h:Heap}{b:Addr}{o:Obj}(hb:b∈fp)(e:h.get? b=some o):(b,o)∈Jj fp h:=List.mem_filterMap.mpr ⟨b,hb,by rw[e];rfl⟩
theorem kqv{fp:List Addr}{h:Heap}{p:Addr×Obj}(hp:p∈Jj fp h):p.1∈fp/\h.get? p.1=some p.2:=by
 obtain⟨b,hb,e⟩:=List.mem_filterMap.mp hp;cases q:h.get? b with
 |none=>rw[q]at e;cases e
 |some o=>
  rw[q]at e;have e':(b,o)=p:=oq9 e;subst e';exact⟨hb,q⟩
theorem Inv.pinned{pins:LA9}{σ:St}{H:Hp}{s:Shared}{fp:List Addr}(I:Inv X pins σ H s)(hf:∀b∈fp,qK X pins H b)(ho:∀b∈fp,∃o,s.heap.get? b=some o/\∀v,o.data≠.cell v):Inv X (pins++Jj fp s.heap) σ H s:=
 I.pins_of λp hp=>(aA hp).elim (λz=>I.pin p (lr9 _ z)) λz=>by
  obtain⟨hb,e⟩:=kqv z;obtain⟨f0,f1,f2,_⟩:=hf p.1 hb;obtain⟨o,e',d⟩:=ho p.1 hb;rw[e]at e';cases e';exact⟨e,f0,f1,f2,d⟩
theorem Inv.unpinned{pins pl:LA9}{σ:St}{H:Hp}{s:Shared}(I:Inv X (pins++pl) σ H s):Inv X pins σ H s:=I.pins_of λp hp=>I.pin p (lr9 _ (ll9 _ hp))
theorem wjl{aj:Expr}{body:List Stmt}{wi:TI}{g:TG}{tb:TS}{pos:Pos}(hp:PassesOwn (model X.prog X.w) X.A X.env X.xe)(hc:X.calm=true)(hi:PI X tg aj wi)(hg:PG X tg g)(hb:PSs X body tb)
  (hs:autoParam (∀x,foldedSetIterable aj X.env x=pure x) Ŗ):PS X (.For tg aj body [] pos) (tFor wi g tb):=by
 intro pins s σ H D I h;refine wpAny_For (thn (hi pins s σ H _ I h) λv s1 h1=>thn h1 λitv s2 h2=>?_) hs;obtain⟨it,fp,tn,J,H2,e,I2,T,b9,f2,W,⟨m0,w0⟩,dz⟩:=h2;subst e;have fw:∀{H':Hp},(∀b∈fp,H' b=none)->∀b∈fp,qK X pins H' b:=λhn b hb=>⟨hn b hb,(f2 b hb).2⟩
 refine codeAny_forLoop_any (λn s'=>∃i σ' H',Inv X pins σ' H' s'/\tn i s'.heap/\(∀b∈fp,H' b=none)/\W i n σ' H') ?_ m0 ⟨0,σ,H2,I2,b9,λb hb=>(f2 b hb).1,w0⟩;rintro n s3 ⟨i,σ3,H3,I3,c8,mj,w3⟩;rcases dz i n σ3 H3 w3 with⟨stop,qn⟩|⟨go,N,hN,step⟩
 ·refine wpAny_passesOwn hp (thn (T.done X rfl rfl rfl hc i pins s3 σ3 H3 X.xe I3 (fw mj) c8 stop) λr s4 ⟨hr,I4⟩=>?_);subst hr;exact wpAny_execs_nil ⟨σ3,H3,I4,qn⟩
 ·refine wpAny_passesOwn hp (thn (T.item X rfl rfl rfl hc i pins s3 σ3 H3 X.xe I3 (fw mj) c8 go) λr s4 ⟨u,hr,h4⟩=>?_);subst hr;refine wpAny_passesOwn hp (thn h4 λ_ s5 ⟨x,H5,I5,r5,y5,ix,fr5⟩=>?_);have I5':=I5.pinned (fw fr5) (T.obj _ _ ix);refine wpAny_passesOwn hp (thn (hg _ s5 σ3 H5 x u _ I5' r5 (step x H5 y5)) λ_ s6 ⟨σ6,H6,I6,q6⟩=>?_);refine wpAny_passesOwn hp (thn (hb _ s6 σ6 H6 _ I6 q6) λf s7 q7=>?_);have again:∀{σ7:St} {H7:Hp},Inv X (pins++Jj fp s5.heap) σ7 H7 s7->N σ7 H7->∃m,m<n/\∃i σ' H',Inv X pins σ' H' s7/\tn i s7.heap/\(∀b∈fp,H' b=none)/\W i m σ' H':=fun {σ7 H7} I7 n7=>by
   obtain⟨m',hm,w7⟩:=hN σ7 H7 n7;refine⟨m',hm,i+1,σ7,H7,I7.unpinned,T.keep _ _ _ ix λb hb o e=>(I7.pin (b,o) (lr9 _ (lr9 _ (jx6 hb e)))).1,λb hb=>?_,w7⟩;obtain⟨o,e,d⟩:=T.obj _ _ ix b hb;exact(I7.pin (b,o) (lr9 _ (lr9 _ (jx6 hb e)))).2.1
  cases f with|next=>obtain⟨σ7,H7,I7,n7⟩:=q7;exact again I7 n7|cont=>obtain⟨σ7,H7,I7,n7⟩:=q7;exact again I7 n7|brk=>obtain⟨σ7,H7,I7,q7⟩:=q7;exact⟨σ7,H7,I7.unpinned,q7⟩|ret v=>obtain⟨x7,σ7,H7,I7,r7,q7⟩:=q7;exact⟨x7,σ7,H7,I7.unpinned,r7,q7⟩
end
abbrev R2:=V->V->Hp->VK->Prop
def OpR(X:Cx)(f:Value->Value->Sem Value)(r:R2):Prop:=
 ∀(pins:LA9) (s:Shared) (σ:St) (H:Hp) (x y:V) (v u:Value) (Q:VK),Inv X pins σ H s->RelV x v->RelV y u->r x y H Q ->
  wpAny (model X.prog X.w) X.A (f v u) (EP X pins σ Q) X.xe s
def CallR(X:Cx)(f:Value)(r:List V->Hp->VK->Prop):Prop:=
 ∀(pins:LA9) (s:Shared) (σ:St) (H:Hp) (xs:List V) (us:List Value) (Q:VK),Inv X pins σ H s->Vals xs us->r xs H Q ->
  wpAny (model X.prog X.w) X.A (call f us) (EP X pins σ Q) X.xe s
def TruR(X:Cx)(r:V->Hp->(Bool->Hp->Prop)->Prop):Prop:=
 ∀(pins:LA9) (s:Shared) (σ:St) (H:Hp) (x:V) (v:Value) (Q:Bool->Hp->Prop),Inv X pins σ H s->RelV x v->r x H Q ->
  wpAny (model X.prog X.w) X.A (truthy v) (TP X pins σ Q) X.xe s
abbrev tOp(r:R2)(ta tb:TE):TE:=fun σ H Q=>ta σ H λx H1=>tb σ H1 λy H2=>r x y H2 Q
abbrev tUn(r:V->Hp->VK->Prop)(ta:TE):TE:=fun σ H Q=>ta σ H λx H1=>r x H1 Q
def rI(C:Int->Int->Prop)(g:Int->Int->V):R2:=λx y H Q=>∃i j,x=.int i/\y=.int j/\C i j/\Q (g i j) H
def rI0(g:Int->Int->V):R2:=λx y H Q=>∃i j,x=.int i/\y=.int j/\Q (g i j) H
section
variable {X:Cx}{a b c:Expr}{ta tb tc:TE}{pos:Pos}
theorem wxm(ha:PE X a ta)(hb:PE X b tb){pins:LA9}{s:Shared}{σ:St}{H:Hp}{R:V->V->Hp->Prop}(I:Inv X pins σ H s)
  (h:ta σ H λx H1=>tb σ H1 λy H2=>R x y H2) {Q:VP9} {f:Value->Value->Sem Value}
  (hf:∀v u s2 x y H2,Inv X pins σ H2 s2->RelV x v->RelV y u->R x y H2->wpAny (model X.prog X.w) X.A (f v u) Q X.xe s2):
  wpAny (model X.prog X.w) X.A (eval a X.env) (λv s₁=>wpAny (model X.prog X.w) X.A (eval b X.env) (λu s₂=>wpAny (model X.prog X.w) X.A (f v u) Q X.xe s₂) X.xe s₁) X.xe s:=by
 refine thn (ha pins s σ H _ I h) λv s1 ⟨x,H1,I1,r1,q1⟩=>?_
 refine thn (hb pins s1 σ H1 _ I1 q1) λu s2 ⟨y,H2,I2,r2,q2⟩=>?_
 exact hf v u s2 x y H2 I2 r1 r2 q2
theorem wwd{op:Operator}{r:R2}(ho:OpR X (binaryOp op) r)(ha:PE X a ta)(hb:PE X b tb):PE X (.BinOp a op b pos) (tOp r ta tb):=by
 intro pins s σ H Q I h;exact wpAny_BinOp (wxm ha hb I h λv u s2 x y H2 I2 rx ry q=>ho pins s2 σ H2 x y v u Q I2 rx ry q)
theorem opI{f:Value->Value->Sem Value}{C:Int->Int->Prop}{g:Int->Int->Int}
  (rule:∀(i j:Int) (t u:Tok) (s:Shared) (Q:VP9) (E:VP9),C i j->Q (.int (g i j) s.toks) { s with toks:=s.toks+1 }->wpAny (model X.prog X.w) X.A (f (.int i t) (.int j u)) Q E s):
  OpR X f (rI C λi j=>.int (g i j)):=by
 intro pins s σ H x y v u Q I rx ry h;obtain⟨i,j,rfl,rfl,hc,q⟩:=h;obtain⟨t,rfl⟩:=rx;obtain⟨t',rfl⟩:=ry;exact rule i j t t' s _ _ hc ⟨.int (g i j),H,I.tok _,⟨_,rfl⟩,q⟩
theorem wza{f:Value->Value->Sem Value}{g:Int->Int->Int}
  (rule:∀(i j:Int) (t u:Tok) (s:Shared) (Q:VP9) (E:VP9),Q (.int (g i j) s.toks) { s with toks:=s.toks+1 }->wpAny (model X.prog X.w) X.A (f (.int i t) (.int j u)) Q E s):
  OpR X f (rI0 λi j=>.int (g i j)):=by
 intro pins s σ H x y v u Q I rx ry h;obtain⟨i,j,rfl,rfl,q⟩:=h;obtain⟨t,rfl⟩:=rx;obtain⟨t',rfl⟩:=ry;exact rule i j t t' s _ _ ⟨.int (g i j),H,I.tok _,⟨_,rfl⟩,q⟩
theorem wzb{f:Value->Value->Sem Value}{g:Int->Int->Bool}
  (rule:∀(i j:Int) (t u:Tok) (s:Shared) (Q:VP9) (E:VP9),Q (.bool (g i j)) s->wpAny (model X.prog X.w) X.A (f (.int i t) (.int j u)) Q E s):
  OpR X f (rI0 λi j=>.bl (g i j)):=by
 intro pins s σ H x y v u Q I rx ry h;obtain⟨i,j,rfl,rfl,q⟩:=h;obtain⟨t,rfl⟩:=rx;obtain⟨t',rfl⟩:=ry;exact rule i j t t' s _ _ ⟨.bl (g i j),H,I,rfl,q⟩
def wvg(i j:Int):Prop:=0<=j/\j<=1000000/\i.natAbs<2 ^ 64
theorem op_add:OpR X (binaryOp .Add) (rI0 λi j=>.int (i+j)):=wza λ_ _ _ _ _ _ _ q=>add_int q
theorem kqr:OpR X (binaryOp .Sub) (rI0 λi j=>.int (i - j)):=wza λ_ _ _ _ _ _ _ q=>sub_int q
theorem wk3:OpR X (binaryOp .Mod) (rI (λ_ j=>0<j) λi j=>.int (i % j)):=opI λi j _ _ _ _ _ hc q=>by
 have h1:(0:Int)<j:=hc;exact mod_int' ⋯ (by rw[Int.fmod_eq_emod_of_nonneg i ⋯];exact q)
theorem WJ:OpR X (binaryOp .Pow) (rI wvg λi j=>.int (i ^ j.toNat)):=opI λ_ _ _ _ _ _ _ hc q=>pow_int_small hc.1 hc.2.1 hc.2.2 q
theorem wk2:OpR X (binaryOp .LShift) (rI wvg λi j=>.int (i*2 ^ j.toNat)):=opI λ_ _ _ _ _ _ _ hc q=>lshift_int_small hc.1 hc.2.1 hc.2.2 q
end
section
variable {X:Cx}{a b c:Expr}{ta tb tc:TE}{pos:Pos}
theorem qwi{pins:LA9}{σ:St}{H:Hp}{s:Shared}{Q:VK}{k k':Bool}(I:Inv X pins σ H s)(q:Q (.bl k) H)(e:k=k'):EP X pins σ Q (.bool k') s:=by
 subst e;exact⟨.bl k,H,I,rfl,q⟩
theorem wk4:OpR X (compareOp .Lt) (rI0 λi j=>.bl (decide (i<j))):=wzb λ_ _ _ _ _ _ _ q=>lt_int q
theorem vvi:OpR X (compareOp .LtE) (rI0 λi j=>.bl (decide (i<=j))):=wzb λ_ _ _ _ _ _ _ q=>le_int q
theorem qv0:OpR X (compareOp .In) (λx y H Q=>∃i j,x=.str i/\y=.str j/\Q (.bl (!(Builtin.Str.occurrences j i 0 j.length 1).isEmpty)) H):=by
 intro pins s σ H x y v u Q I rx ry h;obtain⟨i,j,rfl,rfl,q⟩:=h;obtain⟨t,rfl⟩:=rx;obtain⟨t',rfl⟩:=ry;exact in_str (qwi I q rfl)
theorem vkd : OpR X (compareOp .Is) (λx y H Q=>y = .non /\ Q (.bl (decide (x = .non))) H):= by
  intro pins s σ H x y v u Q I rx ry h;obtain⟨rfl, q⟩:= h;cases ry;refine is_none_gen (qwi I q ?_);cases x <;> first
    |(cases rx; rfl)
    |(obtain⟨t, rfl⟩:= rx; rfl)
theorem vvh : OpR X (compareOp .IsNot) (λx y H Q=>y = .non /\ Q (.bl (!decide (x = .non))) H):= by
  intro pins s σ H x y v u Q I rx ry h;obtain⟨rfl, q⟩:= h;cases ry;refine isnot_none_gen (qwi I q ?_);cases x <;> first
    |(cases rx; rfl)
    |(obtain⟨t, rfl⟩:= rx; rfl)
theorem OpR.or{f:Value->Value->Sem Value}{r r':R2}(h:OpR X f r)(h':OpR X f r'):OpR X f (λx y H Q=>r x y H Q\/r' x y H Q):=by
 intro pins s σ H x y v u Q I rx ry q;rcases q with q|q
 ·exact h pins s σ H x y v u Q I rx ry q
 ·exact h' pins s σ H x y v u Q I rx ry q
theorem xz(b:Expr){op:CmpOp}(h:autoParam (op≠.In) ŕ)(h2:autoParam (op≠.NotIn) ŕ):behindInMarks op b=false:=by
 have e1:(op==CmpOp.In)=false:=by cases op<;>first|rfl|exact absurd rfl h
 have e2:(op==CmpOp.NotIn)=false:=by cases op<;>first|rfl|exact absurd rfl h2
 cases b<;>simp[behindInMarks,e1,e2]
theorem vvb{op:CmpOp}{r:R2}(ho:OpR X (compareOp op) r)(ha:PE X a ta)(hb:PE X b tb)(hm:behindInMarks op b=false):PE X (.Compare a [op] [b] pos) (tOp r ta tb):=by
 intro pins s σ H Q I h;exact wpAny_Compare1 (wxm ha hb I h λv u s2 x y H2 I2 rx ry q=>ho pins s2 σ H2 x y v u Q I2 rx ry q) hm
abbrev vz3(t:TE):TT:=fun σ H Q=>t σ H λx H'=>∃k,x=.bl k/\Q k H'
theorem vv1{op:CmpOp}{r:R2}(ho:OpR X (compareOp op) r)(ha:PE X a ta)(hb:PE X b tb)(hm:behindInMarks op b=false):PT X (.Compare a [op] [b] pos) (vz3 (tOp r ta tb)):=by
 intro pins s σ H Q I h;refine wpAny_isTrue_Compare1 (thn (ha pins s σ H _ I h) λv s1 ⟨x,H1,I1,r1,q1⟩=>thn (hb pins s1 σ H1 _ I1 q1) λu s2 ⟨y,H2,I2,r2,q2⟩=>
  thn (ho pins s2 σ H2 x y v u _ I2 r1 r2 q2) λc s3 ⟨z,H3,I3,r3,k,e,q3⟩=>?_) hm
 subst e;cases r3;exact Zm ⟨H3,I3,q3⟩
abbrev vjy(r r':R2)(ta tb tc:TE):TE:=fun σ H Q=>ta σ H λx H1=>tb σ H1 λy H2=>r x y H2 λz H3=>∃k,z=.bl k /\
 (if k=true then tc σ H3 λw' H4=>r' y w' H4 Q else Q (.bl false) H3)
theorem qzo{op lz:CmpOp}{r r':R2}(ho:OpR X (compareOp op) r)(dq:OpR X (compareOp lz) r')(ha:PE X a ta)(hb:PE X b tb)(hc:PE X c tc)
  (hm:lastMarks [op,lz] [b,c]=false:=by ac_rfl):PT X (.Compare a [op,lz] [b,c] pos) (vz3 (vjy r r' ta tb tc)):=by
 intro pins s σ H Q I h;refine isTrue_chain (thn (ha pins s σ H _ I h) λv s1 ⟨x,H1,I1,r1,q1⟩=>test_link (thn (hb pins s1 σ H1 _ I1 q1) λu s2 ⟨y,H2,I2,r2,q2⟩=>
  thn (ho pins s2 σ H2 x y v u _ I2 r1 r2 q2) λd s3 ⟨z,H3,I3,r3,k,e,q3⟩=>?_)) hm
 subst e;cases r3;refine Zm ?_;cases k with
 |false=>
  obtain⟨k',e',q'⟩:=q3;cases e';exact ite_ff ⟨H3,I3,q'⟩
 |true=>
  refine ite_tt (test_last (thn (hc pins s3 σ H3 _ I3 q3) λw' s4 ⟨z',H4,I4,r4,q4⟩=>thn (dq pins s4 σ H4 y z' u w' _ I4 r2 r4 q4) λd' s5 ⟨z2,H5,I5,r5,k2,e2,q5⟩=>?_));subst e2;cases r5;exact Zm ⟨H5,I5,q5⟩
def wxt(K:Frag)(x:V)(H:Hp)(k:Bool):Prop:=
 match x with
 |.non=>k=false|.bl b=>k=b|.int i=>k=(i != 0)|.str y=>y.length<=sizeLine/\k=((y.length:Int) != 0)|.byt y=>y.size<=sizeLine/\k=((y.size:Int) != 0)|.ref p=>(∃xs,SqL K H p xs/\k=!xs.isEmpty)\/(∃xs,SqT K H p xs/\k=!xs.isEmpty)\/∃a9,H p=some (.dK a9)/\k=!a9.isEmpty|_=>False
theorem qk0{κ:Type}{a9:List (κ×V)}{vs:List (κ×Value)}(r:KV a9 vs):(!vs.isEmpty)=!a9.isEmpty:=by
 cases r<;>rfl
theorem kjn{xs:List V}{a8:List Value}(r:Vals xs a8):(!a8.toArray.isEmpty)=!xs.isEmpty:=by
 cases r<;>simp
theorem VX:(sizeLine:Nat)<2 ^ 63:=by rw[Yr];decide
theorem vz2:TruR X (λx H Q=>∃k,wxt X.K x H k/\Q k H):=by
 intro pins s σ H x v Q I rx h;obtain⟨k,e,q⟩:=h;have hl:=VX;have hs:sizeLine=16777216:=Yr;cases x with
 | non=>
  cases rx;have e':k=false:=e;subst e';exact truthy_none ⟨H,I,q⟩
 | bl b=>
  cases rx;have e':k=b:=e;subst e';exact Zm ⟨H,I,q⟩
 | int i=>
  obtain⟨t,rfl⟩:=rx;have e':k=(i != 0):=e;subst e';exact PySem.P.truthy_int ⟨H,I,q⟩
 | str y=>
  obtain⟨t,rfl⟩:=rx;obtain⟨hy,e'⟩:y.length<=sizeLine/\k=((y.length:Int) != 0):=e;subst e';exact PySem.P.truthy_str ⋯ ⟨H,I.tok _,q⟩
 | byt y=>
  obtain⟨t,rfl⟩:=rx;obtain⟨hy,e'⟩:y.size<=sizeLine/\k=((y.size:Int) != 0):=e;subst e';exact PySem.W.truthy_bytes ⋯ ⟨H,I.tok _,q⟩
 | ref p=>
  cases rx;have e':(∃xs,SqL X.K H p xs/\k=!xs.isEmpty)\/(∃xs,SqT X.K H p xs/\k=!xs.isEmpty)\/∃a9,H p=some (.dK a9)/\k=!a9.isEmpty:=e;rcases e' with⟨xs,hx,e'⟩|⟨xs,hx,e'⟩|⟨a9,hx,e'⟩
  ·subst e';obtain⟨a8,r,pl,hz⟩:=I.list hx;have ag:=r.length;exact wpAny_truthy_list pl.isList (by simp only[X9];lia) ⟨H,I.tok _,by rw[kjn r];exact q⟩
  ·subst e';obtain⟨a8,r,pl,hz⟩:=I.tuple hx;have ag:=r.length;exact truthy_tuple pl (by simp only[X9];lia) ⟨H,I.tok _,by rw[kjn r];exact q⟩
  ·subst e';obtain⟨hz,hS,vs,r,m⟩:a9.length<=sizeLine/\(p==sysModules)=false/\∃vs,KV a9 vs/\s.heap.DictOf (x6 X.prog X.w) p vs:=I.hok p _ hx;have ag:a9.length=vs.length:=Paired.length r;exact wpAny_truthy_dict hS m ⋯ ⟨H,I.tok _,by rw[qk0 r];exact q⟩
 |_=>exact(show False from e).elim
theorem qzn(ha:PE X a ta)(he:∀dk,isTrue a X.env dk=(do let v <-dk;standAt a.pos;holding [v] (truthy v))):
  PT X a (fun σ H Q=>ta σ H λx H'=>∃k,wxt X.K x H' k/\Q k H'):=by
 intro pins s σ H Q I h;exact isTrue_plain (thn (ha pins s σ H _ I h) λv s1 ⟨x,H1,I1,r1,q1⟩=>vz2 pins s1 σ H1 x v Q I1 r1 q1) (he _)
theorem op_add_str:OpR X (binaryOp .Add) (λx y H Q=>∃i j,x=.str i/\y=.str j/\i.length+j.length<=sizeLine/\Q (.str (i++j)) H):=by
 intro pins s σ H x y v u Q I rx ry h;obtain⟨i,j,rfl,rfl,hz,q⟩:=h;obtain⟨t,rfl⟩:=rx;obtain⟨t',rfl⟩:=ry;exact add_str (λt' tk=>⟨.str (i++j),H,I.tok _,⟨_,rfl⟩,q⟩) hz
theorem x8{x:V}{us:List Value}(r:Vals [x] us):∃u,us=[u]/\RelV x u:=by
 cases r with|cons r1 r2=>cases r2;exact⟨_,rfl,r1⟩
theorem vqb{x y:V}{us:List Value}(r:Vals [x,y] us):∃u w',us=[u,w']/\RelV x u/\RelV y w':=by
 cases r with
 |cons r1 r2=>
  cases r2 with|cons r3 r4=>cases r4;exact⟨_,_,rfl,r1,r3⟩
end
structure ObjM (h:Heap)(x dx C:Addr)(mA:Str->Option Value):Prop where
 obj:h.get? x=some (PySem.W.instObj C dx)
 ns:h.Ns1 dx mA
 ne:dx≠x
theorem qvl{h:Heap}{dx:Addr}{mA:Str->Option Value}(n:h.Ns1 dx mA):∃od,h.get? dx=some od/\∀name,PySem.W.lookIn name od=some (mA name):=by
 obtain⟨o,es,ep,ho,hd,hk,_,hm⟩:=n;refine⟨o,ho,λname=>?_⟩;have e:=hm name;unfold nsFind findBy at e;rw[<-Array.find?_toList]at e;unfold PySem.W.lookIn;rw[hd];dsimp only
 split
 ·rename_i y q;rw[q]at e;exact congrArg some e
 ·rename_i q;rw[q]at e;have a:es.toList.any (·.refKey)=false:=by
   rw[List.any_eq_false];intro y hy;obtain⟨z,t,md⟩:=hk y (Array.mem_toList_iff.mp hy);simp[DictEntry.refKey,md]
  have a':¬es.toList.any (·.refKey)=true:=by rw[a];exact Bool.false_ne_true
  rw[X8 a'];exact congrArg some e
theorem ObjM.look{h:Heap}{x dx C:Addr}{mA:Str->Option Value}(I:ObjM h x dx C mA):∃od,PySem.W.InstAt h x (PySem.W.instObj C dx) C (some od)/\∀name,PySem.W.lookIn name od=some (mA name):=
 let ⟨od,ho,hl⟩:=qvl I.ns
 ⟨od,⟨I.obj,rfl,rfl,ho⟩,hl⟩
theorem RelO.some_of{v:V}{o:Option Value}(r:RelO (some v) o):∃u,o=some u/\RelV v u:=by
 cases o with|none=>exact(show False from r).elim|some u=>exact⟨u,rfl,r⟩
section
variable {P:Program}{w:World}{H H':Hp}{h h':Heap}{a C dx:Addr}{fs fs':List (Str×V)}
theorem vwe(hok:HOk P w H h)(e:H a=some (.ins C dx fs)):∃mA,ObjM h a dx C mA/\(∀f,RelO (fs.lookup f) (mA f))/\PySem.Within mA (fs.map (·.1))/\fs.length<=1000/\H dx=some (.own a):=by
 obtain⟨d,z,ne,ob,mA,n,r,q⟩:=(show ObjOk P w H h a (.ins C dx fs)from hok a _ e);exact⟨mA,⟨ob,n,ne⟩,r,q,z,d⟩
end
structure Cls (K:Frag)(C:Addr):Prop where
 pg:PySem.W.plainGet K C Str.empty=true
 hd:PySem.W.hasDictIn K C=true
 po:PySem.W.plainOver K C=true
 sa:findIn K (.ref C) "__setattr__"=some (some (.builtin "object.__setattr__"))
theorem Cls.get{K:Frag}{C:Addr}(c:Cls K C)(f:Str):PySem.W.plainGet K C f=true:=c.pg
section
variable {X:Cx}{pins:LA9}{σ:St}{H:Hp}{s:Shared}{A:Around}{E:VP9}{Q:VP9}{c:Value}{b:Bool}
inductive TyOf (K:Frag)(H:Hp):V->Value->Prop where
 | non:TyOf K H .non (.type "NoneType")
 | bl (x:Bool):TyOf K H (.bl x) (.type "bool")
 | int (i:Int):TyOf K H (.int i) (.type "int")
 | str (x:Str):TyOf K H (.str x) (.type "str")
 | flt (x:UInt64):TyOf K H (.flt x) (.type "float")
 | lst {a:Addr} {xs:List V} (e:H a=some (.lst xs)):TyOf K H (.ref a) (.type "list")
 | frz {a:Addr} {o:Obj} {xs:List V} (e:H a=some (.frz o (.lst xs))):TyOf K H (.ref a) (.type "list")
 | tup {a:Addr} {xs:List V} (e:H a=some (.tup xs)):TyOf K H (.ref a) (.type "tuple")
 | dK {a:Addr} {a9:List (Key×V)} (e:H a=some (.dK a9)):TyOf K H (.ref a) (.type "dict")
 | dT {a:Addr} {a9:List (List Key×V)} (e:H a=some (.dT a9)):TyOf K H (.ref a) (.type "dict")
 | ins {a C dx:Addr} {fs:List (Str×V)} (e:H a=some (.ins C dx fs)) (cl:Cls K C) (ha:findIn K (.ref C) "__class__"=some (some (.builtin "object.__class__")))
   (hn:PySem.W.specialIn K (.builtin "object.__class__") "__get__"=some (some (.builtin "getset_descriptor.__get__"))) (qp:PySem.W.takesIn K (.builtin "object.__class__")=some true)
   (hm:PySem.W.mroIn K C (.type "object")=some true):TyOf K H (.ref a) (.ref C)
theorem qw3{x:V}{u t:Value}(I:Inv X pins σ H s)(rx:RelV x u)(ty:TyOf X.K H x t)(e:kitOne X.K t c=some b)(h:∀tk,Q (.bool b) { s with toks:=tk }):
  wpAny (model X.prog X.w) A (call (.builtin "isinstance") [u,c]) Q E s:=by
 cases ty with
 |non=>cases(show u=Value.none from rx);exact Yk PySem.W.kitx_none I.kIn Zs e (λz=>nomatch z) h|bl y=>cases(show u=Value.bool y from rx);exact Yk PySem.W.kitx_bool I.kIn Zs e (λz=>nomatch z) h|int i=>obtain⟨t,q⟩:=(show ∃t,u=Value.int i t from rx);cases q;exact Yk PySem.W.kitx_int I.kIn Zs e (λz=>nomatch z) h|str y=>obtain⟨t,q⟩:=(show ∃t,u=Value.str y t from rx);cases q;exact Yk PySem.W.kitx_str I.kIn Zs e (λz=>nomatch z) h|flt y=>obtain⟨t,q⟩:=(show ∃t,u=Value.float y t from rx);cases q;exact Yk PySem.W.kitx_float I.kIn Zs e (λz=>nomatch z) h
 |@lst a xs ea=>
  cases(show u=Value.ref a from rx);obtain⟨_,_,n,_,h1⟩:=(show ObjOk X.prog X.w H s.heap a (.lst xs)from I.hok a _ ea);exact Yk PySem.W.kitx_list I.kIn ⟨_,h1,rfl⟩ e (λz=>nomatch z) h
 |@frz a ob xs ea=>
  cases(show u=Value.ref a from rx);obtain⟨_,_,_,n,_,h1⟩:=(show ObjOk X.prog X.w H s.heap a (.frz ob (.lst xs))from I.hok a _ ea);exact Yk PySem.W.kitx_list I.kIn ⟨_,h1,rfl⟩ e (λz=>nomatch z) h
 |@tup a xs ea=>
  cases(show u=Value.ref a from rx);obtain⟨_,_,_,p⟩:=(show ObjOk X.prog X.w H s.heap a (.tup xs)from I.hok a _ ea);obtain⟨o,h1,h2,_⟩:=p;exact Yk PySem.W.kitx_tuple I.kIn ⟨o,h1,h2⟩ e (λz=>nomatch z) h
 |@dK a a9 ea=>
  cases(show u=Value.ref a from rx);obtain⟨_,_,vs,_,p⟩:=(show ObjOk X.prog X.w H s.heap a (.dK a9)from I.hok a _ ea);obtain⟨o,es,ep,h1,h2,_⟩:=p;exact Yk PySem.W.kitx_dict I.kIn ⟨o,h1,h2.1⟩ e (λz=>nomatch z) h
 |@dT a a9 ea=>
  cases(show u=Value.ref a from rx);obtain⟨_,_,xs,_,o,es,ep,h1,h2,_⟩:=(show ObjOk X.prog X.w H s.heap a (.dT a9)from I.hok a _ ea);exact Yk PySem.W.kitx_dict I.kIn ⟨o,h1,h2.1⟩ e (λz=>nomatch z) h
 |@ins a C dx fs ea cl ha hn qp hm=>
  cases(show u=Value.ref a from rx);obtain⟨mA,O,_⟩:=vwe I.hok ea;obtain⟨od,J,_⟩:=O.look;exact Yk (PySem.W.kitx_own (cl.get _) cl.hd ha hn qp hm) I.kIn J e (λz=>nomatch z) h
end
structure Room (k:Nat)(A:Around):Prop where
 hd:A.handled=none
 dp:A.depth+3*k+5<recursionLimit
 un:A.units+16*k+200<cLine
 gd:A.guards=some []
theorem Room.mono{j k:Nat}{A:Around}(r:Room k A)(h:j<=k):Room j A:=⟨r.hd,by have:=r.dp;lia,by have:=r.un;lia,r.gd⟩
theorem Room.deeper{k:Nat}{A:Around}(r:Room (k+1) A)(env:Env):Room k (A.deeper env):=
 ⟨r.hd,by have:=r.dp;show A.depth+1+3*k+5<_;lia,by have:=r.un;show A.units+3+16*k+200<_;lia,r.gd⟩
theorem Room.depth{k:Nat}{A:Around}(r:Room k A):A.depth<recursionLimit:=by have:=r.dp;lia
theorem Room.units{k:Nat}{A:Around}(r:Room k A):A.units+64<cLine:=by have:=r.un;lia
abbrev wvm:TA:=λ_ H Q=>Q [] H
abbrev vqg(ta:TE)(tr:TA):TA:=fun σ H Q=>ta σ H λx H1=>tr σ H1 λxs H2=>Q (x::xs) H2
section
variable {X:Cx}{e:Expr}{es:List Expr}{te:TE}{t:TA}{pos:Pos}
def vq:PA X [] wvm:=λ_ _ _ _ H Q I h=>Calls.spliced_nil ⟨[],H,I,.nil,h⟩
theorem qQ(ha:PE X e te)(hr:PA X es t)(hs:autoParam (starEach (e::es) X.env=(false,eval e X.env)::starEach es X.env) Ŕ):PA X (e::es) (vqg te t):=by
 intro pos pins s σ H Q I h;rw[hs];show wpAny _ _ (spliced ((false,eval e X.env)::backTo pos (starEach es X.env))) _ _ s;refine Calls.spliced_cons (thn (ha pins s σ H _ I h) λu s1 ⟨x,H1,I1,r1,q1⟩=>?_);exact thn (hr pos pins s1 σ H1 _ I1 q1) λus s2 ⟨xs,H2,I2,r2,q2⟩=>⟨x::xs,H2,I2,.cons r1 r2,q2⟩
abbrev tTup(t:TA):TE:=fun σ H Q=>t σ H λxs H1=>xs.length<=sizeLine/\∀p,H1 p=none->Q (.ref p) (upd H1 p (.tup xs))
abbrev tLst(t:TA):TE:=fun σ H Q=>t σ H λxs H1=>xs.length<=sizeLine/\∀p,H1 p=none->Q (.ref p) (upd H1 p (.lst xs))
theorem wjt{x1}(h:PA X es t):PE X (.Tuple es x1 pos) (tTup t):=by
 intro pins s σ H Q I hq;refine wpAny_Tuple_spliced (thn (h pos pins s σ H _ I hq) λus s1 ⟨xs,H1,I1,r,z,q⟩=>⟨by rw[<-r.length];exact z,?_⟩);have hf:H1 s1.heap.objs.size=none:=I1.hok.fresh (Xa _);refine⟨.ref s1.heap.objs.size,upd H1 s1.heap.objs.size (.tup xs),I1.laid (t':=s1.toks) (λb u e=>X3 _ e) (Xa _) ?_,rfl,q _ hf⟩;exact⟨z,us,r,⟨_,Xg _ rfl,rfl,rfl,_,rfl⟩⟩
theorem wjw(h:PA X es t):PE X (.List es pos) (tLst t):=by
 intro pins s σ H Q I hq;refine wpAny_List_spliced (thn (h pos pins s σ H _ I hq) λus s1 ⟨xs,H1,I1,r,z,q⟩=>⟨by rw[<-r.length];exact z,?_⟩);have hf:H1 s1.heap.objs.size=none:=I1.hok.fresh (Xa _);refine⟨.ref s1.heap.objs.size,upd H1 s1.heap.objs.size (.lst xs),I1.laid (t':=s1.toks) (λb u e=>X3 _ e) (Xa _) ?_,rfl,q _ hf⟩;exact⟨z,us,0,r,Xg _ rfl⟩
end
abbrev Sp:=List V->Hp->VK->XK->Prop
abbrev CXT:=List Env->Hp->Shared->XK->Value->Shared->Prop
structure Env0 (P:Program)(w:World)(K:Frag)(mg:Str->Option Value)(base:Heap)(A:Around)(outer:List Env)(s:Shared)(H:Hp):Prop where
 frames:A.frames=some outer
 mod:Mod K mg base
 bs:∀b o,base.get? b=some o->s.heap.get? b=some o/\H b=none
 bsz:base.objs.size<=s.heap.objs.size
 funs:s.heap.FunFrames base outer
 frf:∀b∈frs outer,H b=none
 hok:HOk P w H s.heap
 bare:AllBare s.gens
def CE(outer:List Env)(P:Program)(w:World)(H:Hp)(s:Shared)(Q:VK)(u:Value)(s':Shared):Prop:=
 ∃v H',s'.os=s.os/\AllBare s'.gens/\Un (frs outer) [] H H' s.heap s'.heap/\HOk P w H' s'.heap/\RelV v u/\Q v H'
def CR(CX:CXT)(outer:List Env)(P:Program)(w:World)(H:Hp)(s:Shared)(Q:VK)(E:XK)(r:Result)(s':Shared):Prop:=
 match r with
 |.ok (.ret u)=>CE outer P w H s Q u s'|.ok _=>False|.error e=>CX outer H s E e s'
structure FnOk (P:Program)(w:World)(K:Frag)(mg:Str->Option Value)(base:Heap)(CX:CXT)(k:Nat)(f:Addr)(fd:FuncData)(ps:List Str)(sp:Sp):Prop where
 len:∀vs H Q E,sp vs H Q E->vs.length=ps.length
 run:∀(A:Around) (outer:List Env) (s:Shared) (H:Hp) (args:Args) (us:List Value) (vs:List V) (Q:VK) (E:XK),Room k A->Env0 P w K mg base A outer s H->BindsTo s fd args (ps.zip us)->Vals vs us->sp vs H Q E ->
  codeAny (model P w) A (.call (.ref f) args) (CR CX outer P w H s Q E) s
section
variable {X:Cx}{pins:LA9}{σ:St}{H:Hp}{s s':Shared}
theorem Inv.env0(I:Inv X pins σ H s):Env0 X.prog X.w X.K X.mg X.base X.A X.stack s H:=
 ⟨I.ok.frames,I.ok.mod,I.bs,Yn I.ok.bsz I.sz,I.stack,I.stkFree,I.hok,I.bare⟩
theorem Inv.after{Q:VK}{u:Value}(I:Inv X pins σ H s)(h:CE X.stack X.prog X.w H s Q u s'):EP X pins σ Q u s':=by
 obtain⟨v,H',os,bare,un,hok,r,q⟩:=h;obtain⟨hh,g,d,t,ri⟩:=s';obtain rfl:ri=s.os:=os;exact⟨v,H',I.call (h':=hh) (g':=g) (d':=d) (t':=t) (ch:=[]) un hok bare (λb z=>absurd z (by simp)),r,q⟩
end
abbrev vz7(sp:Sp)(kt:List V)(E:XK)(t:TA):TE:=fun σ H Q=>t σ H λvs H1=>sp (vs++kt) H1 Q E
def Binds(K:Frag)(fd:FuncData)(ps:List Str)(ds:List Value):Prop:=
 ∀(s:Shared) (us:List Value),K.In s.heap->(us++ds).length=ps.length->BindsTo s fd ⟨us,[]⟩ (ps.zip (us++ds))
theorem Binds.all{K:Frag}{fd:FuncData}{ps:List Str}(h:∀us:List Value,us.length=ps.length->bindArgs fd ⟨us,[]⟩=pure (ps.zip us)):Binds K fd ps []:=λs us _ hl=>by
 rw[Xq]at hl ⊢;exact .of_eq (h us hl)
def qxr(CX:CXT)(X:Cx)(E:XK):Prop:=∀(pins:LA9) (σ:St) (H:Hp) (s:Shared) (e:Value) (s':Shared),Inv X pins σ H s->CX X.stack H s E e s'->X.xe e s'
section
variable {X:Cx}{CX:CXT}{k:Nat}{f C:Addr}{fd:FuncData}{ps:List Str}{sp:Sp}{kt:List V}{ds:List Value}{E:XK}{x m:Str}{p pos am:Pos}{e o:Expr}{es:List Expr}{ta:TE}{t:TA}
theorem vzn{pins:LA9}{σ:St}{H:Hp}{s:Shared}{Q:VK}{us:List Value}{vs:List V}(F:FnOk X.prog X.w X.K X.mg X.base CX k f fd ps sp)(hr:Room k X.A)(hb:Binds X.K fd ps ds)(hd:Vals kt ds)(hx:qxr CX X E)
  (I:Inv X pins σ H s) (r:Vals vs us) (h:sp (vs++kt) H Q E):wpAny (model X.prog X.w) X.A (call (.ref f) us) (EP X pins σ Q) X.xe s:=by
 have r2:Vals (vs++kt) (us++ds):=r.append hd;have hl:(us++ds).length=ps.length:=by rw[<-r2.length];exact F.len _ _ _ _ h
 refine wpAny_call (codeAny_mono (F.run X.A X.stack s H ⟨us,[]⟩ (us++ds) (vs++kt) Q E hr I.env0 (hb s us I.kIn hl) r2 h) λr s' hq=>?_);cases r with
 |error e=>exact hx pins σ H s e s' I hq
 |ok fl=>
  cases fl with|ret u=>exact I.after hq|next=>exact False.elim hq|brk=>exact False.elim hq|cont=>exact False.elim hq
theorem vvc(F:FnOk X.prog X.w X.K X.mg X.base CX k f fd ps sp)(hr:Room k X.A)(hg:Gl X x)(hm:X.mg x=some (.ref f))(hk:PySem.W.keepIn X.K (.ref f)=true)(hb:Binds X.K fd ps ds)(hd:Vals kt ds)(hx:qxr CX X E)
  (ha:PA X (e::es) t) (fj:autoParam ((x==("__debug__":Str))=false) ŕ) (he:autoParam (starEach (e::es) X.env=(false,eval e X.env)::starEach es X.env) Ŕ) (bn:autoParam ((backTo pos (starEach es X.env)).any (·.1)=false) Ŕ):
  PE X (.Call (.Name x p) (e::es) [] pos) (vz7 sp kt E t):=by
 intro pins s σ H Q I h;refine Yw (qvt I hg hm ?_ fj);refine PySem.W.callWith_K (h₀:=X.base) I.ok.mod.kin hk (thn (ha pos pins s σ H _ I h) λus s1 ⟨vs,H1,I1,r,q⟩=>⟨I1.kIn,?_⟩) he bn;exact vzn F hr hb hd hx I1 r q
end
structure FnScope (N P:List Str)(sc:Scope):Prop where
 kind:sc.kind=.function
 co:sc.isCoroutine=false
 gen:sc.isGenerator=false
 nd:N.Nodup
 pre:N.take P.length=P
 par:∀x∈P,sc.names.lookup x=some .local\/sc.names.lookup x=some .cell
 nofree:∀y∈sc.names,y.2≠.free
theorem kvt{kindOf : Str -> Option NameKind}{x : Str}: ∀{binds : List (Str × Value)} {m : Str -> Option Value}, (∀v, (x, v)∉binds) -> bindL kindOf binds m x = m x
  | [], _, _=>rfl
  | (n, v)::r, m, h=>by
    unfold bindL;rw[kvt λw hw=>h w (lc9 _ hw)]
    split
    · have : x≠n:= by rintro rfl; exact h v X5
      simp[this]
    · rfl
theorem kvv{kindOf : Str -> Option NameKind}{x : Str}: ∀{binds : List (Str × Value)} {m : Str -> Option Value}, (∀v, (x, v)∉binds) -> bindC kindOf binds m x = m x
  | [], _, _=>rfl
  | (n, v)::r, m, h=>by
    unfold bindC;rw[kvv λw hw=>h w (lc9 _ hw)]
    split
    · rfl
    · have : x≠n:= by rintro rfl; exact h v X5
      simp[this]
theorem kvu{kindOf:Str->Option NameKind}{x:Str}{v:Value}:∀{P:List Str} {vs:List Value} {i:Nat} {m:Str->Option Value},P.Nodup->P[i]?=some x->vs[i]?=some v->kindOf x=some .local ->
  bindL kindOf (P.zip vs) m x=some v
 |[],_,_,_,_,h,_,_=>by simp at h|_::_,[],_,_,_,_,h,_=>by simp at h
 |p::P,w::vs,0,m,nd,h1,h2,hk=>by
  simp at h1 h2;subst h1;subst h2;show bindL kindOf ((p,w)::P.zip vs) m p=_;unfold bindL;rw[kvt λv hv=>(List.nodup_cons.mp nd).1 (List.of_mem_zip hv).1,X6 hk];simp
 |p::P,w::vs,i+1,m,nd,h1,h2,hk=>by
  show bindL kindOf ((p,w)::P.zip vs) m x=_;unfold bindL;exact kvu (i:=i) (List.nodup_cons.mp nd).2 (by simpa using h1) (by simpa using h2) hk
theorem kvw{kindOf:Str->Option NameKind}{x:Str}{v:Value}:∀{P:List Str} {vs:List Value} {i:Nat} {m:Str->Option Value},P.Nodup->P[i]?=some x->vs[i]?=some v->kindOf x≠some .local ->
  bindC kindOf (P.zip vs) m x=some v
 |[],_,_,_,_,h,_,_=>by simp at h|_::_,[],_,_,_,_,h,_=>by simp at h
 |p::P,w::vs,0,m,nd,h1,h2,hk=>by
  simp at h1 h2;subst h1;subst h2;show bindC kindOf ((p,w)::P.zip vs) m p=_;unfold bindC;rw[kvv λv hv=>(List.nodup_cons.mp nd).1 (List.of_mem_zip hv).1,X8 hk];simp
 |p::P,w::vs,i+1,m,nd,h1,h2,hk=>by
  show bindC kindOf ((p,w)::P.zip vs) m x=_;unfold bindC;exact kvw (i:=i) (List.nodup_cons.mp nd).2 (by simpa using h1) (by simpa using h2) hk
def start(N:List Str)(vs:List V):St:=vs.map some++List.replicate (N.length - vs.length) none
noncomputable def zZ(CX:CXT)(P:Program)(w:World)(K:Frag)(mg:Str->Option Value)(base:Heap)(N:List Str)(qual:Str)(scope:Scope)(f:Addr)(cd:Value)(A:Around)(outer:List Env)(s:Shared)(H:Hp)(E:XK):Cx where
 prog:=P
 w:=w
 K:=K
 mg:=mg
 base:=base
 A:=A.deeper (envOfC qual scope s.heap.objs.size f cd)
 N:=N
 s₀:=s
 H₀:=H
 env:=envOfC qual scope s.heap.objs.size f cd
 outer:=outer
 stack:=envOfC qual scope s.heap.objs.size f cd::outer
 ex:=[]
 calm:=true
 fn:=λ_=>true
 pn:=[]
 xe:=λe s'=>wpAny (model P w) (A.deeper (envOfC qual scope s.heap.objs.size f cd)) (leaving (envOfC qual scope s.heap.objs.size f cd) e) (λ_ ig=>CX outer H s E e ig) (λe' ig=>CX outer H s E e' ig) s'
theorem qj9{sc:Scope}{n:Nat}{x:Str}(h:sc.names.lookup x=some .cell):∃c,(cellsFrom n sc.names []).lookup x=some c:=by
 have q:=PySem.W.cellsFrom_some sc.names n [] (.inl h);exact Option.isSome_iff_exists.mp q
theorem qw5{CX:CXT}{P:Program}{w:World}{K:Frag}{mg:Str->Option Value}{base:Heap}{N ps:List Str}{qual:Str}{scope:Scope}{f:Addr}{cd:Value}{A:Around}{outer:List Env}{s s1:Shared}{H:Hp}{E:XK}{us:List Value}{vs:List V}
  (S:FnScope N ps scope) (hd:A.handled=none) (e0:Env0 P w K mg base A outer s H) (hl:vs.length=ps.length) (r:Vals vs us)
  (x:InCallC s s.heap.objs.size (bindL (envOfC qual scope s.heap.objs.size f cd).kindOf (ps.zip us) λ_=>none) (cellsFrom (s.heap.objs.size+1) scope.names []) (bindC (envOfC qual scope s.heap.objs.size f cd).kindOf (ps.zip us) λ_=>none) s1):
  Inv (zZ CX P w K mg base N qual scope f cd A outer s H E) [] (start N vs) H s1:=by
 have bn:ps.length<=N.length:=by have:=congrArg List.length S.pre;rw[Y5]at this;lia
 obtain⟨h1,tk,rfl,hk⟩:=x.done;have p9:∀b:Addr,b∉(zZ CX P w K mg base N qual scope f cd A outer s H E).ex:=λb z=>absurd (show b∈([]:List Addr)from z) (by simp)
 refine⟨⟨e0.mod,S.kind,rfl,rfl,Xa _,λy z c h1 h2=>?_,λy hy=>?_,λy c _ h=>?_,λ_=>hd,Around.frames_deeper e0.frames,.inr ⟨rfl,rfl⟩,λb z=>absurd z (p9 b),e0.bs,e0.bsz,λb _ _=>p9 b,λb z=>absurd z (p9 b),e0.funs,e0.frf⟩,
  rfl,e0.bare,Un.kept hk,⟨_,x.toInCall.ns,λi y v h1 h2 h3=>?_⟩,λy c h=>⟨_,x.cell y c h⟩,e0.hok.fresh (Xa _),λy c h=>?_,λp hp=>absurd (show p∈([]:LA9)from hp) (by simp),e0.hok.kept hk,?_⟩
 ·exact name_of_addr x.apart (Z3 h1) (Z3 h2)
 ·have hy:scope.names.lookup y=some .cell\/scope.names.lookup y=some .free:=hy;rcases hy with hy|hy
  ·exact qj9 hy
  ·exact absurd rfl (S.nofree _ (Z3 hy))
 ·exact Nat.le_of_lt (x.above y c (Z3 h))
 ·have hi:i<vs.length:=by
   unfold start at h2
   by_cases hi:i<vs.length
   ·exact hi
   ·rw[List.getElem?_append_right (by simpa using hi)]at h2;rw[List.getElem?_replicate]at h2
    split at h2<;>cases h2
  have ha:vs[i]?=some v:=by
   unfold start at h2;rw[Ym (by simpa using hi),Xe]at h2;cases e:vs[i]? with|none=>rw[e]at h2;cases h2|some a=>rw[e]at h2;cases h2;rfl
  obtain⟨u,hu,rv⟩:=r.get ha;have hp:ps[i]?=some y:=by
   rw[<-S.pre,List.getElem?_take_of_lt ⋯];exact h1
  have ndP:ps.Nodup:=by rw[<-S.pre];exact S.nd.sublist (List.take_sublist _ _)
  refine⟨u,rv,?_⟩;rcases S.par y (Xv hp)with k|k
  ·exact .inl ⟨k,kvu ndP hp hu k⟩
  ·obtain⟨c,e⟩:=qj9 (n:=s.heap.objs.size+1) k;refine .inr ⟨.inl k,c,e,?_⟩;have q:=x.cell y c e;rw[kvw ndP hp hu (by show scope.names.lookup y≠_;rw[k];decide)]at q;exact q
 ·exact e0.hok.fresh (Nat.le_of_lt (x.above y c (Z3 h)))
 ·unfold start;show _=N.length;rw[Xp,X1,Z8];lia
theorem wx4{CX:CXT}{P:Program}{w:World}{K:Frag}{mg:Str->Option Value}{base:Heap}{k:Nat}{f:Addr}{name qual:Str}{params:Arguments}{body:List Stmt}{scope:Scope}{dV kV fb pm b8 ct oc:Value}{an od:Option Addr}
  {jy:Array (Option Value)} {N ps:List Str} {sp:Sp} (lk:K.lookup f=some ⟨oc,od,.func (PySem.W.fnOf name qual params body scope dV kV fb pm an b8 ct),jy⟩) (fi:PySem.W.codeIn K b8 qual=true) (S:FnScope N ps scope)
  (len:∀vs H Q E,sp vs H Q E->vs.length=ps.length)
  (iq:∀(A:Around) (outer:List Env) (s:Shared) (H:Hp) (vs:List V) (Q:VK) (E:XK),Room k (A.deeper (envOfC qual scope s.heap.objs.size f b8))->sp vs H Q E ->
   ∃t,PSs (zZ CX P w K mg base N qual scope f b8 A outer s H E) body t/\t { nx:=λ_ H'=>Q .non H',rt:=Q } (start N vs) H):
  FnOk P w K mg base CX (k+1) f (PySem.W.fnOf name qual params body scope dV kV fb pm an b8 ct) ps sp:=by
 refine⟨len,λA outer s H args us vs Q E hr e0 hb r ie=>?_⟩;have hl:=len _ _ _ _ ie;have KX:K.In s.heap:=e0.mod.kin.keeps λb o e=>(e0.bs b o e).1
 have lim:s.heap.NoLimit:=e0.mod.nolimit.keeps λb o e=>(e0.bs b o e).1
 have ph:∀y∈ps.zip us,scope.names.lookup y.1=some .local\/(scope.names.lookup y.1=some .cell/\((cellsFrom (s.heap.objs.size+1) scope.names []).lookup y.1).isSome=true):=λ⟨n,v⟩ hy=>by
  rcases S.par n (List.of_mem_zip hy).1 with q|q
  ·exact .inl q
  ·exact .inr ⟨q,PySem.W.cellsFrom_some _ _ _ (.inl q)⟩
 refine codeAny_call_function hr.depth (KX _ _ lk) rfl S.co S.gen rfl (PySem.W.codeRec_of KX fi) (hb _ _ _ _ ?_);refine wpAny_newFunctionEnv_cells S.kind ph λenv he s1 x=>?_
 subst he;refine⟨lim.keeps x.toInCall.keep,codeAny_func ?_⟩;obtain⟨t,ht,hq⟩:=iq A outer s H vs Q E (hr.deeper _) ie;have I:Inv (zZ CX P w K mg base N qual scope f b8 A outer s H E) [] (start N vs) H s1:=qw5 S hr.hd e0 hl r x;refine wpAny_mono (ht [] s1 (start N vs) H _ I hq) (λfl s' hs=>?_) λe s' hs=>hs
 have fin:∀{σ':St} {H':Hp} {v:V} {u:Value},Inv (zZ CX P w K mg base N qual scope f b8 A outer s H E) [] σ' H' s'->RelV v u->Q v H'->CE outer P w H s Q u s':=
  fun {σ' H' v u} J rv q=>⟨v,H',J.os,J.bare,J.base,J.hok,rv,q⟩
 cases fl with
 |ret u=>
  obtain⟨v,σ',H',J,rv,q⟩:=hs;exact fin J rv q
 |next=>
  obtain⟨σ',H',J,q⟩:=hs;exact fin (v:=V.non) (u:=Value.none) J rfl q
 |brk=>
  obtain⟨_,_,_,q⟩:=hs;exact False.elim q
 |cont=>
  obtain⟨_,_,_,q⟩:=hs;exact False.elim q
section
variable {X:Cx}{x:Str}{p pos:Pos}{e:Expr}{es:List Expr}{t:TA}{id T:String}{r:List V->Hp->VK->Prop}
abbrev tCB(r:List V->Hp->VK->Prop)(t:TA):TE:=fun σ H Q=>t σ H λvs H1=>r vs H1 Q
theorem kzf(hc:CallR X (.builtin id) r)(hg:Gl X x)(hm:X.mg x=none)(hv:bootBuiltins x=some (.builtin id))(ha:PA X (e::es) t)(hn:autoParam (x≠"__name__") ŕ)(fj:autoParam ((x==("__debug__":Str))=false) ŕ)
  (he:autoParam (starEach (e::es) X.env=(false,eval e X.env)::starEach es X.env) Ŕ) (bn:autoParam ((backTo pos (starEach es X.env)).any (·.1)=false) Ŕ):PE X (.Call (.Name x p) (e::es) [] pos) (tCB r t):=by
 intro pins s σ H Q I h;refine Yw (xW I hg hm hv ?_ hn fj);exact PyProof.Rows.callWith_builtin1 (thn (ha pos pins s σ H _ I h) λus s1 ⟨vs,H1,I1,r1,q1⟩=>hc pins s1 σ H1 vs us Q I1 r1 q1) he bn
theorem qqx(hc:CallR X (.type T) r)(hg:Gl X x)(hm:X.mg x=none)(hv:bootBuiltins x=some (.type T))(ha:PA X (e::es) t)(hn:autoParam (x≠"__name__") ŕ)(fj:autoParam ((x==("__debug__":Str))=false) ŕ)
  (he:autoParam (starEach (e::es) X.env=(false,eval e X.env)::starEach es X.env) Ŕ) (bn:autoParam ((backTo pos (starEach es X.env)).any (·.1)=false) Ŕ):PE X (.Call (.Name x p) (e::es) [] pos) (tCB r t):=by
 intro pins s σ H Q I h;refine Yw (xW I hg hm hv ?_ hn fj);exact Ya (thn (ha pos pins s σ H _ I h) λus s1 ⟨vs,H1,I1,r1,q1⟩=>hc pins s1 σ H1 vs us Q I1 r1 q1) he bn
end
end L2
namespace HT
open PySem PyProof.Rows
section
variable {prog:Program}{w:World}{A:Around}{E:VP9}{s:Shared}
theorem cat_tup{t b:Addr}{vs ws:List Value}{Q:VP9}(ht:IsTup s.heap t vs.toArray)(hb:IsTup s.heap b ws.toArray)(hv:vs≠[])
  (h1:ws=[]->Q (.ref t) s) (h2:ws≠[]->Q (.ref s.heap.objs.size) { s with heap:=s.heap.push { cls:=.type "tuple",data:=.seq (vs++ws).toArray } })
  (hsz:vs.length+ws.length<=sizeLine):wpAny (model prog w) A (binaryOp .Add (.ref t) (.ref b)) Q E s:=by
 obtain⟨⟨cls,dd,data,sl⟩,ho,hc,n,hd⟩:=id ht;obtain⟨⟨cls2,jl,data2,io⟩,ho2,ja,n2,du⟩:=id hb;simp only at hc hd ja du;subst hc hd ja du;have e:vs.toArray++ws.toArray=(vs++ws).toArray:=by simp
 by_cases hw:ws=[]
 ·exact concat_meets ⟨_,ho,rfl⟩ ⟨_,ho2,rfl⟩ noFill_tuple_add seq_tuple_add PySem.F.slot_tuple_add PySem.F.entry_tuple_add (PySem.F.args_tuple_add_2 _ _)
   (tuple_addW1 t b vs.toArray ws.toArray n n2 dd jl sl io (by simpa using hv) (by simp[hw])) ⟨ho,ho2,h1 hw⟩
 ·refine concat_meets ⟨_,ho,rfl⟩ ⟨_,ho2,rfl⟩ noFill_tuple_add seq_tuple_add PySem.F.slot_tuple_add PySem.F.entry_tuple_add (PySem.F.args_tuple_add_2 _ _)
   (tuple_addW2 t b vs.toArray ws.toArray n n2 dd jl sl io (by simpa using hv) (by simpa using hw) (by rw[X9,X9];exact hsz)) ⟨ho,ho2,?_⟩
  rw[e];exact h2 hw
def sIx(n d:Nat):Option Int->Nat
 |none=>d|some v=>if v<0 then(v+(n:Int)).toNat else min v.toNat n
theorem vzl(n d:Nat)(hd:d<=n)(o:Option Int):sIx n d o<=n:=by
 cases o with
 |none=>exact hd
 |some v=>
  show(if v<0 then(v+(n:Int)).toNat else min v.toNat n)<=n
  by_cases hv:v<0
  ·rw[X6 hv];lia
  ·rw[X8 hv];exact Nat.min_le_right _ _
theorem qx4(v:Int)(n d:Nat):(if v<0 then max (v+(n:Int)) 0 else min v (n:Int))=((sIx n d (some v):Nat):Int):=by
 show(if v<0 then max (v+(n:Int)) 0 else min v (n:Int))=(((if v<0 then(v+(n:Int)).toNat else min v.toNat n):Nat):Int)
 by_cases hv:v<0
 ·simp only[X6 hv];lia
 ·simp only[X8 hv];lia
theorem qkc(lo hi:Option Int)(n:Nat):Builtin.Slice.sliceAdjust lo hi 1 (n:Int)=(((sIx n 0 lo:Nat):Int),((sIx n n hi:Nat):Int)):=by
 have h1:¬((1:Int)<0):=⋯
 unfold Builtin.Slice.sliceAdjust;simp only[h1,if_false];refine Prod.ext ?_ ?_
 ·cases lo with|none=>rfl|some v=>exact qx4 v n 0
 ·cases hi with|none=>rfl|some v=>exact qx4 v n n
theorem qjp(i j:Nat):Builtin.Slice.slicePlaces (i:Int) (j:Int) 1=j - i:=by
 unfold Builtin.Slice.slicePlaces;have h1:(1:Int)>0:=⋯
 simp only[h1,if_true,Int.ediv_one]
 split<;>lia
theorem kjf{v:Value}{o:Option Int}{Q:Option Int->Shared->Prop}(p:IsPart v o)(h:Q o s):wpAny (model prog w) A (Builtin.Slice.slicePartIndex v) Q E s:=by
 cases p with|none=>exact slicePart_none h|int i t=>exact slicePart_int h
theorem jv2{sl:Addr}{vl vu:Value}{lo hi:Option Int}{n:Nat}{Q:Int×Int×Nat->Shared->Prop}(hs:s.heap.IsSliceOf sl vl vu .none)(pl:IsPart vl lo)(pu:IsPart vu hi)
  (h:Q (((sIx n 0 lo:Nat):Int),1,sIx n n hi - sIx n 0 lo) s):wpAny (model prog w) A (Builtin.Slice.sliceApplied (.ref sl) (pure (n:Int))) Q E s:=by
 obtain⟨os,fz,nh,au⟩:=id hs;unfold Builtin.Slice.sliceApplied Builtin.Slice.sliceFields;refine X0 (X0 (Zr fz au (x:=vl) rfl (X0 (Zr fz au (x:=vu) rfl (X0 (Zr fz au (x:=.none) rfl (X4 ?_)))))));refine X0 (slicePart_none ?_);show wpAny _ _ (if((1:Int)==0)=true then _ else _) _ _ s;rw[X8 ⋯];refine X0 (kjf pl (X0 (kjf pu (X0 (X4 ?_)))));show wpAny _ _ (match Builtin.Slice.sliceAdjust lo hi 1 (n:Int)with|(lo,hi)=>pure (lo,(1:Int),Builtin.Slice.slicePlaces lo hi 1)) _ _ s;rw[qkc lo hi n];show wpAny _ _ (pure (((sIx n 0 lo:Nat):Int),(1:Int),Builtin.Slice.slicePlaces ((sIx n 0 lo:Nat):Int) ((sIx n n hi:Nat):Int) 1)) _ _ s;rw[qjp];exact X4 h
theorem qzq(xs:Array Value)(i k:Nat):((List.range k).filterMap λ(m:Nat)=>xs[((i:Int)+(m:Int)*1).toNat]?).toArray=((xs.toList.drop i).take k).toArray:=by
 have e:(λ(m:Nat)=>xs[((i:Int)+(m:Int)*1).toNat]?)=λm=>xs[i+m]?:=by
  funext m;have:((i:Int)+(m:Int)*1).toNat=i+m:=⋯
  rw[this]
 rw[e];have:=pick_run xs i k;rw[List.filterMap_map]at this;have e2:((λx=>xs[x]?)∘λx=>i+x)=λm=>xs[i+m]?:=rfl
 rw[e2]at this;rw[this]
theorem getItem_tuple_cut{t sl:Addr}{items:Array Value}{vl vu:Value}{lo hi:Option Int}{Q:VP9}(ht:IsTup s.heap t items)(hs:s.heap.IsSliceOf sl vl vu .none)(pl:IsPart vl lo)(pu:IsPart vu hi)
  (hw:¬(sIx items.size 0 lo=0/\sIx items.size items.size hi=items.size))
  (h:Q (.ref s.heap.objs.size) { s with heap:=s.heap.push { cls:=.type "tuple",data:=.seq ((items.toList.drop (sIx items.size 0 lo)).take (sIx items.size items.size hi - sIx items.size 0 lo)).toArray } })
  (hsz:items.size<=sizeLine):wpAny (model prog w) A (getItem (.ref t) (.ref sl)) Q E s:=by
 have gj:sizeOk (.seq ((items.toList.drop (sIx items.size 0 lo)).take (sIx items.size items.size hi - sIx items.size 0 lo)).toArray):=by
  show((items.toList.drop (sIx items.size 0 lo)).take (sIx items.size items.size hi - sIx items.size 0 lo)).toArray.size<=sizeLine;rw[X9,Y5,Zj,X7];lia
 have hj:sIx items.size items.size hi<=items.size:=vzl _ _ (Xa _) hi;obtain⟨os,fz,nh,au⟩:=id hs;have hTs:s.TypeIs (.ref sl) "slice":=⟨os,fz,nh⟩;unfold getItem
 try with_reducible refine Y9 ?_
 first|refine X0 (X4 ?_)|skip
 refine X0 (wpAny_sequenceKey ht.typeIs ⋯ ?_);refine X0 (Yv (name:=Str.ofString "__getitem__") ht.typeIs Z6
  (Y6 Z6 ht.typeIs entry_tuple_getitem ?_ (args_tuple_getitem _ _)))
 show wpAny _ _ (Builtin.Tuple.tupleItemsOf (.ref t) >>= _) _ _ s;refine X0 (tupleItemsOf_ ht ?_);refine X0 (Zb hTs ?_);rw[X6 ⋯];refine X0 (jv2 hs pl pu ?_);have gz:¬((((sIx items.size 0 lo:Nat):Int)==0&&(1:Int)==1&&(sIx items.size items.size hi - sIx items.size 0 lo)==items.size)=true):=by
  intro q;rw[Bool.and_eq_true,Bool.and_eq_true]at q;have q1:((sIx items.size 0 lo:Nat):Int)=0:=eq_of_beq q.1.1;have q2:sIx items.size items.size hi - sIx items.size 0 lo=items.size:=eq_of_beq q.2;exact hw ⟨⋯,⋯⟩
 show wpAny _ _ (if(((sIx items.size 0 lo:Nat):Int)==0&&(1:Int)==1&&(sIx items.size items.size hi - sIx items.size 0 lo)==items.size)=true then _ else _) _ _ s;rw[X8 gz,qzq]
 first
  |exact X0 (m:=Builtin.Tuple.tupleExact _) (Y1 (X4 ⟨_,rfl,X4 h⟩) gj)
  |exact X0 (m:=Builtin.Tuple.tupleExact _) (Y1 (X0 (X4 (X4 ⟨_,rfl,X4 h⟩))) gj)
  |exact X0 (X0 (m:=Builtin.Tuple.tupleExact _) (Y1 (X4 (X4 ⟨_,rfl,X4 h⟩)) gj))
  |exact X0 (X0 (m:=Builtin.Tuple.tupleExact _) (Y1 (X4 ⟨_,rfl,X4 h⟩) gj))
end
end HT
namespace L2
open PySem PySem.Spec PyProof.Rows
abbrev TO:=St->Hp->(Option Int->Hp->Prop)->Prop
def PO(X:Cx)(e:Option Expr)(t:TO):Prop:=
 ∀(pins:LA9) (s:Shared) (σ:St) (H:Hp) (Q:Option Int->Hp->Prop),Inv X pins σ H s->t σ H Q ->
  wpAny (model X.prog X.w) X.A (evalPart e X.env) (λu s'=>∃o H',Inv X pins σ H' s'/\IsPart u o/\Q o H') X.xe s
abbrev qku:TO:=λ_ H Q=>Q none H
abbrev vz4(t:TE):TO:=fun σ H Q=>t σ H λx H1=>∃i,x=.int i/\Q (some i) H1
theorem kjo{ns:List Int}:∀{us:List Value},Vals (ns.map V.int) us->IntsAre us ns:=by
 induction ns with
 | nil=>intro us r;rw[List.map_nil]at r;cases r;exact .nil
 | cons n ns ih=>
  intro us r;rw[List.map_cons]at r;cases r with
  |cons r1 r2=>
   obtain⟨t,e⟩:=r1;subst e;exact .cons n t (ih r2)
section
variable {X:Cx}{e:Expr}{te:TE}{lo hi:Option Expr}{tl th:TO}{pos p2:Pos}
theorem vv7:PO X none qku:=by
 intro pins s σ H Q I h;rw[evalPart_none];exact X4 ⟨none,H,I,.none,h⟩
theorem vv5(h:PE X e te):PO X (some e) (vz4 te):=by
 intro pins s σ H Q I hw;rw[evalPart_some];refine thn (h pins s σ H _ I hw) λu s1 ⟨x,H1,I1,r1,q1⟩=>?_
 obtain⟨i,rfl,q⟩:=q1;obtain⟨t,rfl⟩:=r1;exact⟨some i,H1,I1,.int i t,q⟩
def SlR(X:Cx)(r:V->Option Int->Option Int->Hp->VK->Prop):Prop:=
 ∀(pins:LA9) (s:Shared) (σ:St) (H:Hp) (x:V) (v vl vu:Value) (lo hi:Option Int) (sl:Addr) (Q:VK),Inv X pins σ H s->RelV x v->s.heap.IsSliceOf sl vl vu .none->IsPart vl lo->IsPart vu hi->r x lo hi H Q ->
  ∃T id,typeLookup (.type T) "__getitem__"=pure (some (.builtin id))/\s.TypeIs v T/\wpAny (model X.prog X.w) X.A (getItem v (.ref sl)) (EP X pins σ Q) X.xe s
theorem SlR.or{r r':V->Option Int->Option Int->Hp->VK->Prop}(h:SlR X r)(h':SlR X r'):SlR X (λx lo hi H Q=>r x lo hi H Q\/r' x lo hi H Q):=by
 intro pins s σ H x v vl vu lo hi sl Q I rx hs pl pu q;rcases q with q|q
 ·exact h pins s σ H x v vl vu lo hi sl Q I rx hs pl pu q
 ·exact h' pins s σ H x v vl vu lo hi sl Q I rx hs pl pu q
abbrev tSl(r:V->Option Int->Option Int->Hp->VK->Prop)(te:TE)(tl th:TO):TE:=fun σ H Q=>te σ H λx H1=>tl σ H1 λl H2=>th σ H2 λu H3=>r x l u H3 Q
theorem kze{r:V->Option Int->Option Int->Hp->VK->Prop}(hr:SlR X r)(he:PE X e te)(hl:PO X lo tl)(hu:PO X hi th):PE X (.Subscript e (.Slice lo hi none p2) pos) (tSl r te tl th):=by
 intro pins s σ H Q I h;refine Subscript_ (thn (he pins s σ H _ I h) λv s1 ⟨x,H1,I1,r1,q1⟩=>?_);refine wpAny_Slice (thn (hl pins s1 σ H1 _ I1 q1) λvl s2 ⟨l,H2,I2,pl,q2⟩=>thn (hu pins s2 σ H2 _ I2 q2) λvu s3 ⟨u,H3,I3,pu,q3⟩=>?_);rw[evalPart_none];refine X4 ?_;have I4:Inv X pins σ H3 { s3 with heap:=s3.heap.push { cls:=.type "slice",data:=.fields #[vl,vu,.none] } }:=I3.kept (t':=s3.toks) λb ob q=>X3 _ q
 obtain⟨T,id,hT,ht,hg⟩:=hr pins { s3 with heap:=s3.heap.push { cls:=.type "slice",data:=.fields #[vl,vu,.none] } } σ H3 x v vl vu l u s3.heap.objs.size Q I4 r1 (Heap.IsSliceOf.new ..) pl pu q3;show wpAny (model X.prog X.w) X.A (subscriptTail e (.Slice lo hi none p2) v (.ref s3.heap.objs.size)) (EP X pins σ Q) X.xe { s3 with heap:=s3.heap.push { cls:=.type "slice",data:=.fields #[vl,vu,.none] } };exact tail_any (ops:=[.ref s3.heap.objs.size,v]) ht hT hg (by ac_rfl)
def Q1(xs:List V)(lo hi:Option Int):List V:=(xs.drop (HT.sIx xs.length 0 lo)).take (HT.sIx xs.length xs.length hi - HT.sIx xs.length 0 lo)
theorem jzx(xs:List V)(lo hi:Option Int):(Q1 xs lo hi).length<=xs.length:=by
 unfold Q1;rw[Y5,Zj];lia
def wxx(K:Frag):V->Option Int->Option Int->Hp->VK->Prop:=λx lo hi H Q=>∃a xs,x=.ref a/\SqT K H a xs /\
 ¬(HT.sIx xs.length 0 lo=0/\HT.sIx xs.length xs.length hi=xs.length)/\∀p,H p=none->Q (.ref p) (upd H p (.tup (Q1 xs lo hi)))
theorem sl_tup:SlR X (wxx X.K):=by
 intro pins s σ H x v vl vu lo hi sl Q I rx hs pl pu h;obtain⟨a,xs,rfl,hx,hw,q⟩:=h;cases rx;obtain⟨a8,r,ht,hz⟩:=I.tuple hx;have ag:a8.toArray.size=xs.length:=by rw[X9];exact r.length.symm
 refine⟨"tuple",_,PyProof.Rows.slot_tuple_getitem.lookup,ht.typeIs,?_⟩;refine HT.getItem_tuple_cut ht hs pl pu (by rw[ag];exact hw) ?_ (by rw[ag];exact hz);rw[ag];refine⟨.ref s.heap.objs.size,_,I.laid (t':=s.toks) (o:=.tup (Q1 xs lo hi)) (λb ob q=>X3 _ q) (Xa _) ?_,rfl,q _ (I.hok.fresh (Xa _))⟩;exact⟨Yn (jzx xs lo hi) hz,_,(r.drop (HT.sIx xs.length 0 lo)).take (HT.sIx xs.length xs.length hi - HT.sIx xs.length 0 lo),IsTupD.new _ _⟩
def vzx(K:Frag):R2:=λx y H Q=>∃a b xs ys,x=.ref a/\y=.ref b/\SqT K H a xs/\SqT K H b ys/\xs≠[]/\xs.length+ys.length<=sizeLine /\
 (ys=[]->Q (.ref a) H)/\(ys≠[]->∀p,H p=none->Q (.ref p) (upd H p (.tup (xs++ys))))
theorem Vals.nil_iff{xs:List V}{us:List Value}(r:Vals xs us):us=[]↔xs=[]:=by
 cases r with|nil=>simp|cons _ _=>simp
theorem vvj:OpR X (binaryOp .Add) (vzx X.K):=by
 intro pins s σ H x y v u Q I rx ry h;obtain⟨a,b,xs,ys,rfl,rfl,ha,hb,hx,hz,q1,q2⟩:=h;cases rx;cases ry;obtain⟨a8,r1,p1,_⟩:=I.tuple ha;obtain⟨cf,r2,p2,_⟩:=I.tuple hb;refine HT.cat_tup p1 p2 (λz=>hx (r1.nil_iff.mp z)) (λz=>⟨.ref a,H,I,rfl,q1 (r2.nil_iff.mp z)⟩) (λz=>?_) (by rw[<-r1.length,<-r2.length];exact hz);refine⟨.ref s.heap.objs.size,_,I.laid (t':=s.toks) (o:=.tup (xs++ys)) (λb ob q=>X3 _ q) (Xa _) ?_,rfl,q2 (λw=>z (r2.nil_iff.mpr w)) _ (I.hok.fresh (Xa _))⟩;exact⟨by rw[Xp];exact hz,_,r1.append r2,IsTupD.new _ _⟩
end
def ixN(n:Nat)(i:Int):Option Nat:=if 0<=i then(if i<n then some i.toNat else none)else if -(n:Int)<=i then some (i+n).toNat else none
def atI{α:Type}(xs:List α)(i:Int):Option α:=(ixN xs.length i).bind λj=>xs[j]?
theorem vwa{n:Nat}{i:Int}{j:Nat}(h:ixN n i=some j):seqIndex? i n=some j/\j<n/\-(n:Int)<=i/\i<n:=by
 unfold ixN at h
 by_cases h0:0<=i
 ·rw[X6 h0]at h
  by_cases h1:i<n
  ·rw[X6 h1]at h;have e:i.toNat=j:=oq9 h;exact⟨by rw[seqIndex_of h0 h1,e],⋯,⋯,h1⟩
  ·rw[X8 h1]at h;cases h
 ·rw[X8 h0]at h
  by_cases h1:-(n:Int)<=i
  ·rw[X6 h1]at h;have e:(i+n).toNat=j:=oq9 h;exact⟨by rw[seqIndex_neg ⋯ h1,e],⋯,h1,⋯⟩
  ·rw[X8 h1]at h;cases h
theorem kxj{α:Type}{xs:List α}{i:Int}{v:α}(h:atI xs i=some v):∃j,seqIndex? i xs.length=some j/\xs[j]?=some v/\j<xs.length/\-(xs.length:Int)<=i/\i<xs.length:=by
 unfold atI at h;cases e:ixN xs.length i with
 |none=>rw[e]at h;cases h
 |some j=>
  rw[e]at h;obtain⟨h1,h2,h3,h4⟩:=vwa e;exact⟨j,h1,h,h2,h3,h4⟩
def kxm(b:Expr):Prop:=∀o i,subscripted b false o i=operate [o,i] (getItem o i)
def IxR(X:Cx)(r:R2):Prop:=
 ∀(value slice:Expr) (pins:LA9) (s:Shared) (σ:St) (H:Hp) (x y:V) (v u:Value) (Q:VK),Inv X pins σ H s->RelV x v->RelV y u->r x y H Q ->
  subscripted slice false v u=operate [v,u] (getItem v u)->wpAny (model X.prog X.w) X.A (subscriptTail value slice v u) (EP X pins σ Q) X.xe s
def MtR(X:Cx)(id:String)(r:V->List V->Hp->VK->Prop):Prop:=
 ∀(pins:LA9) (s:Shared) (σ:St) (H:Hp) (x:V) (xs:List V) (v:Value) (us:List Value) (Q:VK),Inv X pins σ H s->RelV x v->Vals xs us->r x xs H Q ->
  wpAny (model X.prog X.w) X.A (call (.builtin id) (v::us)) (EP X pins σ Q) X.xe s
section
variable {X:Cx}{a b:Expr}{ta tb:TE}{pos:Pos}
theorem IxR.or{r r':R2}(h:IxR X r)(h':IxR X r'):IxR X (λx y H Q=>r x y H Q\/r' x y H Q):=by
 intro value slice pins s σ H x y v u Q I rx ry q hs;rcases q with q|q
 ·exact h value slice pins s σ H x y v u Q I rx ry q hs
 ·exact h' value slice pins s σ H x y v u Q I rx ry q hs
theorem wwe{r:R2}(hr:IxR X r)(ha:PE X a ta)(hb:PE X b tb)(hs:kxm b):PE X (.Subscript a b pos) (tOp r ta tb):=by
 intro pins s σ H Q I h;exact Subscript_ (wxm ha hb I h λv u s2 x y H2 I2 rx ry q=>hr a b pins s2 σ H2 x y v u Q I2 rx ry q (hs _ _))
def wz3(K:Frag):R2:=λx y H Q=>∃p xs i v,x=.ref p/\y=.int i/\SqL K H p xs/\atI xs i=some v/\Q v H
def wz1(K:Frag):R2:=λx y H Q=>∃p xs i v,x=.ref p/\y=.int i/\SqT K H p xs/\atI xs i=some v/\Q v H
def wz2:R2:=λx y H Q=>∃z i c,x=.str z/\y=.int i/\z.length<=sizeLine/\atI z.cps.toList i=some c/\Q (.str ⟨#[c]⟩) H
theorem ix_list:IxR X (wz3 X.K):=by
 intro value slice pins s σ H x y v u Q I rx ry h hs;obtain⟨p,xs,i,z,rfl,rfl,hq,he,q⟩:=h;cases rx;obtain⟨t,rfl⟩:=ry;obtain⟨a8,r,pl,hz⟩:=I.list hq;obtain⟨j,h1,h2,h3,h4,h5⟩:=kxj he;obtain⟨w,ew,ic⟩:=r.get h2;have hl:=r.length;have hn:=VX;have fin:EP X pins σ Q w s:=⟨z,H,I,ic,q⟩
 by_cases h0:0<=i
 ·have hj:i.toNat=j:=by
   rw[seqIndex_of h0 h5]at h1;exact oq9 h1
  exact item_listR pl.isList h0 ⋯ (by rw[hj];simpa using ew) fin hs
 ·have hj:(i+(a8.toArray.size:Int)).toNat=j:=by
   rw[seqIndex_neg ⋯ h4]at h1;rw[X9,<-hl];exact oq9 h1
  exact subscriptTail_builtinR (x:=w) pl.isList.typeIs slot_list_getitem.lookup
   (wpAny_getItem_list_neg (Q:=λr s'=>r=w/\EP X pins σ Q r s') pl.isList ⋯ (by rw[X9]<;>lia) ⋯ (by rw[hj];simpa using ew) ⟨rfl,fin⟩) hs
theorem ix_tup:IxR X (wz1 X.K):=by
 intro value slice pins s σ H x y v u Q I rx ry h hs;obtain⟨p,xs,i,z,rfl,rfl,hq,he,q⟩:=h;cases rx;obtain⟨t,rfl⟩:=ry;obtain⟨a8,r,pl,hz⟩:=I.tuple hq;obtain⟨j,h1,h2,h3,h4,h5⟩:=kxj he;obtain⟨w,ew,ic⟩:=r.get h2;have hl:=r.length;have hn:=VX;have fin:EP X pins σ Q w s:=⟨z,H,I,ic,q⟩;exact subscriptTail_builtinR (x:=w) pl.typeIs slot_tuple_getitem.lookup
  (getItem_tuple (j:=j) (Q:=λr s'=>r=w/\EP X pins σ Q r s') pl ⋯ ⋯ (by rw[X9,<-hl];exact h1) (by simpa using ew) ⟨rfl,fin⟩) hs
theorem wku:IxR X wz2:=by
 intro value slice pins s σ H x y v u Q I rx ry h hs;obtain⟨z,i,c,rfl,rfl,hz,he,q⟩:=h;obtain⟨t,rfl⟩:=rx;obtain⟨t',rfl⟩:=ry;obtain⟨j,h1,h2,h3,h4,h5⟩:=kxj he;have hl:z.cps.toList.length=z.length:=by simp[Str.length]
 rw[hl]at h1 h4 h5;have hn:=VX;exact tail_any (typeIs_str s z t) slot_str_getitem.lookup (getItem_str (c:=c) (by
  have e1:decide (i < -(2 ^ 63:Int))=false:=Xi ⋯;have e2:decide (i>=2 ^ 63)=false:=Xi ⋯;rw[e1,e2,Bool.or_false]) (by rw[h1];simpa using h2) ⟨.str ⟨#[c]⟩,H,I.tok _,⟨_,rfl⟩,q⟩) hs
def rIx(K:Frag):R2:=λx y H Q=>wz3 K x y H Q\/wz1 K x y H Q\/wz2 x y H Q
theorem wkv:IxR X (rIx X.K):=ix_list.or (ix_tup.or wku)
theorem kqg(lo hi:Option Int)(n:Nat):(sliceBounds lo hi none n).1=((HT.sIx n 0 lo:Nat):Int)/\(sliceBounds lo hi none n).2.1=((HT.sIx n n hi:Nat):Int)/\(sliceBounds lo hi none n).2.2=1:=by
 refine⟨?_,?_,rfl⟩
 ·cases lo with
  |none=>simp[sliceBounds,HT.sIx]
  |some i=>
   simp only[sliceBounds,HT.sIx,Option.getD_none,show(1:Int)>0 by decide,if_true]
   by_cases h:i<0
   ·simp only[h,if_true]<;>lia
   ·simp only[h,if_false]<;>lia
 ·cases hi with
  |none=>simp[sliceBounds,HT.sIx]
  |some i=>
   simp only[sliceBounds,HT.sIx,Option.getD_none,show(1:Int)>0 by decide,if_true]
   by_cases h:i<0
   ·simp only[h,if_true]<;>lia
   ·simp only[h,if_false]<;>lia
theorem kk8(a8:List Value)(lo hi:Option Int):slicePick a8.toArray lo hi none=((a8.drop (HT.sIx a8.length 0 lo)).take (HT.sIx a8.length a8.length hi - HT.sIx a8.length 0 lo)).toArray:=by
 obtain⟨h1,h2,h3⟩:=kqg lo hi a8.toArray.size;unfold slicePick;rw[h1,h2,h3];simp only[sliceRange_one,pick_run,X9]<;>rfl
def wxz(K:Frag):V->Option Int->Option Int->Hp->VK->Prop:=λx lo hi H Q=>∃a xs,x=.ref a/\SqL K H a xs/\∀p,H p=none->Q (.ref p) (upd H p (.lst (Q1 xs lo hi)))
theorem sl_list:SlR X (wxz X.K):=by
 intro pins s σ H x v vl vu lo hi sl Q I rx hs pl pu h;obtain⟨a,xs,rfl,hx,q⟩:=h;cases rx;obtain⟨a8,r,ht,hz⟩:=I.list hx;have ag:=r.length;refine⟨"list",_,slot_list_getitem.lookup,ht.isList.typeIs,?_⟩;refine wpAny_getItem_list_slice ht.isList hs pl pu .none (by simp) ?_ (by rw[X9]<;>lia);rw[kk8,<-ag];refine⟨.ref s.heap.objs.size,_,I.laid (t':=s.toks) (o:=.lst (Q1 xs lo hi)) (λb ob q=>X3 _ q) (Xa _) ?_,rfl,q _ (I.hok.fresh (Xa _))⟩;exact⟨Yn (jzx xs lo hi) hz,_,0,(r.drop (HT.sIx xs.length 0 lo)).take (HT.sIx xs.length xs.length hi - HT.sIx xs.length 0 lo),Xg _ rfl⟩
theorem kqt:OpR X (compareOp .NotIn) (λx y H Q=>∃i j,x=.str i/\y=.str j/\Q (.bl (!(!(Builtin.Str.occurrences j i 0 j.length 1).isEmpty))) H):=by
 intro pins s σ H x y v u Q I rx ry h;obtain⟨i,j,rfl,rfl,q⟩:=h;obtain⟨t,rfl⟩:=rx;obtain⟨t',rfl⟩:=ry;exact notIn_str ⟨.bl _,H,I,rfl,q⟩
theorem call_len_seq:CallR X (.builtin "len") (λxs H Q=>∃p ys,xs=[.ref p]/\(SqL X.K H p ys\/SqT X.K H p ys)/\Q (.int ys.length) H):=by
 intro pins s σ H xs us Q I r h;obtain⟨p,ys,rfl,hq,q⟩:=h;obtain⟨u,rfl,rx⟩:=x8 r;cases rx;have hn:=VX;rcases hq with hq|hq
 ·obtain⟨a8,r',pl,hz⟩:=I.list hq;have ag:=r'.length;exact Calls.call_len_list pl.isList (by simp only[X9]<;>lia) ⟨.int ys.length,H,I.tok _,⟨s.toks+1,by rw[X9,ag]⟩,q⟩
 ·obtain⟨a8,r',pl,hz⟩:=I.tuple hq;have ag:=r'.length;exact len_tuple pl (by simp only[X9]<;>lia) ⟨.int ys.length,H,I.tok _,⟨s.toks+1,by rw[X9,ag]⟩,q⟩
theorem call_len_str:CallR X (.builtin "len") (λxs H Q=>∃z,xs=[.str z]/\z.length<=sizeLine/\Q (.int z.length) H):=by
 intro pins s σ H xs us Q I r h;obtain⟨z,rfl,hz,q⟩:=h;obtain⟨u,rfl,t,rfl⟩:=x8 r;have hn:=VX;exact len_str ⋯ ⟨.int z.length,H,I.tok _,⟨_,rfl⟩,q⟩
theorem CallR.or{f:Value}{r r':List V->Hp->VK->Prop}(h:CallR X f r)(h':CallR X f r'):CallR X f (λxs H Q=>r xs H Q\/r' xs H Q):=by
 intro pins s σ H xs us Q I rs q;rcases q with q|q
 ·exact h pins s σ H xs us Q I rs q
 ·exact h' pins s σ H xs us Q I rs q
theorem kvp:CallR X (.type "list") (λxs H Q=>∃p ys,xs=[.ref p]/\(SqL X.K H p ys\/SqT X.K H p ys)/\∀l,H l=none->Q (.ref l) (upd H l (.lst ys))):=by
 intro pins s σ H xs us Q I r h;obtain⟨p,ys,rfl,hq,q⟩:=h;obtain⟨u,rfl,rx⟩:=x8 r;cases rx;have fin:∀(a8:List Value),Vals ys a8->ys.length<=sizeLine->∀(h':Heap) (c':Nat),(∀b o',s.heap.get? b=some o'->h'.get? b=some o') ->
   h'.get? s.heap.objs.size=some { cls:=.type "list",dict:=none,data:=.seq a8.toArray c',slots:=#[] }->EP X pins σ Q (.ref s.heap.objs.size) { s with heap:=h' }:=λa8 r' hz h' c' kp e=>
  ⟨.ref s.heap.objs.size,_,I.laid (t':=s.toks) kp (Xa _) (show ObjOk X.prog X.w _ h' _ (.lst ys)from⟨hz,a8,c',r',e⟩),rfl,q _ (I.hok.fresh (Xa _))⟩
 rcases hq with hq|hq
 ·obtain⟨a8,r',pl,hz⟩:=I.list hq;have ag:=r'.length;obtain⟨o,ho,hc,n,hd⟩:=pl.isList;exact call_list_seq p (.inl rfl) ho hc hd (λh' c' kp e=>fin a8 r' hz h' c' kp e) (by simp only[X9]<;>lia)
 ·obtain⟨a8,r',pl,hz⟩:=I.tuple hq;have ag:=r'.length;obtain⟨o,ho,hc,n,hd⟩:=pl;exact call_list_seq p (.inr rfl) ho hc hd (λh' c' kp e=>fin a8 r' hz h' c' kp e) (by simp only[X9]<;>lia)
theorem kq1:CallR X (.type "tuple") (λxs H Q=>∃p ys,xs=[.ref p]/\((SqL X.K H p ys/\∀l,H l=none->Q (.ref l) (upd H l (.tup ys)))\/(SqT X.K H p ys/\Q (.ref p) H))):=by
 intro pins s σ H xs us Q I r h;obtain⟨p,ys,rfl,h⟩:=h;obtain⟨u,rfl,rx⟩:=x8 r;cases rx;rcases h with⟨hq,q⟩|⟨hq,q⟩
 ·obtain⟨a8,r',pl,hz⟩:=I.list hq;have ag:=r'.length;refine call_tuple_list pl.isList (λh' kp=>?_) (by simp only[X9]<;>lia);have I1:Inv X pins σ H { s with heap:=h' }:=I.kept (t':=s.toks) kp;have I2:Inv X pins σ (upd H h'.objs.size (.tup ys)) { s with heap:=h'.push { cls:=.type "tuple",data:=.seq a8.toArray } }:=
   I1.laid (t':=s.toks) (λb o e=>X3 _ e) (Xa _) (show ObjOk X.prog X.w _ _ _ (.tup ys)from⟨hz,a8,r',IsTupD.new _ _⟩)
  exact⟨.ref h'.objs.size,_,I2,rfl,q _ (I1.hok.fresh (Xa _))⟩
 ·obtain⟨a8,r',pl,hz⟩:=I.tuple hq;exact call_tuple_same pl ⟨.ref p,H,I,rfl,q⟩
def tyV(K : Frag)(T : String)(x : V)(H : Hp): Prop:= match x with
  |.str _=>T = "str"|.int _=>T = "int"
  |.ref p=>(T = "list" /\ ∃xs, SqL K H p xs) \/ (T = "tuple" /\ ∃o, K.lookup p = some o /\ o.cls = .type "tuple" /\ o.dict = none) \/
      (T = "dict" /\ ((∃a9, H p = some (.dK a9)) \/ ∃a9, H p = some (.dT a9))) \/ (T = "set" /\ ∃S n, H p = some (.set S n))
  |_=>False
theorem vz0{pins:LA9}{σ:St}{H:Hp}{s:Shared}{T:String}{x:V}{v:Value}(I:Inv X pins σ H s)(r:RelV x v)(ty:tyV X.K T x H):
  s.TypeIs v T/\∀a,v=.ref a->∃ob,s.heap.get? a=some ob/\ob.dict=none:=by
 cases x with
 | str z=>
  obtain⟨t,rfl⟩:=r;cases(show T="str" from ty);exact⟨typeIs_str s z t,λ_ e=>nomatch e⟩
 | int i=>
  obtain⟨t,rfl⟩:=r;cases(show T="int" from ty);exact⟨typeIs_int s i t,λ_ e=>nomatch e⟩
 | ref p=>
  cases r;rcases ty with⟨rfl,xs,hq⟩|⟨rfl,o,hk,hc,hd⟩|⟨rfl,hk⟩|⟨rfl,S,n,hk⟩
  ·obtain⟨a8,_,pl,_⟩:=I.list hq;refine⟨pl.isList.typeIs,λa e=>?_⟩;cases e;obtain⟨o,n,e,c,hd,_⟩:=pl;exact⟨o,e,hd⟩
  ·refine⟨⟨o,I.kIn p o hk,hc⟩,λa e=>?_⟩;cases e;exact⟨o,I.kIn _ o hk,hd⟩
  ·have z:∃o,s.heap.get? p=some o/\o.ExactDict:=by
    rcases hk with⟨a9,hk⟩|⟨a9,hk⟩
    ·obtain⟨_,_,_,_,o,_,_,e,ex,_⟩:=I.hok p _ hk;exact⟨o,e,ex⟩
    ·obtain⟨_,_,_,_,o,_,_,e,ex,_⟩:=I.hok p _ hk;exact⟨o,e,ex⟩
   obtain⟨o,e,ex⟩:=z;refine⟨⟨o,e,ex.1⟩,λa e2=>?_⟩;cases e2;exact⟨o,e,ex.2.1⟩
  ·obtain⟨o,_,_,_,e,ex,_⟩:=I.hok p _ hk;refine⟨⟨o,e,ex.1⟩,λa e2=>?_⟩;cases e2;exact⟨o,e,ex.2.1⟩
 |_=>exact False.elim ty
abbrev tBM(K:Frag)(T:String)(r:V->List V->Hp->VK->Prop)(to:TE)(t:TA):TE:=fun σ H Q=>to σ H λx H1=>tyV K T x H1/\t σ H1 λxs H2=>r x xs H2 Q
variable {o e:Expr}{es:List Expr}{to:TE}{t:TA}{name:Str}{am ae:Pos}{T id:String}{r:V->List V->Hp->VK->Prop}
theorem vvd(pa:PlainAttrs T)(slot:Slot T name id)(nt:typeOf (.builtin id)=pure (.type "method_descriptor"))(hm:MtR X id r)(ho:PE X o to)(ha:PA X (e::es) t)
  (aw:autoParam (attributeBase o name X.env (eval o X.env)=eval o X.env) Ŕ)
  (bi:autoParam (((backTo ae (starEach (e::es) X.env)).all (λx=>!x.1)&&(backToKw ae (keywordEach [] X.env)).all (λx=>x.1.isSome)
   && decide ((e::es).length+([]:List Keyword).length+(if([]:List Keyword).isEmpty then 0 else 1)<30))=true) Ŕ)
  (ax:autoParam ((am.endLine==ae.line)=true) Ŕ) (hs:autoParam (starEach (e::es) X.env=(false,eval e X.env)::starEach es X.env) Ŕ) (aq:autoParam ((backTo ae (starEach es X.env)).any (·.1)=false) Ŕ):
  PE X (.Call (.Attribute o name am) (e::es) [] ae) (tBM X.K T r to t):=by
 intro pins s σ H Q I h;refine wpAny_Call_method_late aw bi ax rfl (thn (ho pins s σ H _ I h) λv s1 ⟨x,H1,I1,r1,ty,q1⟩=>?_);obtain⟨h1,h2⟩:=vz0 I1 r1 ty;refine⟨T,id,pa,slot,nt,h1,h2,?_⟩;have hA:=ha ae pins s1 σ H1 _ I1 q1;rw[hs]at hA ⊢;refine Calls.callWith_builtin (by show(false||(backTo ae (starEach es X.env)).any (·.1))=false;rw[aq]<;>rfl) (Calls.evalArgs_plain ?_);exact thn hA λus s2 ⟨vs,H2,I2,r2,q2⟩=>hm pins s2 σ H2 x vs v us Q I2 r1 r2 q2
end
def MtM(X:Cx)(id:String)(r:V->List V->Hp->VK->Prop):Prop:=
 ∀(pins:LA9) (s:Shared) (σ:St) (H:Hp) (x:V) (xs:List V) (v:Value) (us:List Value) (Q:VK),Inv X pins σ H s->RelV x v->Vals xs us->r x xs H Q ->
  wpAny (model X.prog X.w) X.A (call (.builtin id) (v::us)) (EP X pins σ Q) X.xe s
theorem Vals.one:∀{x:V} {us:List Value},Vals [x] us->∃u,us=[u]/\RelV x u
 |_,_,.cons r .nil=>⟨_,rfl,r⟩
theorem Vals.two:∀{x y:V} {us:List Value},Vals [x,y] us->∃u v,us=[u,v]/\RelV x u/\RelV y v
 |_,_,_,.cons r (.cons q .nil)=>⟨_,_,rfl,r,q⟩
theorem Vals.rep{xs:List V}{us:List Value}(h:Vals xs us):∀k:Nat,Vals (List.replicate k xs).flatten (List.replicate k us).flatten
 |0=>.nil
 |k+1=>by
  rw[List.replicate_succ,List.replicate_succ,Zn,Zn];exact Vals.append h (Vals.rep h k)
theorem jzs(a8:List Value):∀(k:Nat) (aa:List Value),
  List.foldl (λx1 x2=>x1++x2) aa.toArray (List.replicate k a8.toArray)=(aa++(List.replicate k a8).flatten).toArray
 | 0,aa=>by simp
 | k+1,aa=>by
  have e:aa.toArray++a8.toArray=(aa++a8).toArray:=by simp
  have e2:(aa++a8)++(List.replicate k a8).flatten=aa++(List.replicate (k+1) a8).flatten:=by
   rw[List.replicate_succ,Zn,Y4]
  rw[<-e2,<-jzs a8 k (aa++a8),<-e,List.replicate_succ,Z0]
section
variable {X:Cx}{pins:LA9}{σ:St}{H:Hp}{s:Shared}{l b:Addr}{xs ys zs:List V}
theorem Inv.lset{a8 its':List Value}{n:Nat}{f:Array Value->Array Value}{t':Nat}(I:Inv X pins σ H s)(hH:H l=some (.lst xs))
  (e:s.heap.get? l=some { cls:=.type "list",data:=.seq a8.toArray n }) (hf:f a8.toArray=its'.toArray) (hv:Vals ys its') (hz:ys.length<=sizeLine):
  Inv X pins σ (upd H l (.lst ys)) { s with heap:=s.heap.update l (Obj.mapSeq f),toks:=t' }:=by
 have q:=PySem.IsL.update e f;rw[hf]at q;refine I.write (x:=l) (e:=l) (by rw[hH];exact trivial) (.inl rfl) (λb' u hb hu=>(Zg s.heap (Obj.mapSeq f) (Ne.symm hb)).trans hu) ⟨_,q⟩ ?_;exact⟨hz,its',_,hv,q⟩
theorem Inv.lnew{a8:List Value}{t':Nat}(I:Inv X pins σ H s)(hv:Vals ys a8)(hz:ys.length<=sizeLine):
  Inv X pins σ (upd H s.heap.objs.size (.lst ys)) { s with heap:=s.heap.push { cls:=.type "list",data:=.seq a8.toArray },toks:=t' }:=
 I.laid (λ_ _ q=>X3 _ q) (Xa _) ⟨hz,a8,0,hv,Xg _ rfl⟩
theorem Inv.fresh(I:Inv X pins σ H s):H s.heap.objs.size=none:=I.hok.fresh (Xa _)
theorem Inv.lstM(I:Inv X pins σ H s)(hH:H l=some (.lst xs)):xs.length<=sizeLine/\∃(a8:List Value) (n:Nat),Vals xs a8/\xs.length=a8.length/\s.heap.get? l=some { cls:=.type "list",data:=.seq a8.toArray n }:=by
 obtain⟨z,a8,n,r,e⟩:=I.hok l _ hH;exact⟨z,a8,n,r,r.length,e⟩
theorem kzk{n:Nat}(h:n<=sizeLine):Builtin.List.listTooLong n=false:=by
 unfold Builtin.List.listTooLong;exact Xi ⋯
end
section
variable {X:Cx}
def kwf:V->List V->Hp->VK->Prop:=λx vs H Q=>∃l xs y,x=.ref l/\vs=[y]/\H l=some (.lst xs)/\xs.length<sizeLine/\Q .non (upd H l (.lst (xs++[y])))
theorem qva:MtM X "list.append" kwf:=by
 intro pins s σ H x vs v us Q I rx rv h;obtain⟨l,xs,y,rfl,rfl,hH,hz,q⟩:=h;cases rx;obtain⟨u,rfl,ru⟩:=rv.one;obtain⟨z,a8,n,r,hl,e⟩:=I.lstM hH;refine call_meets F.slot_list_append ⟨_,e,rfl⟩ F.entry_list_append (F.args_list_append_2 _ _) (PySem.list_append l a8.toArray n u (by rw[X9];lia)) ⟨e,?_⟩;refine⟨.non,_,I.lset (its':=a8++[u]) hH e (by simp) (r.append (.cons ru .nil)) ?_,rfl,q⟩;rw[Xp,Yz];lia
def qqn:V->List V->Hp->VK->Prop:=λx vs H Q=>∃l b xs zs,x=.ref l/\vs=[.ref b]/\H l=some (.lst xs)/\H b=some (.lst zs)/\xs.length+zs.length<=sizeLine/\Q .non (upd H l (.lst (xs++zs)))
theorem qv9:MtM X "list.extend" qqn:=by
 intro pins s σ H x vs v us Q I rx rv h;obtain⟨l,b,xs,zs,rfl,rfl,hH,hB,hz,q⟩:=h;cases rx;obtain⟨u,rfl,ru⟩:=rv.one;cases ru;obtain⟨z,a8,n,r,hl,e⟩:=I.lstM hH;obtain⟨z2,cf,n2,r2,hl2,e2⟩:=I.lstM hB;have hsz:a8.toArray.size+cf.toArray.size<=sizeLine:=by rw[X9,X9];lia
 have ib:¬(!a8.toArray.isEmpty&&Builtin.List.listTooLong (a8.toArray.size+cf.toArray.size))=true:=by
  rw[kzk hsz,Bool.and_false];exact Bool.false_ne_true
 refine call_meets F.slot_list_extend ⟨_,e,rfl⟩ F.entry_list_extend (F.args_list_extend_2 _ _)
  (AutoSeq1.list_extend_list_list_0 l a8.toArray n b cf.toArray n2 ib (by rw[X9];lia) ⋯) ⟨e,e2,?_⟩
 refine⟨.non,_,I.lset (its':=a8++cf) hH e (by simp) (r.append r2) ?_,rfl,q⟩;rw[Xp];lia
theorem qvp{α:Type}(xs:List α)(k:Nat):(List.replicate k xs).flatten.length=k*xs.length:=by
 induction k with|zero=>simp|succ k ih=>rw[List.replicate_succ,Zn,Xp,ih,Nat.succ_mul,Nat.add_comm]
end
end L2
namespace Att
open PySem PySem.W PySem.Calls PyProof.Rows
theorem jzl{P:Params}{h:Heap}:∀(ns:List Int) (vs:List Value),WellAll P h vs (ns.map WData.int)->IntsAre vs ns:=by
 intro ns
 induction ns with
 | nil=>
  intro vs w;rw[List.map_nil]at w;cases w;exact .nil
 | cons n ns ih=>
  intro vs w;rw[List.map_cons]at w;cases w with
  |cons a b=>
   cases a;exact .cons _ _ (ih _ b)
theorem script_of{l : OpenLaw}{n : Nat}(hn : l.most = some n){P : Params}{h : Heap}{args : List WData}{bq : List Value}
    (jn : l.row.toRowW.claim.pre args = true) (rh : WellAll P h bq args):
    ∃ a vs ns, bq = [Value.ref a] /\ args = [WData.list (ns.map WData.int)] /\ h.get? a = some { cls:= .type "list", data:= .seq vs.toArray } /\ IntsAre vs ns /\ ns.length<=n:= by
  have ni : WShape.hasAll [] args [.list .int] = true:= (pre_splitW jn).1;have hc : l.pre.holds [] { args:= args } = true:= (pre_splitW jn).2;obtain⟨d, r, rfl, h1, h2⟩:= hasAllW_cons ni;obtain rfl:= hasAllW_nil h2;obtain⟨xs, rfl, h3⟩:= hasW_list h1;obtain⟨ns, rfl⟩:= items_int h3;have ag : ns.length<=n:= by
    unfold OpenLaw.pre at hc;have h4 : (WTm.not (.lt (.lit (.int (n : Int))) (.len (.arg 0)))).holds [] { args:= [.list (ns.map .int)] } = true:= by
      have h4:= (holds_andW hc).1;rw[hn]at h4;exact h4
    have h5:= condW_of h4 (w_not (w_lt w_lit (w_len_list (w_arg rfl))));rw[X1]at h5;refine Nat.le_of_not_lt λq=> ?_
    have q' : (n : Int)<((ns.length : Nat): Int):= by lia
    first
      |(rw[Xb q']at h5; exact absurd h5 ⋯)
      |(simp at h5; lia)
  cases rh with
  | cons w1 w2=>
    cases w2;cases w1 with|list ho i3=>exact⟨_, _, ns, rfl, rfl, ho, jzl ns _ i3, ag⟩
theorem post_true(l:OpenLaw)(args:List WData):l.row.toRowW.claim.post args (.bool true) args=true:=
 postW_of (r:=l.row.toRowW) (X:=(true==true))
  (show WShape.has [] (.bool true) .bool=true by first|rfl|decide|simp[WShape.has,WShape.arms,WShape.armsAll])
  (show(WTm.eq .res (.lit (.bool true))).value [] { args:=args,res:=some (.bool true),after:=args }=some (.bool (true==true))from w_eq_bool (w_res rfl) w_lit) rfl
end Att
namespace L2
open PySem PySem.Spec PyProof.Rows
def wxu(H:Hp):Prop:=∀b,H b=none\/∃o xs,H b=some (.frz o (.lst xs))
def Q0(s:Stmt):Arguments:=match s with
 |.FunctionDef _ a _ _ _ _ _ _ _ _=>a|_=>{ posonlyargs:=[],args:=[],vararg:=none,kwonlyargs:=[],kw_defaults:=[],kwarg:=none,defaults:=[] }
def K9(s:Stmt):List Stmt:=match s with
 |.FunctionDef _ _ b _ _ _ _ _ _ _=>b|_=>[]
def k4(s:Stmt):Scope:=match s with
 |.FunctionDef _ _ _ _ _ _ sc _ _ _=>sc|_=>{ kind:=.function,names:=[],isGenerator:=false,isCoroutine:=false }
structure Fun (K:Frag)(x qual:Str)(st:Stmt)(f:Addr)(fd:FuncData):Prop where
 ex:∃(oc:Value) (od:Option Addr) (kV fb pm:Value) (an:Option Addr) (b8 ct:Value) (jy:Array (Option Value)),
  fd=PySem.W.fnOf x qual (Q0 st) (K9 st) (k4 st) .none kV fb pm an b8 ct/\K.lookup f=some ⟨oc,od,.func fd,jy⟩/\PySem.W.codeIn K b8 qual=true
 kp:PySem.W.keepIn K (.ref f)=true
section
variable {P:Program}{w:World}{K:Frag}{mg:Str->Option Value}{base:Heap}
theorem Fun.binds{x qual:Str}{st:Stmt}{f:Addr}{fd:FuncData}{ps:List Str}(F:Fun K x qual st f fd)
  (h:∀(kV fb pm:Value) (an:Option Addr) (b8 ct:Value) (us:List Value),us.length=ps.length->bindArgs (PySem.W.fnOf x qual (Q0 st) (K9 st) (k4 st) .none kV fb pm an b8 ct) ⟨us,[]⟩=pure (ps.zip us)):Binds K fd ps []:=by
 obtain⟨oc,od,kV,fb,pm,an,b8,ct,jy,rfl,lk,fi⟩:=F.ex;exact .all (h kV fb pm an b8 ct)
theorem qwg{x qual:Str}{st:Stmt}{f:Addr}{oc:Value}{od an:Option Addr}{jy:Array (Option Value)}{kV fb pm b8 ct:Value}(l:K.lookup f=some ⟨oc,od,.func (PySem.W.fnOf x qual (Q0 st) (K9 st) (k4 st) .none kV fb pm an b8 ct),jy⟩)
  (c:PySem.W.codeIn K b8 qual=true) (k:PySem.W.keepIn K (.ref f)=true):Fun K x qual st f (PySem.W.fnOf x qual (Q0 st) (K9 st) (k4 st) .none kV fb pm an b8 ct):=⟨⟨oc,od,kV,fb,pm,an,b8,ct,jy,rfl,l,c⟩,k⟩
end
section
variable {X:Cx}
theorem pv(i:Nat){x:Str}{pos:Pos}(hN:autoParam (X.N[i]?=some x) Ŕ)(hv:autoParam (Vis X.env.scope x) ř)(hd:autoParam ((x==("__debug__":Str))=false) ŕ)
  (fi:autoParam ((x==("__classdict__":Str))=false) ŕ):PE X (.Name x pos) (JZ i):=wjs hN hv hd fi
end
def jK(H H':Hp):Prop:=∀b o,H b=some o->H' b=some o
section
variable {κ:Type}[DecidableEq κ]
def xx(a9:List (κ×V))(k:κ):Option V:=(a9.find? λkv=>decide (kv.1=k)).map (·.2)
def xv(a9:List (κ×V))(k:κ)(v:V):List (κ×V):=
 if(a9.any λkv=>decide (kv.1=k))=true then a9.map (λkv=>if kv.1=k then(kv.1,v)else kv)else a9++[(k,v)]
theorem kk1{p:κ×V}{r:List (κ×V)}{k:κ}(e:p.1=k):xx (p::r) k=some p.2:=by simp[xx,Yp,e]
theorem kk2{p:κ×V}{r:List (κ×V)}{k:κ}(e:¬p.1=k):xx (p::r) k=xx r k:=by simp[xx,Yp,e]
theorem kxq(k:κ):∀a9:List (κ×V),(a9.any λkv=>decide (kv.1=k))=(xx a9 k).isSome
 |[]=>rfl
 |p::r=>by
  rw[List.any_cons]
  by_cases e:p.1=k
  ·simp only[kk1 e,Xb e,Bool.true_or,Option.isSome_some]
  ·rw[kk2 e,Xi e,Bool.false_or];exact kxq k r
theorem jzj(a9:List (κ×V))(k:κ)(v:V):(xv a9 k v).length<=a9.length+1:=by
 unfold xv
 split
 ·rw[X1];lia
 ·rw[Xp,Xk,List.length_nil];lia
theorem RelO.isSome_eq{o:Option V}{u:Option Value}(r:RelO o u):o.isSome=u.isSome:=by
 cases o with
 |none=>cases u with|none=>rfl|some _=>exact(show False from r).elim
 |some _=>cases u with|none=>exact(show False from r).elim|some _=>rfl
theorem KV.val{a9:List (κ×V)}{vs:List (κ×Value)}(r:KV a9 vs)(k:κ):RelO (xx a9 k) (valueAt vs k):=by
 unfold KV at r
 induction r with
 | nil=>exact Zs
 | @cons p q ps qs h t ih=>
  obtain⟨h1,h2⟩:=h
  by_cases e:p.1=k
  ·have e':q.1=k:=h1.symm.trans e;have b:valueAt (q::qs) k=some q.2:=by simp[valueAt,Yp,e']
   rw[kk1 e,b];exact h2
  ·have e':¬q.1=k:=λz=>e (h1.trans z)
   have b:valueAt (q::qs) k=valueAt qs k:=by simp[valueAt,Yp,e']
   rw[kk2 e,b];exact ih
theorem KV.any{a9:List (κ×V)}{vs:List (κ×Value)}(r:KV a9 vs)(k:κ):(a9.any λkv=>decide (kv.1=k))=vs.any λkv=>decide (kv.1=k):=by
 unfold KV at r
 induction r with|nil=>rfl|cons h t ih=>rw[List.any_cons,List.any_cons,ih,h.1]
theorem KV.repl{a9:List (κ×V)}{vs:List (κ×Value)}(r:KV a9 vs)(k:κ){y:V}{u:Value}(ry:RelV y u):
  KV (a9.map λkv=>if kv.1=k then(kv.1,y)else kv) (vs.map λkv=>if kv.1=k then(kv.1,u)else kv):=by
 unfold KV at r ⊢
 induction r with
 |nil=>exact .nil
 |@cons p q ps qs h t ih=>
  rw[List.map_cons,List.map_cons];refine .cons ?_ ih;obtain⟨h1,h2⟩:=h
  by_cases e:p.1=k
  ·rw[X6 e,X6 (h1.symm.trans e)];exact⟨h1,ry⟩
  ·rw[X8 e,X8 (λz=>e (h1.trans z))];exact⟨h1,h2⟩
theorem KV.put{a9:List (κ×V)}{vs:List (κ×Value)}(r:KV a9 vs)(k:κ){y:V}{u:Value}(ry:RelV y u):KV (xv a9 k y) (stored vs k u):=by
 unfold xv stored;rw[r.any k]
 by_cases e:(vs.any λkv=>decide (kv.1=k))=true
 ·rw[X6 e,X6 e];exact r.repl k ry
 ·rw[X8 e,X8 e];exact Paired.snoc r ⟨rfl,ry⟩
theorem KV.length{a9:List (κ×V)}{vs:List (κ×Value)}(r:KV a9 vs):a9.length=vs.length:=Paired.length r
end
theorem vj7{P:Program}{w:World}{k:Key}{u:Value}(r:RelV (kV k) u):(x6 P w).is k u=true:=by
 cases k with|inl i=>obtain⟨t,e⟩:=(show ∃t,u=Value.int i t from r);subst e;exact kx0 P w i t|inr x=>obtain⟨t,e⟩:=(show ∃t,u=Value.str x t from r);subst e;exact kwz P w x t
theorem kv5{P:Program}{w:World}:∀{ks:List Key} {us:List Value},Vals (ks.map kV) us->ItemsAre (x6 P w) ks us
 |[],_,r=>by rw[List.map_nil]at r;cases r;exact .nil
 |k::ks,_,r=>by
  rw[List.map_cons]at r;cases r with|cons h t=>exact .cons (vj7 h) (kv5 t)
abbrev KT(H:Hp):List (List Key×V)->List (List Key×Addr×Value)->Prop:=Paired λp q=>p.1=q.1/\H q.2.1=some (.tup (p.1.map kV))/\RelV p.2 q.2.2
theorem KT.val{H:Hp}{a9:List (List Key×V)}{xs:List (List Key×Addr×Value)}(r:KT H a9 xs)(k:List Key):RelO (xx a9 k) ((atKey xs k).map (·.2)):=by
 induction r with
 | nil=>exact Zs
 | @cons p q ps qs h t ih=>
  obtain⟨h1,_,h2⟩:=h
  by_cases e:p.1=k
  ·have e':q.1=k:=h1.symm.trans e;have b:atKey (q::qs) k=some q.2:=by simp[atKey,Yp,e']
   rw[kk1 e,b];exact h2
  ·have e':¬q.1=k:=λz=>e (h1.trans z)
   have b:atKey (q::qs) k=atKey qs k:=by simp[atKey,Yp,e']
   rw[kk2 e,b];exact ih
theorem KT.repl{H:Hp}{a9:List (List Key×V)}{xs:List (List Key×Addr×Value)}(r:KT H a9 xs)(k:List Key){y:V}{u:Value}(ry:RelV y u):
  KT H (a9.map λkv=>if kv.1=k then(kv.1,y)else kv) (xs.map (putAt k u)):=by
 induction r with
 |nil=>exact .nil
 |@cons p q ps qs h t ih=>
  rw[List.map_cons,List.map_cons];refine .cons ?_ ih;obtain⟨h1,h2,h3⟩:=h;unfold putAt
  by_cases e:p.1=k
  ·rw[X6 e,X6 (h1.symm.trans e)];exact⟨h1,h2,ry⟩
  ·rw[X8 e,X8 (λz=>e (h1.trans z))];exact⟨h1,h2,h3⟩
theorem KT.put{H:Hp}{a9:List (List Key×V)}{xs:List (List Key×Addr×Value)}(r:KT H a9 xs)(k:List Key){b:Addr}{y:V}{u:Value}(hb:H b=some (.tup (k.map kV)))(ry:RelV y u):
  KT H (xv a9 k y) (storedH xs k b u):=by
 have e:(a9.any λkv=>decide (kv.1=k))=(atKey xs k).isSome:=by
  rw[kxq,(r.val k).isSome_eq,Option.isSome_map]
 unfold xv storedH;rw[e]
 by_cases q:(atKey xs k).isSome=true
 ·rw[X6 q,X6 q];exact r.repl k ry
 ·rw[X8 q,X8 q];exact Paired.snoc r ⟨rfl,hb,ry⟩
theorem KT.keeps{H H':Hp}{a9:List (List Key×V)}{xs:List (List Key×Addr×Value)}(r:KT H a9 xs)(ht:∀b ys,H b=some (.tup ys)->H' b=some (.tup ys)):KT H' a9 xs:=
 Paired.mapP r λ_ _ z=>⟨z.1,ht _ _ z.2.1,z.2.2⟩
section
variable {P:Program}{w:World}{H:Hp}{h:Heap}{a:Addr}
theorem qzh{u:HO}(ok:HOk P w H h)(e:Rd H a u):ObjOk P w H h a u:=e.ok ok
theorem qws{a9:List (Key×V)}(ok:HOk P w H h)(e:Rd H a (.dK a9)):a9.length<=sizeLine/\(a==sysModules)=false/\∃vs,KV a9 vs/\h.DictOf (x6 P w) a vs:=
 show ObjOk P w H h a (.dK a9)from qzh ok e
theorem wqh{a9:List (Key×V)}(ok:HOk P w H h)(e:H a=some (.dK a9)):a9.length<=sizeLine/\(a==sysModules)=false/\∃vs,KV a9 vs/\h.DictOf (x6 P w) a vs:=qws ok (.inl e)
theorem kzt{ks:List Key}(ok:HOk P w H h)(e:H a=some (.tup (ks.map kV))):(tupleKind (x6 P w)).is h ks a:=by
 obtain⟨_,a8,r,o,h1,h2,_,n,h3⟩:=(show ObjOk P w H h a (.tup (ks.map kV))from ok a _ e);exact⟨o,a8.toArray,n,h1,h2,h3,by simpa using kv5 r⟩
theorem vjk{a9:List (List Key×V)}(ok:HOk P w H h)(e:Rd H a (.dT a9)):a9.length<=sizeLine/\(a==sysModules)=false /\
  ∃ xs,KT H a9 xs/\h.DictOfH (tupleKind (x6 P w)) a xs:=by
 obtain⟨z,y,xs,r,o,es,ep,h1,h2,h3,h4,h5⟩:=(show ObjOk P w H h a (.dT a9)from qzh ok e);refine⟨z,y,xs,r,o,es,ep,h1,h2,h3,h4,λx hx=>?_,h5⟩;have all:∀{l:List (List Key×V)} {m:List (List Key×Addr×Value)},KT H l m->∀x∈m,(tupleKind (x6 P w)).is h x.1 x.2.1:=by
  intro l m q
  induction q with
  | nil=>intro x hx;exact nomatch hx
  | @cons p q ps qs hq t ih=>
   intro x hx;rcases aD hx with e|hx
   ·subst e;exact kzt ok (by rw[<-hq.1];exact hq.2.1)
   ·exact ih x hx
 exact all r x hx
theorem wxd{a9:List (List Key×V)}(ok:HOk P w H h)(e:H a=some (.dT a9)):a9.length<=sizeLine/\(a==sysModules)=false /\
  ∃xs,KT H a9 xs/\h.DictOfH (tupleKind (x6 P w)) a xs:=vjk ok (.inl e)
end
def DGet(H:Hp)(a:Addr)(y:V)(r:Option V):Prop:=
 (∃a9 k,Rd H a (.dK a9)/\y=kV k/\r=xx a9 k)\/∃a9 k b,Rd H a (.dT a9)/\y=.ref b/\H b=some (.tup (k.map kV))/\r=xx a9 k
def DPut(H:Hp)(a:Addr)(y v:V)(H':Hp):Prop:=
 (∃a9 k,H a=some (.dK a9)/\y=kV k/\a9.length<sizeLine/\H'=upd H a (.dK (xv a9 k v))) \/
 ∃a9 k b,H a=some (.dT a9)/\y=.ref b/\H b=some (.tup (k.map kV))/\a9.length<sizeLine/\H'=upd H a (.dT (xv a9 k v))
theorem DGet.k{H:Hp}{a:Addr}{a9:List (Key×V)}{k:Key}(e:H a=some (.dK a9)):DGet H a (kV k) (xx a9 k):=.inl ⟨a9,k,.inl e,rfl,rfl⟩
theorem DPut.k{H:Hp}{a:Addr}{a9:List (Key×V)}{k:Key}{v:V}(e:H a=some (.dK a9))(hl:a9.length<sizeLine):DPut H a (kV k) v (upd H a (.dK (xv a9 k v))):=.inl ⟨a9,k,e,rfl,hl,rfl⟩
section
variable {X:Cx}{pins:LA9}{σ:St}{H:Hp}{s:Shared}{a:Addr}{y v:V}{u r:Value}{o:Option V}{A:Around}{E:VP9}
theorem Inv.big(I:Inv X pins σ H s):sysModules<s.heap.objs.size:=by
 have h:mainGlobals<s.heap.objs.size:=(I.mod.glob.keeps I.bk).lt;exact Nat.lt_trans ⋯ h
theorem qwz{Q:VP9}(hu:A.units+1<cLine)(I:Inv X pins σ H s)(g:DGet H a y (some v))(ry:RelV y u)(h:∀w' s',Inv X pins σ H s'->RelV v w'->Q w' s'):
  wpAny (model X.prog X.w) A (getItem (.ref a) u) Q E s:=by
 rcases g with⟨a9,k,e,ey,l⟩|⟨a9,k,b,e,ey,eb,l⟩
 ·subst ey;obtain⟨z,hd,vs,dw,dd⟩:=qws I.hok e;obtain⟨w',hw,ic⟩:=RelO.some_of (v:=v) (o:=valueAt vs k) (by rw[l];exact dw.val k);exact wpAny_getItem_of (vj7 ry) dd.mapOf hw (h w' _ (I.tok _) ic)
 ·subst ey;cases(show u=Value.ref b from ry);obtain⟨z,hd,xs,dw,dd⟩:=vjk I.hok e;obtain⟨w',hw,ic⟩:=RelO.some_of (v:=v) (o:=(atKey xs k).map (·.2)) (by rw[l];exact dw.val k);obtain⟨p,hp,ir⟩:=Option.map_eq_some_iff.mp hw;refine wpAny_getItem_heap (tupleKind_room_in1 hu) (kzt I.hok eb) dd hp ?_;rw[ir];exact h w' _ (I.tok _) ic
theorem vww{Q:VP9}(hu:A.units+1<cLine)(I:Inv X pins σ H s)(g:DGet H a y o)(ry:RelV y u)(h:∀s',Inv X pins σ H s'->Q (.bool (!o.isSome)) s'):
  wpAny (model X.prog X.w) A (compareOp .NotIn u (.ref a)) Q E s:=by
 rcases g with⟨a9,k,e,ey,l⟩|⟨a9,k,b,e,ey,eb,l⟩
 ·subst ey;obtain⟨z,hd,vs,dw,dd⟩:=qws I.hok e;refine wpAny_notIn_of (vj7 ry) hd dd.mapOf ?_;rw[<-(dw.val k).isSome_eq,<-l];exact h _ (I.tok _)
 ·subst ey;cases(show u=Value.ref b from ry);obtain⟨z,hd,xs,dw,dd⟩:=vjk I.hok e;refine wpAny_notIn_heap (tupleKind_room_in1 hu) (kzt I.hok eb) hd dd ?_;have q:=(dw.val k).isSome_eq;rw[Option.isSome_map]at q;rw[<-q,<-l];exact h _ (I.tok _)
theorem qwx{h':Heap}{t':Nat}{ob:HO}(I:Inv X pins σ H s)(mu:Mut (H a))(hs:Heap.SameBut a s.heap h')(he:∃q,h'.get? a=some q)(new:ObjOk X.prog X.w (upd H a ob) h' a ob):
  Inv X pins σ (upd H a ob) { s with heap:=h',toks:=t' }:=
 I.write (x:=a) (e:=a) mu (.inl rfl) (λb q hb z=>(hs.2 b hb).trans z) he new
theorem wqi{P:Program}{w:World}{H':Hp}{h':Heap}{a9:List (Key×V)}{vs:List (Key×Value)}(z:a9.length<=sizeLine)(hd:(a==sysModules)=false)(dw:KV a9 vs)(dd:h'.DictOf (x6 P w) a vs):
  ObjOk P w H' h' a (.dK a9):=⟨z,hd,vs,dw,dd⟩
theorem qwy{H':Hp}{Q:Unit->Shared->Prop}(hu:A.units+1<cLine)(I:Inv X pins σ H s)(g:DPut H a y v H')(ry:RelV y u)(rv:RelV v r)(h:∀s',Inv X pins σ H' s'->Q () s'):
  wpAny (model X.prog X.w) A (setItem (.ref a) u r) Q E s:=by
 rcases g with⟨a9,k,e,ey,l,eH⟩|⟨a9,k,b,e,ey,eb,l,eH⟩
 ·subst ey eH;obtain⟨z,hd,vs,dw,dd⟩:=wqh I.hok e;have hz:vs.length<=sizeLine:=by rw[<-dw.length];exact z
  have hl:(xv a9 k v).length<=sizeLine:=by have:=jzj a9 k v;lia
  refine wpAny_setItem_pairs (hsz:=hz) (vj7 ry) dd λh' dd' hs=>h _ ?_
  have he:∃q,h'.get? a=some q:=let ⟨q,_,_,hq,_⟩:=dd';⟨q,hq⟩
  exact qwx I (by rw[e];exact Zs) hs he (wqi hl hd (dw.put k rv) dd')
 ·subst ey eH;cases(show u=Value.ref b from ry);obtain⟨z,hd,xs,dw,dd⟩:=wxd I.hok e;have hz:xs.length<=sizeLine:=by rw[<-Paired.length dw];exact z
  have hl:(xv a9 k v).length<=sizeLine:=by have:=jzj a9 k v;lia
  refine wpAny_setItem_heap (hsz:=hz) (tupleKind_room_in1 hu) (kzt I.hok eb) dd λh' dd' hs=>h _ ?_
  obtain⟨q,es,ep,hq,h2,h3,h4,_,h5⟩:=dd';refine qwx I (by rw[e];exact Zs) hs ⟨q,hq⟩ ⟨hl,hd,_,(dw.put k eb rv).keeps λc ys ec=>?_,q,es,ep,hq,h2,h3,h4,h5⟩;rw[k9 (wwo ec e (λz=>nomatch z))];exact ec
end
section
variable {X:Cx}{pins:LA9}{σ:St}{H:Hp}{s:Shared}{a:Addr}{a9:List (Key×V)}{k:Key}{u:Value}{A:Around}{E:VP9}
theorem wxf{Q:VP9}(I:Inv X pins σ H s)(e:Rd H a (.dK a9))(h:∀t s',Inv X pins σ H s'->Q (.int a9.length t) s'):wpAny (model X.prog X.w) A (call (.builtin "len") [.ref a]) Q E s:=by
 obtain⟨z,hd,vs,dw,dd⟩:=qws I.hok e;refine call_len_dict hd dd (by rw[<-dw.length];rw[Yr]at z;lia) ?_;rw[<-dw.length];exact h _ _ (I.tok _)
end
def YV(i:Expr):Prop:=∀ov iv,subscripted i false ov iv=operate [ov,iv] (getItem ov iv)
theorem qkv{prog:Program}{w:World}{A:Around}{E:VP9}{s:Shared}{env:Env}{value slice:Expr}{pos:Pos}{T id:String}{Q:VP9}
  (hl:typeLookup (.type T) "__getitem__"=pure (some (.builtin id))) (hs:YV slice)
  (h:wpAny (model prog w) A (eval value env) (λo s₁=>wpAny (model prog w) A (eval slice env) (λi s₂=>s₂.TypeIs o T/\wpAny (model prog w) A (getItem o i) Q E s₂) E s₁) E s):
  wpAny (model prog w) A (eval (.Subscript value slice pos) env) Q E s:=by
 refine Subscript_ (wpAny_mono h (λo s₁ h₁=>wpAny_mono h₁ (λi s₂ h₂=>?_) λ_ _ x=>x) λ_ _ x=>x);obtain⟨hT,h₂⟩:=h₂;unfold subscriptTail;refine X0 ?_;rw[getitemInPython_of_ne hT.not_modules];refine X0 (Z5 hT hl ?_);have fin:wpAny (model prog w) A (subscripted slice false o i) (λr s₃=>wpAny (model prog w) A (letTemporaryGo value o r >>= λ_=>pure r) Q E s₃) E s₂:=by
  rw[hs o i];exact wpAny_operating (wpAny_mono h₂ (λr s₃ h₃=>X0 (wpAny_letTemporaryGo (X4 h₃))) λ_ _ x=>x)
 first
  |exact X4 (X0 fin)
  |exact X0 (X4 (X0 fin))
  |exact X0 fin
theorem kxf{X:Cx}{pins:LA9}{σ:St}{H:Hp}{s:Shared}{a:Addr}{y:V}{o:Option V}(I:Inv X pins σ H s)(g:DGet H a y o):s.TypeIs (.ref a) "dict":=by
 rcases g with⟨a9,k,e,_,_⟩|⟨a9,k,b,e,_,_,_⟩
 ·obtain⟨_,_,vs,_,dd⟩:=qws I.hok e;exact dd.typeIs
 ·obtain⟨_,_,xs,_,dd⟩:=vjk I.hok e;exact dd.typeIs
abbrev wvp(td ty:TE):TE:=fun σ H Q=>td σ H λx H1=>ty σ H1 λy H2=>∃a v,x=.ref a/\DGet H2 a y (some v)/\Q v H2
abbrev wvt(td ty tv:TE):TS:=λD σ H=>tv σ H λv H1=>td σ H1 λx H2=>ty σ H2 λy H3=>∃a H4,x=.ref a/\DPut H3 a y v H4/\D.nx σ H4
section
variable {X:Cx}{o i e value:Expr}{pos bm lx:Pos}{td ty tv:TE}
theorem vva(hu:X.A.units+1<cLine)(ho:PE X o td)(hi:PE X i ty)(hs:YV i):PE X (.Subscript o i pos) (wvp td ty):=by
 intro pins s σ H Q I h;refine qkv PySem.F.slot_dict_getitem.lookup hs (thn (ho pins s σ H _ I h) λu s1 ⟨x,H1,I1,rx,q1⟩=>thn (hi pins s1 σ H1 _ I1 q1) λiv s2 ⟨y,H2,I2,ry,a,v,ex,g,q2⟩=>?_);subst ex;obtain rfl:u=Value.ref a:=rx;exact⟨kxf I2 g,qwz hu I2 g ry λw' s3 I3 ic=>⟨v,H2,I3,ic,q2⟩⟩
theorem vv4(hu:X.A.units+1<cLine)(ho:PE X o td)(hi:PE X i ty)(hv:PE X value tv)(hs:swapsWith value (some (.Subscript o i bm)) pos.line X.env=pure false):
  PS X (.Assign [.Subscript o i bm] value pos) (wvt td ty tv):=by
 intro pins s σ H D I h;refine wpAny_Assign_Subscript (thn (hv pins s σ H _ I h) λr s1 ⟨v,H1,I1,rv,q1⟩=>thn (ho pins s1 σ H1 _ I1 q1) λu s2 ⟨x,H2,I2,rx,q2⟩=>thn (hi pins s2 σ H2 _ I2 q2) λiv s3 ⟨y,H3,I3,ry,a,H4,ex,g,q3⟩=>?_) hs;subst ex;obtain rfl:u=Value.ref a:=rx;exact qwy hu I3 g ry rv λs4 I4=>⟨σ,H4,I4,q3⟩
end
theorem vjl{P:Program}{w:World}{H:Hp}(h:Heap)(hb:sysModules<h.objs.size):ObjOk P w H (h.push { cls:=.type "dict",data:=.dict #[] }) h.objs.size (.dK []):=
 ⟨Yd _,beq_eq_false_iff_ne.mpr (Ne.symm (Xl hb)),[],.nil,Heap.DictOf.new h⟩
abbrev vz5:TE:=λ_ H Q=>∀p,H p=none->Q (.ref p) (upd H p (.dK []))
section
variable {X:Cx}{pos:Pos}
theorem qzt:PE X (.Dict [] [] pos) vz5:=λpins s σ H Q I h=>
 wpAny_Dict_empty ⟨.ref s.heap.objs.size,_,I.laid (a:=s.heap.objs.size) (o:=.dK []) (t':=s.toks) (λ_ _ q=>X3 _ q) (Xa _) (vjl s.heap I.big),rfl,h _ (I.hok.fresh (Xa _))⟩
end
section
variable {X:Cx}
theorem qx7:CallR X (.builtin "len") (λxs H Q=>∃a a9,xs=[V.ref a]/\H a=some (.dK a9)/\Q (.int a9.length) H):=by
 intro pins s σ H xs us Q I r h;obtain⟨a,a9,rfl,ha,q⟩:=h;obtain⟨u,rfl,ru⟩:=x8 r;cases ru;exact wxf I (.inl ha) λt s' I'=>⟨.int a9.length,H,I',⟨t,rfl⟩,q⟩
end
end L2
set_option maxHeartbeats 4000000
namespace L3
open PySem PySem.Spec PyProof.Rows L2
abbrev qvv(cz:List Expr)(env:Env):Sem Bool:=
 forIn cz true λc r=>if r=true then do let ok <-isTrue c env (eval c env);pure (ForInStep.yield ok)else pure (ForInStep.yield r)
theorem jvk (env : Env): ∀(l : List (Str × NameKind)) (cs : List (Str × Addr)), (∀y ∈ l, y.2 = .free -> ∃c, env.cells.lookup y.1 = some c) ->
    (∀x c, cs.lookup x = some c -> env.cells.lookup x = some c) ->
    ∃ cl, (forIn l cs (λ(x : Str × NameKind) (r : List (Str × Addr))=>if(x.2==NameKind.free) = true then do let a <-cellOf env x.1; pure (ForInStep.yield ((x.1, a)::r))else pure (ForInStep.yield r)): Sem (List (Str × Addr))) = pure cl /\
      (∀x c, cl.lookup x = some c -> env.cells.lookup x = some c) /\ (∀x c, cs.lookup x = some c -> ∃c', cl.lookup x = some c') /\ ∀y ∈ l, y.2 = .free -> ∃c, cl.lookup y.1 = some c
  | [], cs, _, hs=>⟨cs, rfl, hs, λx c h=>⟨c, h⟩, λ_ h=>nomatch h⟩
  | (n, k)::r, cs, hl, hs=>by
    by_cases hk : k = .free
    · subst hk
      obtain⟨c, hc⟩:= hl (n, .free) X5 rfl;have i8 : ∀x d, ((n, c)::cs).lookup x = some d -> env.cells.lookup x = some d:= λx d h=>by
        rw[Zo]at h;cases hx : x==n with
        | true=>
          rw[hx]at h;have e : x = n:= by simpa using hx
          have e2 : c = d:= by simpa using h
          subst e; subst e2;exact hc
        | false=>rw[hx]at h; exact hs x d h
      obtain⟨cl, e, a, b, d⟩:= jvk env r ((n, c)::cs) (λy hy=>hl y (lc9 _ hy)) i8;refine⟨cl, ?_, a, λx c' h=> ?_, λy hy hf=> ?_⟩
      · rw[List.forIn_cons]
        have q : cellOf env n = pure c:= by unfold cellOf; rw[hc]
        simp only[beq_self_eq_true, if_true, q, pure_bind];exact e
      · cases hx : x==n with| true=>exact b x c (by rw[Zo, hx])| false=>exact b x c' (by rw[Zo, hx]; exact h)
      · rcases aD hy with z|z
        · subst z
          exact b n c (by rw[Zo]; simp)
        · exact d y z hf
    · obtain⟨cl, e, a, b, d⟩:= jvk env r cs (λy hy=>hl y (lc9 _ hy)) hs
      refine⟨cl, ?_, a, b, λy hy hf=> ?_⟩
      · rw[List.forIn_cons]
        have q : (k==NameKind.free) = false:= by simpa using hk
        simp only[q, Bool.false_eq_true, if_false, pure_bind];exact e
      · rcases aD hy with z|z
        · subst z
          exact absurd hf hk
        · exact d y z hf
theorem kjr{scope:Scope}{env:Env}(h:∀y∈scope.names,y.2=.free->∃c,env.cells.lookup y.1=some c):
  ∃cl,closureFor scope env=pure cl/\(∀x c,cl.lookup x=some c->env.cells.lookup x=some c)/\∀y∈scope.names,y.2=.free->∃c,cl.lookup y.1=some c:=by
 obtain⟨cl,e,a,_,d⟩:=jvk env scope.names [] h (λx c h=>nomatch h);refine⟨cl,?_,a,d⟩;unfold closureFor;have e':=congrArg (λt:Sem (List (Str×Addr))=>t >>= pure) e
 simpa using e'
def lcX(X:Cx)(scope:Scope)(N:List Str)(cl:List (Str×Addr))(C:Addr)(s0:Shared)(H0:Hp)(fp:List Addr):Cx:=
 { X with N:=N,s₀:=s0,H₀:=H0,env:=compEnvC scope cl C X.env,outer:=X.stack,ex:=fp,fn:=λ_=>false,pn:=[],xe:=λ_ _=>False }
def zw(k:Nat)(R:List Nat)(σ:L2.St):L2.St:=List.replicate k none++R.map λj=>(σ[j]?).join
structure LcOk (X:Cx)(scope:Scope)(N:List Str)(k:Nat)(R:List Nat):Prop where
 kind:scope.kind=.function
 nocell:∀y∈scope.names,y.2≠.cell
 names:∀y∈scope.names,y.2=.local->scope.names.lookup y.1=some .local
 caps:∀y∈scope.names,y.2=.free->X.env.kindOf y.1=some .cell\/X.env.kindOf y.1=some .free
 len:N.length=k+R.length
 outs:∀i j x,R[i]?=some j->N[k+i]?=some x->X.N[j]?=some x/\scope.names.lookup x=some .free
def Q2(XN:List Str)(sc scope:Scope)(N:List Str)(k:Nat)(R:List Nat):Bool:=
 scope.names.all (λy=>y.2 != .cell)&&scope.names.all (λy=>y.2 != .local||scope.names.lookup y.1==some .local) &&
 scope.names.all (λy=>y.2 != .free||(sc.names.lookup y.1==some .cell||sc.names.lookup y.1==some .free)) &&
 (N.length==k+R.length)&&(R.zip (N.drop k)).all (λp=>XN[p.1]? == some p.2&&scope.names.lookup p.2==some .free)
theorem kzr{X:Cx}{scope:Scope}{N:List Str}{k:Nat}{R:List Nat}(hk:scope.kind=.function)(h:Q2 X.N X.env.scope scope N k R=true):LcOk X scope N k R:=by
 unfold Q2 at h;simp only[Bool.and_eq_true,Y7,bne_iff_ne,Bool.or_eq_true,beq_iff_eq]at h;obtain⟨⟨⟨⟨h1,h2⟩,h3⟩,h4⟩,h5⟩:=h;refine⟨hk,λy hy=>h1 y hy,λy hy e=>(h2 y hy).resolve_left (λz=>z e),λy hy e=>(h3 y hy).resolve_left (λz=>z e),h4,λi j x e1 e2=>?_⟩;have m:(j,x)∈R.zip (N.drop k):=by
  refine Xv (i:=i) ?_;rw[List.getElem?_zip_eq_some];exact⟨e1,by rw[List.getElem?_drop];exact e2⟩
 exact h5 (j,x) m
theorem XV {env : Env} {x : Str} {q : NameKind}: ∀{names : List (Str × NameKind)}, (names.map λ(n, k)=>if(k==NameKind.free&&env.scope.kind == .function&&env.kindOf n==some .cell)then(n, NameKind.cell)else(n, k)).lookup x = some q ->
    (x, q) ∈ names \/ (q = .cell /\ (x, NameKind.free) ∈ names)
  | [], h=>nomatch h
  | (n, k)::r, h=>by
    have h : List.lookup x ((if(k==NameKind.free&&env.scope.kind == .function&&env.kindOf n==some .cell) = true then(n, NameKind.cell)else(n, k))::(r.map λ(n, k)=>if(k==NameKind.free&&env.scope.kind == .function&&env.kindOf n==some .cell)then(n, NameKind.cell)else(n, k))) = some q:= h
    by_cases hc : (k==NameKind.free&&env.scope.kind == .function&&env.kindOf n==some .cell) = true
    · rw[X6 hc, Zo]at h
      cases hx : x==n with
      | true=>
        rw[hx]at h;have e : x = n:= by simpa using hx
        have e2 : NameKind.cell = q:= by simpa using h
        subst e;simp only[Bool.and_eq_true, beq_iff_eq]at hc;obtain⟨⟨e3, _⟩, _⟩:= hc;subst e3;exact .inr ⟨e2.symm, X5⟩
      | false=>
        rw[hx]at h;rcases XV (names:= r) h with z|⟨z, y⟩
        · exact .inl (lc9 _ z)
        · exact .inr ⟨z, lc9 _ y⟩
    · rw[X8 hc, Zo]at h
      cases hx : x==n with
      | true=>
        rw[hx]at h;have e : x = n:= by simpa using hx
        have e2 : k = q:= by simpa using h
        subst e; subst e2;exact .inl X5
      | false=>
        rw[hx]at h;rcases XV (names:= r) h with z|⟨z, y⟩
        · exact .inl (lc9 _ z)
        · exact .inr ⟨z, lc9 _ y⟩
section
variable {X:Cx}{pins:LA9}{σ:L2.St}{H:Hp}{s:Shared}
theorem wkj{scope:Scope}{N:List Str}{k:Nat}{R:List Nat}{cl:List (Str×Addr)}{C:Addr}(sc:LcOk X scope N k R)(b6:∀y∈scope.names,y.2=.free->∃c,cl.lookup y.1=some c)
  {x:Str} (h:(compEnvC scope cl C X.env).kindOf x=some .cell\/(compEnvC scope cl C X.env).kindOf x=some .free):∃c,cl.lookup x=some c:=by
 rcases h with h|h
 ·rcases XV (env:=X.env) (names:=scope.names) h with z|⟨_,z⟩
  ·exact absurd rfl (sc.nocell _ z)
  ·exact b6 _ z rfl
 ·rcases XV (env:=X.env) (names:=scope.names) h with z|⟨z,_⟩
  ·exact b6 _ z rfl
  ·cases z
theorem wkk{scope:Scope}{N:List Str}{k:Nat}{R:List Nat}{cl:List (Str×Addr)}{C:Addr}{fp:List Addr}(I:Inv X pins σ H s)(sc:LcOk X scope N k R)(hf:∀b∈fp,qK X pins H b)(ho:∀b∈fp,∃o,s.heap.get? b=some o)
  (hC:s.heap.objs.size<=C) (c9:∀x c,cl.lookup x=some c->X.env.cells.lookup x=some c) (b6:∀y∈scope.names,y.2=.free->∃c,cl.lookup y.1=some c):(lcX X scope N cl C s H fp).Ok where
 mod:=I.ok.mod
 kind:=sc.kind
 glob:=I.ok.glob
 blt:=I.ok.blt
 above:=hC
 inj:=λx y c h1 h2=>I.ok.inj x y c (c9 _ _ h1) (c9 _ _ h2)
 has:=λx h=>wkj sc b6 h
 cab:=λx c h=>by cases h
 hd:=I.ok.hd
 frames:=I.ok.frames
 stk:=.inl rfl
 exf:=λb hb=>by
  obtain⟨o,e⟩:=ho b hb;exact⟨Xl (Xn (Xd e) hC),λx c h=>(hf b hb).2.2.2.2.1 x c (c9 x c h)⟩
 bs:=λb o e=>I.bs b o e
 bsz:=Yn I.ok.bsz I.sz
 noex:=λb o e hb=>by
  rcases(hf b hb).2.2.2.1 with z|z
  ·exact I.ok.noex b o e z
  ·exact absurd (Xn (Xd e) (Yn I.ok.bsz z)) (Z1 _)
 exfs:=λb hb hs=>by
  rcases aD (I.stkSub b hs)with z|z
  ·exact(hf b hb).2.1 z
  ·exact(hf b hb).2.2.1 z
 funs:=I.stack
 frf:=I.stkFree
theorem vzc(I:Inv X pins σ H s){a:Addr}(h:s.heap.objs.size<=a):a∉frs X.stack:=λz=>by
 rcases aD (I.stkSub a z)with e|e
 ·subst e;exact absurd (Xn I.lt h) (Z1 _)
 ·exact I.nofs h e
theorem vw5 {scope:Scope} {N:List Str} {k:Nat} {R:List Nat} {cl:List (Str×Addr)} {C D:Addr} {fp:List Addr} {h1:Heap} {t:Nat} {m:Str->Option Value} {oD:Obj} (I:Inv X pins σ H s) (sc:LcOk X scope N k R)
  (hf:∀ b∈fp,qK X pins H b) (ho:∀b∈fp,∃o,s.heap.get? b=some o)
  (hC:s.heap.objs.size<=C) (hD:s.heap.objs.size<=D) (ng:D≠C) (c9:∀x c,cl.lookup x=some c->X.env.cells.lookup x=some c) (b6:∀y∈scope.names,y.2=.free->∃c,cl.lookup y.1=some c)
  (ci:∀ b o,s.heap.get? b=some o->h1.get? b=some o) (hn:h1.Ns C m) (eD:h1.get? D=some oD) (dD:∀v,oD.data≠.cell v):
  Inv (lcX X scope N cl C s H fp) [(D,oD)] (zw k R σ) H { s with heap:=h1,toks:=t } where
 ok:=wkk I sc hf ho hC c9 b6
 os:=rfl
 bare:=I.bare
 base:=Un.kept ci
 loc:=⟨m,hn,λi x v e1 e2 vis=>by
  obtain⟨mX,hnX,hl⟩:=I.loc;unfold zw at e2
  by_cases hi:i<k
  ·rw [Ym (by rw[Z8];exact hi),List.getElem?_replicate,X6 hi]at e2;cases e2
  ·have hk:k<=i:=Nat.le_of_not_lt hi;rw [List.getElem?_append_right (by rw[Z8];exact hk),Z8,Xe]at e2;cases er:R[i - k]? with
   | none=>rw[er]at e2;cases e2
   | some j=>
    rw [er]at e2;have ej:(σ[j]?).join=some v:=by simpa using e2
    have ej':σ[j]?=some (some v):=by
     cases q:σ[j]? with
     | none=>rw[q]at ej;cases ej
     | some z=>rw[q]at ej;cases z with| none=>cases ej| some z=>rw[show z=v by simpa using ej]
    obtain⟨o1,o2⟩:=sc.outs (i - k) j x er (by rw[show k+(i - k)=i by lia];exact e1);have cap:=sc.caps (x,.free) (Z3 o2) rfl;have visX:Vis X.env.scope x:=cap.elim (λz=>.inr (.inl z)) λz=>.inr (.inr z)
    obtain⟨u,ru,q⟩:=hl j x v o1 ej' visX;refine⟨u,ru,?_⟩;rcases q with⟨q,_⟩|⟨_,c,ec,hc⟩
    ·rcases cap with z|z
     ·rw[z]at q;cases q
     ·rw[z]at q;cases q
    ·obtain⟨c',ec'⟩:=b6 (x,.free) (Z3 o2) rfl;have e:c'=c:=oq9 ((c9 x c' ec').symm.trans ec);subst e;refine .inr ⟨?_,c',ec',?_⟩
     ·rcases vis with z|z|z
      ·rcases XV (env:=X.env) (names:=scope.names) z with y|⟨y,_⟩
       ·have y':=sc.names _ y rfl;rw[o2]at y';cases y'
       ·cases y
      ·exact .inl z
      ·exact .inr z
     ·obtain⟨o,h1,h2⟩:=hc;exact⟨o,ci _ _ h1,h2⟩⟩
 cell:=λx c h=>by
  obtain⟨v,o,h1,h2⟩:=I.cell x c (c9 x c h);exact⟨v,o,ci _ _ h1,h2⟩
 free:=I.hok.fresh hC
 freeC:=λx c h=>I.freeC x c (c9 x c h)
 pin:=λp hp=>by
  have e:p=(D,oD):=by
   have hp:p∈([]++[(D,oD)]:LA9):=hp
   simpa using hp
  subst e;exact⟨eD,I.hok.fresh hD,ng,vzc I hD,dD⟩
 hok:=I.hok.kept ci
 len:=by
  show(zw k R σ).length=N.length;unfold zw;rw[sc.len,Xp,Z8,X1]
theorem kv6{a:Addr}{o:HO}(I:Inv X pins σ H s)(hn:H a=none)(hL:a≠X.env.locals)(h1:a∈X.ex\/X.s₀.heap.objs.size<=a)(h2:∀x c,X.env.cells.lookup x=some c->c≠a)(h3:∀p∈X.pn++pins,p.1≠a)
  (new:ObjOk X.prog X.w (upd H a o) s.heap a o):Inv X pins σ (upd H a o) s:=by
 have hok:HOk X.prog X.w (upd H a o) s.heap:=λb u e=>by
  by_cases hb:b=a
  ·subst hb;rw[vX]at e;cases e;exact new
  ·rw[k9 hb]at e;exact(I.hok b u e).stay (λ_ _ _ q=>q) (λc q=>by rw[k9 (z6 q hn)];exact q) λc xs q=>by rw[k9 (z6 q hn)];exact q
 have na:∀b:Addr,b∉[a]->b≠a:=λb hb z=>hb (by rw[z];exact aB rfl)
 exact I.step (h':=s.heap) (H':=upd H a o) (g':=s.gens) (t':=s.toks) (d':=s.drawn) (ch:=[a])
  (λb hb=>by rw[aC hb];exact⟨h1,hL,h2,h3⟩) (λb o _ _ _ e _=>e) (λb o _ _ _ e _=>⟨o.slots,e⟩) (λb o hb _ q=>by rw[k9 (na b hb)];exact q)
  (λb o _ e=>⟨o,e⟩) (λb xs q=>by rw[k9 (z6 q hn)];exact q) (λb o u q=>by rw[k9 (z6 q hn)];exact q) (λb ps q=>⟨#[],by rw[k9 (z6 q hn),q];simp⟩)
  (λm hm=>hm) hok I.bare
end
def PTs(X:Cx)(cz:List Expr)(t:TT):Prop:=
 ∀(pins:LA9) (s:Shared) (σ:L2.St) (H:Hp) (Q:Bool->Hp->Prop),Inv X pins σ H s->t σ H Q->wpAny (model X.prog X.w) X.A (qvv cz X.env) (TP X pins σ Q) X.xe s
abbrev tYes:TT:=λ_ H Q=>Q true H
theorem vv0{X:Cx}:PTs X [] tYes:=λ_ _ _ H _ I h=>wpAny_tests_nil ⟨H,I,h⟩
theorem vqz{X:Cx}{c:Expr}{t:TT}(hc:PT X c t):PTs X [c] t:=λpins s σ H Q I h=>wpAny_tests_one (hc pins s σ H Q I h)
def LcW(g:TG)(tt:TT)(te:TE)(Q:VK)(J:It)(W:Nat->Nat->List V->L2.St->Hp->Prop):Prop:=∀i m ys σ H,W i m ys σ H ->
 (J.stop i H/\ys.length<=sizeLine/\∀p,H p=none->Q (.ref p) (upd H p (.lst ys))) \/
 (J.go i H/\∀x H1,J.yld i H x H1->g x σ H1 fun σ2 H2=>∃(Ny:VK) (Nn:Hp->Prop),(∀y H4,Ny y H4->ys.length<=sizeLine/\∃m',m'<m/\W (i+1) m' (ys++[y]) σ2 H4) /\
  (∀H4,Nn H4->∃m',m'<m/\W (i+1) m' ys σ2 H4)/\tt σ2 H2 λb H3=>if b=true then te σ2 H3 Ny else Nn H3)
abbrev tLC(wi:TI)(g:TG)(tt:TT)(te:TE)(k:Nat)(R:List Nat):TE:=fun σ H Q=>wi σ H λJ H1=>
 ∃W:Nat->Nat->List V->L2.St->Hp->Prop,(∃m,W 0 m [] (zw k R σ) H1)/\LcW g tt te Q J W
abbrev V4(a8:List Value)(n:Nat):Obj:={ cls:=.type "list",data:=.seq a8.toArray n }
section
variable {X:Cx}
theorem op_mulI:OpR X (binaryOp .Mult) (rI IntMulOk λi j=>.int (i*j)):=opI λ_ _ _ _ _ _ _ hc q=>mul_int q hc
def wv3(_i j:Int):Prop:=0<j/\j.natAbs.log2<9000
theorem z5:OpR X (binaryOp .FloorDiv) (rI wv3 λi j=>.int (i / j)):=opI λi j _ _ _ _ _ hc q=>by
 have h1:(0:Int)<j:=hc.1;exact floordiv_int ⋯ (by rw[Int.fdiv_eq_ediv_of_nonneg i ⋯];exact q) (.inl (PyProof.noPylong_of_log2 hc.2))
def kinds:List String:=["NoneType","bool","int","str","list","tuple","dict"]
def YX(T U:String):Bool:=T==U||(T == "bool" && U == "int")
theorem kx7{K:Frag}{T U:String}(hT:T∈kinds)(hU:U∈kinds.tail):kitOne K (.type T) (.type U)=some (YX T U):=by
 simp only[kinds,List.tail_cons,Xz,Y8,or_false]at hT hU;rcases hT with rfl|rfl|rfl|rfl|rfl|rfl|rfl<;>rcases hU with rfl|rfl|rfl|rfl|rfl|rfl<;>ac_rfl
def wz4(K:Frag):List V->Hp->VK->Prop:=λxs H Q=>∃x T U,xs=[x,.ty U]/\TyOf K H x (.type T)/\T∈kinds/\U∈kinds.tail/\Q (.bl (YX T U)) H
theorem vjq:CallR X (.builtin "isinstance") (wz4 X.K):=by
 intro pins s σ H xs us Q I r h;obtain⟨x,T,U,rfl,ty,hT,hU,q⟩:=h;obtain⟨u,w',rfl,r1,r2⟩:=vqb r;cases(show w'=Value.type U from r2);exact qw3 I r1 ty (kx7 hT hU) λtk=>⟨.bl _,H,I.tok _,rfl,q⟩
theorem vkz:∀{bs:List Bool} {a8:List Value} {i:Nat} {v:Value},Vals (bs.map V.bl) a8->a8[i]?=some v->∃b,bs[i]?=some b/\v=.bool b
 |[],_,_,_,.nil,e=>by simp at e
 |b::bs,_,0,v,.cons r _,e=>by
  simp at e;subst e;exact⟨b,rfl,r⟩
 |b::bs,_,i+1,v,.cons _ t,e=>by
  obtain⟨b',e1,e2⟩:=vkz (i:=i) t (by simpa using e);exact⟨b',by simpa using e1,e2⟩
theorem kqm(bs:List Bool):((List.range bs.length).all λi=>(bs[i]?).getD true)=bs.all id:=by
 rw[Bool.eq_iff_iff,Y7,Y7];constructor
 ·intro h b hb;obtain⟨i,hi,e⟩:=List.getElem_of_mem hb;have:=h i (List.mem_range.mpr hi);rw[X2 hi,e]at this;exact this
 ·intro h i hi;have i6:=List.mem_range.mp hi;rw[X2 i6];exact h _ (Y2 i6)
def wvy(K:Frag):List V->Hp->VK->Prop:=λxs H Q=>∃(p:Addr) (bs:List Bool),xs=[.ref p]/\SqL K H p (bs.map V.bl)/\Q (.bl (bs.all id)) H
theorem vjr(hc:X.calm=true):CallR X (.builtin "all") (wvy X.K):=by
 intro pins s σ H xs us Q I r h;obtain⟨p,bs,rfl,hq,q⟩:=h;obtain⟨u,rfl,ru⟩:=x8 r;cases ru;obtain⟨a8,rv,pl,hz⟩:=I.list hq;have hl:=pl.isList;have b7:p<s.heap.objs.size:=by obtain⟨_,e,_⟩:=hl;exact Xd e
 have ag:bs.length=a8.length:=by rw[<-rv.length,X1]
 refine call_all_walk (wpAny_pyIter_list hl ?_);refine⟨s.heap.objs.size,[s.heap.objs.size,p],[s.heap.objs.size],a8.toArray.size,_,_,λi=>(bs[i]?).getD true,rfl,Walks.list (A:=X.A.in1) (I.ok.hd hc) _ p (Xl b7) a8.toArray,
  ⟨⟨_,Xg _ rfl,rfl,rfl⟩,hl.push _⟩,λi v s' Q' E' hP hQ=>?_,λh' tk hk=>?_⟩
 ·obtain⟨b,e,rfl⟩:=vkz rv (by simpa using hP);simp only[e,Option.getD_some]at hQ;exact Zm hQ
 ·have e:((List.range a8.toArray.size).all λi=>(bs[i]?).getD true)=bs.all id:=by
   rw[X9,<-ag];exact kqm bs
  rw[e];refine⟨.bl _,H,I.kept (t':=tk) (h':=h') λb o e=>hk b o (λz=>?_) (X3 _ e),rfl,q⟩;exact absurd (Xd e) (by rw[aC z];exact Z1 _)
def Its(x:Str):It:=⟨λi _=>i<x.cps.size,λi H v H'=>H'=H/\∃c,x.cps[i]?=some c/\v=.str ⟨#[c]⟩,λi _=>i=x.cps.size⟩
theorem kxr{P:Program}{w:World}{K:Frag}{tg:Expr}{x:Str}{t:Tok}{it:Addr}{ty:String}
  (W:∀A':Around,A'.handled=none->Walks P w A' it [it] [it] x.cps.size (SignAt x) (λi h=>h.IsStrIter it ty x t i))
  (p8:∀(A:Around) (i:Nat) (s:Shared) (Q:VP9) (E:VP9),s.heap.IsStrIter it ty x t i->Q (.ref it) s->wpAny (model P w) A (pyIter (.ref it)) Q E s)
  (nt:["enumerate","zip","dict_itemiterator","dict_reverseitemiterator","odict_iterator","itertools.zip_longest","itertools.pairwise"].contains ty=false):
  Turn P w K tg (Its x) [it] it (λi h=>h.IsStrIter it ty x t i) where
 mem:=by simp
 obj:=λi h st b hb=>by
  have e:b=it:=by simpa using hb
  subst e;obtain⟨o,e,c,d⟩:=st;exact⟨o,e,λv z=>by rw[d]at z;cases z⟩
 keep:=λi h h' st k=>by
  obtain⟨o,e,r⟩:=st;exact⟨o,k it (by simp) o e,r⟩
 item:=by
  intro X hP hw hK hc i pins s σ H E I hf st hg;subst hP hw hK;obtain⟨f0,f1,f2,f3,f4,f5⟩:=hf it (by simp);refine(W X.A (I.ok.hd hc)).item i s _ _ hg st λv h' tk hv dn kk=>?_
  obtain⟨c,u,d8,rfl⟩:=hv;have I1:Inv X pins σ H { s with heap:=h',toks:=tk }:=I.turned (λb o hb e=>kk b o (by simpa using hb) e) f0 f1 f3 f4 f5;obtain⟨o,e,c1,d⟩:=id dn;exact⟨_,rfl,vjf (s:={ s with heap:=h',toks:=tk }) e c1 d nt ⟨.str ⟨#[c]⟩,H,I1,⟨u,rfl⟩,⟨rfl,c,d8,rfl⟩,dn,λb hb=>(hf b hb).1⟩⟩
 done:=by
  intro X hP hw hK hc i pins s σ H E I hf st hg;subst hP hw hK;obtain⟨f0,f1,f2,f3,f4,f5⟩:=hf it (by simp);have ll:i=x.cps.size:=hg;subst ll;exact(W X.A (I.ok.hd hc)).done s _ _ st λh' tk kk=>⟨rfl,I.turned (λb o hb e=>kk b o (by simpa using hb) e) f0 f1 f3 f4 f5⟩
 self:=λA i s Q E st hQ=>p8 A i s Q E st hQ
def wxy:V->Option Int->Option Int->Hp->VK->Prop:=λx lo hi H Q=>∃z,x=.str z/\z.length<=sizeLine/\Q (.str (Txt.slice z lo hi)) H
theorem vzh:SlR X wxy:=by
 intro pins s σ H x v vl vu lo hi sl Q I rx hs pl pu h;obtain⟨z,rfl,hz,q⟩:=h;obtain⟨t,rfl⟩:=rx;refine⟨"str",_,F.slot_str_getitem.lookup,typeIs_str _ _ _,?_⟩;have fin:∀(t':Tok) (k:Nat),EP X pins σ Q (.str (Txt.slice z lo hi) t') { s with toks:=k }:=λt' k=>⟨.str _,H,I.tok k,⟨t',rfl⟩,q⟩
 have db:(Txt.slice z lo hi).length<=sizeLine:=Yn (Txt.slice_le z _ _) hz;cases pl with
 |none=>cases pu with|none=>exact wpAny_getItem_str_slice (l:=none) (u:=none) (st:=none) hs rfl (post_val_or_str ⟨db,fin⟩)|int j tj=>exact wpAny_getItem_str_slice (l:=none) (u:=some (j,tj)) (st:=none) hs rfl (post_val_or_str ⟨db,fin⟩)
 |int i ti=>cases pu with|none=>exact wpAny_getItem_str_slice (l:=some (i,ti)) (u:=none) (st:=none) hs rfl (post_val_or_str ⟨db,fin⟩)|int j tj=>exact wpAny_getItem_str_slice (l:=some (i,ti)) (u:=some (j,tj)) (st:=none) hs rfl (post_val_or_str ⟨db,fin⟩)
def vzs:R2:=λx y H Q=>∃z n,x=.str z/\y=.int n/\(z.length<=1024/\n<=1024/\-1024<=n)/\Q (.str (Txt.mul z n)) H
theorem vvg:OpR X (binaryOp .Mult) vzs:=by
 intro pins s σ H x y v u Q I rx ry h;obtain⟨z,n,rfl,rfl,⟨h1,h2,h3⟩,q⟩:=h;obtain⟨t,rfl⟩:=rx;obtain⟨t',rfl⟩:=ry;exact SB.mul (mulOk_of 1024 1024 h1 h2 ⋯ ⋯ ⋯) λt' k=>⟨.str _,H,I.tok k,⟨t',rfl⟩,q⟩
theorem kxv:∀{ys:List Str} {a8:List Value},Vals (ys.map V.str) a8->StrsAre a8 ys
 |[],_,.nil=>.nil|_::_,_,.cons ⟨t,e⟩ r=>by subst e;exact .cons _ t (kxv r)
def wvw(K:Frag):V->List V->Hp->VK->Prop:=λx vs H Q=>∃z p ys,x=.str z/\vs=[.ref p]/\SqL K H p (ys.map V.str)/\(ys.map (·.length)).sum+ys.length*z.length<=16777216/\Q (.str (Txt.join z ys)) H
theorem vvv:MtR X "str.join" (wvw X.K):=by
 intro pins s σ H x xs v us Q I rx rv h;obtain⟨z,p,ys,rfl,rfl,hq,hok,q⟩:=h;obtain⟨t,rfl⟩:=rx;obtain⟨u,rfl,ru⟩:=rv.one;cases ru;obtain⟨a8,rs,pl,hz⟩:=I.list hq;exact join_list pl.isList (kxv rs) hok λt' k=>⟨.str _,H,I.tok k,⟨t',rfl⟩,q⟩
def qqi(K:Frag):V->Option Int->Option Int->Hp->VK->Prop:=λx lo hi H Q=>wxz K x lo hi H Q\/wxx K x lo hi H Q\/wxy x lo hi H Q
theorem vzj(K:Frag)(hK:autoParam (X.K=K) Ŕ):SlR X (qqi K):=by subst hK;exact sl_list.or (sl_tup.or vzh)
def qqk(K:Frag):List V->Hp->VK->Prop:=λxs H Q=>(∃p ys,xs=[.ref p]/\(SqL K H p ys\/SqT K H p ys)/\Q (.int ys.length) H)\/(∃z,xs=[.str z]/\z.length<=sizeLine/\Q (.int z.length) H)\/(∃a a9,xs=[V.ref a]/\H a=some (.dK a9)/\Q (.int a9.length) H)
theorem vx1(K:Frag)(hK:autoParam (X.K=K) Ŕ):CallR X (.builtin "len") (qqk K):=by subst hK;exact call_len_seq.or (call_len_str.or qx7)
theorem qxb(K:Frag)(hK:autoParam (X.K=K) Ŕ)(hc:autoParam (X.calm=true) Ŕ):CallR X (.builtin "all") (wvy K):=by subst hK;exact vjr hc
theorem qqy(K:Frag){o e:Expr}{es:List Expr}{T:String}{name:Str}{id:String}{r:V->List V->Hp->VK->Prop}{to:TE}{t:TA}{am ae:Pos}
  (pa:PlainAttrs T) (slot:Slot T name id) (nt:typeOf (.builtin id)=pure (.type "method_descriptor")) (hm:MtR X id r) (ho:PE X o to) (ha:PA X (e::es) t)
  (aw:autoParam (attributeBase o name X.env (eval o X.env)=eval o X.env) Ŕ)
  (bi:autoParam (((backTo ae (starEach (e::es) X.env)).all (λx=>!x.1)&&(backToKw ae (keywordEach [] X.env)).all (λx=>x.1.isSome)
   && decide ((e::es).length+([]:List Keyword).length+(if([]:List Keyword).isEmpty then 0 else 1)<30))=true) Ŕ)
  (ax:autoParam ((am.endLine==ae.line)=true) Ŕ) (hs:autoParam (starEach (e::es) X.env=(false,eval e X.env)::starEach es X.env) Ŕ) (aq:autoParam ((backTo ae (starEach es X.env)).any (·.1)=false) Ŕ) (hK:autoParam (X.K=K) Ŕ):
  PE X (.Call (.Attribute o name am) (e::es) [] ae) (tBM K T r to t):=by subst hK;exact vvd pa slot nt hm ho ha aw bi ax hs aq
theorem vkv:bootBuiltins "len"=some (.builtin "len"):=by decide +kernel
theorem kq2:bootBuiltins "isinstance"=some (.builtin "isinstance"):=by decide +kernel
theorem vkw:bootBuiltins "all"=some (.builtin "all"):=by decide +kernel
theorem qxc:bootBuiltins "sorted"=some (.builtin "sorted"):=by decide +kernel
theorem Qz:bootBuiltins "list"=some (.type "list"):=by decide +kernel
theorem qja:bootBuiltins "tuple"=some (.type "tuple"):=by decide +kernel
theorem vx3:bootBuiltins "dict"=some (.type "dict"):=by decide +kernel
end
def Cst(mg:Str->Option Value)(x:Str)(v:V):Prop:=∃u,mg x=some u/\RelV v u
section
variable {X:Cx}{x:Str}{p pos:Pos}{e:Expr}{es:List Expr}{t:TA}{ps:List Str}{sp:Sp}{k:Nat}{v:V}
theorem vka(c:Cst X.mg x v)(hg:autoParam (Gl X x) Ŕ)(hd:autoParam ((x==("__debug__":Str))=false) ŕ):PE X (.Name x pos) (tC v):=by
 obtain⟨u,m,r⟩:=c;exact vv9 hg m r hd
end
theorem qjb:∀{ns:List Int} {m:Nat},PySem.W.WData.weightAll (ns.map PySem.W.WData.int)<=m->∀n∈ns,Builtin.Int.intBits n<=m
 | [],_,_,_,h=>nomatch h
 | a::r,m,h,n,hn=>by
  have h':(if a==0 then 0 else a.natAbs.log2+1)+1+PySem.W.WData.weightAll (r.map PySem.W.WData.int)<=m:=h;rcases aD hn with z|z
  ·subst z;have e:Builtin.Int.intBits n=(if n==0 then 0 else n.natAbs.log2+1):=rfl;rw[e];lia
  ·exact qjb (m:=m) ⋯ n z
theorem kxi{ns:List Int}(h:PySem.W.WData.layableAll [PySem.W.WData.list (ns.map PySem.W.WData.int)]=true):∀n∈ns,Builtin.Int.intBits n<=1048576:=by
 have h1:(PySem.W.WData.list (ns.map PySem.W.WData.int)).layable=true:=(PySem.W.layW_cons h).1;unfold PySem.W.WData.layable at h1;simp only[Bool.and_eq_true,decide_eq_true_eq]at h1;have h2:PySem.W.WData.weightAll (ns.map PySem.W.WData.int)<=2 ^ 20:=h1.2;exact qjb (by simpa using h2)
section
variable {X:Cx}{pins:LA9}{σ:L2.St}{H:Hp}{s:Shared}
theorem in1_units(A:Around):A.in1.units<=A.units+1:=by
 first|exact Xa _|(show A.units+1<=A.units+1;exact Xa _)|(unfold Around.in1;simp)
end
section
variable {X:Cx}
def vqp:V->List V->Hp->VK->Prop:=λv vs H Q=>∃(x y:Str) (i:Nat) (ab:List Nat),v=.str x/\vs=[.str y]/\Builtin.Str.occurrences x y 0 x.length 1=i::ab/\Q (.int i) H
theorem vvw:MtR X "str.index" vqp:=by
 intro pins s σ H x xs v us Q I rx rv h;obtain⟨z,y,i,ab,rfl,rfl,ho,q⟩:=h;obtain⟨t,rfl⟩:=rx;obtain⟨u,rfl,t',rfl⟩:=rv.one;exact SC.index ho ⟨.int i,H,I.tok _,⟨_,rfl⟩,q⟩
def qqj(K:Frag):List V->Hp->VK->Prop:=λxs H Q=>∃p ys,xs=[.ref p]/\(SqL K H p ys\/SqT K H p ys)/\∀l,H l=none->Q (.ref l) (upd H l (.lst ys))
theorem jwr(K:Frag)(hK:autoParam (X.K=K) Ŕ):CallR X (.type "list") (qqj K):=by subst hK;exact kvp
end
section
variable {X:Cx}{pins:LA9}{σ:L2.St}{H:Hp}{s:Shared}
theorem jzk{t':Nat}{h':Heap}(fp:List Addr)(I:Inv X pins σ H s)(k:∀b o,b∉fp->s.heap.get? b=some o->h'.get? b=some o)(hf:∀b∈fp,qK X pins H b):Inv X pins σ H { s with heap:=h',toks:=t' }:=by
 have ro:∀b u,H b=some u->b∉fp:=λb u e z=>by rw[(hf b z).1]at e;cases e
 refine I.step (g':=s.gens) (d':=s.drawn) (ch:=fp) (λb hb=>?_) (λb o _ _ hc e _=>k b o hc e) (λb o _ _ hc e _=>⟨o.slots,k b o hc e⟩) (λ_ _ _ _ n=>n)
  (λb o hc e=>⟨o,k b o hc e⟩) (λ_ _ e=>e) (λ_ _ _ e=>e) (λb ps e=>⟨#[],by rw[e];simp⟩) (λm hm=>?_) (λb u e=>?_) I.bare
 ·obtain⟨_,f1,_,f3,f4,f5⟩:=hf b hb;exact⟨f3,f1,f4,f5⟩
 ·obtain⟨o,es,ep,ho,r⟩:=hm;exact⟨o,es,ep,k _ o (λz=>(hf _ z).2.1 rfl) ho,r⟩
 ·refine(I.hok b u e).stay (λc v hc q=>k c v ?_ q) (λ_ q=>q) λ_ _ q=>q
  rcases hc with z|z
  ·rw[z];exact ro b u e
  ·exact ro c _ z
end
end L3
namespace L2
open PySem PySem.Spec PyProof.Rows
section
variable {X:Cx}{pins:LA9}{σ:List (Option V)}{H H':Hp}{s:Shared}{h':Heap}
theorem Inv.stepN{g':Array GenState}{t':Nat}{d':Drawn}{ch:List Addr}(I:Inv X pins σ H s)
  (dh:∀b∈ch,(b∈X.ex\/X.s₀.heap.get? b=none)/\b≠X.env.locals/\(∀x c,X.env.cells.lookup x=some c->c≠b)/\∀p∈X.pn++pins,p.1≠b)
  (keep:∀b o,b≠X.env.locals->b∉X.fs->b∉ch->s.heap.get? b=some o->H b=none->h'.get? b=some o)
  (slot:∀b o,b≠X.env.locals->b∈X.fs->b∉ch->s.heap.get? b=some o->H b=none->∃sl,h'.get? b=some { o with slots:=sl }) (free:∀b o,b∉ch->s.heap.get? b=some o->H b=none->H' b=none)
  (there:∀b o,b∉ch->s.heap.get? b=some o->∃o',h'.get? b=some o')
  (tups:∀b xs,H b=some (.tup xs)->H' b=some (.tup xs)) (frzs:∀b o u,H b=some (.frz o u)->H' b=some (.frz o u)) (tbls:∀b ps,H b=some (.tbl ps)->∃more,H' b=some (.tbl (ps++more)))
  (ns:∀m,s.heap.Ns X.env.locals m->h'.Ns X.env.locals m) (hok:HOk X.prog X.w H' h') (hg:AllBare g'):
  Inv X pins σ H' { s with heap:=h',gens:=g',drawn:=d',toks:=t' }:=by
 have nv:∀b o,X.s₀.heap.get? b=some o->b≠X.env.locals:=λb o e=>Xl (Xn (Xd e) I.ok.above)
 have js:∀b o,X.s₀.heap.get? b=some o->b∉X.ex->b∉ch:=λb o e hx hb=>by
  rcases(dh b hb).1 with z|z
  ·exact hx z
  ·rw[z]at e;cases e
 have ff:∀x c,X.env.cells.lookup x=some c->∀v,s.heap.IsCell c v->h'.IsCell c v:=λx c e v ⟨o,ho,hd⟩=>by
  have ip:c∉ch:=λz=>(dh c z).2.2.1 x c e rfl
  by_cases hc:c∈X.fs
  ·obtain⟨sl,q⟩:=slot c o (I.cne x c e) hc ip ho (I.freeC x c e);exact⟨_,q,hd⟩
  ·exact⟨o,keep c o (I.cne x c e) hc ip ho (I.freeC x c e),hd⟩
 refine⟨I.ok,I.os,hg,⟨λb o e n hb hx=>?_,λb o e n hb hx=>?_,λb o e n hx=>?_,λb o e hx=>?_,λb xs e=>tups b xs (I.base.tups b xs e),λb o xs e=>frzs b o xs (I.base.frzs b o xs e),λb ps e=>?_⟩,?_,λx c e=>?_,?_,λx c e=>?_,λp hp=>?_,hok,I.len⟩
 ·exact keep b o (nv b o e) hb (js b o e hx) (I.base.keep b o e n hb hx) (I.base.free b o e n hx)
 ·obtain⟨sl,e1⟩:=I.base.slot b o e n hb hx;obtain⟨sl',e2⟩:=slot b _ (nv b o e) hb (js b o e hx) e1 (I.base.free b o e n hx);exact⟨sl',e2⟩
 ·obtain⟨o',e1⟩:=I.base.there b o e hx;exact free b o' (js b o e hx) e1 (I.base.free b o e n hx)
 ·obtain⟨o',e1⟩:=I.base.there b o e hx;exact there b o' (js b o e hx) e1
 ·obtain⟨m1,e1⟩:=I.base.tbls b ps e;obtain⟨m2,e2⟩:=tbls b _ e1;exact⟨m1++m2,by rw[e2,Array.append_assoc]⟩
 ·obtain⟨m,hn,hl⟩:=I.loc;refine⟨m,ns m hn,λi x v e1 e2 e3=>?_⟩;obtain⟨u,r,l⟩:=hl i x v e1 e2 e3;refine⟨u,r,?_⟩;rcases l with l|⟨k,c,e,z⟩
  ·exact .inl l
  ·exact .inr ⟨k,c,e,ff x c e _ z⟩
 ·obtain⟨v,z⟩:=I.cell x c e;exact⟨v,ff x c e v z⟩
 ·obtain⟨m,⟨o,_,_,ho,_⟩,_⟩:=I.loc;exact free _ o (λz=>(dh _ z).2.1 rfl) ho I.free
 ·obtain⟨v,o,ho,hd⟩:=I.cell x c e;exact free c o (λz=>(dh c z).2.2.1 x c e rfl) ho (I.freeC x c e)
 ·obtain⟨e,n,ne,nf,d⟩:=I.pin p hp;have ip:p.1∉ch:=λz=>(dh p.1 z).2.2.2 p hp rfl
  exact⟨keep p.1 p.2 ne nf ip e n,free p.1 p.2 ip e n,ne,nf,d⟩
theorem Inv.callN{g':Array GenState}{t':Nat}{d':Drawn}{ch:List Addr}(I:Inv X pins σ H s)(u:Un (frs X.stack) ch H H' s.heap h')(hok:HOk X.prog X.w H' h')(hg:AllBare g')
  (dh:∀b∈ch,(b∈X.ex\/X.s₀.heap.get? b=none)/\b≠X.env.locals/\(∀x c,X.env.cells.lookup x=some c->c≠b)/\∀p∈X.pn++pins,p.1≠b):
  Inv X pins σ H' { s with heap:=h',gens:=g',drawn:=d',toks:=t' }:=by
 obtain⟨m,⟨o,es,ep,ho,r⟩,_⟩:=id I.loc;obtain⟨sl,hL⟩:=u.any ho I.free λz=>(dh _ z).2.1 rfl
 exact I.stepN (ch:=ch) dh (λb o hL hb hc e n=>u.keep b o e n (λz=>(aD (I.stkSub b z)).elim hL hb) hc) (λb o _ _ hc e n=>u.any e n hc) (λb o hc e n=>u.free b o e n hc) (λb o hc e=>u.there b o e hc) u.tups u.frzs u.tbls (λm' hm=>by
  obtain⟨o',es',r6,dq,r'⟩:=hm;rw[ho]at dq;cases dq;exact⟨_,es',r6,hL,r'⟩) hok hg
end
end L2
namespace L3
open PySem PySem.Spec PyProof.Rows L2
theorem jze{e:Value}{env env0:Env}(h:env.frame=env0.frame):noteFrame e env=noteFrame e env0:=by
 unfold noteFrame PySem.frameOf;rw[h]
structure Fl0 (h:Heap)(x:Addr)(C:Value)(vs:Array Value):Prop where
 ob:h.get? x=some { cls:=C,data:=.fields vs }
 sz:1<vs.size
structure FlT (h:Heap)(x T:Addr)(C:Value)(fl:Value):Prop where
 ex:∃vs,h.get? x=some { cls:=C,data:=.fields vs }/\vs[1]?=some (.ref T)
 tb:∃oT ts,h.get? T=some oT/\oT.data=.fields ts/\ts[3]?=some fl
 ne:T≠x
structure Chg (fs ch:List Addr)(h h':Heap):Prop where
 keep:∀b o,h.get? b=some o->b∉fs->b∉ch->h'.get? b=some o
 slot:∀b o,h.get? b=some o->b∉ch->∃sl,h'.get? b=some { cls:=o.cls,dict:=o.dict,data:=o.data,slots:=sl }
 size:h.objs.size<=h'.objs.size
theorem Chg.trans{fs ch ch':List Addr}{h h1 h2:Heap}(a:Chg fs ch h h1)(b:Chg fs ch' h1 h2)(hc:∀x∈ch',x∈ch\/h.get? x=none):Chg fs ch h h2 where
 keep:=λx o e h1 h2=>b.keep x o (a.keep x o e h1 h2) h1 λz=>(hc x z).elim h2 λq=>by rw[q]at e;cases e
 slot:=λx o e hn=>by
  obtain⟨sl,e1⟩:=a.slot x o e hn;obtain⟨io,e2⟩:=b.slot x _ e1 λz=>(hc x z).elim hn λq=>by rw[q]at e;cases e
  exact⟨io,e2⟩
 size:=Yn a.size b.size
theorem Chg.mono{fs ch ch':List Addr}{h h1:Heap}(a:Chg fs ch h h1)(hc:∀x∈ch,x∈ch'):Chg fs ch' h h1:=⟨λb o e h1 h2=>a.keep b o e h1 λz=>h2 (hc b z),λb o e h2=>a.slot b o e λz=>h2 (hc b z),a.size⟩
theorem Chg.of_upd{fs : List Addr}{h : Heap}{a : Addr}{f : Obj -> Obj}: Chg fs [a] h (h.update a f):=
  ⟨λb o e _ hn=>by rw[Z4 _ _ _ _ (λz=>hn (aB z))]; exact e,
   λb o e hn=>⟨o.slots, by rw[Z4 _ _ _ _ (λz=>hn (aB z))]; exact e⟩, by rw[Heap.size_update]; exact Xa _⟩
theorem Chg.of_push{fs:List Addr}{h:Heap}{o:Obj}:Chg fs [] h (h.push o):=
 ⟨λb o e _ _=>X3 _ e,λb o e _=>⟨o.slots,X3 _ e⟩,by rw[Heap.size_push];lia⟩
theorem Chg.of_slots{fs:List Addr}{h h':Heap}(s:Heap.SlotsOnly fs h h'):Chg fs [] h h':=
 ⟨λb o e hn _=>(s.2.1 b hn).trans e,λb o e _=>s.2.2 b o e,by rw[s.1];exact Xa _⟩
theorem Chg.refl{fs ch:List Addr}{h:Heap}:Chg fs ch h h:=⟨λ_ _ e _ _=>e,λb o e _=>⟨o.slots,e⟩,Xa _⟩
section
variable {M:Model}{A:Around}{E:VP9}{s:Shared}{base:Heap}{env:Env}{outer:List Env}{L x T:Addr}{C fl:Value}
theorem kvj{head:Value}{hadNext:Bool}{vs:Array Value}{Q:Unit->Shared->Prop}(hA:A.frames=some (env::outer))(hF:s.heap.FunFrames base (env::outer))(hL:env.frame=some L)(ho:Fl0 s.heap x C vs)
  (h:∀h' T',Chg (frs (env::outer)) [x] s.heap h'->s.heap.objs.size<=T'->FlT h' x T' C (rawInt ↑L)->Q () { s with heap:=h' }):
  wpAny M A (do
   let a <-PySem.frameOf env
   let pl <-entryPlaceOf L hadNext
   let b <-EntryCells.newEntry head a Value.none (rawInt ↑L) Value.none pl
   setField (Value.ref x) 1 b) Q E s:=by
 refine X0 (wpAny_frameOf_fun hA hF hL λh1 s1=>?_);have hx:x∉frs (env::outer):=λz=>by
  obtain⟨_,o,e,hn⟩:=hF.mem z;rw[ho.ob]at e;cases e;exact hn _ rfl
 have o1:h1.get? x=some { cls:=C,data:=.fields vs }:=(s1.2.1 x hx).trans ho.ob;have fin:∀pl:List Value,IsPlace pl->wpAny M A (do
   let b <-EntryCells.newEntry head (Value.ref L) Value.none (rawInt ↑L) Value.none pl
   setField (Value.ref x) 1 b) Q E { s with heap:=h1 }:=λpl bn=>by
  refine X0 ?_;unfold EntryCells.newEntry newFields;have har:([head,Value.ref L,Value.none,rawInt ↑L,Value.none]++if pl.isEmpty=true then List.replicate 6 Value.none else pl).toArray[3]?=some (rawInt ↑L):=by simp
  have hsz:([head,Value.ref L,Value.none,rawInt ↑L,Value.none]++if pl.isEmpty=true then List.replicate 6 Value.none else pl).toArray.size<=sizeLine+2:=by
   rcases bn with rfl|⟨_,_,_,_,_,_,_,rfl⟩<;>simp<;>decide
  generalize ([head,Value.ref L,Value.none,rawInt ↑L,Value.none]++if pl.isEmpty=true then List.replicate 6 Value.none else pl).toArray=ar at har hsz;refine Y1 ?_ hsz;have o2:(h1.push { cls:=.type "traceback",data:=.fields ar }).get? x=some { cls:=C,data:=.fields vs }:=X3 _ o1;refine Zd (s:={ s with heap:=h1.push _ }) o2 rfl ho.sz ?_;have dl:h1.objs.size≠x:=λe=>absurd (Xd o1) (by rw[<-e];exact Z1 _)
  have o3:((h1.push { cls:=.type "traceback",data:=.fields ar }).update x (Obj.mapFields λy=>y.setIfInBounds 1 (.ref h1.objs.size))).get? h1.objs.size=some { cls:=.type "traceback",data:=.fields ar }:=by
   rw[Z4 _ _ _ _ dl];exact Xg _ rfl
  refine h _ h1.objs.size (((Chg.of_slots s1).mono (λ_ z=>nomatch z)).trans ((Chg.of_push.mono λ_ z=>nomatch z).trans (ch:=[x]) Chg.of_upd λy hy=>.inl hy) λy hy=>.inl hy) (by rw[s1.1];exact Xa _) ⟨⟨vs.setIfInBounds 1 (.ref h1.objs.size),?_,Array.getElem?_setIfInBounds_self_of_lt ho.sz⟩,⟨_,_,o3,rfl,har⟩,dl⟩;exact Yh _ o2 rfl
 exact X0 (wpAny_entryPlaceOf λpl bn=>fin pl bn)
theorem wwn{vs:Array Value}{Q:Unit->Shared->Prop}(hA:A.frames=some (env::outer))(hF:s.heap.FunFrames base (env::outer))(hL:env.frame=some L)(ho:Fl0 s.heap x C vs)(hv:vs[1]?=some .none)
  (h:∀h' T',Chg (frs (env::outer)) [x] s.heap h'->s.heap.objs.size<=T'->FlT h' x T' C (rawInt ↑L)->Q () { s with heap:=h' }):wpAny M A (noteFrame (.ref x) env) Q E s:=by
 unfold noteFrame;rw[hL];refine X0 (Zr ho.ob rfl hv ?_);exact kvj (hadNext:=false) hA hF hL ho h
theorem upd3{T:Addr}{oT:Obj}{ts:Array Value}{v:Value}{h:Heap}(e:h.get? T=some oT)(ed:oT.data=.fields ts)(h3:3<ts.size):
  ∃o' ts',(h.update T (Obj.mapFields λy=>y.setIfInBounds 3 v)).get? T=some o'/\o'.data=.fields ts'/\ts'[3]?=some v:=by
 obtain⟨c,d,dt,sl⟩:=oT;cases(show dt=.fields ts from ed);exact⟨_,ts.setIfInBounds 3 v,Yh _ e rfl,rfl,Array.getElem?_setIfInBounds_self_of_lt h3⟩
theorem wwm{Q:Unit->Shared->Prop}(hA:A.frames=some (env::outer))(hF:s.heap.FunFrames base (env::outer))(hL:env.frame=some L)(f:FlT s.heap x T C fl)
  (h:∀h' T',Chg (frs (env::outer)) [x,T] s.heap h'->(s.heap.objs.size<=T'\/T'=T)->FlT h' x T' C (rawInt ↑L)->Q () { s with heap:=h' }):wpAny M A (noteFrame (.ref x) env) Q E s:=by
 obtain⟨⟨vs,e1,v1⟩,⟨oT,ts,e2,d2,v2⟩,dl⟩:=f;have h3:3<ts.size:=by
  rw[Array.getElem?_eq_some_iff]at v2;exact v2.1
 have h1:1<vs.size:=by
  rw[Array.getElem?_eq_some_iff]at v1;exact v1.1
 unfold noteFrame;rw [hL];refine X0 (Zr e1 rfl v1 ?_);show wpAny M A (if((Value.ref T != Value.none)=true)then _ else _) Q E s;rw [X6 (show(Value.ref T != Value.none)=true from rfl)];refine X0 (Zr e2 d2 v2 ?_)
 by_cases hf:(fl==rawInt ↑L)=true
 ·rw[X6 hf];have e:fl=rawInt ↑L:=eq_of_beq hf;subst e;exact X4 (h s.heap T Chg.refl (.inr rfl) ⟨⟨vs,e1,v1⟩,⟨oT,ts,e2,d2,v2⟩,dl⟩)
 ·rw[X8 hf];refine X0 (Zd e2 d2 h3 ?_);have c1:Chg (frs (env::outer)) [x,T] s.heap (s.heap.update T (Obj.mapFields λy=>y.setIfInBounds 3 Value.none)):=Chg.of_upd.mono λy hy=>by
   rw[aC hy];simp
  have e1':(s.heap.update T (Obj.mapFields λy=>y.setIfInBounds 3 Value.none)).get? x=some { cls:=C,data:=.fields vs }:=by
   rw[Z4 _ _ _ _ dl.symm];exact e1
  have hF':(s.heap.update T (Obj.mapFields λy=>y.setIfInBounds 3 Value.none)).FunFrames base (env::outer):=by
   refine hF.of_keeps λb o e hn=>⟨o,?_,rfl⟩
   rw[Z4 _ _ _ _ λz=>?_]
   ·exact e
   ·rw[z,e2]at e;cases e;exact hn _ d2
  refine kvj (s:={ s with heap:=s.heap.update T _ }) (hadNext:=true) hA hF' hL ⟨e1',h1⟩ λh' T' c2 hs f'=>?_
  refine h h' T' (c1.trans (c2.mono (ch':=[x,T]) λy hy=>by rw[aC hy];simp) λy hy=>.inl hy) (.inl ?_) f';rw[Heap.size_update]at hs;exact hs
theorem wq7{Q:Unit->Shared->Prop}{fr:Option Addr}(f:FlT s.heap x T C fl)(h:∀h',Chg (frs outer) [x,T] s.heap h'->FlT h' x T C (fr.elim Value.none λf=>rawInt ↑f)->Q () { s with heap:=h' }):wpAny M A (setFlight (.ref x) fr) Q E s:=by
 obtain⟨⟨vs,e1,v1⟩,⟨oT,ts,e2,d2,v2⟩,dl⟩:=f;have h3:3<ts.size:=by
  rw[Array.getElem?_eq_some_iff]at v2;exact v2.1
 unfold setFlight;refine X0 (Zr e1 rfl v1 ?_);rw[X6 (show(Value.ref T != Value.none)=true from rfl)];refine Zd e2 d2 h3 (h _ (Chg.of_upd.mono λy hy=>by rw[aC hy];simp) ⟨⟨vs,?_,v1⟩,upd3 e2 d2 h3,dl⟩);rw[Z4 _ _ _ _ dl.symm];exact e1
end
structure XCls (K:Frag)(C:Addr):Prop where
 ga:findIn K (.ref C) "__getattribute__"=some (some (.builtin "BaseException.__getattribute__"))
 gt:findIn K (.ref C) "__getattr__"=some none
 fo:PySem.W.findObj K C none "__class__"=some (.bind (.builtin "getset_descriptor.__get__") (.builtin "object.__class__"))
 ob:PySem.W.mroIn K C (.type "object")=some true
 bx:PySem.W.mroIn K C (.type "BaseException")=some true
 cl:(PySem.W.clsIn K C).isSome=true
def FpX(X:Cx)(pins:LA9)(H:Hp)(b:Addr):Prop:=
 H b=none/\b≠X.env.locals/\b∉X.fs/\(b∈X.ex\/X.s₀.heap.get? b=none)/\(∀x c,X.env.cells.lookup x=some c->c≠b)/\∀p∈X.pn++pins,p.1≠b
section
variable {X:Cx}{pins:LA9}{σ:L2.St}{H:Hp}{s:Shared}
theorem fpX{H':Hp}{b:Addr}(I:Inv X pins σ H s)(hb:s.heap.get? b=none)(hn:H' b=none):FpX X pins H' b:=by
 refine⟨hn,λz=>?_,λz=>?_,?_,λx c e z=>?_,λp hp z=>?_⟩
 ·obtain⟨m,⟨o,_,_,ho,_⟩,_⟩:=I.loc;rw[<-z,hb]at ho;cases ho
 ·obtain⟨_,o,e,_⟩:=I.ok.funs.mem z
  by_cases hx:b∈X.ex
  ·exact I.ok.exfs b hx z
  ·obtain⟨o',e'⟩:=I.base.there b o e hx;rw[hb]at e';cases e'
 ·by_cases hx:b∈X.ex
  ·exact .inl hx
  ·cases e:X.s₀.heap.get? b with
   |none=>exact .inr rfl
   |some o=>
    obtain⟨o',e'⟩:=I.base.there b o e hx;rw[hb]at e';cases e'
 ·obtain⟨v,o,ho,_⟩:=I.cell x c e;rw[z,hb]at ho;cases ho
 ·have:=(I.pin p hp).1;rw[z,hb]at this;cases this
theorem FpX.of{b:Addr}(h:qK X pins H b):FpX X pins H b:=⟨h.1,h.2.1,h.2.2.1,h.2.2.2.1.imp id λz=>Heap.get?_none_of_le z,h.2.2.2.2⟩
theorem kx9{h':Heap}{ch:List Addr}(I:Inv X pins σ H s)(c:Chg (frs X.stack) ch s.heap h')(hf:∀b∈ch,FpX X pins H b):Inv X pins σ H { s with heap:=h' }:=by
 refine I.callN (g':=s.gens) (t':=s.toks) (d':=s.drawn) (ch:=ch) ⟨λb o e _ h1 h2=>c.keep b o e h1 h2,λb o e _ _ h2=>c.slot b o e h2,λ_ _ _ n _=>n,λb o e h2=>?_,λ_ _ e=>e,λ_ _ _ e=>e,λ_ _ e=>⟨#[],by rw[e];simp⟩⟩ (λb u e=>?_) I.bare λb hb=>?_
 ·obtain⟨sl,q⟩:=c.slot b o e h2;exact⟨_,q⟩
 ·have no:∀d v,H d=some v->d∉frs X.stack/\d∉ch:=λd v e=>⟨λz=>(by rw[I.stkFree d z]at e;cases e),λz=>(by rw[(hf d z).1]at e;cases e)⟩
  refine(I.hok b u e).stay (λd v hc q=>?_) (λ_ q=>q) λ_ _ q=>q
  rcases hc with z|z
  ·rw[z]at q ⊢;exact c.keep b v q (no b u e).1 (no b u e).2
  ·exact c.keep d v q (no d _ z).1 (no d _ z).2
 ·obtain⟨_,f1,_,f3,f4,f5⟩:=hf b hb;exact⟨f3,f1,f4,f5⟩
end
structure Fx (X:Cx)(pins:LA9)(H:Hp)(h:Heap)(x:Addr)(C:Value):Prop where
 fp:FpX X pins H x
 st:(∃vs,Fl0 h x C vs/\vs[1]?=some .none)\/∃T fl,FlT h x T C fl/\FpX X pins H T
structure Xt (X:Cx)(pins:LA9)(σ:L2.St)(H:Hp)(x T:Addr)(C fl:Value)(s:Shared):Prop where
 inv:Inv X pins σ H s
 fx:FpX X pins H x
 fT:FpX X pins H T
 f:FlT s.heap x T C fl
theorem Xt.to{X:Cx}{pins:LA9}{σ:L2.St}{H:Hp}{x T:Addr}{C fl:Value}{s:Shared}(h:Xt X pins σ H x T C fl s):Fx X pins H s.heap x C:=⟨h.fx,.inr ⟨T,fl,h.f,h.fT⟩⟩
def Xo(X:Cx)(E:XK)(e:Value)(s:Shared):Prop:=∃pins σ H x C,e=.ref x/\Inv X pins σ H s/\Fx X pins H s.heap x C/\E C none H
def xX(X:Cx)(E:XK):Prop:=∀pins σ H s x C,Inv X pins σ H s->Fx X pins H s.heap x C->E C none H->X.xe (.ref x) s
abbrev Cx.ex'(X:Cx)(E:XK):Cx:=X.wish (Xo X E)
theorem V6{X:Cx}{E:XK}:xX (Cx.ex' X E) E:=λpins σ H s x C I f q=>⟨pins,σ,H,x,C,rfl,I.unwish,⟨f.fp,f.st⟩,q⟩
def zQ(X:Cx):Prop:=∃env0 out,X.stack=env0::out/\X.env.frame=env0.frame
section
variable {X:Cx}{pins:LA9}{σ:L2.St}{H:Hp}{s:Shared}{M:Model}{E':VP9}{x T:Addr}{C fl:Value}
theorem qv2{A:Around}{Q:Unit->Shared->Prop}(top:zQ X)(hA:A.frames=X.A.frames)(I:Inv X pins σ H s)(f:Fx X pins H s.heap x C)(h:∀L T s',X.env.frame=some L->Xt X pins σ H x T C (rawInt ↑L) s'->Q () s'):
  wpAny M A (noteFrame (.ref x) X.env) Q E' s:=by
 obtain⟨env0,out,e1,e2⟩:=top;have hF:=I.stack;have mt:A.frames=some (env0::out):=by rw[hA,I.ok.frames,e1]
 rw[e1]at hF;obtain⟨_,⟨L,o,hL,_⟩,_⟩:=id hF;rw[jze e2];have hL':X.env.frame=some L:=e2.trans hL;rcases f.st with⟨vs,f0,hv⟩|⟨T,fl,fT,pT⟩
 ·refine wwn mt hF hL f0 hv λh' T' c hs ju=>h L T' _ hL' ⟨?_,f.fp,fpX I (Heap.get?_none_of_le hs) (I.hok.fresh hs),ju⟩
  rw[<-e1]at c;exact kx9 I c λb hb=>by rw[aC hb];exact f.fp
 ·refine wwm mt hF hL fT λh' T' c hs ju=>?_
  rw[<-e1]at c;refine h L T' _ hL' ⟨kx9 I c λb hb=>?_,f.fp,?_,ju⟩
  ·simp only[Xz,Y8,or_false]at hb;rcases hb with rfl|rfl
   ·exact f.fp
   ·exact pT
  ·rcases hs with hs|hs
   ·exact fpX I (Heap.get?_none_of_le hs) (I.hok.fresh hs)
   ·rw[hs];exact pT
theorem kky{A:Around}{Q:Unit->Shared->Prop}{fr:Option Addr}(t:Xt X pins σ H x T C fl s)(h:∀s',Xt X pins σ H x T C (fr.elim Value.none λf=>rawInt ↑f) s'->Q () s'):wpAny M A (setFlight (.ref x) fr) Q E' s:=by
 refine wq7 (outer:=X.stack) t.f λh' c ju=>h _ ⟨kx9 t.inv c λb hb=>?_,t.fx,t.fT,ju⟩
 simp only[Xz,Y8,or_false]at hb;rcases hb with rfl|rfl
 ·exact t.fx
 ·exact t.fT
theorem wk0{α:Type}{A:Around}{what:String}{ij:Env}{Q:α->Shared->Prop}(t:Xt X pins σ H x T C fl s)(h:∀s' ju,Xt X pins σ H x T C ju s'->E' (.ref x) s'):wpAny M A (PySem.passOn what (.ref x) ij:Sem α) Q E' s:=by
 unfold PySem.passOn;obtain⟨vs,e1,v1⟩:=t.f.ex;refine X0 (Zr e1 rfl v1 ?_);rw[X8 (show ¬(Value.ref T==Value.none)=true by intro z;cases z)];refine X0 (kky t λs' t'=>?_);exact wpAny_throw (h s' _ t')
theorem wwi{E:XK}(top:zQ X):PassesOwn M X.A X.env (Xo X E):=by
 rintro e s' ⟨pins,σ,H,x,C,rfl,I,f,q⟩;unfold notedBy;refine qv2 top rfl I f λL T s1 _ t=>?_
 unfold cameBackBy;obtain⟨vs,e1,v1⟩:=t.f.ex;refine X0 (Zr e1 rfl v1 ?_);rw[X8 (show ¬(Value.ref T==Value.none)=true by intro z;cases z)];exact kky t λs2 t2=>⟨pins,σ,H,x,C,rfl,t2.inv,t2.to,q⟩
end
def CXE(P:Program)(w:World):CXT:=λouter H s E e s'=>∃x T C fl H',e=.ref x/\s'.os=s.os/\AllBare s'.gens/\Un (frs outer) [] H H' s.heap s'.heap/\HOk P w H' s'.heap /\
 s.heap.get? x=none/\s.heap.get? T=none/\H' x=none/\H' T=none/\FlT s'.heap x T C fl/\E C none H'
theorem wwg{X:Cx}{E:XK}(g:xX X E):qxr (CXE X.prog X.w) X E:=by
 rintro pins σ H s e s' I ⟨x,T,C,fl,H',rfl,os,bare,un,hok,hx,hT,nx,nT,f,q⟩;refine g pins σ H' s' x C (I.call' os un hok bare λb hb=>nomatch hb) ⟨fpX I hx nx,.inr ⟨T,fl,f,fpX I hT nT⟩⟩ q
theorem vqe{CX:CXT}{P:Program}{w:World}{K:Frag}{mg:Str->Option Value}{base:Heap}{N:List Str}{qual:Str}{scope:Scope}{f:Addr}{cd:Value}{A:Around}{outer:List Env}{s:Shared}{H:Hp}{E:XK}:
  zQ (zZ CX P w K mg base N qual scope f cd A outer s H E):=⟨_,_,rfl,rfl⟩
theorem qvq{P:Program}{w:World}{K:Frag}{mg:Str->Option Value}{base:Heap}{N:List Str}{qual:Str}{scope:Scope}{f:Addr}{cd:Value}{A:Around}{outer:List Env}{s:Shared}{H:Hp}{E:XK}{e:Value}{s':Shared}
  (h:Xo (zZ (CXE P w) P w K mg base N qual scope f cd A outer s H E) E e s'):(zZ (CXE P w) P w K mg base N qual scope f cd A outer s H E).xe e s':=by
 obtain⟨pins,σ,H',x,C,rfl,I,fx,q⟩:=h;show wpAny (model P w) _ (leaving _ (.ref x)) _ _ s';unfold leaving;refine X0 (qv2 (X:=zZ (CXE P w) P w K mg base N qual scope f cd A outer s H E) vqe rfl I fx λL T s1 _ t=>?_);refine kky t λs2 t2=>?_
 have ge:∀b,FpX (zZ (CXE P w) P w K mg base N qual scope f cd A outer s H E) pins H' b->s.heap.get? b=none:=λb hb=>hb.2.2.2.1.elim (λz=>nomatch z) λz=>z
 exact⟨x,T,C,_,H',rfl,t2.inv.os,t2.inv.bare,t2.inv.base,t2.inv.hok,ge x t2.fx,ge T t2.fT,t2.fx.1,t2.fT.1,t2.f,q⟩
section
variable {P:Program}{w:World}{K:Frag}{mg:Str->Option Value}{base:Heap}
theorem v4{x qual:Str}{st:Stmt}{f:Addr}{fd:FuncData}{N ps:List Str}{k:Nat}{sp:Sp}(F:Fun K x qual st f fd)(S:FnScope N ps (k4 st))(len:∀vs H Q E,sp vs H Q E->vs.length=ps.length)
  (iq:∀(b8:Value) (A:Around) (outer:List Env) (s:Shared) (H:Hp) (vs:List V) (Q:VK) (E:XK),Room k (A.deeper (envOfC qual (k4 st) s.heap.objs.size f b8))->sp vs H Q E ->
   ∃t,PSs (Cx.ex' (zZ (CXE P w) P w K mg base N qual (k4 st) f b8 A outer s H E) E) (K9 st) t/\t { nx:=λ_ H'=>Q .non H',rt:=Q } (L2.start N vs) H):FnOk P w K mg base (CXE P w) (k+1) f fd ps sp:=by
 obtain⟨oc,od,kV,fb,pm,an,b8,ct,jy,rfl,lk,fi⟩:=F.ex;refine wx4 lk fi S len λA outer s H vs Q E hr ie=>?_
 obtain⟨t,h,q⟩:=iq b8 A outer s H vs Q E hr ie;exact⟨t,λpins s' σ H' D I hw=>wpAny_mono (h pins s' σ H' D (I.wish _) hw) (λf ig z=>z.unwish) λe ig z=>qvq z,q⟩
def kX(P:Program)(w:World)(K:Frag)(mg:Str->Option Value)(base:Heap)(k:Nat)(x:Str)(ps:List Str)(sp:Sp):Prop:=
 ∃(f:Addr) (fd:FuncData),FnOk P w K mg base (CXE P w) k f fd ps sp/\Binds K fd ps []/\PySem.W.keepIn K (.ref f)=true/\mg x=some (.ref f)
end
section
variable {X:Cx}{x:Str}{p pos:Pos}{e:Expr}{es:List Expr}{t:TA}{ps:List Str}{sp:Sp}{k:Nat}{v:V}{E:XK}
theorem wjz(D:kX X.prog X.w X.K X.mg X.base k x ps sp)(hr:Room k X.A)(g:xX X E)(ha:PA X (e::es) t)(hg:autoParam (Gl X x) Ŕ)(fj:autoParam ((x==("__debug__":Str))=false) ŕ)
  (he:autoParam (starEach (e::es) X.env=(false,eval e X.env)::starEach es X.env) Ŕ) (bn:autoParam ((backTo pos (starEach es X.env)).any (·.1)=false) Ŕ):
  PE X (.Call (.Name x p) (e::es) [] pos) (vz7 sp [] E t):=by
 obtain⟨f,fd,F,b,kp,m⟩:=D;exact vvc F hr hg m kp b .nil (wwg g) ha fj he bn
end
abbrev lcE(X:Cx)(scope:Scope)(N:List Str)(cl:List (Str×Addr))(C:Addr)(s0:Shared)(H0:Hp)(fp:List Addr)(EX:XK):Cx:=Cx.ex' (lcX X scope N cl C s0 H0 fp) EX
section
variable {prog:Program}{w:World}{A:Around}{R:Result->Shared->Prop}{s:Shared}
theorem vw7{df cy aj:Expr}{cz:List Expr}{scope:Scope}{pos:Pos}{it aa:Value}{env:Env}(Ex:VP9)(I:Nat->Shared->Prop)
  (dz:∀n s,I n s->wpAny (model prog w) A (pyNext it) (λr s1=>match r with
   | none=>R (.ok .next) s1
   | some v=>wpAny (model prog w) A (letOwnedTupleGo cy it v) (λ_ s2=>wpAny (model prog w) A (assign cy env v) (λ_ s3=>
     wpAny (model prog w) A (qvv cz env) (λok s4=>
      if ok=true then
       wpAny (model prog w) A (eval df env) (λx s5=>wpAny (model prog w) A (call (.builtin "list.append") [aa,x]) (λ_ s6=>∃m,m<n/\I m s6) Ex s5) Ex s4
      else ∃m,m<n/\I m s4) Ex s3) Ex s2) Ex s1) Ex s)
  (hx:∀e s,Ex e s->notedBy (model prog w) A env (λe s'=>R (.error e) s') e s) (n:Nat) (h:I n s):codeAny (model prog w) A (.compLoop (.ListComp df [⟨cy,aj,cz,0⟩] scope pos) 0 it aa env) R s:=by
 refine codeAny_loop rfl I (λn s hI=>?_) n h;show wpAny _ A ((compTurn (.ListComp df [⟨cy,aj,cz,0⟩] scope pos) 0 it aa env).onRaise _) _ _ s;refine wpAny_noted ?_;rw[compTurn_list];refine wpAny_mono (E:=Ex) (X0 (wpAny_standAt (X0 (thn (dz n s hI) λr s1 h1=>?_)))) (λ_ _ q=>q) (λe s q=>?_)
 rotate_left
 ·exact hx e s q
 cases r with
 |none=>exact X4 h1
 |some v=>
  refine X0 (thn h1 λ_ s2 h2=>?_);refine X0 (thn h2 λ_ s3 h3=>?_);refine X0 (thn h3 λok s4 h4=>?_);cases ok with|false=>exact X4 ⟨rfl,h4⟩|true=>exact X0 (X0 (thn h4 λx s5 h5=>X0 (thn h5 λ_ s6 h6=>X4 (X4 ⟨rfl,h6⟩))))
end
section
variable {X:Cx}{tg aj df:Expr}{cz:List Expr}{scope:Scope}{N:List Str}{k:Nat}{R:List Nat}{g:TG}{tt:TT}{te:TE}{pos:Pos}
theorem vki{EX:XK}{pins bo:LA9}{σ σ':L2.St}{H2 H':Hp}{s2 s':Shared}{fp:List Addr}{cl:List (Str×Addr)}{C x T:Addr}{Cc fl:Value}{Q:VP9}{aa:Value}{use:Option (Value->Sem Unit)}(gx:xX X EX)
  (I2:Inv X pins σ H2 s2) (f2:∀b∈fp,qK X pins H2 b) (hC:s2.heap.objs.size<=C) (t:Xt (lcX X scope N cl C s2 H2 fp) bo σ' H' x T Cc fl s') (q:EX Cc none H'):
  compPost (model X.prog X.w) X.A X.xe use Q aa C (.error (.ref x)) s':=by
 obtain⟨m,hn,_⟩:=t.inv.loc;refine⟨m,hn,λh' sb ij _=>?_⟩;have J1:Inv X pins σ H' s':=I2.call' t.inv.os t.inv.base t.inv.hok t.inv.bare λb hb=>⟨(f2 b hb).2.2.2.1,(f2 b hb).2.1,(f2 b hb).2.2.2.2.1,(f2 b hb).2.2.2.2.2⟩
 have fC:qK X pins H' C:=I2.fpOk hC t.inv.free;have J2:Inv X pins σ H' { s' with heap:=h',toks:=s'.toks }:=J1.turned (it:=C) (λb o hb e=>(sb.2 b hb).trans e) fC.1 fC.2.1 fC.2.2.2.1 fC.2.2.2.2.1 fC.2.2.2.2.2;have fp':∀b,FpX (lcX X scope N cl C s2 H2 fp) bo H' b->FpX X pins H' b:=λb hb=>by
  rcases hb.2.2.2.1 with z|z
  ·exact⟨hb.1,(FpX.of (f2 b z)).2⟩
  ·exact fpX I2 z hb.1
 have nx:x≠C:=t.fx.2.1;have nT:T≠C:=t.fT.2.1;have f:FlT h' x T Cc fl:=by
  obtain⟨⟨vs,e1,v1⟩,⟨oT,ts,e2,d2,v2⟩,dl⟩:=t.f;exact⟨⟨vs,(sb.2 x nx).trans e1,v1⟩,⟨oT,ts,(sb.2 T nT).trans e2,d2,v2⟩,dl⟩
 refine wk0 (X:=X) (pins:=pins) (σ:=σ) (H:=H') (s:={ s' with heap:=h' }) ⟨J2,fp' x t.fx,fp' T t.fT,f⟩ λs3 ju t3=>gx pins σ H' s3 x Cc t3.inv t3.to q
theorem kv2{EX:XK}{pins:LA9}{σ:L2.St}{H2:Hp}{s2:Shared}{it:Addr}{fp:List Addr}{tn:Nat->Heap->Prop}{J:It}{Q:VK}{W:Nat->Nat->List V->L2.St->Hp->Prop}{cl:List (Str×Addr)}{E:VP9}
  {RR:Value->Addr->Result->Shared->Prop} (hc:X.calm=true) (top:zQ X) (sc:LcOk X scope N k R)
  (c9:∀x c,cl.lookup x=some c->X.env.cells.lookup x=some c) (b6:∀y∈scope.names,y.2=.free->∃c,cl.lookup y.1=some c)
  (hg:∀C s0 H0 fp,PG (lcE X scope N cl C s0 H0 fp EX) tg g) (ht:∀C s0 H0 fp,PTs (lcE X scope N cl C s0 H0 fp EX) cz tt) (he:∀C s0 H0 fp,PE (lcE X scope N cl C s0 H0 fp EX) df te)
  (I2:Inv X pins σ H2 s2) (T:Turn X.prog X.w X.K tg J fp it tn) (b9:tn 0 s2.heap) (f2:∀b∈fp,qK X pins H2 b) (w0:∃m,W 0 m [] (zw k R σ) H2) (dz:LcW g tt te Q J W)
  (hRR:∀D C oC m ys H' s',Inv X (pins++[(C,oC)]) σ (upd H' D (.lst ys)) s'->s'.heap.get? C=some oC->s'.heap.Ns C m->qK X pins (upd H' D (.lst ys)) C->Q (.ref D) (upd H' D (.lst ys))->RR (.ref D) C (.ok .next) s')
  (hER:∀D C s' bo σ' H' x T Cc fl,s2.heap.objs.size<=C->Xt (lcX X scope N cl C s2 H2 fp) bo σ' H' x T Cc fl s'->EX Cc none H'->RR (.ref D) C (.error (.ref x)) s'):
  wpAny (model X.prog X.w) X.A (newList []) (λaa s3=>wpAny (model X.prog X.w) X.A (newFunctionEnv scope X.env.globals cl [] X.env.qual none .none (some X.env)) (λij s4=>
   codeAny (model X.prog X.w) X.A (.compStart (.ListComp df [⟨tg,aj,cz,0⟩] scope pos) 0 (.ref it) aa { ij with scope:=relabel scope X.env }) (RR aa ij.locals) s4) E s3) E s2:=by
 have rg:∀b∈fp,∃o,s2.heap.get? b=some o:=λb hb=>let ⟨o,e,_⟩:=T.obj 0 _ b9 b hb;⟨o,e⟩
 refine Y1 (wpAny_newFunctionEnv sc.nocell (by intro y hy;simp at hy) (λh1 ms qr=>?_) sc.kind);dsimp only at ms qr ⊢;generalize eH:s2.heap.push { cls:=.type "list",dict:=none,data:=.seq ([]:List Value).toArray }=Hx at ms qr ⊢;have eC:Hx.objs.size=s2.heap.objs.size+1:=by rw[<-eH,Heap.size_push]
 generalize eD:s2.heap.objs.size=D at eC;generalize eC':Hx.objs.size=C at ms qr eC ⊢;have ng:D≠C:=⋯
 have hC:s2.heap.objs.size<=C:=⋯
 have hD:s2.heap.objs.size<=D:=⋯
 have ci:∀b o,s2.heap.get? b=some o->h1.get? b=some o:=λb o e=>by
  exact qr.extBut b o (Xl (Xn (Xd e) hC)) (X3 _ (eH▸X3 _ e))
 have accD:h1.get? D=some (V4 [] 0):=by
  refine qr.extBut _ _ ng (X3 _ ?_);rw [<-eH,<-eD];exact Xg _ rfl
 have below:∀b∈fp,b≠D/\b≠C:=λb hb=>by
  obtain⟨o,e⟩:=rg b hb;exact⟨Xl (Xn (Xd e) hD),Xl (Xn (Xd e) hC)⟩
 have fw:∀{H':Hp} {oD:Obj},(∀b∈fp,H' b=none)->∀b∈fp,qK (lcE X scope N cl C s2 H2 fp EX) [(D,oD)] H' b:=fun {H' oD} hn b hb=>by
  obtain⟨_,f1,f3,f4,f5,f6⟩:=f2 b hb;refine⟨hn b hb,(below b hb).2,λz=>?_,.inl hb,λx c h=>f5 x c (c9 x c h),λp hp=>?_⟩
  ·rcases aD (I2.stkSub b z)with y|y
   ·exact f1 y
   ·exact f3 y
  ·have e:p=(D,oD):=by
    have hp:p∈([]++[(D,oD)]:LA9):=hp
    simpa using hp
   rw [e];exact(below b hb).1.symm
 have loop:∀s3:Shared,s3={ s2 with heap:=h1,toks:=s2.toks+([]:List (Str×Value)).length } ->
   codeAny (model X.prog X.w) X.A (.compLoop (.ListComp df [⟨tg,aj,cz,0⟩] scope pos) 0 (.ref it) (.ref D) (compEnvC scope cl C X.env)) (RR (.ref D) C) s3:=by
  rintro s3 rfl;obtain⟨m0,w0⟩:=w0;have hxx:∀e s,Xo (lcX X scope N cl C s2 H2 fp) EX e s->notedBy (model X.prog X.w) X.A (compEnvC scope cl C X.env) (λe s'=>RR (.ref D) C (.error e) s') e s:=by
   rintro e s ⟨bo,σ',H',x,Cc,rfl,I',f',q'⟩;have top':zQ (lcX X scope N cl C s2 H2 fp):=top;exact qv2 (X:=lcX X scope N cl C s2 H2 fp) top' rfl I' f' λL T s1 _ t=>hER D C s1 bo σ' H' x T Cc _ hC t q'
  refine vw7 (Xo (lcX X scope N cl C s2 H2 fp) EX) (λn s'=>∃i ys a8 nn σ' H',Inv (lcE X scope N cl C s2 H2 fp EX) [(D,V4 a8 nn)] σ' H' s'/\Vals ys a8/\tn i s'.heap/\(∀b∈fp,H' b=none)/\W i n ys σ' H') ?_ hxx m0
   ⟨0,[],[],0,_,H2,(vw5 I2 sc f2 rg hC hD ng c9 b6 ci ms accD (λv z=>by cases z)).wish _,.nil,T.keep _ _ _ b9 (λb hb o e=>ci b o e),λb hb=>(f2 b hb).1,w0⟩
  rintro n s3 ⟨i,ys,a8,nn,σ3,H3,I3,rv,c8,mj,w3⟩;rcases dz i n ys σ3 H3 w3 with⟨stop,hz,qn⟩|⟨go,step⟩
  ·refine thn (T.done (lcE X scope N cl C s2 H2 fp EX) rfl rfl rfl hc i _ s3 σ3 H3 _ I3 (fw mj) c8 stop) λr s4 ⟨hr,I4⟩=>?_
   subst hr;show RR (.ref D) C (.ok .next) s4;have hD4:=I4.pin (D,V4 a8 nn) (by show _∈([]++[(D,V4 a8 nn)]:LA9);simp);have J1:Inv X pins σ H3 s4:=I2.call' I4.os I4.base I4.hok I4.bare λb hb=>⟨(f2 b hb).2.2.2.1,(f2 b hb).2.1,(f2 b hb).2.2.2.2.1,(f2 b hb).2.2.2.2.2⟩
   have fD:qK X pins H3 D:=I2.fpOk hD hD4.2.1;have fC:qK X pins H3 C:=I2.fpOk hC I4.free;have J2:Inv X pins σ (upd H3 D (.lst ys)) s4:=kv6 J1 hD4.2.1 fD.2.1 fD.2.2.2.1 fD.2.2.2.2.1 fD.2.2.2.2.2 ⟨hz,a8,nn,rv,hD4.1⟩;obtain⟨mC,nC,_⟩:=I4.loc;obtain⟨oC,es,ep,hoC,hdC,fk⟩:=id nC;have fC':qK X pins (upd H3 D (.lst ys)) C:=⟨by rw[k9 ng.symm];exact fC.1,fC.2⟩;refine hRR D C oC mC ys H3 s4 (J2.pins_of λp hp=>?_) hoC nC fC' (qn D hD4.2.1);rcases aA hp with z|z
   ·exact J2.pin p (lr9 _ z)
   ·rw[aC z];exact⟨hoC,fC'.1,fC'.2.1,fC'.2.2.1,λv y=>by rw[hdC]at y;cases y⟩
  ·refine thn (T.item (lcE X scope N cl C s2 H2 fp EX) rfl rfl rfl hc i _ s3 σ3 H3 _ I3 (fw mj) c8 go) λr s4 ⟨u,hr,h4⟩=>?_
   subst hr;refine thn h4 λ_ s5 ⟨x,H5,I5,r5,y5,ix,fr5⟩=>?_
   have I5':=I5.pinned (fw fr5) (T.obj _ _ ix);have gv:∀{σ':L2.St} {H':Hp} {s':Shared} {pl:LA9},Inv (lcE X scope N cl C s2 H2 fp EX) (pl++Jj fp s5.heap) σ' H' s'->tn (i+1) s'.heap/\∀b∈fp,H' b=none:=fun {σ' H' s' pl} I'=>by
    have q:∀b∈fp,∀o,s5.heap.get? b=some o->s'.heap.get? b=some o/\H' b=none:=λb hb o e=>by
     obtain⟨a1,a2,_⟩:=I'.pin (b,o) (lr9 _ (lr9 _ (jx6 hb e)));exact⟨a1,a2⟩
    refine⟨T.keep _ _ _ ix λb hb o e=>(q b hb o e).1,λb hb=>?_⟩;obtain⟨o,e,_⟩:=T.obj _ _ ix b hb;exact(q b hb o e).2
   refine thn (hg C s2 H2 fp _ s5 σ3 H5 x u _ I5' r5 (step x H5 y5)) λ_ s6 ⟨σ6,H6,I6,Ny,Nn,hNy,hNn,q6⟩=>?_
   refine thn (ht C s2 H2 fp _ s6 σ6 H6 _ I6 q6) λok s7 ⟨H7,I7,q7⟩=>?_
   cases ok with
   | false=>
    obtain⟨m',hm,w7⟩:=hNn _ q7;exact⟨m',hm,i+1,ys,a8,nn,σ6,H7,I7.unpinned,rv,(gv I7).1,(gv I7).2,w7⟩
   | true=>
    refine thn (he C s2 H2 fp _ s7 σ6 H7 _ I7 q7) λu8 s8 ⟨y,H8,I8,r8,q8⟩=>?_
    obtain⟨hz,m',hm,w8⟩:=hNy _ _ q8;have pD:=I8.pin (D,V4 a8 nn) (lr9 _ (ll9 _ (aB rfl)));have ag:=rv.length;refine append_at (hsz:=by rw[X9];lia) pD.1 λh9 sb9 e9=>?_
    have I8a:Inv (lcE X scope N cl C s2 H2 fp EX) ([]++Jj fp s5.heap) σ6 H8 s8:=I8.pins_of λp hp=>I8.pin p (lr9 _ (lr9 _ hp))
    have I9:Inv (lcE X scope N cl C s2 H2 fp EX) ([]++Jj fp s5.heap) σ6 H8 { s8 with heap:=h9,toks:=s8.toks }:=I8a.turned (it:=D) (λb o hb e=>(sb9.2 b hb).trans e) pD.2.1 ng (.inr hD)
     (λx c h z=>by
      obtain⟨v,q⟩:=I2.cell x c (c9 x c h);exact absurd (Xn q.lt (by rw[z];exact hD)) (Z1 _))
     (λp hp z=>by
      have hp:p∈([]++([]++Jj fp s5.heap):LA9):=hp;have hp:p∈Jj fp s5.heap:=by simpa using hp
      exact(below p.1 (kqv hp).1).1 z)
    have e9':h9.get? D=some (V4 (a8++[u8]) (nn+1)):=by rw[e9];simp[List.push_toArray]
    refine⟨m',hm,i+1,ys++[y],a8++[u8],nn+1,σ6,H8,I9.pins_of λp hp=>?_,rv.append (.cons r8 .nil),(gv I9).1,(gv I9).2,w8⟩;rw[aC hp];exact⟨e9',pD.2.1,pD.2.2.1,pD.2.2.2.1,λv z=>by cases z⟩
 exact codeAny_compStart_list (loop _ rfl) (T.self _ 0 _ _ _ (T.keep _ _ _ b9 λb hb o e=>ci b o e) (loop _ rfl))
theorem wjx{EX:XK}{wi:TI}(N:List Str)(k:Nat)(R:List Nat)(hi:PI X tg aj wi)
  (hg:∀cl C s0 H0 fp,PG (lcE X scope N cl C s0 H0 fp EX) tg g) (ht:∀cl C s0 H0 fp,PTs (lcE X scope N cl C s0 H0 fp EX) cz tt) (he:∀cl C s0 H0 fp,PE (lcE X scope N cl C s0 H0 fp EX) df te)
  (gx:xX X EX) (top:zQ X) (hc:autoParam (X.calm=true) Ŕ) (hk:autoParam (scope.kind=.function) Ŕ) (iu:autoParam (Q2 X.N X.env.scope scope N k R=true) Ŕ) (hs:autoParam (∀x,foldedSetIterable aj X.env x=pure x) Ŗ):
  PE X (.ListComp df [⟨tg,aj,cz,0⟩] scope pos) (tLC wi g tt te k R):=by
 intro pins s σ H Q I h;have sc:=kzr hk iu;obtain⟨cl,iw,c9,b6⟩:=kjr (scope:=scope) (env:=X.env) λy hy e=>I.ok.has y.1 (sc.caps y hy e)
 rw[eval_ListComp];refine wpAny_comprehension_free (use:=none) rfl hs iw sc.kind sc.names (thn (hi pins s σ H _ I h) λv s1 h1=>thn h1 λitv s2 h2=>?_);obtain⟨it,fp,tn,J,H2,e,I2,T,b9,f2,W,w0,dz⟩:=h2;subst e;refine kv2 (EX:=EX) (RR:=λaa C=>compPost (model X.prog X.w) X.A X.xe none (EP X pins σ Q) aa C) hc top sc c9 b6 (hg cl) (ht cl) (he cl) I2 T b9 f2 w0 dz ?_ ?_
 rotate_left
 ·intro D C s' bo σ' H' x T Cc fl hC t q;exact vki gx I2 f2 hC t q
 intro D C oC m ys H' s' I' _ nC fC q;exact⟨m,nC,λh' sb=>⟨.ref D,_,I'.unpinned.turned (it:=C) (t':=s'.toks) (λb o hb e=>(sb.2 b hb).trans e) fC.1 fC.2.1 fC.2.2.2.1 fC.2.2.2.2.1 fC.2.2.2.2.2,rfl,q⟩⟩
end
structure ExAt (K:Frag)(x:Addr)(ox:Obj)(C:Addr):Prop where
 cls:ox.cls=.ref C
 no:PySem.W.notCls ox=true
 di:ox.dict=none
 xc:XCls K C
end L3
namespace Q
open PySem
inductive D where
 |non|bl (b:Bool)|int (i:Int)|str (z:Str)|tup (xs:List D)|lst (xs:List D)|dct (a9:List (D×D))|obj (c:Str) (fs:List (Str×D))
instance:DecidableEq D:=λa b=>Classical.propDecidable (a=b)
instance:Inhabited D:=⟨.non⟩
mutual
noncomputable def D.pure:D->Bool
 |.tup xs=>D.pures xs|.lst _=>false|.dct _=>false|.obj _ _=>false|_=>true
noncomputable def D.pures:List D->Bool
 |[]=>true|a::x=>D.pure a&&D.pures x
end
theorem D.pures_all:∀xs:List D,D.pures xs=xs.all D.pure
 |[]=>by simp[D.pures]|a::x=>by rw[D.pures,List.all_cons,D.pures_all x]
@[simp] theorem D.pures_map {α:Type}(f:α->D)(xs:List α)(h:∀x∈xs,(f x).pure=true):D.pures (xs.map f)=true:=by
 rw[D.pures_all,Y7];intro d hd;obtain⟨x,hx,rfl⟩:=aE hd;exact h x hx
mutual
noncomputable def peq:D->D->Bool
 |.non,.non=>true|.bl a,.bl b=>a==b|.bl a,.int b=>(if a then 1 else 0)==b|.int a,.bl b=>a==(if b then 1 else 0)|.int a,.int b=>a==b|.str a,.str b=>a==b|.lst as,.lst bs=>peqs as bs|.tup as,.tup bs=>peqs as bs|_,_=>false
noncomputable def peqs:List D->List D->Bool
 |[],[]=>true|a::as,b::bs=>peq a b&&peqs as bs|_,_=>false
end
mutual
noncomputable def D.flat:Nat->D->Bool
 |0,.tup _=>false|0,.lst _=>false|n+1,.tup xs=>D.flats n xs|n+1,.lst xs=>D.flats n xs|_,.dct _=>false|_,.obj _ _=>false|_,_=>true
noncomputable def D.flats:Nat->List D->Bool
 |_,[]=>true|n,a::x=>D.flat n a&&D.flats n x
end
mutual
noncomputable def jq:Nat->D->Bool
 |_,.non=>true|_,.int _=>true|_,.str _=>true|n+1,.tup xs=>keyDs n xs|_,_=>false
noncomputable def keyDs:Nat->List D->Bool
 |_,[]=>true|n,a::x=>jq n a&&keyDs n x
end
def unm : List (D × D) -> Bool
  |(.str _, _)::_=>false|_=>true
inductive Own where
 |no|rt|dp
 deriving DecidableEq
abbrev Sd:=Own×D
abbrev En:=List (Option Sd)
inductive Res (α:Type) where
 |ok (E:En) (a:α)
 |exc (E:En) (c:Str)
abbrev Ev(α:Type):=En->Option (Res α)
abbrev Ex:=Ev Sd
def bnd{α β:Type}(m:Option (Res α))(f:En->α->Option (Res β)):Option (Res β):=
 match m with
 |some (.ok E a)=>f E a|some (.exc E c)=>some (.exc E c)|none=>none
@[simp] theorem wzn {α β:Type}(E:En)(a:α)(f:En->α->Option (Res β)):bnd (some (.ok E a)) f=f E a:=rfl
@[simp] theorem wxj {α β:Type}(E:En)(c:Str)(f:En->α->Option (Res β)):bnd (some (.exc E c)) f=some (.exc E c):=rfl
@[simp] theorem wve {α β:Type}(f:En->α->Option (Res β)):bnd none f=none:=rfl
def val{α:Type}(E:En)(x:Option α):Option (Res α):=x.map (Res.ok E)
@[simp] theorem wv4 {α:Type}(E:En)(x:α):val E (some x)=some (.ok E x):=rfl
@[simp] theorem wv5 {α:Type}(E:En):val E (none:Option α)=none:=rfl
def cC(d:D):Ex:=λE=>some (.ok E (.dp,d))
def cV(i:Nat):Ex:=λE=>match E[i]? with
 |some (some (_,d))=>some (.ok (E.set i (some (.no,d))) (.no,d))|_=>none
def cMv(i:Nat):Ex:=λE=>match E[i]? with
 |some (some x)=>some (.ok (E.set i none) x)|_=>none
def vV(i:Nat):Ex:=λE=>match E[i]? with
 |some (some x)=>some (.ok E x)|_=>none
def vE(c:Ex):Ex:=λE=>bnd (c E) λE x=>some (.ok E (.no,x.2))
abbrev C9(z:Int):Ex:=vE (cC (.int z))
def cH(v:Ex):Ex:=λE=>bnd (v E) λE x=>if x.1=.no then some (.ok E (.no,x.2))else if x.2.pure then some (.ok E (.dp,x.2))else none
def cF1(f:Sd->Option Sd)(a:Ex):Ex:=λE=>bnd (a E) λE x=>val E (f x)
def cF2(f:Sd->Sd->Option Sd)(a b:Ex):Ex:=λE=>bnd (a E) λE x=>bnd (b E) λE y=>val E (f x y)
def pu1(f:D->Option D):Sd->Option Sd:=λx=>(f x.2).map λd=>(.dp,d)
def pu2(f:D->D->Option D):Sd->Sd->Option Sd:=λx y=>(f x.2 y.2).map λd=>(.dp,d)
def wzk:D->List D
 |.lst xs=>xs|.tup xs=>xs|.dct a9=>a9.map (·.2)|_=>[]
def k7(x:Sd):Bool:=x.1 != .dp||D.pures (wzk x.2)
def sub:Own->Own
 |.dp=>.dp|_=>.no
def ixN(n:Nat)(i:Int):Option Nat:=if 0<=i then(if i<n then some i.toNat else none)else if -(n:Int)<=i then some (i+n).toNat else none
def ixD:D->D->Option D
 |.lst xs,.int i=>(ixN xs.length i).bind λj=>xs[j]?|.tup xs,.int i=>(ixN xs.length i).bind λj=>xs[j]?|.str z,.int i=>(ixN z.cps.size i).bind λj=>(z.cps.toList[j]?).map λc=>.str ⟨#[c]⟩|.dct a9,k=>(a9.find? λe=>decide (e.1=k)).map (·.2)|_,_=>none
def big:Nat:=16777216
def i2(f:Int->Int->Option Int):D->D->Option D
 |.int a,.int b=>(f a b).map .int|_,_=>none
def c2(f:Int->Int->Bool):D->D->Option D
 |.int a,.int b=>some (.bl (f a b))|_,_=>none
def qq1(a:Int):Bool:=decide (-(2 ^ 64)<a)&&decide (a<2 ^ 64)
def jQ:Sd->Sd->Option Sd:=λx y=>match x.2,y.2 with
 |.int a,.int b=>some (.dp,.int (a+b))|.str a,.str b=>if a.cps.size+b.cps.size<=big then some (.dp,.str (a++b))else none|.lst a,.lst b=>if a.length+b.length<=big/\k7 x/\k7 y then some (.rt,.lst (a++b))else none|.tup a,.tup b=>if a.length+b.length<=big/\k7 x/\k7 y then some (.no,.tup (a++b))else none|_,_=>none
def K7(a b:Int):Bool:=qq1 a||qq1 b||(decide (a.natAbs.log2<2000000)&&decide (b.natAbs.log2<2000000))
def W2:Sd->Sd->Option Sd:=λx y=>match x.2,y.2 with
 |.int a,.int b=>if K7 a b then some (.dp,.int (a*b))else none|.lst a,.int k=>if -(2 ^ 63)<=k/\k<2 ^ 63/\a.length*k.toNat<=big/\k7 x then some (.rt,.lst (List.replicate k.toNat a).flatten)else none|.str z,.int n=>if(z.cps.size<=1024/\n<=1024/\-1024<=n)/\(Txt.mul z n).cps.size<=big then some (.dp,.str (Txt.mul z n))else none|_,_=>none
def Q8:D->D->Option D:=i2 λa b=>some (a - b)
def wK:D->D->Option D:=i2 λa b=>if 0<b/\b.natAbs.log2<9000 then some (a / b)else none
def k8:D->D->Option D:=i2 λa b=>if 0<b then some (a % b)else none
def KJ:D->D->Option D:=i2 λa b=>if 0<=b/\b<=1000000/\a.natAbs<2 ^ 64 then some (a ^ b.toNat)else none
def wx8:D->D->Option D:=i2 λa b=>if 0<=b/\b<=1000000/\a.natAbs<2 ^ 64 then some (a*2 ^ b.toNat)else none
def fEq:D->D->Option D:=λa b=>if a.flat 40&&b.flat 40 then some (.bl (peq a b))else none
def fNe:D->D->Option D:=λa b=>if a.flat 40&&b.flat 40 then some (.bl (!peq a b))else none
def isNon:D->Bool
 |.non=>true|_=>false
def fLt:D->D->Option D:=c2 λa b=>decide (a<b)
def fLe:D->D->Option D:=c2 λa b=>decide (a<=b)
def wx9(a b:Str):Bool:=!(Builtin.Str.occurrences b a 0 b.length 1).isEmpty
def fIn:D->D->Option D:=λx y=>match y with
 |.lst ys=>if x.flat 30&&D.flats 30 ys then some (.bl (ys.any λz=>peq z x))else none|.tup ys=>if x.flat 30&&D.flats 30 ys then some (.bl (ys.any λz=>peq z x))else none
 |.str b=>(match x with
  |.str a=>some (.bl (wx9 a b))
  |_=>none)
 |.dct a9=>some (.bl (a9.any λe=>decide (e.1=x)))|_=>none
def QK:D->D->Option D:=λx y=>(fIn x y).bind λd=>match d with
 |.bl k=>some (.bl (!k))|_=>none
def v8:D->Option D
 |.lst xs=>some (.int xs.length)|.tup xs=>some (.int xs.length)|.str z=>some (.int z.length)|_=>none
def kind:D->String
 |.non=>"NoneType"|.bl _=>"bool"|.int _=>"int"|.str _=>"str"|.tup _=>"tuple"|.lst _=>"list"|.dct _=>"dict"|.obj _ _=>""
def isaK(t u:String):Bool:=t==u||(t == "bool" && u == "int")
def wqa(u:String):D->Option D:=λd=>match d with
 |.obj _ _=>none|.dct _=>none|_=>some (.bl (isaK (kind d) u))
def fIsNon:D->Option D:=λd=>some (.bl (isNon d))
def fNotNon:D->Option D:=λd=>some (.bl (!isNon d))
abbrev Ts:=Ev Bool
def truth:D->Option Bool
 |.bl b=>some b|.non=>some false|.int i=>some (i != 0)|.str z=>some (z.cps.size != 0)|.lst xs=>some (!xs.isEmpty)|.tup xs=>some (!xs.isEmpty)|.dct xs=>some (!xs.isEmpty)|.obj _ _=>none
def tE(c:Ex):Ts:=λE=>bnd (c E) λE x=>val E (truth x.2)
def tAnd(a b:Ts):Ts:=λE=>bnd (a E) λE x=>if x then b E else some (.ok E false)
def tOr(a b:Ts):Ts:=λE=>bnd (a E) λE x=>if x then some (.ok E true)else b E
def tNot(a:Ts):Ts:=λE=>bnd (a E) λE x=>some (.ok E (!x))
def tYes:Ts:=λE=>some (.ok E true)
def cIf(t:Ts)(a b:Ex):Ex:=λE=>bnd (t E) λE x=>if x then a E else b E
def xV:D->D->Option D:=λx y=>match y with
 |.dct _=>none|_=>fIn x y
def xK:D->D->Option D:=λx y=>match y with
 |.dct _=>none|_=>QK x y
def f2First(f:D->Option D):Sd->Sd->Option Sd:=λx y=>if isNon y.2 then(f x.2).map λd=>(.dp,d)else none
def kq:D->D->Option D:=λx y=>match x with
 |.dct _=>none|_=>ixD x y
def jZ(a b:Ex):Ex:=λE=>bnd (a E) λE x=>bnd (b E) λE y=>val E ((kq x.2 y.2).map λd=>(sub x.1,d))
def truthQ:D->Option Bool:=λd=>match d with
 |.dct _=>none|_=>truth d
def tEQ(c:Ex):Ts:=λE=>bnd (c E) λE x=>val E (truthQ x.2)
def qw:List Ex->Ev (List Sd)
 |[],E=>some (.ok E [])|c::cs,E=>bnd (c E) λE x=>bnd (qw cs E) λE xs=>some (.ok E (x::xs))
def vY(x:Sd):Bool:=x.1 == .dp||x.2.pure
def qz(o:Own)(cs:List Ex):Ex:=λE=>bnd (qw cs E) λE xs=>if o=.dp then(if xs.all vY then some (.ok E (.dp,.lst (xs.map (·.2))))else none)else some (.ok E (.rt,.lst (xs.map (·.2))))
def kW(o:Own)(cs:List Ex):Ex:=λE=>bnd (qw cs E) λE xs=>if o=.dp then(if xs.all vY then some (.ok E (.dp,.tup (xs.map (·.2))))else none)else some (.ok E (.no,.tup (xs.map (·.2))))
inductive Fl where
 |nx (E:En)|rt (E:En) (x:Sd)|ct (E:En)|bk (E:En)|xc (E:En) (c:Str)
abbrev Sm:=En->Option Fl
def ofE{α:Type}(m:Option (Res α))(f:En->α->Option Fl):Option Fl:=
 match m with
 |some (.ok E a)=>f E a|some (.exc E c)=>some (.xc E c)|none=>none
@[simp] theorem wzc {α:Type}(E:En)(a:α)(f:En->α->Option Fl):ofE (some (.ok E a)) f=f E a:=rfl
@[simp] theorem wwl {α:Type}(E:En)(c:Str)(f:En->α->Option Fl):ofE (some (.exc E c)) f=some (.xc E c):=rfl
@[simp] theorem wva {α:Type}(f:En->α->Option Fl):ofE none f=none:=rfl
def j6(a b:Sm):Sm:=λE=>match a E with
 |some (.nx E)=>b E|r=>r
def vj:Sm:=λE=>some (.nx E)
def jv(i:Nat)(c:Ex):Sm:=λE=>ofE (c E) λE x=>some (.nx (E.set i (some x)))
def k6(c:Ex):Sm:=λE=>ofE (c E) λE x=>some (.rt E x)
def sIf(t:Ts)(a b:Sm):Sm:=λE=>ofE (t E) λE x=>if x then a E else b E
inductive Tg where
 |n (i:Nat)|t (ts:List Nat)
def setAll:List Nat->List D->En->Option En
 |[],[],E=>some E|i::is,d::ds,E=>setAll is ds (E.set i (some (.no,d)))|_,_,_=>none
def Tg.put:Tg->D->En->Option En
 |.n i,d,E=>some (E.set i (some (.no,d)))|.t is,.tup ds,E=>setAll is ds E|.t is,.lst ds,E=>setAll is ds E|.t _,_,_=>none
def J5(tg:Tg)(b:Sm):List D->En->Option Fl
 | [],E=>some (.nx E)
 | d::ds,E=>match tg.put d E with
  |none=>none
  |some E=>match b E with
   |some (.nx E)=>J5 tg b ds E|some (.ct E)=>J5 tg b ds E|some (.bk E)=>some (.nx E)|r=>r
def v6(it:Ev (List D))(tg:Tg)(b:Sm):Sm:=λE=>ofE (it E) λE ds=>J5 tg b ds E
def at'{α:Type}(L:List (Option α))(j:Nat):Option α:=(L[j]?).join
def clr{α:Type}:List Nat->List (Option α)->List (Option α)
 |[],L=>L|j::R,L=>clr R (L.set j none)
def back{α:Type}:List Nat->List (Option α)->List (Option α)->List (Option α)
 |j::R,q::B,L=>back R B (L.set j q)|_,_,L=>L
def JJ(k:Nat)(R:List Nat)(E:En):En:=List.replicate k none++R.map (at' E)
def wY(k:Nat)(R:List Nat)(B E:En):En:=back R (B.drop k) (clr R E)
def lcL(tg:Tg)(t:Ts)(c:Ex):List D->En->List Sd->Option (Res (List Sd))
 |[],B,aa=>some (.ok B aa)
 |d::ds,B,aa=>match tg.put d B with
  |none=>none|some B=>bnd (t B) λB x=>if x then bnd (c B) λB y=>lcL tg t c ds B (aa++[y])else lcL tg t c ds B aa
def mkL(o:Own)(E:En)(xs:List Sd):Option (Res Sd):=
 if o=.dp then(if xs.all vY then some (.ok E (.dp,.lst (xs.map (·.2))))else none)else some (.ok E (.rt,.lst (xs.map (·.2))))
def cLC(o:Own)(k:Nat)(R:List Nat)(it:Ev (List D))(tg:Tg)(t:Ts)(c:Ex):Ex:=λE=>bnd (it E) λE ds=>
 match lcL tg t c ds (JJ k R E) []with
 |some (.ok B xs)=>mkL o (wY k R B E) xs|some (.exc B e)=>some (.exc (wY k R B E) e)|none=>none
def J7:Option (Option Sd)->Bool
 |some (some (_,.lst _))=>true|_=>false
def v3(f:List D->D->Option (List D))(i:Nat)(c:Ex):Sm:=λE=>if J7 E[i]? then ofE (c E) λE x=>match E[i]? with
 |some (some (o,.lst xs))=>if o=.no then none else(match f xs x.2 with
  |some ys=>some (.nx (E.set i (some (if o=.dp/\vY x then .dp else .rt,.lst ys))))
  |none=>none)
 |_=>none
 else none
def vQ:List D->D->Option (List D):=λxs d=>if xs.length<big then some (xs++[d])else none
def KY:Sd->Option Sd:=λx=>match x.2 with
 |.lst xs=>if k7 x then some (.rt,.lst xs)else none|.tup xs=>if k7 x then some (.rt,.lst xs)else none|_=>none
def QZ:Sd->Option Sd:=λx=>match x.2 with
 |.lst xs=>if k7 x then some (.no,.tup xs)else none|.tup xs=>if k7 x then some (.no,.tup xs)else none|_=>none
def bls:List D->Option (List Bool)
 |[]=>some []|.bl b::ds=>(bls ds).map (b :: ·)|_=>none
def wqb:D->Option D
 |.lst ds=>(bls ds).map λbs=>.bl (bs.all id)|_=>none
def seqOf:D->Option (List D)
 |.lst xs=>some xs|.tup xs=>some xs|.str z=>if z.cps.size<=big then some (z.cps.toList.map λc=>.str ⟨#[c]⟩)else none|_=>none
def itS(c:Ex):Ev (List D):=λE=>bnd (c E) λE x=>val E (seqOf x.2)
def vK(i:Int):Bool:=decide (-(2 ^ 62)<=i)&&decide (i<2 ^ 62)
def jV(lo hi:Int):List D:=(List.range (hi - lo).toNat).map λ(k:Nat)=>.int (lo+(k:Int))
def x5(c:Ex):Ev (List D):=λE=>bnd (c E) λE x=>match x.2 with
 |.int j=>if vK j/\j.toNat<=big then some (.ok E (jV 0 j))else none|_=>none
def XW(c:Ex):Ex:=λE=>bnd (c E) λE x=>match x.2 with
 |.int j=>if vK j/\j.toNat<=big then some (.ok E (.rt,.lst (jV 0 j)))else none|_=>none
abbrev Fn:=List Sd->Option (Res Sd)
def fn(n:Nat)(b:Sm):Fn:=λxs=>match b (xs.map some++List.replicate (n - xs.length) none)with
 |some (.rt E x)=>some (.ok E x)|some (.nx E)=>some (.ok E (.dp,.non))|some (.xc E c)=>some (.exc E c)|_=>none
def letAll(xs:List Sd):List Sd:=xs.map λx=>(.no,x.2)
def jW(f:Fn)(cs:List Ex):Ex:=λE=>bnd (qw cs E) λE xs=>match f (letAll xs)with
 |some (.ok _ y)=>some (.ok E y)|some (.exc _ c)=>some (.exc E c)|none=>none
end Q
namespace Q
open PySem PySem.Spec PyProof.Rows L2 L3
mutual
noncomputable def KQ(w:PySem.World):D->Int
 |.int i=>hashInt i|.str z=>hashStr w z|.tup xs=>reduceHash (Builtin.Tuple.tupleHashOf (hashDs w xs))|_=>4238894112
noncomputable def hashDs(w:PySem.World):List D->List Int
 |[]=>[]|a::x=>KQ w a::hashDs w x
end
def Kd:Type:={ d:D // jq 6 d=true }
instance:DecidableEq Kd:=λa b=>Classical.propDecidable (a=b)
abbrev Ent:=Kd×Addr×Value
def Qk(a:Addr)(es:List Ent)(ep:Nat):HO:=.ext λw h=>∃o ds,h.get? a=some o/\o.ExactDict/\o.data=.dict ds ep/\ds.toList=es.map λx=>(⟨KQ w x.1.1,.ref x.2.1,x.2.2⟩:DictEntry)
mutual
noncomputable def PuR(K:Frag)(H:Hp):D->V->Prop
 |.non,v=>v=.non|.int i,v=>v=.int i|.str z,v=>v=.str z/\z.length<=sizeLine|.tup ds,v=>∃a xs,v=.ref a/\SqT K H a xs/\PuRs K H ds xs|_,_=>False
noncomputable def PuRs(K:Frag)(H:Hp):List D->List V->Prop
 |[],xs=>xs=[]|d::ds,xs=>∃x r,xs=x::r/\PuR K H d x/\PuRs K H ds r
end
def DcN(K:Frag)(H:Hp)(a:Addr)(ks:List D)(vs:List V):Prop:=∃(es:List Ent) (ep:Nat),H a=some (Qk a es ep)/\(a==sysModules)=false/\es.length<=sizeLine/\(es.map (·.1)).Nodup/\ks=es.map (·.1.1)/\(∀x∈es,PuR K H x.1.1 (.ref x.2.1))/\Vals vs (es.map (·.2.2))
def DcI(H:Hp)(a:Addr)(ks:List D)(vs:List V):Prop:=∃(kv:List (Int×V)) (m:Str),H a=some (.dK (kv.map λp=>(Sum.inl p.1,p.2)))/\ks=.str m::kv.map (λp=>D.int p.1)/\vs=.non::kv.map (·.2)
def DcA(K:Frag)(H:Hp)(a:Addr)(ks:List D)(vs:List V):Prop:=DcN K H a ks vs\/DcI H a ks vs
theorem DcA.un{K:Frag}{H:Hp}{a:Addr}{a9:List (D×D)}{vs:List V}(h:DcA K H a (a9.map (·.1)) vs)(hu:unm a9=true):DcN K H a (a9.map (·.1)) vs:=by
 rcases h with h|⟨kv,m,_,h,_⟩
 ·exact h
 ·cases a9 with
  |nil=>cases h
  |cons p r=>
   obtain⟨k,d⟩:=p;rw[List.map_cons]at h;injection h with h1 _;have h1:k=.str m:=h1;subst h1;cases hu
def wzp(K:Frag)(a:Addr)(xs:List V):Prop:=∃(a8:Array Value) (n:Nat),K.lookup a=some { cls:=.type "list",data:=.seq a8 n }/\a8.size<=sizeLine/\Vals xs a8.toList
def wvf(K:Frag)(H:Hp)(a:Addr)(xs:List V):Prop:=(∃o,H a=some (.frz o (.lst xs)))\/wzp K a xs
def LsR(K:Frag)(H:Hp)(a:Addr)(xs:List V):Prop:=Rd H a (.lst xs)\/wzp K a xs
theorem LsR.of{K:Frag}{H:Hp}{a:Addr}{xs:List V}(h:wvf K H a xs):LsR K H a xs:=h.imp .inr id
theorem LsR.sq{K:Frag}{H:Hp}{a:Addr}{xs:List V}(h:LsR K H a xs):SqL K H a xs:=by
 rcases h with h|⟨a8,n,h1,h2,h3⟩
 ·exact .inl h
 ·exact .inr ⟨_,a8,n,h1,rfl,rfl,rfl,h2,h3⟩
theorem LsR.is{X:Cx}{pins:LA9}{σ:L2.St}{H:Hp}{s:Shared}{a:Addr}{xs:List V}(I:L2.Inv X pins σ H s)(h:LsR X.K H a xs):xs.length<=sizeLine/\∃(a8:List Value) (n:Nat),Vals xs a8/\s.heap.get? a=some { cls:=.type "list",data:=.seq a8.toArray n }:=by
 rcases h with h|⟨a8,n,h1,h2,h3⟩
 ·obtain⟨z,a8,n,r,e⟩:=h.ok I.hok;exact⟨z,a8,n,r,e⟩
 ·have hl:=h3.length;simp only[X7]at hl;exact⟨⋯,a8.toList,n,h3,by simpa using I.kIn a _ h1⟩
def ExD(K:Frag)(H:Hp)(c:Str)(v:V):Prop:=∃x o C,v=.ref x/\H x=some (.frz o (.ext λ_ _=>True))/\ExAt K x o C/\nsIn K mainGlobals c=some (some (.ref C))
mutual
noncomputable def RepL(K:Frag)(H:Hp)(g:Bool):D->V->List Addr->Prop
 |.non,v,as=>v=.non/\as=[]|.bl b,v,as=>v=.bl b/\as=[]|.int i,v,as=>v=.int i/\as=[]|.str z,v,as=>v=.str z/\as=[]/\z.length<=sizeLine|.tup ds,v,as=>∃a xs,v=.ref a/\SqT K H a xs/\RepA K H g ds xs as|.lst ds,v,as=>∃a xs bs,v=.ref a/\RepA K H g ds xs bs/\((H a=some (.lst xs)/\as=a::bs)\/(g=true/\wvf K H a xs/\as=bs))|.dct a9,v,as=>∃a xs bs,v=.ref a/\RepP K H g a9 xs bs/\DcA K H a (a9.map (·.1)) xs/\as=a::bs|.obj c _,v,as=>as=[]/\ExD K H c v
noncomputable def RepA(K:Frag)(H:Hp)(g:Bool):List D->List V->List Addr->Prop
 |[],xs,as=>xs=[]/\as=[]|d::ds,xs,as=>∃x r bs cs,xs=x::r/\as=bs++cs/\RepL K H g d x bs/\RepA K H g ds r cs
noncomputable def RepP(K:Frag)(H:Hp)(g:Bool):List (D×D)->List V->List Addr->Prop
 |[],xs,as=>xs=[]/\as=[]|(_,d)::ds,xs,as=>∃x r bs cs,xs=x::r/\as=bs++cs/\RepL K H g d x bs/\RepP K H g ds r cs
end
def RepR(K:Frag)(H:Hp):D->V->List Addr->Prop
 |.lst ds,v,as=>∃a xs bs,v=.ref a/\RepA K H true ds xs bs/\H a=some (.lst xs)/\as=a::bs|.dct a9,v,as=>∃a xs bs,v=.ref a/\RepP K H true a9 xs bs/\DcA K H a (a9.map (·.1)) xs/\as=a::bs|_,_,_=>False
def RepO(K:Frag)(H:Hp):Own->D->V->List Addr->Prop
 |.no=>RepL K H true|.rt=>RepR K H|.dp=>RepL K H false
section
variable {K:Frag}{H H':Hp}
def Kp(H H':Hp)(as:List Addr):Prop:=(∀a xs,H a=some (.tup xs)->H' a=some (.tup xs))/\(∀a o u,H a=some (.frz o u)->H' a=some (.frz o u))/\∀a∈as,∀ob,H a=some ob->H' a=some ob
theorem Kp.left{as bs:List Addr}(k:Kp H H' (as++bs)):Kp H H' as:=⟨k.1,k.2.1,λa ha=>k.2.2 a (ll9 _ ha)⟩
theorem Kp.right{as bs:List Addr}(k:Kp H H' (as++bs)):Kp H H' bs:=⟨k.1,k.2.1,λa ha=>k.2.2 a (lr9 _ ha)⟩
theorem Kp.tail{a:Addr}{bs:List Addr}(k:Kp H H' (a::bs)):Kp H H' bs:=⟨k.1,k.2.1,λb hb=>k.2.2 b (lc9 _ hb)⟩
theorem Kp.tupT{as:List Addr}{a:Addr}{xs:List V}(k:Kp H H' as)(h:SqT K H a xs):SqT K H' a xs:=by
 rcases h with(h|⟨o,h⟩)|h
 ·exact .inl (.inl (k.1 a xs h))
 ·exact .inl (.inr ⟨o,k.2.1 a o _ h⟩)
 ·exact .inr h
theorem Kp.frzL{as:List Addr}{a:Addr}{xs:List V}(k:Kp H H' as)(h:wvf K H a xs):wvf K H' a xs:=by
 rcases h with⟨o,h⟩|h
 ·exact .inl ⟨o,k.2.1 a o _ h⟩
 ·exact .inr h
mutual
theorem PuR.kp{as:List Addr}(k:Kp H H' as):∀{d:D} {v:V},PuR K H d v->PuR K H' d v
 |.non,_,h=>by unfold PuR at h ⊢;exact h|.int _,_,h=>by unfold PuR at h ⊢;exact h
 |.tup ds,_,h=>by
  unfold PuR at h ⊢;obtain⟨a,xs,e,s,r⟩:=h;exact⟨a,xs,e,k.tupT s,PuRs.kp k r⟩
 |.bl _,_,h=>by unfold PuR at h;exact h.elim|.str _,_,h=>by unfold PuR at h ⊢;exact h|.lst _,_,h=>by unfold PuR at h;exact h.elim|.dct _,_,h=>by unfold PuR at h;exact h.elim|.obj _ _,_,h=>by unfold PuR at h;exact h.elim
theorem PuRs.kp{as:List Addr}(k:Kp H H' as):∀{ds:List D} {xs:List V},PuRs K H ds xs->PuRs K H' ds xs
 |[],_,h=>by unfold PuRs at h ⊢;exact h
 |d::ds,_,h=>by
  unfold PuRs at h ⊢;obtain⟨x,r,e,h1,h2⟩:=h;exact⟨x,r,e,PuR.kp k h1,PuRs.kp k h2⟩
end
theorem Kp.dcn{a:Addr}{bs:List Addr}{ks:List D}{vs:List V}(k:Kp H H' (a::bs))(h:DcN K H a ks vs):DcN K H' a ks vs:=by
 obtain⟨es,ep,e,h1,h2,h3,h4,h5,h6⟩:=h;exact⟨es,ep,k.2.2 a X5 _ e,h1,h2,h3,h4,λx hx=>PuR.kp k (h5 x hx),h6⟩
theorem Kp.dca{a:Addr}{bs:List Addr}{ks:List D}{vs:List V}(k:Kp H H' (a::bs))(h:DcA K H a ks vs):DcA K H' a ks vs:=by
 rcases h with h|⟨kv,m,e,h⟩
 ·exact .inl (k.dcn h)
 ·exact .inr ⟨kv,m,k.2.2 a X5 _ e,h⟩
theorem Kp.of_same{as:List Addr}(s:jK H H'):Kp H H' as:=⟨λa xs h=>s a _ h,λa o u h=>s a _ h,λa _ ob h=>s a ob h⟩
mutual
theorem RepL.kp{g:Bool}:∀{d:D} {v:V} {as:List Addr},RepL K H g d v as->Kp H H' as->RepL K H' g d v as
 | .non,_,_,h,_=>by unfold RepL at h ⊢;exact h| .bl _,_,_,h,_=>by unfold RepL at h ⊢;exact h| .int _,_,_,h,_=>by unfold RepL at h ⊢;exact h| .str _,_,_,h,_=>by unfold RepL at h ⊢;exact h
 | .tup ds,_,_,h,k=>by
  unfold RepL at h ⊢;obtain⟨a,xs,e,s,r⟩:=h;exact⟨a,xs,e,k.tupT s,RepA.kp r k⟩
 | .lst ds,_,_,h,k=>by
  unfold RepL at h ⊢;obtain⟨a,xs,bs,e,r,q⟩:=h;refine⟨a,xs,bs,e,?_,?_⟩
  ·rcases q with⟨_,rfl⟩|⟨_,_,rfl⟩
   ·exact RepA.kp r k.tail
   ·exact RepA.kp r k
  ·rcases q with⟨h1,rfl⟩|⟨hg,h1,rfl⟩
   ·exact .inl ⟨k.2.2 a X5 _ h1,rfl⟩
   ·exact .inr ⟨hg,k.frzL h1,rfl⟩
 |.dct a9,_,_,h,k=>by
  unfold RepL at h ⊢;obtain⟨a,xs,bs,e,r,q,rfl⟩:=h;exact⟨a,xs,bs,e,RepP.kp r k.tail,k.dca q,rfl⟩
 |.obj _ _,_,_,h,k=>by
  unfold RepL at h ⊢;obtain⟨e,x,o,C,h1,h2,h3⟩:=h;exact⟨e,x,o,C,h1,k.2.1 _ _ _ h2,h3⟩
theorem RepA.kp{g:Bool}:∀{ds:List D} {xs:List V} {as:List Addr},RepA K H g ds xs as->Kp H H' as->RepA K H' g ds xs as
 |[],_,_,h,_=>by unfold RepA at h ⊢;exact h
 |d::ds,_,_,h,k=>by
  unfold RepA at h ⊢;obtain⟨x,r,bs,cs,e1,rfl,h1,h2⟩:=h;exact⟨x,r,bs,cs,e1,rfl,RepL.kp h1 k.left,RepA.kp h2 k.right⟩
theorem RepP.kp{g : Bool}: ∀{ds : List (D × D)} {xs : List V} {as : List Addr}, RepP K H g ds xs as -> Kp H H' as -> RepP K H' g ds xs as
  | [], _, _, h, _=>by unfold RepP at h ⊢; exact h
  | (q, d)::ds, _, _, h, k=>by
    unfold RepP at h ⊢;obtain⟨x, r, bs, cs, e1, rfl, h1, h2⟩:= h;exact⟨x, r, bs, cs, e1, rfl, RepL.kp h1 k.left, RepP.kp h2 k.right⟩
end
mutual
theorem RepL.wk:∀{d:D} {v:V} {as:List Addr},RepL K H false d v as->RepL K H true d v as
 |.non,_,_,h=>by unfold RepL at h ⊢;exact h|.bl _,_,_,h=>by unfold RepL at h ⊢;exact h|.int _,_,_,h=>by unfold RepL at h ⊢;exact h|.str _,_,_,h=>by unfold RepL at h ⊢;exact h
 |.tup ds,_,_,h=>by
  unfold RepL at h ⊢;obtain⟨a,xs,e,s,r⟩:=h;exact⟨a,xs,e,s,RepA.wk r⟩
 |.lst ds,_,_,h=>by
  unfold RepL at h ⊢;obtain⟨a,xs,bs,e,r,q⟩:=h;refine⟨a,xs,bs,e,RepA.wk r,?_⟩;rcases q with q|⟨z,_⟩
  ·exact .inl q
  ·cases z
 |.dct a9,_,_,h=>by
  unfold RepL at h ⊢;obtain⟨a,xs,bs,e,r,q,z⟩:=h;exact⟨a,xs,bs,e,RepP.wk r,q,z⟩
 |.obj _ _,_,_,h=>by unfold RepL at h ⊢;exact h
theorem RepA.wk:∀{ds:List D} {xs:List V} {as:List Addr},RepA K H false ds xs as->RepA K H true ds xs as
 |[],_,_,h=>by unfold RepA at h ⊢;exact h
 |d::ds,_,_,h=>by
  unfold RepA at h ⊢;obtain⟨x,r,bs,cs,e1,e2,h1,h2⟩:=h;exact⟨x,r,bs,cs,e1,e2,RepL.wk h1,RepA.wk h2⟩
theorem RepP.wk : ∀{ds : List (D × D)} {xs : List V} {as : List Addr}, RepP K H false ds xs as -> RepP K H true ds xs as
  | [], _, _, h=>by unfold RepP at h ⊢; exact h
  | (q, d)::ds, _, _, h=>by
    unfold RepP at h ⊢;obtain⟨x, r, bs, cs, e1, e2, h1, h2⟩:= h;exact⟨x, r, bs, cs, e1, e2, RepL.wk h1, RepP.wk h2⟩
end
mutual
theorem RepL.al{g:Bool}:∀{d:D} {v:V} {as:List Addr},RepL K H g d v as->∀a∈as,(∃xs,H a=some (.lst xs))\/(∃ φ,H a=some (.ext φ))\/∃a9,H a=some (.dK a9)
 | .non,_,_,h=>by unfold RepL at h;rw[h.2];exact λ_ z=>nomatch z| .bl _,_,_,h=>by unfold RepL at h;rw[h.2];exact λ_ z=>nomatch z| .int _,_,_,h=>by unfold RepL at h;rw[h.2];exact λ_ z=>nomatch z| .str _,_,_,h=>by unfold RepL at h;rw[h.2.1];exact λ_ z=>nomatch z
 | .tup ds,_,_,h=>by
  unfold RepL at h;obtain⟨a,xs,e,s,r⟩:=h;exact RepA.al r
 | .lst ds,_,_,h=>by
  unfold RepL at h;obtain⟨a,xs,bs,e,r,q⟩:=h;rcases q with⟨h1,rfl⟩|⟨_,_,rfl⟩
  ·intro b hb;rcases aD hb with rfl|hb
   ·exact .inl ⟨_,h1⟩
   ·exact RepA.al r b hb
  ·exact RepA.al r
 | .dct a9,_,_,h=>by
  unfold RepL at h;obtain⟨a,xs,bs,e,r,q,rfl⟩:=h;intro b hb;rcases aD hb with rfl|hb
  ·rcases q with⟨es,ep,q,_⟩|⟨kv,m,q,_⟩
   ·exact .inr (.inl ⟨_,q⟩)
   ·exact .inr (.inr ⟨_,q⟩)
  ·exact RepP.al r b hb
 |.obj _ _,_,_,h=>by unfold RepL at h;rw[h.1];exact λ_ z=>nomatch z
theorem RepA.al{g:Bool}:∀{ds:List D} {xs:List V} {as:List Addr},RepA K H g ds xs as->∀a∈as,(∃xs,H a=some (.lst xs))\/(∃ φ,H a=some (.ext φ))\/∃a9,H a=some (.dK a9)
 |[],_,_,h=>by unfold RepA at h;rw[h.2];exact λ_ z=>nomatch z
 |d::ds,_,_,h=>by
  unfold RepA at h;obtain⟨x,r,bs,cs,e1,rfl,h1,h2⟩:=h;intro a ha;rcases aA ha with ha|ha
  ·exact RepL.al h1 a ha
  ·exact RepA.al h2 a ha
theorem RepP.al{g : Bool}: ∀{ds : List (D × D)} {xs : List V} {as : List Addr}, RepP K H g ds xs as -> ∀a ∈ as, (∃xs, H a = some (.lst xs)) \/ (∃ φ, H a = some (.ext φ)) \/ ∃a9, H a = some (.dK a9)
  | [], _, _, h=>by unfold RepP at h; rw[h.2]; exact λ_ z=>nomatch z
  | (_, d)::ds, _, _, h=>by
    unfold RepP at h;obtain⟨x, r, bs, cs, e1, rfl, h1, h2⟩:= h;intro a ha;rcases aA ha with ha|ha
    · exact RepL.al h1 a ha
    · exact RepP.al h2 a ha
end
mutual
theorem RepL.pu{g g':Bool}:∀{d:D} {v:V} {as:List Addr},RepL K H g d v as->d.pure=true->as=[]/\RepL K H g' d v []
 |.non,_,_,h,_=>by unfold RepL at h ⊢;exact⟨h.2,h.1,rfl⟩|.bl _,_,_,h,_=>by unfold RepL at h ⊢;exact⟨h.2,h.1,rfl⟩|.int _,_,_,h,_=>by unfold RepL at h ⊢;exact⟨h.2,h.1,rfl⟩|.str _,_,_,h,_=>by unfold RepL at h ⊢;exact⟨h.2.1,h.1,rfl,h.2.2⟩
 |.tup ds,_,_,h,p=>by
  unfold RepL at h ⊢;obtain⟨a,xs,e,s,r⟩:=h;obtain⟨z,r'⟩:=RepA.pu (g':=g') r (by unfold D.pure at p;exact p);exact⟨z,a,xs,e,s,r'⟩
 |.lst ds,_,_,h,p=>by unfold D.pure at p;cases p|.dct ds,_,_,h,p=>by unfold D.pure at p;cases p|.obj _ _,_,_,h,p=>by unfold D.pure at p;cases p
theorem RepA.pu{g g':Bool}:∀{ds:List D} {xs:List V} {as:List Addr},RepA K H g ds xs as->D.pures ds=true->as=[]/\RepA K H g' ds xs []
 |[],_,_,h,_=>by unfold RepA at h ⊢;exact⟨h.2,h.1,rfl⟩
 |d::ds,_,_,h,p=>by
  unfold RepA at h ⊢;unfold D.pures at p;rw[Bool.and_eq_true]at p;obtain⟨x,r,bs,cs,e1,rfl,h1,h2⟩:=h;obtain⟨rfl,q1⟩:=RepL.pu (g':=g') h1 p.1;obtain⟨rfl,q2⟩:=RepA.pu (g':=g') h2 p.2;exact⟨rfl,x,r,[],[],e1,rfl,q1,q2⟩
end
theorem RepR.wk:∀{d:D} {v:V} {as:List Addr},RepR K H d v as->RepL K H true d v as
 |.lst ds,_,_,h=>by
  obtain⟨a,xs,bs,e,r,q,z⟩:=h;unfold RepL;exact⟨a,xs,bs,e,r,.inl ⟨q,z⟩⟩
 |.dct a9,_,_,h=>by
  obtain⟨a,xs,bs,e,r,q,z⟩:=h;unfold RepL;exact⟨a,xs,bs,e,r,q,z⟩
theorem RepR.kp:∀{d:D} {v:V} {as:List Addr},RepR K H d v as->Kp H H' as->RepR K H' d v as
 |.lst ds,_,_,h,k=>by
  obtain⟨a,xs,bs,e,r,q,rfl⟩:=h;exact⟨a,xs,bs,e,r.kp k.tail,k.2.2 a X5 _ q,rfl⟩
 |.dct a9,_,_,h,k=>by
  obtain⟨a,xs,bs,e,r,q,rfl⟩:=h;exact⟨a,xs,bs,e,r.kp k.tail,k.dca q,rfl⟩
theorem RepO.wk:∀{o:Own} {d:D} {v:V} {as:List Addr},RepO K H o d v as->RepL K H true d v as
 |.no,_,_,_,h=>h|.rt,_,_,_,h=>RepR.wk h|.dp,_,_,_,h=>RepL.wk h
theorem RepO.kp:∀{o:Own} {d:D} {v:V} {as:List Addr},RepO K H o d v as->Kp H H' as->RepO K H' o d v as
 |.no,_,_,_,h,k=>RepL.kp h k|.rt,_,_,_,h,k=>RepR.kp h k|.dp,_,_,_,h,k=>RepL.kp h k
end
structure Sl where
 o:Own
 d:D
 v:V
 as:List Addr
def Sl.own(x:Sl):List Addr:=match x.o with
 |.no=>[]|.rt=>x.as.take 1|.dp=>x.as
def Sl.frz(x:Sl):List Addr:=match x.o with
 |.no=>x.as|.rt=>x.as.drop 1|.dp=>[]
theorem Sl.parts(x:Sl):x.own++x.frz=x.as:=by
 unfold Sl.own Sl.frz;cases x.o with|no=>rfl|rt=>exact Z9 1 x.as|dp=>exact Xq _
theorem Sl.own_as{x:Sl}{a:Addr}(h:a∈x.own):a∈x.as:=by rw[<-x.parts];exact ll9 _ h
theorem Sl.frz_as{x:Sl}{a:Addr}(h:a∈x.frz):a∈x.as:=by rw[<-x.parts];exact lr9 _ h
theorem Sl.as_of{x:Sl}{a:Addr}(h:a∈x.as):a∈x.own\/a∈x.frz:=by rw[<-x.parts]at h;exact aA h
def Sl.let(x:Sl):Sl:={ x with o:=.no }
abbrev Ls:=List (Option Sl)
def j4(L:Ls):List Addr:=L.flatMap λx=>x.elim [] Sl.own
def jx(L:Ls):List Addr:=L.flatMap λx=>x.elim [] Sl.frz
@[simp] theorem wk1:j4 []=[]:=rfl
@[simp] theorem vxm:jx []=[]:=rfl
@[simp] theorem jY (x:Sl)(L:Ls):j4 (some x::L)=x.own++j4 L:=by simp[j4]
@[simp] theorem qJ (x:Sl)(L:Ls):jx (some x::L)=x.frz++jx L:=by simp[jx]
@[simp] theorem qjr (L:Ls):j4 (none::L)=j4 L:=by simp[j4]
@[simp] theorem kxb (L:Ls):jx (none::L)=jx L:=by simp[jx]
@[simp] theorem jw (L T:Ls):j4 (L++T)=j4 L++j4 T:=by simp[j4]
@[simp] theorem k3 (L T:Ls):jx (L++T)=jx L++jx T:=by simp[jx]
theorem mem_owned{L:Ls}{a:Addr}:a∈j4 L↔∃x,some x∈L/\a∈x.own:=by
 unfold j4;rw[List.mem_flatMap];constructor
 ·rintro ⟨y,hy,h⟩;cases y with|none=>exact nomatch h|some x=>exact⟨x,hy,h⟩
 ·rintro ⟨x,hx,h⟩;exact⟨some x,hx,h⟩
theorem mem_frozen{L:Ls}{a:Addr}:a∈jx L↔∃x,some x∈L/\a∈x.frz:=by
 unfold jx;rw[List.mem_flatMap];constructor
 ·rintro ⟨y,hy,h⟩;cases y with|none=>exact nomatch h|some x=>exact⟨x,hy,h⟩
 ·rintro ⟨x,hx,h⟩;exact⟨some x,hx,h⟩
def Sl.ok(K:Frag)(H:Hp)(x:Sl):Prop:=RepO K H x.o x.d x.v x.as
theorem Sl.ok.al{K:Frag}{H:Hp}{x:Sl}(h:x.ok K H):∀a∈x.as,(∃xs,H a=some (.lst xs))\/(∃ φ,H a=some (.ext φ))\/∃a9,H a=some (.dK a9):=(RepO.wk h).al
theorem Sl.ok.some{K:Frag}{H:Hp}{x:Sl}(h:x.ok K H){a:Addr}(ha:a∈x.as):H a≠none:=λz=>by
 rcases h.al a ha with⟨xs,e⟩|⟨xs,e⟩|⟨xs,e⟩<;>(rw[z]at e;cases e)
structure World (K:Frag)(H:Hp)(L:Ls):Prop where
 ok:∀x,some x∈L->x.ok K H
 nd:(j4 L).Nodup
 ds:∀a∈j4 L,a∉jx L
structure Step (H:Hp)(L:Ls)(H':Hp)(L':Ls):Prop where
 keep:∀a ob,H a=some ob->a∉j4 L->H' a=some ob
 own:∀a∈j4 L',a∈j4 L\/H a=none
 frz:∀a∈jx L',a∈jx L\/a∈j4 L\/H a=none
section
variable {K:Frag}{H H1 H2 H':Hp}{L L1 L2' L' T:Ls}{x y:Sl}
theorem World.own_al(w:World K H L){a:Addr}(h:a∈j4 L):(∃xs,H a=some (.lst xs))\/(∃ φ,H a=some (.ext φ))\/∃a9,H a=some (.dK a9):=by
 obtain⟨x,hx,ha⟩:=mem_owned.mp h;exact(w.ok x hx).al a (Sl.own_as ha)
theorem World.own_some(w:World K H L){a:Addr}(h:a∈j4 L):H a≠none:=by
 obtain⟨x,hx,ha⟩:=mem_owned.mp h;exact(w.ok x hx).some (Sl.own_as ha)
theorem World.frz_some(w:World K H L){a:Addr}(h:a∈jx L):H a≠none:=by
 obtain⟨x,hx,ha⟩:=mem_frozen.mp h;exact(w.ok x hx).some (Sl.frz_as ha)
theorem Step.refl:Step H L H L:=⟨λ_ _ h _=>h,λ_ h=>.inl h,λ_ h=>.inl h⟩
theorem Step.trans(a:Step H L H1 L1)(b:Step H1 L1 H2 L2'):Step H L H2 L2' where
 keep:=λc ob h hn=>b.keep c ob (a.keep c ob h hn) λz=>(a.own c z).elim hn λe=>by rw[h]at e;cases e
 own:=λc hc=>by
  rcases b.own c hc with z|z
  ·exact a.own c z
  ·by_cases h:c∈j4 L
   ·exact .inl h
   ·refine .inr ?_;cases e:H c with|none=>rfl|some ob=>rw[a.keep c ob e h]at z;cases z
 frz:=λc hc=>by
  rcases b.frz c hc with z|z|z
  ·exact a.frz c z
  ·exact .inr (a.own c z)
  ·by_cases h:c∈j4 L
   ·exact .inr (.inl h)
   ·refine .inr (.inr ?_);cases e:H c with|none=>rfl|some ob=>rw[a.keep c ob e h]at z;cases z
theorem Step.kp(a:Step H L H' L')(w:World K H L){as:List Addr}(h:∀b∈as,b∉j4 L):Kp H H' as:=by
 have no:∀b ob,H b=some ob->(∀xs,ob≠.lst xs)->(∀ φ,ob≠.ext φ)->(∀a9,ob≠.dK a9)->H' b=some ob:=λb ob e h1 h2 h3=>a.keep b ob e λz=>by
  rcases w.own_al z with⟨xs,q⟩|⟨es,q⟩|⟨es,q⟩
  ·rw[e]at q;cases q;exact h1 _ rfl
  ·rw[e]at q;cases q;exact h2 _ rfl
  ·rw[e]at q;cases q;exact h3 _ rfl
 exact⟨λb xs e=>no b _ e (λ_ z=>(nomatch z)) (λ_ z=>(nomatch z)) (λ_ z=>(nomatch z)),λb o u e=>no b _ e (λ_ z=>(nomatch z)) (λ_ z=>(nomatch z)) (λ_ z=>(nomatch z)),λb hb ob e=>a.keep b ob e (h b hb)⟩
theorem Step.frame(a:Step H L H' L')(w:World K H (L++T))(w':World K H' L')(wL:World K H L):World K H' (L'++T):=by
 have nd:=w.nd;rw [jw,Xm]at nd;have dis:∀b∈j4 L,b∉j4 T:=λb hb hT=>nd.2.2 b hb b hT rfl
 have okT:∀x,some x∈T->x.ok K H:=λx hx=>w.ok x (lr9 _ hx)
 have nT:∀x,some x∈T->∀b∈x.as,b∉j4 L:=λx hx b hb hL=>by
  rcases Sl.as_of hb with z|z
  ·exact dis b hL (mem_owned.mpr ⟨x,hx,z⟩)
  ·refine w.ds b (by rw[jw];exact ll9 _ hL) ?_;rw[k3];exact lr9 _ (mem_frozen.mpr ⟨x,hx,z⟩)
 refine⟨λx hx=>?_,?_,λb hb=>?_⟩
 ·rcases aA hx with hx|hx
  ·exact w'.ok x hx
  ·exact(okT x hx).kp (a.kp wL (nT x hx))
 ·rw[jw,Xm];refine⟨w'.nd,nd.2.1,λb hb c hc e=>?_⟩;subst e;obtain⟨x,hx,dg⟩:=mem_owned.mp hc;rcases a.own b hb with z|z
  ·exact dis b z hc
  ·exact(okT x hx).some (Sl.own_as dg) z
 ·rw[jw]at hb;rw[k3];intro hf;rcases aA hb with hb|hb
  ·rcases aA hf with hf|hf
   ·exact w'.ds b hb hf
   ·obtain⟨x,hx,dg⟩:=mem_frozen.mp hf;rcases a.own b hb with z|z
    ·exact nT x hx b (Sl.frz_as dg) z
    ·exact(okT x hx).some (Sl.frz_as dg) z
  ·rcases aA hf with hf|hf
   ·obtain⟨x,hx,dg⟩:=mem_owned.mp hb;rcases a.frz b hf with z|z|z
    ·exact w.ds b (by rw[jw];exact lr9 _ hb) (by rw[k3];exact ll9 _ z)
    ·exact dis b z hb
    ·exact(okT x hx).some (Sl.own_as dg) z
   ·exact w.ds b (by rw[jw];exact lr9 _ hb) (by rw[k3];exact lr9 _ hf)
theorem World.left(w:World K H (L++T)):World K H L:=by
 have nd:=w.nd;rw[jw,Xm]at nd;exact⟨λx hx=>w.ok x (ll9 _ hx),nd.1,λa ha hf=>w.ds a (by rw[jw];exact ll9 _ ha) (by rw[k3];exact ll9 _ hf)⟩
theorem World.right(w:World K H (L++T)):World K H T:=by
 have nd:=w.nd;rw[jw,Xm]at nd;exact⟨λx hx=>w.ok x (lr9 _ hx),nd.2.1,λa ha hf=>w.ds a (by rw[jw];exact lr9 _ ha) (by rw[k3];exact lr9 _ hf)⟩
theorem World.comm(w:World K H (L++T)):World K H (T++L):=by
 refine⟨λx hx=>w.ok x ?_,?_,λa ha hf=>w.ds a ?_ ?_⟩
 ·rcases aA hx with h|h
  ·exact lr9 _ h
  ·exact ll9 _ h
 ·have nd:=w.nd;rw[jw,Xm]at nd ⊢;exact⟨nd.2.1,nd.1,λa ha b hb e=>nd.2.2 b hb a ha e.symm⟩
 ·rw[jw]at ha ⊢;rcases aA ha with h|h
  ·exact lr9 _ h
  ·exact ll9 _ h
 ·rw[k3]at hf ⊢;rcases aA hf with h|h
  ·exact lr9 _ h
  ·exact ll9 _ h
theorem World.tail{q:Option Sl}(w:World K H (q::L)):World K H L:=World.right (L:=[q]) w
theorem World.head(w:World K H (some x::L)):x.ok K H:=w.ok x X5
theorem World.apart(w:World K H (some x::L)):∀a∈x.as,a∉j4 L:=λa ha hL=>by
 rcases Sl.as_of ha with z|z
 ·have nd:=w.nd;rw[jY,Xm]at nd;exact nd.2.2 a z a hL rfl
 ·exact w.ds a (by rw[jY];exact lr9 _ hL) (by rw[qJ];exact ll9 _ z)
theorem World.cons(w:World K H L)(h:x.ok K H)(n:x.own.Nodup)(h1:∀a∈x.own,a∉j4 L)(h2:∀a∈x.own,a∉jx L)(h3:∀a∈x.frz,a∉j4 L)(h4:∀a∈x.own,a∉x.frz):World K H (some x::L):=by
 refine⟨λy hy=>?_,?_,λa ha hf=>?_⟩
 ·rcases aD hy with z|z
  ·cases z;exact h
  ·exact w.ok y z
 ·rw[jY,Xm];exact⟨n,w.nd,λa ha b hb e=>by subst e;exact h1 a ha hb⟩
 ·rw[jY]at ha;rw[qJ]at hf;rcases aA ha with ha|ha
  ·rcases aA hf with hf|hf
   ·exact h4 a ha hf
   ·exact h2 a ha hf
  ·rcases aA hf with hf|hf
   ·exact h3 a hf ha
   ·exact w.ds a ha hf
theorem World.consNo(w:World K H L)(h:x.ok K H)(ho:x.o=.no)(h3:∀a∈x.as,a∉j4 L):World K H (some x::L):=by
 have e1:x.own=[]:=by unfold Sl.own;rw[ho]
 have e2:x.frz=x.as:=by unfold Sl.frz;rw[ho]
 exact w.cons h (by rw[e1];exact Yf) (by rw[e1];exact λ_ z=>nomatch z) (by rw[e1];exact λ_ z=>nomatch z) (by rw[e2];exact h3) (by rw[e1];exact λ_ z=>nomatch z)
theorem World.consPu(w:World K H L)(h:x.ok K H)(e:x.as=[]):World K H (some x::L):=by
 have e1:∀a,a∉x.own:=λa ha=>by have:=Sl.own_as ha;rw[e]at this;exact nomatch this
 have e2:∀a,a∉x.frz:=λa ha=>by have:=Sl.frz_as ha;rw[e]at this;exact nomatch this
 have e3:x.own=[]:=List.eq_nil_iff_forall_not_mem.mpr e1;exact w.cons h (by rw[e3];exact Yf) (λa z=>absurd z (e1 a)) (λa z=>absurd z (e1 a)) (λa z=>absurd z (e2 a)) (λa z=>absurd z (e1 a))
theorem jqe{L:Ls}{i:Nat}{q:Option Sl}(h:some y∈L.set i q):q=some y\/some y∈L:=by
 rcases List.mem_or_eq_of_mem_set h with z|z
 ·exact .inr z
 ·exact .inl z.symm
theorem VW{i:Nat}{a:Addr}(h:a∈j4 (L.set i (some x))):a∈x.own\/a∈j4 L:=by
 obtain⟨y,hy,ha⟩:=mem_owned.mp h;rcases jqe hy with z|z
 ·cases z;exact .inl ha
 ·exact .inr (mem_owned.mpr ⟨y,z,ha⟩)
theorem ZY{i:Nat}{a:Addr}(h:a∈jx (L.set i (some x))):a∈x.frz\/a∈jx L:=by
 obtain⟨y,hy,ha⟩:=mem_frozen.mp h;rcases jqe hy with z|z
 ·cases z;exact .inl ha
 ·exact .inr (mem_frozen.mpr ⟨y,z,ha⟩)
theorem jq3:∀{L:Ls} {i:Nat},(x.own++j4 L).Nodup->(j4 (L.set i (some x))).Nodup
 |[],_,h=>by simp
 |q::L,0,h=>by
  rw[List.set_cons_zero,jY];have e:j4 (q::L)=q.elim [] Sl.own++j4 L:=by simp[j4]
  rw[e,Xm]at h;obtain⟨h1,h2,h3⟩:=h;rw[Xm]at h2 ⊢;exact⟨h1,h2.2.1,λa ha b hb=>h3 a ha b (lr9 _ hb)⟩
 |q::L,i+1,h=>by
  rw[List.set_cons_succ];have e:∀M:Ls,j4 (q::M)=q.elim [] Sl.own++j4 M:=λM=>by simp[j4]
  rw[e]at h ⊢;rw[Xm]at h;obtain⟨h1,h2,h3⟩:=h;rw[Xm]at h2;rw[Xm];refine⟨h2.1,jq3 (by rw[Xm];exact⟨h1,h2.2.1,λa ha b hb=>h3 a ha b (lr9 _ hb)⟩),λa ha b hb e=>?_⟩;subst e;rcases VW hb with z|z
  ·exact h3 a z a (ll9 _ ha) rfl
  ·exact h2.2.2 a ha a z rfl
theorem World.set{i:Nat}(w:World K H (some x::L)):World K H (L.set i (some x)):=by
 refine⟨λy hy=>?_,jq3 (by have:=w.nd;rwa [jY]at this),λa ha hf=>?_⟩
 ·rcases jqe hy with z|z
  ·cases z;exact w.head
  ·exact w.ok y (lc9 _ z)
 ·refine w.ds a ?_ ?_
  ·rw[jY];exact List.mem_append.mpr (VW ha)
  ·rw[qJ];exact List.mem_append.mpr (ZY hf)
theorem Step.set{i:Nat}:Step H (some x::L) H (L.set i (some x)) where
 keep:=λ_ _ h _=>h
 own:=λa ha=>.inl (by rw[jY];exact List.mem_append.mpr (VW ha))
 frz:=λa ha=>.inl (by rw[qJ];exact List.mem_append.mpr (ZY ha))
theorem Step.drop{q:Option Sl}:Step H (q::L) H L where
 keep:=λ_ _ h _=>h
 own:=λa ha=>.inl (by rw[show(q::L:Ls)=[q]++L from rfl,jw];exact lr9 _ ha)
 frz:=λa ha=>.inl (by rw[show(q::L:Ls)=[q]++L from rfl,k3];exact lr9 _ ha)
theorem ww{i:Nat}(h:L[i]?=some (some x)):some x∈L:=Xv h
theorem Qx(x:Sl):x.let.own=[]/\x.let.frz=x.as/\x.let.as=x.as:=⟨rfl,rfl,rfl⟩
theorem kqp{i:Nat}{a:Addr}(h:a∈j4 (L.set i (some x.let))):a∈j4 L:=by
 rcases VW h with z|z
 ·exact nomatch z
 ·exact z
theorem kx6:∀{L:Ls} {i:Nat},(j4 L).Nodup->(∀a∈j4 L,a∉jx L)->L[i]?=some (some x)->∀a∈x.as,a∉j4 (L.set i (some x.let))
 | [],_,_,_,h,_,_=>by simp at h
 | q::L,0,nd,ds,h,a,ha=>by
  have e:q=some x:=by simpa using h
  subst e;rw[List.set_cons_zero,jY];intro hm;have hm:a∈j4 L:=by simpa [Qx]using hm
  rcases Sl.as_of ha with z|z
  ·rw[jY,Xm]at nd;exact nd.2.2 a z a hm rfl
  ·exact ds a (by rw[jY];exact lr9 _ hm) (by rw[qJ];exact ll9 _ z)
 | q::L,i+1,nd,ds,h,a,ha=>by
  have h:L[i]?=some (some x):=by simpa using h
  rw[List.set_cons_succ];have e:∀M:Ls,j4 (q::M)=q.elim [] Sl.own++j4 M:=λM=>by simp[j4]
  have f:jx (q::L)=q.elim [] Sl.frz++jx L:=by simp[jx]
  rw[e];intro hm;rw[e,Xm]at nd;rcases aA hm with hm|hm
  ·rcases Sl.as_of ha with z|z
   ·exact nd.2.2 a hm a (mem_owned.mpr ⟨x,ww h,z⟩) rfl
   ·exact ds a (by rw[e];exact ll9 _ hm) (by rw[f];exact lr9 _ (mem_frozen.mpr ⟨x,ww h,z⟩))
  ·exact kx6 (L:=L) nd.2.1 (λb hb hf=>ds b (by rw[e];exact lr9 _ hb) (by rw[f];exact lr9 _ hf)) h a ha hm
theorem W7(h:x.ok K H):x.let.ok K H:=RepO.wk h
theorem World.let{i:Nat}(w:World K H L)(h:L[i]?=some (some x)):World K H (L.set i (some x.let)):=by
 have out:=kx6 w.nd w.ds h;refine⟨λy hy=>?_,jq3 (by rw[(Qx x).1];exact w.nd),λa ha hf=>?_⟩
 ·rcases jqe hy with z|z
  ·cases z;exact W7 (w.ok x (ww h))
  ·exact w.ok y z
 ·rcases ZY hf with z|z
  ·exact out a z ha
  ·exact w.ds a (kqp ha) z
theorem World.read{i:Nat}(w:World K H L)(h:L[i]?=some (some x)):World K H (some x.let::L.set i (some x.let)):=
 (w.let h).consNo (W7 (w.ok x (ww h))) rfl (kx6 (x:=x) w.nd w.ds h)
theorem Step.read{i:Nat}(h:L[i]?=some (some x)):Step H L H (some x.let::L.set i (some x.let)) where
 keep:=λ_ _ h _=>h
 own:=λa ha=>.inl (by rw[jY,(Qx x).1]at ha;exact kqp ha)
 frz:=λa ha=>by
  have hx:=ww h;have q:∀a∈x.as,a∈jx L\/a∈j4 L\/H a=none:=λa ha=>by
   rcases Sl.as_of ha with z|z
   ·exact .inr (.inl (mem_owned.mpr ⟨x,hx,z⟩))
   ·exact .inl (mem_frozen.mpr ⟨x,hx,z⟩)
  rw[qJ]at ha;rcases aA ha with z|z
  ·exact q a z
  ·rcases ZY z with z|z
   ·exact q a z
   ·exact .inl z
end
inductive Mt:En->L2.St->Ls->Prop
 |nil:Mt [] [] []
 |un {E:En} {σ:L2.St} {L:Ls} {y:Option V}:Mt E σ L->Mt (none::E) (y :: σ) (none::L)
 |cons {E:En} {σ:L2.St} {L:Ls} {x:Sl}:Mt E σ L->Mt (some (x.o,x.d)::E) (some x.v :: σ) (some x::L)
theorem Mt.get:∀{E:En} {σ:L2.St} {L:Ls} {i:Nat} {o:Own} {d:D},Mt E σ L->E[i]?=some (some (o,d))->∃x,L[i]?=some (some x)/\x.o=o/\x.d=d/\σ[i]?=some (some x.v)
 |_,_,_,_,_,_,.nil,h=>by simp at h|_,_,_,0,_,_,.un _,h=>by simp at h|_,_,_,i+1,_,_,.un m,h=>by simpa using m.get (i:=i) (by simpa using h)
 |_,_,_,0,_,_,.cons (x:=x) m,h=>by
  simp only[List.getElem?_cons_zero,Option.some.injEq,Prod.mk.injEq]at h;exact⟨x,by simp,h.1,h.2,by simp⟩
 |_,_,_,i+1,_,_,.cons m,h=>by simpa using m.get (i:=i) (by simpa using h)
theorem Mt.set{x:Sl}:∀{E:En} {σ:L2.St} {L:Ls} (i:Nat),Mt E σ L->Mt (E.set i (some (x.o,x.d))) (σ.set i (some x.v)) (L.set i (some x))
 |_,_,_,_,.nil=>.nil|_,_,_,0,.un m=>.cons m|_,_,_,i+1,.un m=>.un (m.set i)|_,_,_,0,.cons m=>.cons m|_,_,_,i+1,.cons m=>.cons (m.set i)
theorem Mt.let{x:Sl}:∀{E:En} {σ:L2.St} {L:Ls} {i:Nat},Mt E σ L->L[i]?=some (some x)->Mt (E.set i (some (.no,x.d))) σ (L.set i (some x.let))
 |_,_,_,_,.nil,h=>by simp at h|_,_,_,0,.un m,h=>by simp at h|_,_,_,i+1,.un m,h=>.un (m.let (i:=i) (by simpa using h))
 |_,_,_,0,.cons (x:=y) m,h=>by
  have e:y=x:=by simpa using h
  subst e;exact .cons (x:=y.let) m
 |_,_,_,i+1,.cons m,h=>.cons (m.let (i:=i) (by simpa using h))
theorem Mt.len:∀{E:En} {σ:L2.St} {L:Ls},Mt E σ L->E.length=σ.length/\L.length=σ.length
 |_,_,_,.nil=>⟨rfl,rfl⟩|_,_,_,.un m=>by simp[m.len]|_,_,_,.cons m=>by simp[m.len]
def sls(L:Ls):List Sl:=L.filterMap id
theorem JW(L:Ls):j4 L=(sls L).flatMap Sl.own:=by
 induction L with
 |nil=>rfl
 |cons q L ih=>
  cases q with|none=>rw[qjr,ih];rfl|some x=>rw[jY,ih];rfl
theorem Q5(L:Ls):jx L=(sls L).flatMap Sl.frz:=by
 induction L with
 |nil=>rfl
 |cons q L ih=>
  cases q with|none=>rw[kxb,ih];rfl|some x=>rw[qJ,ih];rfl
theorem mem_sls{L:Ls}{x:Sl}:x∈sls L↔some x∈L:=by simp[sls]
@[simp] theorem KW (L T:Ls):sls (L++T)=sls L++sls T:=by simp[sls]
@[simp] theorem qz5 (L:Ls):sls (none::L)=sls L:=rfl
@[simp] theorem kxy (x:Sl)(L:Ls):sls (some x::L)=x::sls L:=rfl
@[simp] theorem wvq:sls []=[]:=rfl
@[simp] theorem wvr (T:List Sl):sls (T.map some)=T:=by simp[sls]
@[simp] theorem vqh (k:Nat):sls (List.replicate k none)=[]:=by
 induction k with|zero=>rfl|succ k ih=>rw[List.replicate_succ,qz5,ih]
theorem Wv{α β:Type}(f:α->List β){l l':List α}(h:l.Sublist l'):(l.flatMap f).Sublist (l'.flatMap f):=by
 induction h with|slnil=>exact List.Sublist.refl _|cons a _ ih=>rw[Yy];exact List.Sublist.trans ih (List.sublist_append_right _ _)|cons_cons a _ ih=>rw[Yy,Yy];exact List.Sublist.append (List.Sublist.refl _) ih
section
variable {K:Frag}{H H':Hp}{L L' M M':Ls}
theorem World.same(w:World K H L)(p:(sls L).Perm (sls L')):World K H L':=by
 have po:(j4 L).Perm (j4 L'):=by rw[JW,JW];exact p.flatMap_right _
 have pf:(jx L).Perm (jx L'):=by rw[Q5,Q5];exact p.flatMap_right _
 exact⟨λx hx=>w.ok x (mem_sls.mp (p.mem_iff.mpr (mem_sls.mpr hx))),po.nodup_iff.mp w.nd,λa ha hf=>w.ds a (po.mem_iff.mpr ha) (pf.mem_iff.mpr hf)⟩
theorem Step.same(s:Step H L H' L')(p:(sls L).Perm (sls M))(p':(sls L').Perm (sls M')):Step H M H' M':=by
 have po:(j4 L).Perm (j4 M):=by rw[JW,JW];exact p.flatMap_right _
 have pf:(jx L).Perm (jx M):=by rw[Q5,Q5];exact p.flatMap_right _
 have po':(j4 L').Perm (j4 M'):=by rw[JW,JW];exact p'.flatMap_right _
 have pf':(jx L').Perm (jx M'):=by rw[Q5,Q5];exact p'.flatMap_right _
 exact⟨λa ob h hn=>s.keep a ob h λz=>hn (po.mem_iff.mp z),λa ha=>(s.own a (po'.mem_iff.mpr ha)).imp (λz=>po.mem_iff.mp z) id,
  λa ha=>(s.frz a (pf'.mem_iff.mpr ha)).imp (λz=>pf.mem_iff.mp z) λz=>z.imp (λz=>po.mem_iff.mp z) id⟩
theorem World.sub(w:World K H L)(p:(sls L').Sublist (sls L)):World K H L':=by
 refine⟨λx hx=>w.ok x (mem_sls.mp (p.subset (mem_sls.mpr hx))),?_,λa ha hf=>w.ds a ?_ ?_⟩
 ·have:=w.nd;rw[JW]at this ⊢;exact(Wv _ p).nodup this
 ·rw[JW]at ha ⊢;exact(Wv _ p).subset ha
 ·rw[Q5]at hf ⊢;exact(Wv _ p).subset hf
theorem Step.sub(s:Step H L H' L')(p:(sls M).Sublist (sls L')):Step H L H' M:=by
 refine⟨s.keep,λa ha=>s.own a ?_,λa ha=>s.frz a ?_⟩
 ·rw[JW]at ha ⊢;exact(Wv _ p).subset ha
 ·rw[Q5]at ha ⊢;exact(Wv _ p).subset ha
end
theorem jwb:∀{L:Ls} {j:Nat},(sls (at' L j::L.set j none)).Perm (sls L)
 | [],j=>by simp[at',sls]
 | q::L,0=>by
  cases q with|none=>simp[at',sls]|some x=>simp[at',sls]
 | q::L,j+1=>by
  have ih:=jwb (L:=L) (j:=j);have e:at' (q::L) (j+1)=at' L j:=by simp[at']
  rw[e,List.set_cons_succ];have e2:∀(a b:Option Sl) (M:Ls),(sls (a::b::M)).Perm (sls (b::a::M)):=λa b M=>by
   cases a<;>cases b<;>simp[sls]
   exact List.Perm.swap ..
  refine(e2 _ _ _).trans ?_;cases q with|none=>simpa [sls]using ih|some y=>simpa [sls]using ih
theorem qj8:∀{R:List Nat} {L:Ls},R.Nodup->(sls (R.map (at' L)++clr R L)).Perm (sls L)
 | [],L,_=>by simp[clr]
 | j::R,L,h=>by
  rw[List.nodup_cons]at h;have e:R.map (at' L)=R.map (at' (L.set j none)):=by
   apply Yj;intro i hi;have:j≠i:=λe=>h.1 (e▸hi)
   unfold at';rw[Zc this]
  rw[List.map_cons,List.cons_append,clr,e];have ih:=qj8 (R:=R) (L:=L.set j none) h.2;refine List.Perm.trans ?_ (jwb (L:=L) (j:=j));cases hq:at' L j with|none=>simpa [sls]using ih|some x=>simpa [sls]using ih
theorem qx2{α:Type}:∀{R:List Nat} {L:List (Option α)},(clr R L).length=L.length
 |[],_=>rfl|j::R,L=>by rw[clr,qx2,List.length_set]
theorem qx3{α:Type}:∀{R:List Nat} {L:List (Option α)} {j:Nat},j∈R->at' (clr R L) j=none
 | [],_,_,h=>by cases h
 | i :: R,L,j,h=>by
  rw [clr]
  by_cases hR:j∈R
  ·exact qx3 hR
  ·have e:j=i:=by simpa [hR]using h
   subst e;have gen:∀{R:List Nat} {M:List (Option α)},j∉R->at' (clr R M) j=at' M j:=by
    intro R
    induction R with
    |nil=>intro M _;rfl
    |cons r R ih=>
     intro M h;rw[Xz,not_or]at h;rw[clr,ih h.2];unfold at';rw[Zc (Ne.symm h.1)]
   rw[gen hR];unfold at'
   by_cases hl:j<L.length
   ·rw[List.getElem?_set_self hl];rfl
   ·rw[List.set_eq_of_length_le ⋯,Yi ⋯];rfl
theorem kvx:∀{R:List Nat} {B L:Ls},R.Nodup->(∀j∈R,at' L j=none)->(∀j∈R,j<L.length)->B.length=R.length->(sls (back R B L)).Perm (sls (B++L))
 | [],B,L,_,_,_,hl=>by
  have:B=[]:=by simpa using hl
  subst this;simp [back]
 | j :: R,[],L,_,_,_,hl=>by simp at hl
 | j :: R,q::B,L,hn,hz,hr,hl=>by
  rw [List.nodup_cons]at hn;rw [back];have hj:=hr j X5;have ih:=kvx (R:=R) (B:=B) (L:=L.set j q) hn.2 (λi hi=>by
   have:j≠i:=λe=>hn.1 (e▸hi)
   unfold at';rw [Zc this];exact hz i (lc9 _ hi)) (λi hi=>by rw[List.length_set];exact hr i (lc9 _ hi)) (by simpa using hl)
  refine ih.trans ?_;have sp:∀{M:Ls} {i:Nat},at' M i=none->i<M.length->(sls (M.set i q)).Perm (sls (q::M)):=by
   intro M
   induction M with
   | nil=>intro i _ h;simp at h
   | cons r M ihM=>
    intro i h1 h2;cases i with
    | zero=>
     have:r=none:=by simpa [at']using h1
     subst this;cases q<;>simp[sls]
    | succ i=>
     have:=ihM (i:=i) (by simpa [at']using h1) (by simpa using h2);rw[List.set_cons_succ];cases r with
     | none=>cases q<;>simpa [sls]using this
     | some y=>
      cases q with
      |none=>simpa [sls]using this
      |some x=>
       simp only[kxy]at this ⊢;exact(this.cons y).trans (List.Perm.swap ..)
  rw[KW,List.cons_append];have h1:=sp (hz j X5) hj;have h2:(sls B++sls (L.set j q)).Perm (sls B++sls (q::L)):=h1.append_left _;refine h2.trans ?_;cases q with
  |none=>simp
  |some x=>
   simp only[kxy,KW];exact List.perm_middle
section
variable {K:Frag}{H H1 H2 H':Hp}{L L1 L' T:Ls}{x y:Sl}
theorem V5(p:L.Perm L'):(j4 L).Perm (j4 L'):=p.flatMap_right _
theorem jw2(p:L.Perm L'):(jx L).Perm (jx L'):=p.flatMap_right _
theorem World.perm(w:World K H L)(p:L.Perm L'):World K H L':=
 ⟨λx hx=>w.ok x (p.mem_iff.mpr hx),(V5 p).nodup_iff.mp w.nd,λa ha hf=>w.ds a ((V5 p).mem_iff.mpr ha) ((jw2 p).mem_iff.mpr hf)⟩
theorem Step.perm(s : Step H L H' L'){M M' : Ls}(p : L.Perm M)(p' : L'.Perm M'): Step H M H' M':=
  ⟨λa ob h hn=>s.keep a ob h λz=>hn ((V5 p).mem_iff.mp z),
   λa ha=>(s.own a ((V5 p').mem_iff.mpr ha)).imp (λz=>(V5 p).mem_iff.mp z) id,
   λa ha=>(s.frz a ((jw2 p').mem_iff.mpr ha)).imp (λz=>(jw2 p).mem_iff.mp z) λz=>z.imp (λz=>(V5 p).mem_iff.mp z) id⟩
theorem Step.frm(s:Step H L H' L'):Step H (L++T) H' (L'++T) where
 keep:=λa ob h hn=>s.keep a ob h λz=>hn (by rw[jw];exact ll9 _ z)
 own:=λa ha=>by
  rw[jw]at ha ⊢;rcases aA ha with z|z
  ·exact(s.own a z).imp (ll9 _) id
  ·exact .inl (lr9 _ z)
 frz:=λa ha=>by
  rw[k3]at ha ⊢;rw[jw];rcases aA ha with z|z
  ·exact(s.frz a z).imp (ll9 _) λz=>z.imp (ll9 _) id
  ·exact .inl (lr9 _ z)
theorem wzl(w:World K H (T++L))(s:Step H L H' L')(w':World K H' L'):World K H' (T++L')/\Step H (T++L) H' (T++L'):=by
 have w1:World K H (L++T):=w.comm;exact⟨(s.frame w1 w' w1.left).comm,s.frm.perm Za Za⟩
end
theorem ex8{α β γ:Type}{P:Prop}{a b c d e:α->β->γ->Prop}(h:∃x y z,a x y z/\b x y z/\c x y z/\d x y z/\e x y z)(f:∀x y z,a x y z->b x y z->c x y z->d x y z->e x y z->P):P:=
 h.elim λx h=>h.elim λy h=>h.elim λz h=>f x y z h.1 h.2.1 h.2.2.1 h.2.2.2.1 h.2.2.2.2
theorem ex7{α β γ:Type}{P:Prop}{a b c d:α->β->γ->Prop}(h:∃x y z,a x y z/\b x y z/\c x y z/\d x y z)(f:∀x y z,a x y z->b x y z->c x y z->d x y z->P):P:=
 h.elim λx h=>h.elim λy h=>h.elim λz h=>f x y z h.1 h.2.1 h.2.2.1 h.2.2.2
theorem kz{X:Cx}{e:Expr}{t t':TE}(h:PE X e t)(w:∀ σ H Q,t' σ H Q->t σ H Q):PE X e t':=λpins s σ H Q I q=>h pins s σ H Q I (w σ H Q q)
theorem kz9{X:Cx}{e:Expr}{t t':TT}(h:PT X e t)(w:∀ σ H Q,t' σ H Q->t σ H Q):PT X e t':=λpins s σ H Q I q=>h pins s σ H Q I (w σ H Q q)
theorem JQ{X:Cx}{e:Stmt}{t t':TS}(h:PS X e t)(w:∀D σ H,t' D σ H->t D σ H):PS X e t':=λpins s σ H D I q=>h pins s σ H D I (w D σ H q)
theorem qqs{X:Cx}{e:List Stmt}{t t':TS}(h:PSs X e t)(w:∀D σ H,t' D σ H->t D σ H):PSs X e t':=λpins s σ H D I q=>h pins s σ H D I (w D σ H q)
structure Fx0 where
 K:Frag
 mg:Str->Option Value
 EX:XK
def Xc{α:Type}(Z:Fx0)(σ:L2.St)(H:Hp)(L:Ls)(r:Res α):Prop:=∀E' c,r=.exc E' c->∀C L' H',Z.mg c=some (.ref C)->Mt E' σ L'->World Z.K H' L'->Step H L H' L'->Z.EX (.ref C) none H'
theorem Xc.step{α:Type}{Z:Fx0}{σ:L2.St}{H H1:Hp}{L L1:Ls}{r:Res α}(x:Xc Z σ H L r)(s:Step H L H1 L1):Xc Z σ H1 L1 r:=λE' c e C L' H' hm m w s'=>x E' c e C L' H' hm m w (s.trans s')
theorem Xc.map{α β:Type}{Z:Fx0}{σ:L2.St}{H:Hp}{L:Ls}{r:Res α}{E':En}{c:Str}(x:Xc Z σ H L r)(e:r=.exc E' c):Xc Z σ H L (.exc E' c:Res β):=λE1 c1 e1=>by
 injection e1 with h1 h2;subst h1 h2;exact x _ _ e
def tQ(Z:Fx0)(q:Bool)(c:Ex):TE:=fun σ H Q=>∃E L r,Mt E σ L/\World Z.K H L/\c E=some r/\Xc Z σ H L r /\
 ∀E' a,r=.ok E' a->∀(x:Sl) L' H',x.o=a.1->x.d=a.2->Mt E' σ L'->World Z.K H' (some x::L')->Step H L H' (some x::L')->(q=true->jK H H'/\∀b∈x.own,H b=none)->Q x.v H'
def Src(H:Hp)(L:Ls)(as:List Addr):Prop:=∀b∈as,b∈jx L\/b∈j4 L\/H b=none
theorem Src.back{H H1:Hp}{L L1:Ls}{as:List Addr}(h:Src H1 L1 as)(s:Step H L H1 L1):Src H L as:=λb hb=>by
 rcases h b hb with z|z|z
 ·exact s.frz b z
 ·exact .inr (s.own b z)
 ·by_cases ho:b∈j4 L
  ·exact .inr (.inl ho)
  ·refine .inr (.inr ?_);cases e:H b with|none=>rfl|some ob=>rw[s.keep b ob e ho]at z;cases z
def tV(Z:Fx0)(q:Bool)(c:Ex):TE:=fun σ H Q=>∃E L r,Mt E σ L/\World Z.K H L/\c E=some r/\Xc Z σ H L r /\
 ∀E' a,r=.ok E' a->∀(x:Sl) L' H',x.o=a.1->x.d=a.2->Mt E' σ L'->World Z.K H' L'->x.ok Z.K H'->(∀b∈x.frz,b∉j4 L')->Src H L x.as->Step H L H' L'->(q=true->jK H H')->Q x.v H'
def QE(X:Cx)(Z:Fx0)(q:Bool)(c:Ex)(e:Expr):Prop:=PE X e (tQ Z q c)
def QV(X:Cx)(Z:Fx0)(q:Bool)(c:Ex)(e:Expr):Prop:=PE X e (tV Z q c)
section
variable {X:Cx}{Z:Fx0}{q qa qb:Bool}{a b c:Ex}{e ea eb:Expr}{pos:Pos}{α:Type}{σ:L2.St}{H:Hp}{L:Ls}{E:En}
theorem vk{β:Type}{m:Option (Res α)}{F:En->α->Option (Res β)}{r:Res β}(h:bnd m F=some r):(∃E1 x,m=some (.ok E1 x)/\F E1 x=some r)\/∃E1 c,m=some (.exc E1 c)/\r=.exc E1 c:=by
 cases m with
 |none=>cases h
 |some q=>
  cases q with|ok E1 x=>exact .inl ⟨E1,x,rfl,h⟩|exc E1 c=>exact .inr ⟨E1,c,rfl,(oq9 h).symm⟩
theorem qzj{F:En->Sd->Option (Res α)}{r:Res α}{G:VK}(m:Mt E σ L)(w:World Z.K H L)(h:bnd (a E) F=some r)(xc:Xc Z σ H L r)
  (k:∀E1 s,F E1 s=some r->∀(x:Sl) L1 H1,x.o=s.1->x.d=s.2->Mt E1 σ L1->World Z.K H1 (some x::L1)->Step H L H1 (some x::L1)->(q=true->jK H H1/\∀b∈x.own,H b=none)->G x.v H1):tQ Z q a σ H G:=by
 rcases vk h with⟨E1,s,h1,h2⟩|⟨E1,c,h1,h2⟩
 ·exact⟨E,L,_,m,w,h1,(λ_ _ z=>by cases z),λE' s' z x L' H' e1 e2 m' w' st sm=>by
   injection z with z1 z2;subst z1 z2;exact k _ _ h2 x L' H' e1 e2 m' w' st sm⟩
 ·exact⟨E,L,_,m,w,h1,xc.map h2,λE' s' z=>by cases z⟩
theorem kK{F:En->Sd->Option (Res α)}{r:Res α}{G:VK}(m:Mt E σ L)(w:World Z.K H L)(h:bnd (a E) F=some r)(xc:Xc Z σ H L r)
  (k:∀E1 s,F E1 s=some r->∀(x:Sl) L1 H1,x.o=s.1->x.d=s.2->Mt E1 σ L1->World Z.K H1 L1->x.ok Z.K H1->(∀b∈x.frz,b∉j4 L1)->Src H L x.as->Step H L H1 L1->(q=true->jK H H1)->G x.v H1):tV Z q a σ H G:=by
 rcases vk h with⟨E1,s,h1,h2⟩|⟨E1,c,h1,h2⟩
 ·exact⟨E,L,_,m,w,h1,(λ_ _ z=>by cases z),λE' s' z x L' H' e1 e2 m' w' ok fr sr st sm=>by
   injection z with z1 z2;subst z1 z2;exact k _ _ h2 x L' H' e1 e2 m' w' ok fr sr st sm⟩
 ·exact⟨E,L,_,m,w,h1,xc.map h2,λE' s' z=>by cases z⟩
theorem J0{x:Sl}{K:Frag}{H1 H2:Hp}{L1 L2':Ls}(ok:x.ok K H1)(fr:∀b∈x.frz,b∉j4 L1)(st:Step H1 L1 H2 L2')(sm:jK H1 H2):x.ok K H2/\∀b∈x.frz,b∉j4 L2':=
 ⟨RepO.kp ok (Kp.of_same sm),λb hb ho=>(st.own b ho).elim (fr b hb) λz=>ok.some (Sl.frz_as hb) z⟩
theorem vW{x:Option α}{r:Res α}(h:val E x=some r):∃y,x=some y/\r=.ok E y:=by
 cases x with|none=>cases h|some y=>exact⟨y,rfl,(oq9 h).symm⟩
theorem kk5{x:Sl}{H1:Hp}{L1:Ls}(st:Step H L H1 (some x::L1)):Src H L x.as:=λb hb=>by
 rcases Sl.as_of hb with z|z
 ·exact .inr (st.own b (by rw[jY];exact ll9 _ z))
 ·exact st.frz b (by rw[qJ];exact ll9 _ z)
theorem j5(h:QE X Z q c e):QV X Z q (vE c) e:=kz h fun σ H Q ak=>ex8 ak λE L r m w hc xc k=>
 qzj m w hc xc λE1 s h1 x L1 H1 e1 e2 m1 w1 st sm=>by
  cases oq9 h1;exact k _ _ rfl x.let L1 H1 rfl e2 m1 w1.tail (W7 w1.head) (λb hb=>w1.apart b hb) (kk5 (x:=x) st) (st.trans Step.drop) λhq=>(sm hq).1
theorem Kj{x:Sl}{H1:Hp}{L1:Ls}(st:Step H L H1 L1)(sr:Src H L x.as)(ho:x.own=[]):Step H L H1 (some x::L1) where
 keep:=st.keep
 own:=λb hb=>by rw[jY,ho]at hb;exact st.own b hb
 frz:=λb hb=>by
  rw[qJ]at hb;rcases aA hb with z|z
  ·exact sr b (Sl.frz_as z)
  ·exact st.frz b z
theorem qqz{x:Sl}(h:x.o=.no):x.own=[]:=by unfold Sl.own;rw[h]
theorem ZV{x:Sl}(h:x.o=.no):x.frz=x.as:=by unfold Sl.frz;rw[h]
theorem vvf{x:Sl}(h:x.as=[]):x.own=[]:=List.eq_nil_iff_forall_not_mem.mpr λa ha=>by have:=Sl.own_as ha;rw[h]at this;exact nomatch this
theorem wX(h:QV X Z q c e):QE X Z q (cH c) e:=kz h fun σ H Q ak=>ex8 ak λE L r m w hc xc k=>
 kK m w hc xc λE1 s h1 x L1 H1 e1 e2 m1 w1 ok fr sr st sm=>by
  by_cases ho:s.1=.no
  ·rw[X6 ho]at h1;cases oq9 h1;have eo:x.o=.no:=e1.trans ho;exact k _ _ rfl x L1 H1 eo e2 m1 (w1.consNo ok eo λb hb=>fr b (by rw[ZV eo];exact hb)) (Kj st sr (qqz eo)) λhq=>⟨sm hq,by rw[qqz eo];exact λ_ z=>(nomatch z)⟩
  ·rw[X8 ho]at h1
   by_cases hp:s.2.pure=true
   ·rw[X6 hp]at h1;cases oq9 h1;obtain⟨z,rp⟩:=RepL.pu (g':=false) (RepO.wk ok) (by rw[e2];exact hp);exact k _ _ rfl ⟨.dp,x.d,x.v,[]⟩ L1 H1 rfl e2 m1 (w1.consPu rp rfl) (Kj (x:=⟨.dp,x.d,x.v,[]⟩) st (λb hb=>nomatch hb) rfl) λhq=>⟨sm hq,λ_ z=>(nomatch z)⟩
   ·rw[X8 hp]at h1;cases h1
theorem q_C{d:D}{v:V}(h:PE X e (tC v))(hr:∀H,RepL Z.K H false d v []):QE X Z true (cC d) e:=kz h fun σ H Q ak=>ex8 ak λE L r m w hc xc k=>by
 cases oq9 hc;exact k _ _ rfl ⟨.dp,d,v,[]⟩ L H rfl rfl m (w.consPu (hr H) rfl) (Kj (x:=⟨.dp,d,v,[]⟩) Step.refl (λb hb=>nomatch hb) rfl) λ_=>⟨λ_ _ z=>z,λ_ z=>(nomatch z)⟩
theorem q_V{i:Nat}(h:PE X e (JZ i)):QE X Z true (cV i) e:=kz h fun σ H Q ak=>ex8 ak λE L r m w hc xc k=>by
 unfold cV at hc
 split at hc
 ·rename_i o d hE;cases oq9 hc;obtain⟨x,h1,h2,h3,h4⟩:=m.get hE;refine⟨x.v,h4,k _ _ rfl x.let _ H rfl h3 ?_ (w.read h1) (Step.read h1) λ_=>⟨λ_ _ z=>z,λ_ z=>(nomatch z)⟩⟩;have:=m.let h1
  rwa [h3]at this
 ·cases hc
theorem vvu:∀{E:En} {σ:L2.St} {L:Ls} (j:Nat),Mt E σ L->Mt (E.set j none) σ (L.set j none):=by
 intro E σ L j m
 induction m generalizing j with
 |nil=>exact .nil
 |un m ih=>cases j with|zero=>exact .un m|succ j=>exact .un (ih j)
 |cons m ih=>cases j with|zero=>exact .un m|succ j=>exact .cons (ih j)
theorem jzc{x:Sl}:∀{L:Ls} {i:Nat},L[i]?=some (some x)->(none::L).Perm (some x::L.set i none)
 |[],_,h=>by simp at h
 |q::L,0,h=>by
  have e:q=some x:=by simpa using h
  subst e;exact List.Perm.swap ..
 |q::L,i+1,h=>by
  have:=jzc (L:=L) (i:=i) (by simpa using h);rw[List.set_cons_succ];exact(List.Perm.swap ..).trans ((this.cons q).trans (List.Perm.swap ..))
theorem Kw{i:Nat}(h:PE X e (JZ i)):QE X Z false (cMv i) e:=kz h fun σ H Q ak=>ex8 ak λE L r m w hc xc k=>by
 unfold cMv at hc
 split at hc
 ·rename_i s hE;cases oq9 hc;obtain⟨o,d⟩:=s;obtain⟨x,h1,h2,h3,h4⟩:=m.get hE;have wn:World Z.K H (none::L):=⟨λy hy=>w.ok y (by simpa using hy),by simpa using w.nd,by simpa using w.ds⟩;have sn:Step H L H (none::L):=⟨λ_ _ z _=>z,λa z=>.inl (by simpa using z),λa z=>.inl (by simpa using z)⟩;exact⟨x.v,h4,k _ _ rfl x _ H h2 h3 (vvu i m) (wn.perm (jzc h1)) (sn.trans (Step.refl.perm (List.Perm.refl _) (jzc h1))) λz=>(nomatch z)⟩
 ·cases hc
theorem q_vV{i:Nat}(h:PE X e (JZ i)):QV X Z true (vV i) e:=kz h fun σ H Q ak=>ex8 ak λE L r m w hc xc k=>by
 unfold vV at hc
 split at hc
 ·rename_i s hE;cases oq9 hc;obtain⟨o,d⟩:=s;obtain⟨x,h1,h2,h3,h4⟩:=m.get hE;have hx:=ww h1;refine⟨x.v,h4,k _ _ rfl x L H h2 h3 m w (w.ok x hx) (λb hb ho=>w.ds b ho (mem_frozen.mpr ⟨x,hx,hb⟩)) (λb hb=>?_) Step.refl λ_=>λ_ _ z=>z⟩;rcases Sl.as_of hb with z|z
  ·exact .inr (.inl (mem_owned.mpr ⟨x,hx,z⟩))
  ·exact .inl (mem_frozen.mpr ⟨x,hx,z⟩)
 ·cases hc
structure Out (K:Frag)(H H':Hp)(z:Sl)(fr:List Addr):Prop where
 same:jK H H'
 ok:z.ok K H'
 new:∀b∈z.own,H b=none
 nd:z.own.Nodup
 fr:∀b∈z.frz,b∈fr
def Ad1(K:Frag)(r:V->Hp->VK->Prop)(f:Sd->Option Sd):Prop:=∀(H:Hp) (x:Sl) (s:Sd) (Q:VK),x.ok K H->f (x.o,x.d)=some s->(∀(z:Sl) H',z.o=s.1->z.d=s.2->Out K H H' z x.frz->Q z.v H')->r x.v H Q
def Ad2(K:Frag)(r:R2)(f:Sd->Sd->Option Sd):Prop:=∀(H:Hp) (x y:Sl) (s:Sd) (Q:VK),x.ok K H->y.ok K H->f (x.o,x.d) (y.o,y.d)=some s->(∀(z:Sl) H',z.o=s.1->z.d=s.2->Out K H H' z (x.frz++y.frz)->Q z.v H')->r x.v y.v H Q
theorem jxw{K:Frag}{H H':Hp}{d:D}{v:V}{fr:List Addr}(s:jK H H')(r:RepL K H' false d v []):Out K H H' ⟨.dp,d,v,[]⟩ fr:=⟨s,r,λ_ h=>(nomatch h),Yf,λ_ h=>(nomatch h)⟩
theorem wZ{H:Hp}:jK H H:=λ_ _ z=>z
theorem jX{H H1 H2:Hp}(a:jK H H1)(b:jK H1 H2):jK H H2:=λc ob h=>b c ob (a c ob h)
theorem K4{z:Sl}{fr:List Addr}{H1 H2:Hp}{L1:Ls}(w:World Z.K H1 L1)(st:Step H L H1 L1)(o:Out Z.K H1 H2 z fr)(ap:∀b∈fr,b∉j4 L1)(al:∀b∈fr,H1 b≠none)(sr:Src H L fr):
  World Z.K H2 (some z::L1)/\Step H L H2 (some z::L1):=by
 have w2:World Z.K H2 L1:=⟨λx hx=>RepO.kp (w.ok x hx) (Kp.of_same o.same),w.nd,w.ds⟩;refine⟨w2.cons o.ok o.nd (λb hb ho=>w.own_some ho (o.new b hb)) (λb hb hf=>w.frz_some hf (o.new b hb)) (λb hb=>ap b (o.fr b hb)) (λb hb hf=>al b (o.fr b hf) (o.new b hb)),?_⟩;refine⟨λb ob h hn=>o.same b ob (st.keep b ob h hn),λb hb=>?_,λb hb=>?_⟩
 ·rw[jY]at hb;rcases aA hb with z|z
  ·by_cases ho:b∈j4 L
   ·exact .inl ho
   ·refine .inr ?_;cases e:H b with|none=>rfl|some ob=>have:=o.new b z;rw[st.keep b ob e ho]at this;cases this
  ·exact st.own b z
 ·rw[qJ]at hb;rcases aA hb with z|z
  ·exact sr b (o.fr b z)
  ·exact st.frz b z
theorem Q4{as bs:List Addr}(h:Src H L as)(hb:∀b∈bs,b∈as):Src H L bs:=λb z=>h b (hb b z)
theorem qky{as bs:List Addr}(h:Src H L as)(h':Src H L bs):Src H L (as++bs):=λb z=>(aA z).elim (h b) (h' b)
theorem z4{H H1:Hp}{b:Addr}(s:jK H H1)(h:H1 b=none):H b=none:=by
 cases e:H b with|none=>rfl|some ob=>rw[s b ob e]at h;cases h
theorem XJ{r:V->Hp->VK->Prop}{f:Sd->Option Sd}(ad:Ad1 Z.K r f){Q:VK}(h:tQ Z q (cF1 f a) σ H Q):tUn r (tV Z q a) σ H Q:=by
 obtain⟨E,L,R,m,w,hc,xc,k⟩:=h;refine kK m w hc xc λE1 s h1 x L1 H1 e1 e2 m1 w1 ok fr sr st sm=>?_
 obtain⟨z,hz,rfl⟩:=vW h1;refine ad H1 x z Q ok (by rw[e1,e2];exact hz) λy H' ho hd o=>?_
 obtain⟨w3,c8⟩:=K4 w1 st o fr (λb hb=>ok.some (Sl.frz_as hb)) (Q4 sr λb hb=>Sl.frz_as hb);exact k _ _ rfl y L1 H' ho hd m1 w3 c8 λhq=>⟨jX (sm hq) o.same,λb hb=>z4 (sm hq) (o.new b hb)⟩
theorem kq9{r:R2}{f:Sd->Sd->Option Sd}(ad:Ad2 Z.K r f){Q:VK}(h:tQ Z qa (cF2 f a b) σ H Q):tOp r (tV Z qa a) (tV Z true b) σ H Q:=by
 obtain⟨E,L,R,m,w,hc,xc,k⟩:=h;refine kK m w hc xc λE1 s h1 x L1 H1 e1 e2 m1 w1 ok fr sr st sm=>?_
 refine kK m1 w1 h1 (xc.step st) λE2 s2 h2 y L2 H2 e3 e4 m2 w2 ef kl kh b9 cj=>?_
 obtain⟨z,hz,rfl⟩:=vW h2;have kx:=J0 ok fr b9 (cj rfl);refine ad H2 x y z Q kx.1 ef (by rw[e1,e2,e3,e4];exact hz) λy' H' ho hd o=>?_
 obtain⟨w3,c8⟩:=K4 w2 (st.trans b9) o (λb hb=>(aA hb).elim (kx.2 b) (kl b)) (λb hb=>(aA hb).elim (λz=>kx.1.some (Sl.frz_as z)) λz=>ef.some (Sl.frz_as z))
  (qky (Q4 sr λb hb=>Sl.frz_as hb) (Q4 (kh.back st) λb hb=>Sl.frz_as hb))
 exact k _ _ rfl y' L2 H' ho hd m2 w3 c8 λhq=>⟨jX (sm hq) (jX (cj rfl) o.same),λb hb=>z4 (jX (sm hq) (cj rfl)) (o.new b hb)⟩
theorem kw{op:Operator}{r:R2}{f:Sd->Sd->Option Sd}(ho:OpR X (binaryOp op) r)(ad:Ad2 Z.K r f)(ha:QV X Z qa a ea)(hb:QV X Z true b eb):QE X Z qa (cF2 f a b) (.BinOp ea op eb pos):=
 kz (wwd ho ha hb) fun σ H Q h=>kq9 ad h
theorem qzm{op:CmpOp}{r:R2}{f:Sd->Sd->Option Sd}(ho:OpR X (compareOp op) r)(ad:Ad2 Z.K r f)(ha:QV X Z qa a ea)(hb:QV X Z true b eb)(hm:behindInMarks op eb=false):QE X Z qa (cF2 f a b) (.Compare ea [op] [eb] pos):=
 kz (vvb ho ha hb hm) fun σ H Q h=>kq9 ad h
theorem RepA.get{K:Frag}{H:Hp}{g:Bool}:∀{ds:List D} {xs:List V} {as:List Addr} {i:Nat} {d:D},RepA K H g ds xs as->ds[i]?=some d->∃v bs,xs[i]?=some v/\RepL K H g d v bs/\∀b∈bs,b∈as
 | [],_,_,_,_,_,e=>by simp at e
 | d::ds,_,_,i,d',h,e=>by
  unfold RepA at h;obtain⟨x,r,bs,cs,rfl,rfl,h1,h2⟩:=h;cases i with
  |zero=>
   have e:d=d':=by simpa using e
   subst e;exact⟨x,bs,by simp,h1,λb hb=>ll9 _ hb⟩
  |succ i=>
   obtain⟨v,cp,e1,e2,e3⟩:=RepA.get (i:=i) h2 (by simpa using e);exact⟨v,cp,by simpa using e1,e2,λb hb=>lr9 _ (e3 b hb)⟩
theorem RepA.len{K:Frag}{H:Hp}{g:Bool}:∀{ds:List D} {xs:List V} {as:List Addr},RepA K H g ds xs as->ds.length=xs.length
 |[],_,_,h=>by unfold RepA at h;rw[h.1];rfl
 |d::ds,_,_,h=>by
  unfold RepA at h;obtain⟨x,r,bs,cs,rfl,rfl,h1,h2⟩:=h;simp[RepA.len h2]
theorem items{K:Frag}{H:Hp}{x:Sl}{ds:List D}(ok:x.ok K H)(h:x.d=.lst ds\/x.d=.tup ds):∃a xs bs,x.v=.ref a/\((x.d=.lst ds/\LsR K H a xs)\/(x.d=.tup ds/\SqT K H a xs))/\RepA K H (x.o != .dp) ds xs bs/\(∀b∈bs,b∈x.as)/\(x.o≠.dp->∀b∈bs,b∈x.frz):=by
 obtain⟨o,d,v,as⟩:=x;dsimp only at h;rcases h with rfl|rfl
 ·cases o with
  |no=>
   have ok:RepL K H true (.lst ds) v as:=ok;unfold RepL at ok;obtain⟨a,xs,bs,rfl,r,q⟩:=ok;rcases q with⟨q,rfl⟩|⟨_,q,rfl⟩
   ·exact⟨a,xs,bs,rfl,.inl ⟨rfl,.inl (.inl q)⟩,r,λb hb=>lc9 _ hb,λ_ b hb=>lc9 _ hb⟩
   ·exact⟨a,xs,as,rfl,.inl ⟨rfl,.of q⟩,r,λb hb=>hb,λ_ b hb=>hb⟩
  |rt=>
   obtain⟨a,xs,bs,rfl,r,q,rfl⟩:=(show RepR K H (.lst ds) v as from ok);exact⟨a,xs,bs,rfl,.inl ⟨rfl,.inl (.inl q)⟩,r,λb hb=>lc9 _ hb,λ_ b hb=>by simpa [Sl.frz]using hb⟩
  |dp=>
   have ok:RepL K H false (.lst ds) v as:=ok;unfold RepL at ok;obtain⟨a,xs,bs,rfl,r,q⟩:=ok;rcases q with⟨q,rfl⟩|⟨z,_⟩
   ·exact⟨a,xs,bs,rfl,.inl ⟨rfl,.inl (.inl q)⟩,r,λb hb=>lc9 _ hb,λz=>absurd rfl z⟩
   ·cases z
 ·cases o with
  |no=>
   have ok:RepL K H true (.tup ds) v as:=ok;unfold RepL at ok;obtain⟨a,xs,rfl,q,r⟩:=ok;exact⟨a,xs,as,rfl,.inr ⟨rfl,q⟩,r,λb hb=>hb,λ_ b hb=>hb⟩
  |rt=>exact(show RepR K H (.tup ds) v as from ok).elim
  |dp=>
   have ok:RepL K H false (.tup ds) v as:=ok;unfold RepL at ok;obtain⟨a,xs,rfl,q,r⟩:=ok;exact⟨a,xs,as,rfl,.inr ⟨rfl,q⟩,r,λb hb=>hb,λz=>absurd rfl z⟩
theorem x9{K:Frag}{H:Hp}{x:Sl}{ds:List D}(ok:x.ok K H)(h:x.d=.lst ds\/x.d=.tup ds)(hl:k7 (x.o,x.d)=true):∃a xs bs,x.v=.ref a/\((x.d=.lst ds/\LsR K H a xs)\/(x.d=.tup ds/\SqT K H a xs))/\RepA K H true ds xs bs/\(∀b∈bs,b∈x.frz):=by
 obtain⟨a,xs,bs,e,q,r,h1,h2⟩:=items ok h
 by_cases ho:x.o=.dp
 ·have hp:D.pures ds=true:=by
   unfold k7 at hl;rw[show(x.o,x.d).1=Own.dp from ho]at hl;have:wzk x.d=ds:=by rcases h with h|h<;>rw[h]<;>rfl
   simpa [this]using hl
  obtain⟨rfl,r'⟩:=RepA.pu (g':=true) r hp;exact⟨a,xs,[],e,q,r',λ_ z=>nomatch z⟩
 ·have:(x.o != Own.dp)=true:=by simpa using ho
  rw[this]at r;exact⟨a,xs,bs,e,q,r,h2 ho⟩
end
section
variable {K:Frag}{H:Hp}{x y:Sl}
theorem kJ{i:Int}(ok:x.ok K H)(h:x.d=.int i):x.v=.int i:=by
 have:=RepO.wk ok;rw[h]at this;unfold RepL at this;exact this.1
theorem V8{i:Bool}(ok:x.ok K H)(h:x.d=.bl i):x.v=.bl i:=by
 have:=RepO.wk ok;rw[h]at this;unfold RepL at this;exact this.1
theorem vkg(ok:x.ok K H)(h:x.d=.non):x.v=.non:=by
 have:=RepO.wk ok;rw[h]at this;unfold RepL at this;exact this.1
theorem wx{z:Str}(ok:x.ok K H)(h:x.d=.str z):x.v=.str z/\z.length<=sizeLine:=by
 have:=RepO.wk ok;rw[h]at this;unfold RepL at this;exact⟨this.1,this.2.2⟩
theorem xk{i:Int}{g:Bool}:RepL K H g (.int i) (.int i) []:=by unfold RepL;exact⟨rfl,rfl⟩
theorem qqb{i:Bool}{g:Bool}:RepL K H g (.bl i) (.bl i) []:=by unfold RepL;exact⟨rfl,rfl⟩
theorem qq9{g:Bool}:RepL K H g .non .non []:=by unfold RepL;exact⟨rfl,rfl⟩
theorem VV{z:Str}{g:Bool}(h:z.length<=sizeLine):RepL K H g (.str z) (.str z) []:=by unfold RepL;exact⟨rfl,rfl,h⟩
theorem Vk{i:Int}{fr:List Addr}:Out K H H ⟨.dp,.int i,.int i,[]⟩ fr:=jxw wZ xk
theorem wJ{i:Bool}{fr:List Addr}:Out K H H ⟨.dp,.bl i,.bl i,[]⟩ fr:=jxw wZ qqb
theorem wwj{z:Str}{fr:List Addr}(h:z.length<=sizeLine):Out K H H ⟨.dp,.str z,.str z,[]⟩ fr:=jxw wZ (VV h)
theorem vjw{C:Int->Int->Prop}{g:Int->Int->Int}{f:Int->Int->Option Int}(h:∀i j k,f i j=some k->C i j/\k=g i j):Ad2 K (rI C λi j=>.int (g i j)) (pu2 (i2 f)):=by
 intro H x y s Q ox oy hf k;unfold pu2 i2 at hf;dsimp only at hf
 split at hf
 ·rename_i i j e1 e2;cases hk:f i j with
  |none=>rw[hk]at hf;cases hf
  |some n=>
   rw[hk]at hf;cases oq9 hf;obtain⟨hc,rfl⟩:=h i j n hk;exact⟨i,j,kJ ox e1,kJ oy e2,hc,k ⟨.dp,.int (g i j),.int (g i j),[]⟩ H rfl rfl Vk⟩
 ·cases hf
theorem wxs{g:Int->Int->Int}{f:Int->Int->Option Int}(h:∀i j,f i j=some (g i j)):Ad2 K (rI0 λi j=>.int (g i j)) (pu2 (i2 f)):=by
 intro H x y s Q ox oy hf k;unfold pu2 i2 at hf;dsimp only at hf
 split at hf
 ·rename_i i j e1 e2;rw[h]at hf;cases oq9 hf;exact⟨i,j,kJ ox e1,kJ oy e2,k ⟨.dp,.int (g i j),.int (g i j),[]⟩ H rfl rfl Vk⟩
 ·cases hf
theorem XX{g:Int->Int->Bool}:Ad2 K (rI0 λi j=>.bl (g i j)) (pu2 (c2 g)):=by
 intro H x y s Q ox oy hf k;unfold pu2 c2 at hf;dsimp only at hf
 split at hf
 ·rename_i i j e1 e2;cases oq9 hf;exact⟨i,j,kJ ox e1,kJ oy e2,k ⟨.dp,.bl (g i j),.bl (g i j),[]⟩ H rfl rfl wJ⟩
 ·cases hf
theorem YZ:Ad2 K (rI0 λi j=>.int (i - j)) (pu2 Q8):=wxs λ_ _=>rfl
theorem xZ:Ad2 K (rI wv3 λi j=>.int (i / j)) (pu2 wK):=vjw λi j k h=>by
 split at h
 ·rename_i c;exact⟨c,(oq9 h).symm⟩
 ·cases h
theorem wqy:Ad2 K (rI (λ_ j=>0<j) λi j=>.int (i % j)) (pu2 k8):=vjw λi j k h=>by
 split at h
 ·rename_i c;exact⟨c,(oq9 h).symm⟩
 ·cases h
theorem kvz:Ad2 K (rI wvg λi j=>.int (i ^ j.toNat)) (pu2 KJ):=vjw λi j k h=>by
 split at h
 ·rename_i c;exact⟨c,(oq9 h).symm⟩
 ·cases h
theorem wqx:Ad2 K (rI wvg λi j=>.int (i*2 ^ j.toNat)) (pu2 wx8):=vjw λi j k h=>by
 split at h
 ·rename_i c;exact⟨c,(oq9 h).symm⟩
 ·cases h
end
def vzy(K:Frag):R2:=λx y H Q=>∃l b xs zs,x=.ref l/\y=.ref b/\LsR K H l xs/\LsR K H b zs/\xs.length+zs.length<=sizeLine/\∀p,H p=none->Q (.ref p) (upd H p (.lst (xs++zs)))
theorem op_catL{X:Cx}:OpR X (binaryOp .Add) (vzy X.K):=by
 intro pins s σ H x y v u Q I rx ry h;obtain⟨l,b,xs,zs,rfl,rfl,hH,hB,hz,q⟩:=h;cases rx;cases ry;obtain⟨z,a8,n,r,e⟩:=hH.is I;obtain⟨z2,cf,n2,r2,e2⟩:=hB.is I;have hl:=r.length;have hl2:=r2.length;refine PySem.P.add_list e e2 ?_ (by rw[X9,X9];lia);have ea:a8.toArray++cf.toArray=(a8++cf).toArray:=by simp
 rw[ea];exact⟨.ref _,_,I.lnew (t':=s.toks) (r.append r2) (by rw[Xp];lia),rfl,q _ I.fresh⟩
def vzz(K:Frag):R2:=λx y H Q=>∃a b ys,x=.ref a/\y=.ref b/\SqT K H a []/\SqT K H b ys/\Q (.ref b) H
theorem op_catE{X:Cx}:OpR X (binaryOp .Add) (vzz X.K):=by
 intro pins s σ H x y v u Q I rx ry h;obtain⟨a,b,ys,rfl,rfl,ha,hb,q⟩:=h;cases rx;cases ry;obtain⟨a8,r1,p1,_⟩:=I.tuple ha;obtain⟨cf,r2,p2,_⟩:=I.tuple hb;obtain⟨⟨cls,dd,data,sl⟩,ho,hc,n,hd⟩:=id p1;obtain⟨⟨cls2,jl,data2,io⟩,ho2,ja,n2,du⟩:=id p2;simp only at hc hd ja du;subst hc hd ja du;have e:a8=[]:=r1.nil_iff.mpr rfl;subst e;exact concat_meets ⟨_,ho,rfl⟩ ⟨_,ho2,rfl⟩ noFill_tuple_add seq_tuple_add PySem.F.slot_tuple_add PySem.F.entry_tuple_add (PySem.F.args_tuple_add_2 _ _)
   (tuple_addW0 a b [].toArray cf.toArray n n2 dd jl sl io (by simp)) ⟨ho,ho2,⟨.ref b,H,I,rfl,q⟩⟩
def wj0(K:Frag):R2:=λx y H Q=>rI0 (λi j=>.int (i+j)) x y H Q\/(∃i j,x=.str i/\y=.str j/\i.length+j.length<=sizeLine/\Q (.str (i++j)) H)\/vzy K x y H Q\/vzz K x y H Q\/vzx K x y H Q
theorem wk7{X:Cx}{K:Frag}(hK:X.K=K):OpR X (binaryOp .Add) (wj0 K):=by subst hK;exact op_add.or (op_add_str.or (op_catL.or (op_catE.or vvj)))
theorem RepA.app{K:Frag}{H:Hp}{g:Bool}{ds':List D}{xs':List V}{cp:List Addr}(h':RepA K H g ds' xs' cp):∀{ds:List D} {xs:List V} {as:List Addr},RepA K H g ds xs as->RepA K H g (ds++ds') (xs++xs') (as++cp)
 |[],_,_,h=>by unfold RepA at h;rw[h.1,h.2];exact h'
 |d::ds,_,_,h=>by
  unfold RepA at h;obtain⟨x,r,bs,cs,rfl,rfl,h1,h2⟩:=h;rw[List.cons_append];unfold RepA;exact⟨x,r++xs',bs,cs++cp,rfl,by rw[Y4],h1,RepA.app h' h2⟩
theorem qZ{H:Hp}{p:Addr}{o:HO}(h:H p=none):jK H (upd H p o):=λb u q=>by rw[k9 (z6 q h)];exact q
theorem zX{K:Frag}{H:Hp}{p:Addr}{ds:List D}{xs:List V}{bs fr:List Addr}(hp:H p=none)(r:RepA K H true ds xs bs)(hb:∀b∈bs,b∈fr):Out K H (upd H p (.lst xs)) ⟨.rt,.lst ds,.ref p,p::bs⟩ fr:=by
 refine⟨qZ hp,⟨p,xs,bs,rfl,r.kp (Kp.of_same (qZ hp)),vX,rfl⟩,λb hb=>?_,?_,λb cg=>hb b (by simpa [Sl.frz]using cg)⟩
 ·have:b=p:=by simpa [Sl.own]using hb
  rw[this];exact hp
 ·simp[Sl.own]
theorem Vx{K:Frag}{H:Hp}{p:Addr}{ds:List D}{xs:List V}{bs fr:List Addr}(hp:H p=none)(r:RepA K H true ds xs bs)(hb:∀b∈bs,b∈fr):Out K H (upd H p (.tup xs)) ⟨.no,.tup ds,.ref p,bs⟩ fr:=by
 refine⟨qZ hp,?_,λb hb=>(nomatch hb),Yf,λb cg=>hb b cg⟩;show RepL K _ true (.tup ds) (.ref p) bs;unfold RepL;exact⟨p,xs,rfl,SqT.of vX,r.kp (Kp.of_same (qZ hp))⟩
theorem wv1{K:Frag}:Ad2 K (wj0 K) jQ:=by
 intro H x y s Q ox oy hf k;unfold jQ at hf;dsimp only at hf
 split at hf
 ·rename_i i j e1 e2;cases oq9 hf;exact .inl ⟨i,j,kJ ox e1,kJ oy e2,k ⟨.dp,.int _,.int _,[]⟩ H rfl rfl Vk⟩
 ·rename_i i j e1 e2
  split at hf
  ·rename_i hl;cases oq9 hf;have hl':(i++j).length<=sizeLine:=by rw[strLen_append];exact hl
   exact .inr (.inl ⟨i,j,(wx ox e1).1,(wx oy e2).1,hl,k ⟨.dp,.str _,.str _,[]⟩ H rfl rfl (wwj hl')⟩)
  ·cases hf
 ·rename_i i j e1 e2
  split at hf
  ·rename_i hl;cases oq9 hf;obtain⟨a,xs,bs,e3,q3,r3,h3⟩:=x9 ox (.inl e1) hl.2.1;obtain⟨b,ys,cs,e4,q4,r4,h4⟩:=x9 oy (.inl e2) hl.2.2;have q3:LsR K H a xs:=by rcases q3 with⟨_,z⟩|⟨z,_⟩;exact z;rw[e1]at z;cases z
   have q4:LsR K H b ys:=by rcases q4 with⟨_,z⟩|⟨z,_⟩;exact z;rw[e2]at z;cases z
   refine .inr (.inr (.inl ⟨a,b,xs,ys,e3,e4,q3,q4,by rw[<-r3.len,<-r4.len];exact hl.1,λp hp=>?_⟩));exact k ⟨.rt,.lst (i++j),.ref p,p::(bs++cs)⟩ _ rfl rfl (zX hp (r4.app r3) λb hb=>(aA hb).elim (λz=>ll9 _ (h3 b z)) λz=>lr9 _ (h4 b z))
  ·cases hf
 ·rename_i i j e1 e2
  split at hf
  ·rename_i hl;cases oq9 hf;obtain⟨a,xs,bs,e3,q3,r3,h3⟩:=x9 ox (.inr e1) hl.2.1;obtain⟨b,ys,cs,e4,q4,r4,h4⟩:=x9 oy (.inr e2) hl.2.2;have q3:SqT K H a xs:=by rcases q3 with⟨z,_⟩|⟨_,z⟩;rw[e1]at z;cases z;exact z
   have q4:SqT K H b ys:=by rcases q4 with⟨z,_⟩|⟨_,z⟩;rw[e2]at z;cases z;exact z
   have ap:=r4.app r3;have mt:∀b∈bs++cs,b∈x.frz++y.frz:=λb hb=>(aA hb).elim (λz=>ll9 _ (h3 b z)) λz=>lr9 _ (h4 b z)
   have same:∀c zs,zs=xs++ys->SqT K H c zs->Q (.ref c) H:=λc zs e hq=>by
    refine k ⟨.no,.tup (i++j),.ref c,bs++cs⟩ H rfl rfl ⟨wZ,?_,λb hb=>(nomatch hb),Yf,mt⟩;show RepL K H true (.tup (i++j)) (.ref c) (bs++cs);unfold RepL;exact⟨c,zs,rfl,hq,by rw[e];exact ap⟩
   by_cases hx:xs=[]
   ·subst hx;exact .inr (.inr (.inr (.inl ⟨a,b,ys,e3,e4,q3,q4,same b ys rfl q4⟩)))
   ·refine .inr (.inr (.inr (.inr ⟨a,b,xs,ys,e3,e4,q3,q4,hx,by rw[<-r3.len,<-r4.len];exact hl.1,λhy=>?_,λhy p hp=>?_⟩)))
    ·exact same a xs (by rw[hy,Xq]) q3
    ·exact k ⟨.no,.tup (i++j),.ref p,bs++cs⟩ _ rfl rfl (Vx hp ap mt)
  ·cases hf
 ·cases hf
def tT(Z:Fx0)(q:Bool)(c:Ts):TT:=fun σ H Q=>∃E L r,Mt E σ L/\World Z.K H L/\c E=some r/\Xc Z σ H L r /\
 ∀E' k,r=.ok E' k->∀L' H',Mt E' σ L'->World Z.K H' L'->Step H L H' L'->(q=true->jK H H')->Q k H'
def QT(X:Cx)(Z:Fx0)(q:Bool)(c:Ts)(e:Expr):Prop:=PT X e (tT Z q c)
def QW(X:Cx)(Z:Fx0)(q:Bool)(c:Ts)(e:Expr):Prop:=PW X e (tT Z q c)
section
variable {X:Cx}{Z:Fx0}{q qa qb:Bool}{a b c:Ex}{u v:Ts}{e ea eb:Expr}{es:List Expr}{pos:Pos}{α β:Type}{σ:L2.St}{H:Hp}{L:Ls}{E:En}
theorem vk5{e:Expr}{t t':TT}(h:PW X e t)(w:∀ σ H Q,t' σ H Q->t σ H Q):PW X e t':=λwh pins s σ H Q I q=>h wh pins s σ H Q I (w σ H Q q)
theorem qxx{F:En->Bool->Option (Res α)}{r:Res α}{G:Bool->Hp->Prop}(m:Mt E σ L)(w:World Z.K H L)(h:bnd (u E) F=some r)(xc:Xc Z σ H L r)
  (k:∀E1 s,F E1 s=some r->∀L1 H1,Mt E1 σ L1->World Z.K H1 L1->Step H L H1 L1->(q=true->jK H H1)->G s H1):tT Z q u σ H G:=by
 rcases vk h with⟨E1,s,h1,h2⟩|⟨E1,c,h1,h2⟩
 ·exact⟨E,L,_,m,w,h1,(λ_ _ z=>by cases z),λE' s' z L' H' m' w' st sm=>by
   injection z with z1 z2;subst z1 z2;exact k _ _ h2 L' H' m' w' st sm⟩
 ·exact⟨E,L,_,m,w,h1,xc.map h2,λE' s' z=>by cases z⟩
theorem vqt(ha:QT X Z q u ea):QW X Z q u (.BoolOp .And [ea] pos):=vqw ha
theorem vk3(ha:QT X Z q u ea):QW X Z q u (.BoolOp .Or [ea] pos):=wjd ha
theorem wj2(ha:QT X Z q u ea)(hb:QW X Z q v (.BoolOp .And (eb::es) pos)):QW X Z q (Q.tAnd u v) (.BoolOp .And (ea::eb::es) pos):=
 vk5 (wje ha hb) fun σ H Q ak=>ex8 ak λE L r m w hc xc k=>qxx m w hc xc λE1 s h1 L1 H1 m1 w1 st sm=>by
  cases s with
  |true=>
   rw[X6 rfl]at h1 ⊢;exact⟨E1,L1,r,m1,w1,h1,xc.step st,λE' k' z L' H' m' w' dn gr=>k E' k' z L' H' m' w' (st.trans dn) λhq=>jX (sm hq) (gr hq)⟩
  |false=>
   rw[X8 ⋯]at h1 ⊢;cases oq9 h1;exact k _ _ rfl L1 H1 m1 w1 st sm
theorem wj1(ha:QT X Z q u ea)(hb:QW X Z q v (.BoolOp .Or (eb::es) pos)):QW X Z q (Q.tOr u v) (.BoolOp .Or (ea::eb::es) pos):=
 vk5 (wwb ha hb) fun σ H Q ak=>ex8 ak λE L r m w hc xc k=>qxx m w hc xc λE1 s h1 L1 H1 m1 w1 st sm=>by
  cases s with
  |false=>
   rw[X8 ⋯]at h1 ⊢;exact⟨E1,L1,r,m1,w1,h1,xc.step st,λE' k' z L' H' m' w' dn gr=>k E' k' z L' H' m' w' (st.trans dn) λhq=>jX (sm hq) (gr hq)⟩
  |true=>
   rw[X6 rfl]at h1 ⊢;cases oq9 h1;exact k _ _ rfl L1 H1 m1 w1 st sm
theorem QW.pt(h:QW X Z q u e):QT X Z q u e:=PW.pt h
theorem kz6(ha:QT X Z q u ea):QT X Z q (Q.tNot u) (.UnaryOp .Not ea pos):=
 kz9 (wji ha) fun σ H Q ak=>ex8 ak λE L r m w hc xc k=>qxx m w hc xc λE1 s h1 L1 H1 m1 w1 st sm=>by
  cases oq9 h1;exact k _ _ rfl L1 H1 m1 w1 st sm
theorem vx{op:CmpOp}{r:R2}{f:Sd->Sd->Option Sd}(ho:OpR X (compareOp op) r)(ad:Ad2 Z.K r f)(ha:QV X Z qa a ea)(hb:QV X Z true b eb)(hm:behindInMarks op eb=false)(hf:∀x y s,f x y=some s->∃k,s.2=.bl k):QT X Z qa (Q.tE (cF2 f a b)) (.Compare ea [op] [eb] pos):=
 kz9 (vv1 ho ha hb hm) fun σ H Q ak=>ex8 ak λE L r m w hc xc k=>by
  refine kq9 ad ?_;have fy:bnd (cF2 f a b E) (λE x=>val E (truth x.2))=some r:=hc;rcases vk fy with⟨E1,s,h1,h2⟩|⟨E1,c,h1,h2⟩
  ·refine⟨E,L,_,m,w,h1,(λ_ _ z=>by cases z),λE' s' z x L' H' e1 e2 m' w' st sm=>?_⟩;injection z with z1 z2;subst z1 z2;obtain⟨kk,hk⟩:∃k,s.2=.bl k:=by
    unfold cF2 at h1;rcases vk h1 with⟨E2,s2,h3,h4⟩|⟨_,_,_,z⟩
    ·rcases vk h4 with⟨E3,s3,h5,h6⟩|⟨_,_,_,z⟩
     ·obtain⟨y,hy,z⟩:=vW h6;cases z;exact hf _ _ _ hy
     ·cases z
    ·cases z
   rw[hk]at h2;cases oq9 h2;exact⟨kk,V8 w'.head (e2.trans hk),k _ _ rfl L' H' m' w'.tail (st.trans Step.drop) λhq=>(sm hq).1⟩
  ·exact⟨E,L,_,m,w,h1,xc.map h2,λE' s' z=>by cases z⟩
end
def Pn(pn:List Nat)(σ σ':L2.St):Prop:=∀p∈pn,σ'[p]?=σ[p]?
theorem Pn.refl{pn:List Nat}{σ:L2.St}:Pn pn σ σ:=λ_ _=>rfl
theorem Pn.trans{pn:List Nat}{σ σ1 σ2:L2.St}(a:Pn pn σ σ1)(b:Pn pn σ1 σ2):Pn pn σ σ2:=λp hp=>(b p hp).trans (a p hp)
theorem Pn.set{pn:List Nat}{σ σ1:L2.St}{i:Nat}{y:Option V}(a:Pn pn σ σ1)(h:i∉pn):Pn pn σ (σ1.set i y):=λp hp=>by
 have:i≠p:=λe=>h (e▸hp)
 rw[Zc this];exact a p hp
noncomputable def FlP(Z:Fx0)(pn:List Nat)(D:Ends)(σ:L2.St)(H:Hp)(L:Ls):Fl->Prop
 |.nx E'=>∀ σ' L' H',Pn pn σ σ'->Mt E' σ' L'->World Z.K H' L'->Step H L H' L'->D.nx σ' H'|.ct E'=>∀ σ' L' H',Pn pn σ σ'->Mt E' σ' L'->World Z.K H' L'->Step H L H' L'->D.ct σ' H'|.bk E'=>∀ σ' L' H',Pn pn σ σ'->Mt E' σ' L'->World Z.K H' L'->Step H L H' L'->D.bk σ' H'|.rt E' a=>∀(x:Sl) σ' L' H',x.o=a.1->x.d=a.2->Pn pn σ σ'->Mt E' σ' L'->World Z.K H' (some x::L')->Step H L H' (some x::L')->D.rt x.v H'|.xc E' c=>∀C σ' L' H',Z.mg c=some (.ref C)->Pn pn σ σ'->Mt E' σ' L'->World Z.K H' L'->Step H L H' L'->Z.EX (.ref C) none H'
theorem FlP.step{Z:Fx0}{pn:List Nat}{D:Ends}{σ σ1:L2.St}{H H1:Hp}{L L1:Ls}{r:Fl}(k:FlP Z pn D σ H L r)(s:Step H L H1 L1)(p:Pn pn σ σ1):FlP Z pn D σ1 H1 L1 r:=by
 cases r with|nx E'=>exact fun σ' L' H' p' m w s'=>k σ' L' H' (p.trans p') m w (s.trans s')|ct E'=>exact fun σ' L' H' p' m w s'=>k σ' L' H' (p.trans p') m w (s.trans s')|bk E'=>exact fun σ' L' H' p' m w s'=>k σ' L' H' (p.trans p') m w (s.trans s')|rt E' a=>exact λx σ' L' H' e1 e2 p' m w s'=>k x σ' L' H' e1 e2 (p.trans p') m w (s.trans s')|xc E' c=>exact λC σ' L' H' hm p' m w s'=>k C σ' L' H' hm (p.trans p') m w (s.trans s')
theorem FlP.xc{α:Type}{Z:Fx0}{pn:List Nat}{D:Ends}{σ:L2.St}{H:Hp}{L:Ls}{E':En}{c:Str}(k:FlP Z pn D σ H L (.xc E' c)):Xc Z σ H L (.exc E' c:Res α):=λE1 c1 e C L' H' hm m w s=>by
 injection e with h1 h2;subst h1 h2;exact k C σ L' H' hm Pn.refl m w s
def tS(Z:Fx0)(pn:List Nat)(c:Sm):TS:=λD σ H=>∃E L r,Mt E σ L/\World Z.K H L/\c E=some r/\FlP Z pn D σ H L r
def QS(X:Cx)(Z:Fx0)(pn:List Nat)(c:Sm)(st:Stmt):Prop:=PS X st (tS Z pn c)
def QSs(X:Cx)(Z:Fx0)(pn:List Nat)(c:Sm)(st:List Stmt):Prop:=PSs X st (tS Z pn c)
section
variable {X:Cx}{Z:Fx0}{pn:List Nat}{q qa qb:Bool}{a b c:Ex}{u v:Ts}{A B:Sm}{e ea eb:Expr}{st:Stmt}{ss tt:List Stmt}{pos:Pos}{α:Type}{σ:L2.St}{H:Hp}{L:Ls}{E:En}{D:Ends}
theorem jwh{m:Option (Res α)}{F:En->α->Option Fl}{r:Fl}(h:ofE m F=some r):(∃E1 x,m=some (.ok E1 x)/\F E1 x=some r)\/∃E1 c,m=some (.exc E1 c)/\r=.xc E1 c:=by
 cases m with
 |none=>cases h
 |some q=>
  cases q with|ok E1 x=>exact .inl ⟨E1,x,rfl,h⟩|exc E1 c=>exact .inr ⟨E1,c,rfl,(oq9 h).symm⟩
theorem Qw{F:En->Sd->Option Fl}{r:Fl}{G:VK}(m:Mt E σ L)(w:World Z.K H L)(h:ofE (a E) F=some r)(k:FlP Z pn D σ H L r)
  (g:∀E1 s,F E1 s=some r->∀(x:Sl) L1 H1,x.o=s.1->x.d=s.2->Mt E1 σ L1->World Z.K H1 (some x::L1)->Step H L H1 (some x::L1)->(q=true->jK H H1/\∀b∈x.own,H b=none)->G x.v H1):tQ Z q a σ H G:=by
 rcases jwh h with⟨E1,s,h1,h2⟩|⟨E1,c,h1,rfl⟩
 ·exact⟨E,L,_,m,w,h1,(λ_ _ z=>by cases z),λE' s' z x L' H' e1 e2 m' w' st sm=>by
   injection z with z1 z2;subst z1 z2;exact g _ _ h2 x L' H' e1 e2 m' w' st sm⟩
 ·exact⟨E,L,_,m,w,h1,k.xc,λE' s' z=>by cases z⟩
theorem vzd{F:En->Bool->Option Fl}{r:Fl}{G:Bool->Hp->Prop}(m:Mt E σ L)(w:World Z.K H L)(h:ofE (u E) F=some r)(k:FlP Z pn D σ H L r)
  (g:∀E1 s,F E1 s=some r->∀L1 H1,Mt E1 σ L1->World Z.K H1 L1->Step H L H1 L1->G s H1):tT Z q u σ H G:=by
 rcases jwh h with⟨E1,s,h1,h2⟩|⟨E1,c,h1,rfl⟩
 ·exact⟨E,L,_,m,w,h1,(λ_ _ z=>by cases z),λE' s' z L' H' m' w' st sm=>by
   injection z with z1 z2;subst z1 z2;exact g _ _ h2 L' H' m' w' st⟩
 ·exact⟨E,L,_,m,w,h1,k.xc,λE' s' z=>by cases z⟩
theorem wj:QSs X Z pn vj []:=qqs vv3 λD σ H ak=>ex7 ak λE L r m w hc k=>by
 cases oq9 hc;exact k σ L H Pn.refl m w Step.refl
theorem j7(h1:QS X Z pn A st)(h2:QSs X Z pn B ss):QSs X Z pn (j6 A B) (st::ss):=qqs (qzp h1 h2) λD σ H ak=>ex7 ak λE L r m w hc k=>by
 unfold j6 at hc;cases ha:A E with
 |none=>rw[ha]at hc;cases hc
 |some f=>
  rw[ha]at hc;cases f with|nx E1=>exact⟨E,L,_,m,w,ha,fun σ' L' H' p m' w' s=>⟨E1,L',r,m',w',hc,k.step s p⟩⟩|ct E1=>cases oq9 hc;exact⟨E,L,_,m,w,ha,k⟩|bk E1=>cases oq9 hc;exact⟨E,L,_,m,w,ha,k⟩|rt E1 x=>cases oq9 hc;exact⟨E,L,_,m,w,ha,k⟩|xc E1 x=>cases oq9 hc;exact⟨E,L,_,m,w,ha,k⟩
theorem jz(h1:QS X Z pn A st):QSs X Z pn A [st]:=vv2 h1
theorem kj(h:QE X Z q a ea):QS X Z pn (k6 a) (.Return (some ea) pos):=JQ (wjk h) λD σ H ak=>ex7 ak λE L r m w hc k=>
 Qw m w hc k λE1 s h1 x L1 H1 e1 e2 m1 w1 st _=>by
  cases oq9 h1;exact k x σ L1 H1 e1 e2 Pn.refl m1 w1 st
theorem wQ(hc:QT X Z q u e)(ha:QSs X Z pn A ss)(hb:QSs X Z pn B tt):QS X Z pn (sIf u A B) (.If e ss tt pos):=JQ (wwc hc ha hb) λD σ H ak=>ex7 ak λE L r m w hc k=>
 vzd m w hc k λE1 s h1 L1 H1 m1 w1 st=>by
  cases s with|true=>rw[X6 rfl]at h1 ⊢;exact⟨E1,L1,r,m1,w1,h1,k.step st Pn.refl⟩|false=>rw[X8 ⋯]at h1 ⊢;exact⟨E1,L1,r,m1,w1,h1,k.step st Pn.refl⟩
theorem kzm{x:Sl}{i:Nat}{s:Sd}(m:Mt E σ L)(e1:x.o=s.1)(e2:x.d=s.2):Mt (E.set i (some s)) (σ.set i (some x.v)) (L.set i (some x)):=by
 have:=m.set (x:=x) i;rw[e1,e2]at this;exact this
theorem ww9{i:Nat}{y:Str}{bm:Pos}(hN:X.N.Nodup)(hi:X.N[i]?=some y)(hx:Loc X.env.scope y)(h:QE X Z q a ea)(hp:autoParam (i∉pn) ŕ)(hs:autoParam (swapsWith ea (some (.Name y bm)) pos.line X.env=pure false) Ŕ)(hf:autoParam (X.fn y=true\/X.env.scope.names.lookup y=some .local) Ř):
  QS X Z pn (jv i a) (.Assign [.Name y bm] ea pos):=JQ (wjj hN hi hx h hs hf) λD σ H ak=>ex7 ak λE L r m w hc k=>
 Qw m w hc k λE1 s h1 x L1 H1 e1 e2 m1 w1 st _=>by
  cases oq9 h1;exact k (σ.set i (some x.v)) (L1.set i (some x)) H1 (Pn.refl.set hp) (kzm m1 e1 e2) w1.set (st.trans Step.set)
theorem wjc{i:Nat}{y:Str}{bm:Pos}(hp:i∉pn)(h:PS X (.Assign [.Name y bm] ea pos) (λD σ H=>tQ Z q a σ H λv H1=>D.nx (σ.set i (some v)) H1)):
  QS X Z pn (jv i a) (.Assign [.Name y bm] ea pos):=JQ h λD σ H ak=>ex7 ak λE L r m w hc k=>
 Qw m w hc k λE1 s h1 x L1 H1 e1 e2 m1 w1 st _=>by
  cases oq9 h1;exact k (σ.set i (some x.v)) (L1.set i (some x)) H1 (Pn.refl.set hp) (kzm m1 e1 e2) w1.set (st.trans Step.set)
end
structure Walks (K:Frag)(J:It)(T:List Sl)(ds:List D):Prop where
 no:∀t∈T,t.o=.no
 go:∀i H,(∀t∈T,t.ok K H)->i<ds.length->J.go i H
 stop:∀H,(∀t∈T,t.ok K H)->J.stop ds.length H
 yld:∀i H v H' d,(∀t∈T,t.ok K H)->J.yld i H v H'->ds[i]?=some d->∃z:Sl,z.o=.no/\z.d=d/\z.v=v/\jK H H'/\z.ok K H'/\∀b∈z.as,∃t∈T,b∈t.as
def tI(Z:Fx0)(q:Bool)(it:Ev (List D)):TI:=fun σ H R=>∃E L r,Mt E σ L/\World Z.K H L/\it E=some r/\Xc Z σ H L r /\
 ∀E' ds,r=.ok E' ds->∀J T L' H',Mt E' σ L'->World Z.K H' (L'++T.map some)->Step H L H' (L'++T.map some)->ds.length<=sizeLine->(q=true->jK H H')->Walks Z.K J T ds->R J H'
def QI(X:Cx)(Z:Fx0)(q:Bool)(tg:Expr)(it:Ev (List D))(e:Expr):Prop:=PI X tg e (tI Z q it)
def wxv(K:Frag)(H0:Hp)(T:List Sl)(H:Hp):Prop:=(∀t∈T,t.ok K H)/\∀t∈T,Kp H0 H t.as
structure WalksD (K:Frag)(H0:Hp)(J:It)(T:List Sl)(ds:List D):Prop where
 no:∀t∈T,t.o=.no
 go:∀i H,wxv K H0 T H->i<ds.length->J.go i H
 stop:∀H,wxv K H0 T H->J.stop ds.length H
 yld:∀i H v H' d,wxv K H0 T H->J.yld i H v H'->ds[i]?=some d->∃z:Sl,z.o=.no/\z.d=d/\z.v=v/\jK H H'/\z.ok K H'/\∀b∈z.as,∃t∈T,b∈t.as
theorem Walks.D{K:Frag}{H0:Hp}{J:It}{T:List Sl}{ds:List D}(h:Walks K J T ds):WalksD K H0 J T ds:=⟨h.no,λi H o=>h.go i H o.1,λH o=>h.stop H o.1,λi H v H' d o=>h.yld i H v H' d o.1⟩
def tID(Z:Fx0)(q:Bool)(it:Ev (List D)):TI:=fun σ H R=>∃E L r,Mt E σ L/\World Z.K H L/\it E=some r/\Xc Z σ H L r /\
 ∀E' ds,r=.ok E' ds->∀J T L' H',Mt E' σ L'->World Z.K H' (L'++T.map some)->Step H L H' (L'++T.map some)->ds.length<=sizeLine->(q=true->jK H H')->WalksD Z.K H' J T ds->R J H'
def QID(X:Cx)(Z:Fx0)(q:Bool)(tg:Expr)(it:Ev (List D))(e:Expr):Prop:=PI X tg e (tID Z q it)
theorem QI.D{X:Cx}{Z:Fx0}{q:Bool}{tg:Expr}{it:Ev (List D)}{e:Expr}(h:QI X Z q tg it e):QID X Z q tg it e:=λpins s σ H R I hz=>h pins s σ H R I (by
 obtain⟨E,L,r,m,w,e,x,k⟩:=hz;exact⟨E,L,r,m,w,e,x,λE' ds z J T L' H' m' w' st hl sm wk=>k E' ds z J T L' H' m' w' st hl sm wk.D⟩)
structure WalksS (K:Frag)(q:Bool)(H0:Hp)(J:It)(T:List Sl)(ds:List D):Prop where
 no:∀t∈T,t.o=.no
 go:∀i H,(∀t∈T,t.ok K H)->(q=true->jK H0 H)->i<ds.length->J.go i H
 stop:∀H,(∀t∈T,t.ok K H)->(q=true->jK H0 H)->J.stop ds.length H
 yld:∀i H v H' d,(∀t∈T,t.ok K H)->(q=true->jK H0 H)->J.yld i H v H'->ds[i]?=some d->∃z:Sl,z.o=.no/\z.d=d/\z.v=v/\jK H H'/\z.ok K H'/\∀b∈z.as,∃t∈T,b∈t.as
theorem vq9{K:Frag}{q:Bool}{H0:Hp}{J:It}{T:List Sl}{ds:List D}(h:Walks K J T ds):WalksS K q H0 J T ds:=⟨h.no,λi H o _=>h.go i H o,λH o _=>h.stop H o,λi H v H' d o _=>h.yld i H v H' d o⟩
def tIS(Z:Fx0)(q:Bool)(it:Ev (List D)):TI:=fun σ H R=>∃E L r,Mt E σ L/\World Z.K H L/\it E=some r/\Xc Z σ H L r /\
 ∀E' ds,r=.ok E' ds->∀J T L' H',Mt E' σ L'->World Z.K H' (L'++T.map some)->Step H L H' (L'++T.map some)->ds.length<=sizeLine->(q=true->jK H H')->WalksS Z.K q H J T ds->R J H'
def QIS(X:Cx)(Z:Fx0)(q:Bool)(tg:Expr)(it:Ev (List D))(e:Expr):Prop:=PI X tg e (tIS Z q it)
theorem wz8{X:Cx}{Z:Fx0}{q:Bool}{tg:Expr}{it:Ev (List D)}{e:Expr}(h:QI X Z q tg it e):QIS X Z q tg it e:=λpins s σ H R I hz=>h pins s σ H R I (by
 obtain⟨E,L,r,m,w,e,x,k⟩:=hz;exact⟨E,L,r,m,w,e,x,λE' ds z J T L' H' m' w' st hl sm wk=>k E' ds z J T L' H' m' w' st hl sm (vq9 wk)⟩)
def tG(Z:Fx0)(pn:List Nat)(tg:Tg):TG:=λv σ H Q=>∃(E:En) (L:Ls) (z:Sl) (E':En),Mt E σ L/\World Z.K H (some z::L)/\z.o=.no/\z.v=v/\tg.put z.d E=some E' /\
 ∀ σ' L',Pn pn σ σ'->Mt E' σ' L'->World Z.K H L'->Step H (some z::L) H L'->Q σ' H
def QG(X:Cx)(Z:Fx0)(pn:List Nat)(tg:Tg)(e:Expr):Prop:=PG X e (tG Z pn tg)
section
variable {X:Cx}{Z:Fx0}{pn:List Nat}{e:Expr}{σ:L2.St}{H:Hp}{L:Ls}{E:En}
theorem vk7{t t':TG}(h:PG X e t)(w:∀v σ H Q,t' v σ H Q->t v σ H Q):PG X e t':=λpins s σ H x v Q I r q=>h pins s σ H x v Q I r (w x σ H Q q)
theorem V9{i:Nat}(h:PG X e (WQ i))(hp:autoParam (i∉pn) ŕ):QG X Z pn (.n i) e:=vk7 h λv σ H Q ⟨E,L,z,E',m,w,ho,hv,bc,k⟩=>by
 cases oq9 bc;rw[<-hv];exact k (σ.set i (some z.v)) (L.set i (some z)) (Pn.refl.set hp) (kzm m ho rfl) w.set Step.set
def gNs:List Nat->TGs
 |[]=>wzm|i::is=>wq5 (WQ i) (gNs is)
theorem qwe{Q:L2.St->Hp->Prop}{M:Ls}{σ0:L2.St}:∀{is:List Nat} {ds:List D} {xs:List V} {bs:List Addr} {E:En} {L:Ls} {σ:L2.St} {E':En},Mt E σ L->World Z.K H L->RepA Z.K H true ds xs bs->(∀b∈bs,b∉j4 L)->(∀b∈bs,b∈jx M)->Step H M H L->Pn pn σ0 σ ->
  setAll is ds E=some E'->(∀i∈is,i∉pn)->(∀ σ' L',Pn pn σ0 σ'->Mt E' σ' L'->World Z.K H L'->Step H M H L'->Q σ' H)->gNs is xs σ H Q
 | [],[],xs,bs,E,L,σ,E',m,w,r,_,_,st,p,e,_,k=>by
  cases oq9 e;unfold RepA at r;exact⟨r.1,k σ L p m w st⟩
 | [],_::_,_,_,_,_,_,_,_,_,_,_,_,_,_,e,_,_=>by cases e| _::_,[],_,_,_,_,_,_,_,_,_,_,_,_,_,e,_,_=>by cases e
 | i::is,d::ds,xs,bs,E,L,σ,E',m,w,r,hb,hf,st,p,e,hi,k=>by
  unfold RepA at r;obtain⟨x,rr,cs,es,rfl,rfl,h1,h2⟩:=r;have w1:World Z.K H (some ⟨.no,d,x,cs⟩::L):=w.consNo (x:=⟨.no,d,x,cs⟩) h1 rfl λb cg=>hb b (ll9 _ cg)
  have s1:Step H M H (L.set i (some ⟨.no,d,x,cs⟩)):=by
   refine⟨λ_ _ h _=>h,λa ha=>?_,λa ha=>?_⟩
   ·rcases VW ha with z|z
    ·exact nomatch z
    ·exact st.own a z
   ·rcases ZY ha with z|z
    ·exact .inl (hf a (ll9 _ z))
    ·exact st.frz a z
  exact⟨x,rr,rfl,qwe (is:=is) (kzm (x:=⟨.no,d,x,cs⟩) (s:=(.no,d)) m rfl rfl) w1.set h2 (λb cg ho=>by
   rcases VW ho with z|z
   ·exact nomatch z
   ·exact hb b (lr9 _ cg) z) (λb cg=>hf b (lr9 _ cg)) s1 (p.set (hi i X5)) e (λj hj=>hi j (lc9 _ hj)) k⟩
theorem kjg:∀{is:List Nat} {ds:List D} {E E':En},setAll is ds E=some E'->is.length=ds.length
 |[],[],_,_,_=>rfl|[],_::_,_,_,e=>by cases e|_::_,[],_,_,e=>by cases e|i::is,d::ds,E,E',e=>by rw[Xk,Xk,kjg (E:=E.set i (some (.no,d))) e]
def wx3(K:Frag)(n:Nat)(t:TGs):TG:=λv σ H Q=>∃a xs,v=.ref a/\(SqT K H a xs\/SqL K H a xs)/\xs.length=n/\t xs σ H Q
section
variable {prog:Program}{w:PySem.World}{A:Around}{E':VP9}
theorem kvk{it t:Addr}{items:Array Value}(dl:t≠it):∀(n i:Nat) (s:Shared) (Q:List Value->Shared->Prop),s.heap.IsListIter it t i->s.heap.IsList t items->i+n<=items.size ->
  (∀h',h'.IsListIter it t (i+n)->Heap.SameBut it s.heap h'->Q ((items.toList.drop i).take n) { s with heap:=h' })->wpAny (model prog w) A (draw (.ref it) n) Q E' s
 | 0,i,s,Q,fh,_,_,hQ=>by
  show wpAny _ _ (pure []) Q E' s;exact X4 (by simpa using hQ s.heap fh (Heap.SameBut.refl ..))
 | n+1,i,s,Q,fh,ht,db,hQ=>by
  have b7:i<items.size:=by omega
  show wpAny _ _ (pyNext (.ref it) >>= _) Q E' s;refine X0 (wpAny_pyNext_list_item fh ht (x:=items[i]) (by simp[b7]) λh₁ m8 qd=>?_);have ht₁:h₁.IsList t items:=by
   obtain⟨o,ho,r⟩:=ht;exact⟨o,(qd.2 t dl).trans ho,r⟩
  refine X0 (Y9 (kvk dl n (i+1) _ _ m8 ht₁ (by omega) λh₂ hit₂ hs₂=>X4 ?_));have hd:items.toList.drop i=items[i]::items.toList.drop (i+1):=by simp[Z7,b7]
  have:=hQ h₂ (by rw[show i+(n+1)=i+1+n by omega];exact hit₂) (qd.trans hs₂);rw[hd,List.take_succ_cons]at this;exact this
theorem jxl{s:Shared}{t:Addr}{items:Array Value}{Q:List Value->Shared->Prop}(hh:A.handled=none)(ht:s.heap.IsList t items)
  (hQ:∀h',Heap.ExtBut s.heap.objs.size s.heap h'->Q items.toList { s with heap:=h' }):wpAny (model prog w) A (unpackItems (.ref t) items.size none) Q E' s:=by
 have b7:t≠s.heap.objs.size:=by obtain⟨o,ho,_⟩:=ht;exact Xl (Xd ho)
 unfold unpackItems;refine X0 ?_;unfold notIterableAtAll;refine X0 (Z5 ht.typeIs slot_list_iter.lookup ?_);refine X4 ?_;simp only[Bool.false_eq_true,if_false];refine X0 (Y9 (wpAny_pyIter_list ht ?_));have ht0:∀o:Obj,(s.heap.push o).IsList t items:=λo=>by
  obtain⟨ob,ho,r⟩:=ht;exact⟨ob,X3 _ ho,r⟩
 refine X0 (Y9 (kvk b7 items.size 0 _ _ ⟨_,Xg _ rfl,rfl,rfl⟩ (ht0 _) (by omega) λh₁ m8 qd=>?_));have i3:List.take items.size (List.drop 0 items.toList)=items.toList:=by
  rw[List.drop_zero];exact Zh (by simp)
 rw[i3];rw[X8 (by simp)];have ht₁:h₁.IsList t items:=by
  obtain⟨o,ho,r⟩:=ht0 _;exact⟨o,(qd.2 t b7).trans ho,r⟩
 refine X0 (Y9 (wpAny_pyNext_list_end hh m8 ht₁ (by simp) λh₂ he₂=>?_));simp only[Option.isSome_none,Bool.false_eq_true,if_false];exact X4 (hQ h₂ λb o hb e=>he₂ b o hb (qd.extBut b o hb (X3 _ e)))
theorem jxc{s:Shared}{env:Env}{f7:List Expr}{x1}{pos:Pos}{t:Addr}{items:Array Value}{Q:Unit->Shared->Prop}(hh:A.handled=none)(ht:s.heap.IsList t items)
  (hn:(assignEach f7 env).length=items.size) (ow:(assignEach f7 env).findIdx? (·.1)=none)
  (h:∀h',Heap.ExtBut s.heap.objs.size s.heap h'->wpAny (model prog w) A (assignInOrder ((assignEach f7 env).map (·.2)) items.toList) Q E' { s with heap:=h' }):
  wpAny (model prog w) A (assign (.Tuple f7 x1 pos) env (.ref t)) Q E' s:=by
 rw[assign_Tuple];refine X0 (wpAny_standAt ?_);unfold unpack;rw[hn,ow];exact X0 (Y9 (jxl hh ht h))
end
theorem Jq(K:Frag){es:List Expr}{k:Nat}{t:TGs}{n:Nat}{pos:Pos}(h:PGs X es t)(hc:autoParam (X.calm=true) Ŕ)(hK:autoParam (X.K=K) Ŕ)
  (hn:autoParam ((assignEach es X.env).length=n) Ŕ) (ba:autoParam ((assignEach es X.env).findIdx? (·.1)=none) Ŕ):PG X (.Tuple es k pos) (wx3 K n t):=by
 subst hK;intro pins s σ H v u Q I r hw;obtain⟨a,xs,e1,hq,hl,hw⟩:=hw;subst e1;cases r;rcases hq with hq|hq
 ·obtain⟨a8,rv,ht,hz⟩:=I.tuple hq;refine assign_Tuple_tuple (I.ok.hd hc) ht (by simp[hn,<-hl,rv.length]) ba λh' hx=>?_
  have I1:L2.Inv X pins σ H { s with heap:=h' }:=I.kept (t':=s.toks) λb o e=>hx b o (Xl (Xd e)) e
  exact h pins _ σ H xs _ Q I1 (by simpa using rv) hw
 ·obtain⟨a8,rv,ht,hz⟩:=I.list hq;refine jxc (I.ok.hd hc) ht.isList (by simp[hn,<-hl,rv.length]) ba λh' hx=>?_
  have I1:L2.Inv X pins σ H { s with heap:=h' }:=I.kept (t':=s.toks) λb o e=>hx b o (Xl (Xd e)) e
  exact h pins _ σ H xs _ Q I1 (by simpa using rv) hw
theorem JY{is:List Nat}(h:PG X e (wx3 Z.K is.length (gNs is)))(hp:autoParam (∀i∈is,i∉pn) ŕ):QG X Z pn (.t is) e:=vk7 h λv σ H Q ⟨E,L,z,E',m,w,ho,hv,bc,k⟩=>by
 have fin:∀ds:List D,(z.d=.lst ds\/z.d=.tup ds)->setAll is ds E=some E'->wx3 Z.K is.length (gNs is) v σ H Q:=λds hd bc=>by
  obtain⟨a,xs,bs,e1,q1,r,h1,h2⟩:=items w.head hd;rw[ho]at r;refine⟨a,xs,hv.symm.trans e1,?_,by rw[kjg bc,r.len],qwe (M:=some z::L) m w.tail r (λb hb=>w.apart b (h1 b hb)) (λb hb=>?_) Step.drop Pn.refl bc hp k⟩
  ·rcases q1 with⟨_,z'⟩|⟨_,z'⟩
   ·exact .inr z'.sq
   ·exact .inl z'
  ·rw[qJ,ZV ho];exact ll9 _ (h1 b hb)
 cases hd:z.d with|tup ds=>rw[hd]at bc;exact fin ds (.inr hd) bc|lst ds=>rw[hd]at bc;exact fin ds (.inl hd) bc|_=>rw[hd]at bc;cases bc
end
section
variable {X:Cx}{Z:Fx0}{pn:List Nat}{q:Bool}{tg aj:Expr}{it:Ev (List D)}{t:Tg}{B:Sm}{ss:List Stmt}{pos:Pos}{σ:L2.St}{H:Hp}{L:Ls}{E:En}
theorem kjm{K:Frag}{T:List Sl}{H1 H2:Hp}{L1:Ls}{z:Sl}(w:World K H1 (L1++T.map some))(hT:∀t∈T,t.o=.no)(sm:jK H1 H2)(ok:z.ok K H2)(ho:z.o=.no)(hz:∀b∈z.as,∃t∈T,b∈t.as):
  World K H2 ((some z::L1)++T.map some)/\Step H1 (L1++T.map some) H2 ((some z::L1)++T.map some):=by
 have w2:World K H2 (L1++T.map some):=⟨λx hx=>RepO.kp (w.ok x hx) (Kp.of_same sm),w.nd,w.ds⟩;have hf:∀b∈z.as,b∈jx (L1++T.map some):=λb hb=>by
  obtain⟨t,ht,hbt⟩:=hz b hb;rw[k3];exact lr9 _ (mem_frozen.mpr ⟨t,Xs ht,by rw[ZV (hT t ht)];exact hbt⟩)
 refine⟨w2.consNo ok ho λb hb hL=>w2.ds b hL (hf b hb),λa ob h _=>sm a ob h,λa ha=>?_,λa ha=>?_⟩
 ·rw[List.cons_append,jY,qqz ho]at ha;exact .inl ha
 ·rw[List.cons_append,qJ,ZV ho]at ha;rcases aA ha with q|q
  ·exact .inl (hf a q)
  ·exact .inl q
theorem stay{K:Frag}{T L1 L2:Ls}{H1 H2:Hp}(w:World K H1 (L1++T))(s:Step H1 L1 H2 L2)(w2:World K H2 L2):World K H2 (L2++T)/\Step H1 (L1++T) H2 (L2++T):=⟨s.frame w w2 w.left,s.frm⟩
theorem Step.dropT{T:Ls}{H1:Hp}{L1:Ls}:Step H1 (L1++T) H1 L1:=⟨λ_ _ h _=>h,λa ha=>.inl (by rw[jw];exact ll9 _ ha),λa ha=>.inl (by rw[k3];exact ll9 _ ha)⟩
theorem Kp.trans{H H1 H2:Hp}{as:List Addr}(a:Kp H H1 as)(b:Kp H1 H2 as):Kp H H2 as:=⟨λc xs e=>b.1 c xs (a.1 c xs e),λc o u e=>b.2.1 c o u (a.2.1 c o u e),λc hc ob e=>b.2.2 c hc ob (a.2.2 c hc ob e)⟩
theorem kzd{K:Frag}{H2 H3:Hp}{L2 L3:Ls}{T:List Sl}(w:World K H2 (L2++T.map some))(hT:∀t∈T,t.o=.no)(s:Step H2 L2 H3 L3){H0:Hp}(h:∀t∈T,Kp H0 H2 t.as):∀t∈T,Kp H0 H3 t.as:=λt ht=>
 (h t ht).trans (s.kp w.left λb hb z=>w.ds b (by rw[jw];exact ll9 _ z) (by
  rw[k3];exact lr9 _ (mem_frozen.mpr ⟨t,Xs ht,by rw[ZV (hT t ht)];exact hb⟩)))
theorem wj8(hp:PassesOwn (model X.prog X.w) X.A X.env X.xe)(hc:X.calm=true)(hi:QID X Z q tg it aj)(hg:QG X Z pn t tg)(hb:QSs X Z pn B ss)(hs:autoParam (∀x,foldedSetIterable aj X.env x=pure x) Ŗ):QS X Z pn (v6 it t B) (.For tg aj ss [] pos):=JQ (wjl hp hc hi hg hb hs) λD σ H ak=>ex7 ak λE L r m w hr k=>by
 have hr:ofE (it E) (λE ds=>J5 t B ds E)=some r:=hr;rcases jwh hr with⟨E1,ds,h1,h2⟩|⟨E1,c,h1,rfl⟩
 rotate_left
 ·exact⟨E,L,_,m,w,h1,k.xc,λE' s' z=>by cases z⟩
 refine⟨E,L,_,m,w,h1,(λ_ _ z=>by cases z),λE' ds' z J T L' H' m' w' st hz _ wk=>?_⟩;injection z with z1 z2;subst z1 z2;have okT:∀{H2:Hp} {L2:Ls},World Z.K H2 (L2++T.map some)->∀t∈T,t.ok Z.K H2:=λw2 t ht=>w2.ok t (lr9 _ (Xs ht))
 refine⟨λi n σ1 H1=>∃E1 L1,Mt E1 σ1 L1/\World Z.K H1 (L1++T.map some)/\Step H L H1 (L1++T.map some)/\Pn pn σ σ1/\J5 t B (ds.drop i) E1=some r/\i<=ds.length/\n=ds.length - i/\∀t∈T,Kp H' H1 t.as,⟨_,E1,L',m',w',st,Pn.refl,h2,Yd _,rfl,λ_ _=>Kp.of_same wZ⟩,?_⟩;rintro i n σ1 H1 ⟨E1,L1,m1,w1,nq,p1,f1,hi,rfl,pins⟩
 by_cases b7:i<ds.length
 ·have hd:ds.drop i=ds[i]::ds.drop (i+1):=Z7 b7;rw [hd]at f1;unfold J5 at f1;cases bc:t.put ds[i] E1 with
  | none=>rw[bc]at f1;cases f1
  | some E2=>
   rw[bc]at f1;dsimp only at f1;refine .inr ⟨wk.go i H1 ⟨okT w1,pins⟩ b7,fun σ2 H2=>∃E2 L2,Mt E2 σ2 L2/\World Z.K H2 (L2++T.map some)/\Step H L H2 (L2++T.map some)/\Pn pn σ σ2/\J5 t B (ds.drop (i+1)) E2=some r/\∀t∈T,Kp H' H2 t.as,fun σ2 H2 ⟨E2,L2,a1,a2,a3,a4,a5,a6⟩=>⟨ds.length - (i+1),by omega,E2,L2,a1,a2,a3,a4,a5,b7,rfl,a6⟩,λv H2 hy=>?_⟩;obtain⟨z,zo,zd,zv,sm,qh,zas⟩:=wk.yld i H1 v H2 ds[i] ⟨okT w1,pins⟩ hy (X2 b7);obtain⟨wz,sz⟩:=kjm w1 wk.no sm qh zo zas;refine⟨E1,L1,z,E2,m1,wz.left,zo,zv,by rw[zd];exact bc,fun σ2 L2 p2 m2 w2 b9=>?_⟩;obtain⟨w3,c8⟩:=stay wz b9 w2;have fu:Step H L H2 (L2++T.map some):=nq.trans (sz.trans c8);have l0:∀t∈T,Kp H' H2 t.as:=λt ht=>(pins t ht).trans (Kp.of_same sm)
   cases hB:B E2 with
   | none=>rw[hB]at f1;cases f1
   | some g=>
    rw[hB]at f1;refine⟨E2,L2,g,m2,w2,hB,?_⟩;have fin:∀{g:Fl},g=r->(∀ σ',D.nx σ'=D.nx σ')->FlP Z pn D σ2 H2 (L2++T.map some) g:=λe _=>e▸k.step fu (p1.trans p2)
    cases g with
    |nx E3=>
     intro σ3 L3 H3 p3 m3 w4 s3;obtain⟨w5,s5⟩:=stay w3 s3 w4;exact⟨E3,L3,m3,w5,fu.trans s5,(p1.trans p2).trans p3,f1,kzd w3 wk.no s3 l0⟩
    |ct E3=>
     intro σ3 L3 H3 p3 m3 w4 s3;obtain⟨w5,s5⟩:=stay w3 s3 w4;exact⟨E3,L3,m3,w5,fu.trans s5,(p1.trans p2).trans p3,f1,kzd w3 wk.no s3 l0⟩
    |bk E3=>
     have e:=oq9 f1;subst e;intro σ3 L3 H3 p3 m3 w4 s3;exact k σ3 L3 H3 ((p1.trans p2).trans p3) m3 w4 ((fu.trans Step.dropT).trans s3)
    |rt E3 x=>
     have e:=oq9 f1;subst e;intro y σ3 L3 H3 e1 e2 p3 m3 w4 s3;exact k y σ3 L3 H3 e1 e2 ((p1.trans p2).trans p3) m3 w4 ((fu.trans Step.dropT).trans s3)
    |xc E3 c=>
     have e:=oq9 f1;subst e;intro C σ3 L3 H3 hm p3 m3 w4 s3;exact k C σ3 L3 H3 hm ((p1.trans p2).trans p3) m3 w4 ((fu.trans Step.dropT).trans s3)
 ·have e:i=ds.length:=by omega
  subst e;rw[List.drop_length]at f1;cases oq9 f1;exact .inl ⟨wk.stop H1 ⟨okT w1,pins⟩,k σ1 L1 H1 p1 m1 w1.left (nq.trans Step.dropT)⟩
theorem ww7(hp:PassesOwn (model X.prog X.w) X.A X.env X.xe)(hc:X.calm=true)(hi:QI X Z q tg it aj)(hg:QG X Z pn t tg)(hb:QSs X Z pn B ss)(hs:autoParam (∀x,foldedSetIterable aj X.env x=pure x) Ŗ):QS X Z pn (v6 it t B) (.For tg aj ss [] pos):=wj8 hp hc hi.D hg hb hs
end
mutual
noncomputable def j9(h:Heap):D->Value->Prop
 |.non,u=>u=.none|.bl b,u=>u=.bool b|.int i,u=>∃t,u=.int i t|.str z,u=>∃t,u=.str z t|.tup ds,u=>∃a us,u=.ref a/\h.IsTuple a us.toArray/\CReps h ds us|.lst ds,u=>∃a us,u=.ref a/\h.IsList a us.toArray/\CReps h ds us|.dct _,_=>False|.obj _ _,_=>False
noncomputable def CReps(h:Heap):List D->List Value->Prop
 |[],us=>us=[]|d::ds,us=>∃u r,us=u::r/\j9 h d u/\CReps h ds r
end
theorem qj2{n:Nat}{k:List (D×D)}:D.flat n (.dct k)=false:=by cases n<;>simp[D.flat]
theorem qj1{n:Nat}{c:Str}{k:List (Str×D)}:D.flat n (.obj c k)=false:=by cases n<;>simp[D.flat]
section
variable {X:Cx}{pins:LA9}{σ:L2.St}{H:Hp}{s:Shared}
mutual
theorem Jz(I:Inv X pins σ H s){g:Bool}:∀{n:Nat} {d:D} {v:V} {as:List Addr} {u:Value},RepL X.K H g d v as->d.flat n=true->RelV v u->j9 s.heap d u
 | _,.non,_,_,_,h,_,r=>by
  unfold RepL at h;rw[h.1]at r;unfold j9;exact r
 | _,.bl _,_,_,_,h,_,r=>by
  unfold RepL at h;rw[h.1]at r;unfold j9;exact r
 | _,.int _,_,_,_,h,_,r=>by
  unfold RepL at h;rw[h.1]at r;unfold j9;exact r
 | _,.str _,_,_,_,h,_,r=>by
  unfold RepL at h;rw[h.1]at r;unfold j9;exact r
 | 0,.tup ds,_,_,_,h,f,r=>by unfold D.flat at f;cases f
 | n+1,.tup ds,_,_,_,h,f,r=>by
  unfold RepL at h;unfold D.flat at f;obtain⟨a,xs,rfl,q,ra⟩:=h;cases r;obtain⟨a8,rv,p,_⟩:=I.tuple q;unfold j9;exact⟨a,a8,rfl,p,creps_of I ra f rv⟩
 | 0,.lst ds,_,_,_,h,f,r=>by unfold D.flat at f;cases f
 | n+1,.lst ds,_,_,_,h,f,r=>by
  unfold RepL at h;unfold D.flat at f;obtain⟨a,xs,bs,rfl,ra,q⟩:=h;cases r;have q':SqL X.K H a xs:=by
   rcases q with⟨q,_⟩|⟨_,q,_⟩
   ·exact SqL.of q
   ·exact(LsR.of q).sq
  obtain⟨a8,rv,p,_⟩:=I.list q';unfold j9;exact⟨a,a8,rfl,p.isList,creps_of I ra f rv⟩
 |_,.dct _,_,_,_,h,f,r=>by rw[qj2]at f;cases f|_,.obj _ _,_,_,_,h,f,r=>by rw[qj1]at f;cases f
theorem creps_of(I:Inv X pins σ H s){g:Bool}:∀{n:Nat} {ds:List D} {xs:List V} {as:List Addr} {us:List Value},RepA X.K H g ds xs as->D.flats n ds=true->Vals xs us->CReps s.heap ds us
 | _,[],_,_,_,h,_,r=>by
  unfold RepA at h;rw[h.1]at r;cases r;unfold CReps;rfl
 | n,d::ds,_,_,_,h,f,r=>by
  unfold RepA at h;unfold D.flats at f;rw[Bool.and_eq_true]at f;obtain⟨x,rr,bs,cs,rfl,rfl,h1,h2⟩:=h;cases r with
  |cons r1 r2=>
   unfold CReps;exact⟨_,_,rfl,Jz I h1 f.1 r1,creps_of I h2 f.2 r2⟩
end
end
theorem CReps.len{h:Heap}:∀{ds:List D} {us:List Value},CReps h ds us->ds.length=us.length
 |[],_,r=>by unfold CReps at r;rw[r];rfl
 |d::ds,_,r=>by
  unfold CReps at r;obtain⟨u,rr,rfl,_,h2⟩:=r;simp[CReps.len h2]
theorem CReps.get{h:Heap}:∀{ds:List D} {us:List Value} {j:Nat} {d:D},CReps h ds us->ds[j]?=some d->∃u,us[j]?=some u/\j9 h d u
 | [],_,_,_,_,e=>by simp at e
 | d::ds,_,j,d',r,e=>by
  unfold CReps at r;obtain⟨u,rr,rfl,h1,h2⟩:=r;cases j with
  |zero=>
   have e:d=d':=by simpa using e
   subst e;exact⟨u,by simp,h1⟩
  |succ j=>
   obtain⟨w,e1,e2⟩:=CReps.get (j:=j) h2 (by simpa using e);exact⟨w,by simpa using e1,e2⟩
theorem vqd{h:Heap}{a:Addr}{x y:Array Value}(p:h.IsTuple a x)(q:h.IsTuple a y):x=y:=by
 obtain⟨o,h1,_,n,h2⟩:=p;obtain⟨o',h3,_,n',h4⟩:=q;rw[h1]at h3;cases h3;rw[h2]at h4;injection h4
theorem vw3{h:Heap}{a:Addr}{x y:Array Value}(p:h.IsList a x)(q:h.IsList a y):x=y:=by
 obtain⟨o,h1,_,n,h2⟩:=p;obtain⟨o',h3,_,n',h4⟩:=q;rw[h1]at h3;cases h3;rw[h2]at h4;injection h4
theorem qvi{h:Heap}{a:Addr}{x y:Array Value}(p:h.IsList a x)(q:h.IsTuple a y):False:=by
 obtain⟨o,h1,h2,_⟩:=p;obtain⟨o',h3,h4,_⟩:=q;rw[h1]at h3;cases h3;rw[h2]at h4;exact absurd (Value.type.inj h4) ⋯
inductive Cv (h:Heap):D->Value->Prop
 |non:Cv h .non .none
 |bl (b:Bool):Cv h (.bl b) (.bool b)
 |int (i:Int) (t:_):Cv h (.int i) (.int i t)
 |str (z:Str) (t:_):Cv h (.str z) (.str z t)
 |lst {ds:List D} {a:Addr} {us:List Value} (p:h.IsList a us.toArray) (q:CReps h ds us):Cv h (.lst ds) (.ref a)
 |tup {ds:List D} {a:Addr} {us:List Value} (p:h.IsTuple a us.toArray) (q:CReps h ds us):Cv h (.tup ds) (.ref a)
theorem crv{h:Heap}{d:D}{u:Value}(r:j9 h d u):Cv h d u:=by
 cases d<;>unfold j9 at r
 all_goals first|exact r.elim|(subst r;constructor)|(obtain⟨_,rfl⟩:=r;constructor)|(obtain⟨_,_,rfl,p,q⟩:=r;first|exact .lst p q|exact .tup p q)
mutual
theorem jxz{h:Heap}{d d':D}{u:Value}(a:j9 h d u)(b:j9 h d' u):d=d':=by
 cases d<;>cases crv a<;>cases crv b<;>try rfl
 ·exact(qvi ‹_› ‹_›).elim
 ·rename_i p r _ _ r' p';cases Array.mk.inj (vqd p p');rw[creps_inj r r']
 ·rename_i p r _ _ r' p';cases Array.mk.inj (vw3 p p');rw[creps_inj r r']
 ·exact(qvi ‹_› ‹_›).elim
theorem creps_inj{h:Heap}:∀{ds ds':List D} {us:List Value},CReps h ds us->CReps h ds' us->ds=ds'
 | [],ds',us,a,b=>by
  unfold CReps at a;subst a;cases ds' with|nil=>rfl|cons d ds=>unfold CReps at b;obtain⟨_,_,e,_⟩:=b;cases e
 | d::ds,ds',us,a,b=>by
  unfold CReps at a;obtain⟨u,r,rfl,h1,h2⟩:=a;cases ds' with
  |nil=>unfold CReps at b;cases b
  |cons d' ds'=>
   unfold CReps at b;obtain⟨u',r',e,h3,h4⟩:=b;cases e;rw[jxz h1 h3,creps_inj h2 h4]
end
mutual
theorem VY:∀{n:Nat} {d:D},d.flat n=true->peq d d=true
 |_,.non,_=>by unfold peq;rfl|_,.bl b,_=>by unfold peq;simp|_,.int b,_=>by unfold peq;simp|_,.str b,_=>by unfold peq;simp|0,.tup ds,f=>by unfold D.flat at f;cases f|n+1,.tup ds,f=>by unfold peq;unfold D.flat at f;exact peqs_refl f|0,.lst ds,f=>by unfold D.flat at f;cases f|n+1,.lst ds,f=>by unfold peq;unfold D.flat at f;exact peqs_refl f|_,.dct _,f=>by rw[qj2]at f;cases f|_,.obj _ _,f=>by rw[qj1]at f;cases f
theorem peqs_refl:∀{n:Nat} {d:List D},D.flats n d=true->peqs d d=true
 |_,[],_=>by unfold peqs;rfl
 |n,d::ds,f=>by
  unfold D.flats at f;rw[Bool.and_eq_true]at f;unfold peqs;rw[VY f.1,peqs_refl f.2];rfl
end
theorem jwm : ∀{n : Nat} {ds : List D} {j : Nat} {d : D}, D.flats n ds = true -> ds[j]? = some d -> d.flat n = true
  | _, [], _, _, _, e=>by simp at e
  | n, d::ds, j, d', f, e=>by
    unfold D.flats at f;rw[Bool.and_eq_true]at f;cases j with
    | zero => have e : d = d':= by simpa using e
              subst e; exact f.1
    |succ j=>exact jwm (j:= j) f.2 (by simpa using e)
def pAt(as bs:List D)(j:Nat):Bool:=match as[j]?,bs[j]? with
 |some a,some b=>peq a b|_,_=>true
theorem jvo:∀(as bs:List D),as.length=bs.length->(List.range as.length).all (pAt as bs)=peqs as bs
 |[],[],_=>by unfold peqs;rfl
 |a::as,b::bs,h=>by
  have ih:=jvo as bs (by simpa using h);rw[Xk,List.range_succ_eq_map,List.all_cons,List.all_map];unfold peqs;rw[<-ih];rfl
 |[],_::_,h=>by simp at h|_::_,[],h=>by simp at h
theorem jxv:∀(as bs:List D),as.length≠bs.length->peqs as bs=false
 |[],[],h=>by simp at h
 |a::as,b::bs,h=>by
  unfold peqs;rw[jxv as bs (by simpa using h),Bool.and_false]
 |[],_::_,_=>by unfold peqs;rfl|_::_,[],_=>by unfold peqs;rfl
theorem kxs(as bs:List D):((List.range (min as.length bs.length)).all (pAt as bs)&&as.length==bs.length)=peqs as bs:=by
 by_cases e:as.length=bs.length
 ·rw[<-e,Nat.min_self,jvo as bs e];simp[e]
 ·rw[jxv as bs e];have:(as.length==bs.length)=false:=by simpa using e
  rw[this,Bool.and_false]
section
variable {s:Shared}
theorem kwo{as bs:List D}{us ws:List Value}{A:Around}(ra:CReps s.heap as us)(rb:CReps s.heap bs ws)
  (h:∀(j:Nat) (d d':D) (u w:Value),as[j]?=some d->bs[j]?=some d'->j9 s.heap d u->j9 s.heap d' w->SeqAt.EqAt A s u w (peq d d')):
  ∀j (h1:j<us.toArray.size) (h2:j<ws.toArray.size),SeqAt.EqAt A s us.toArray[j] ws.toArray[j] (pAt as bs j):=λj h1 h2=>by
 have l1:=ra.len;have l2:=rb.len;simp only[X9]at h1 h2;have ha:j<as.length:=⋯
 have hb:j<bs.length:=⋯
 obtain⟨u,eu,ru⟩:=ra.get (X2 ha);obtain⟨w,ew,ic⟩:=rb.get (X2 hb);have e1:us.toArray[j]=u:=by
  obtain⟨_,q⟩:=List.getElem?_eq_some_iff.mp eu
  simpa using q
 have e2:ws.toArray[j]=w:=by
  obtain⟨_,q⟩:=List.getElem?_eq_some_iff.mp ew
  simpa using q
 have e3:pAt as bs j=peq as[j] bs[j]:=by
  unfold pAt;rw[X2 ha,X2 hb]
 rw[e1,e2,e3];exact h j _ _ u w (X2 ha) (X2 hb) ru ic
theorem vzq{A:Around}{d d':D}{u w:Value}(hu:A.units<cLine)(r:j9 s.heap d u)(r':j9 s.heap d' w)
  (el:∀(as bs:List D) (us ws:List Value),(d=.lst as\/d=.tup as)->(d'=.lst bs\/d'=.tup bs)->CReps s.heap as us->CReps s.heap bs ws->∀j (h1:j<us.toArray.size) (h2:j<ws.toArray.size),SeqAt.EqAt A.in1 s us.toArray[j] ws.toArray[j] (pAt as bs j)):
  SeqAt.RcAt A s u w (peq d d'):=by
 cases crv r<;>cases crv r'<;>unfold peq
 ·exact SeqAt.RcAt.none_none
 ·exact SeqAt.RcAt.none_bool _
 ·exact SeqAt.RcAt.none_int _ _
 ·exact SeqAt.RcAt.none_str _ _
 ·exact SeqAt.RcAt.none_list ‹_› hu
 ·exact SeqAt.RcAt.none_tuple ‹_› hu
 ·exact SeqAt.RcAt.bool_none _
 ·exact SeqAt.RcAt.bool_bool _ _
 ·exact SeqAt.RcAt.bool_int _ _ _
 ·exact SeqAt.RcAt.bool_str _ _ _
 ·exact SeqAt.RcAt.bool_list _ ‹_› hu
 ·exact SeqAt.RcAt.bool_tuple _ ‹_› hu
 ·exact SeqAt.RcAt.int_none _ _
 ·exact SeqAt.RcAt.int_bool _ _ _
 ·exact SeqAt.RcAt.int_int _ _ _ _
 ·exact SeqAt.RcAt.int_str _ _ _ _
 ·exact SeqAt.RcAt.int_list _ _ ‹_› hu
 ·exact SeqAt.RcAt.int_tuple _ _ ‹_› hu
 ·exact SeqAt.RcAt.str_none _ _
 ·exact SeqAt.RcAt.str_bool _ _ _
 ·exact SeqAt.RcAt.str_int _ _ _ _
 ·exact SeqAt.RcAt.str_str _ _ _ _
 ·exact SeqAt.RcAt.str_list _ _ ‹_› hu
 ·exact SeqAt.RcAt.str_tuple _ _ ‹_› hu
 ·exact SeqAt.RcAt.list_none ‹_› hu
 ·exact SeqAt.RcAt.list_bool _ ‹_› hu
 ·exact SeqAt.RcAt.list_int _ _ ‹_› hu
 ·exact SeqAt.RcAt.list_str _ _ ‹_› hu
 ·rename_i as a us p ra bs b ws p' rb;have l1:=ra.len;have l2:=rb.len
  by_cases hl:as.length=bs.length
  ·rw[<-jvo as bs hl];have z:=SeqAt.RcAt.lists (A:=A) (s:=s) (e:=pAt as bs) p p' (by simp only[X9];lia) hu (el as bs us ws (.inl rfl) (.inl rfl) ra rb);rw[X9,<-l1]at z;exact z
  ·rw[jxv as bs hl];exact SeqAt.RcAt.lists_lengths p p' (by simp only[X9,bne_iff_ne];lia) hu
 ·exact SeqAt.RcAt.list_tuple ‹_› ‹_› hu
 ·exact SeqAt.RcAt.tuple_none ‹_› hu
 ·exact SeqAt.RcAt.tuple_bool _ ‹_› hu
 ·exact SeqAt.RcAt.tuple_int _ _ ‹_› hu
 ·exact SeqAt.RcAt.tuple_str _ _ ‹_› hu
 ·exact SeqAt.RcAt.tuple_list ‹_› ‹_› hu
 ·rename_i as a us p ra bs b ws p' rb;have l1:=ra.len;have l2:=rb.len;rw[<-kxs as bs];have z:=SeqAt.RcAt.tuples (A:=A) (s:=s) (e:=pAt as bs) p p' hu (el as bs us ws (.inr rfl) (.inr rfl) ra rb);rw[X9,X9,<-l1,<-l2]at z;exact z
theorem wvv{A:Around}{d d':D}{u w:Value}(hu:A.units<cLine)(r:j9 s.heap d u)(r':j9 s.heap d' w)
  (el:∀(as bs:List D) (us ws:List Value),(d=.lst as\/d=.tup as)->(d'=.lst bs\/d'=.tup bs)->CReps s.heap as us->CReps s.heap bs ws->∀j (h1:j<us.toArray.size) (h2:j<ws.toArray.size),SeqAt.EqAt A.in1 s us.toArray[j] ws.toArray[j] (pAt as bs j)):
  SeqAt.RcNeAt A s u w (!peq d d'):=by
 cases crv r<;>cases crv r'<;>unfold peq
 ·exact SeqAt.RcNeAt.none_none
 ·exact SeqAt.RcNeAt.none_bool _
 ·exact SeqAt.RcNeAt.none_int _ _
 ·exact SeqAt.RcNeAt.none_str _ _
 ·exact SeqAt.RcNeAt.none_list ‹_› hu
 ·exact SeqAt.RcNeAt.none_tuple ‹_› hu
 ·exact SeqAt.RcNeAt.bool_none _
 ·exact SeqAt.RcNeAt.bool_bool _ _
 ·exact SeqAt.RcNeAt.bool_int _ _ _
 ·exact SeqAt.RcNeAt.bool_str _ _ _
 ·exact SeqAt.RcNeAt.bool_list _ ‹_› hu
 ·exact SeqAt.RcNeAt.bool_tuple _ ‹_› hu
 ·exact SeqAt.RcNeAt.int_none _ _
 ·exact SeqAt.RcNeAt.int_bool _ _ _
 ·exact SeqAt.RcNeAt.int_int _ _ _ _
 ·exact SeqAt.RcNeAt.int_str _ _ _ _
 ·exact SeqAt.RcNeAt.int_list _ _ ‹_› hu
 ·exact SeqAt.RcNeAt.int_tuple _ _ ‹_› hu
 ·exact SeqAt.RcNeAt.str_none _ _
 ·exact SeqAt.RcNeAt.str_bool _ _ _
 ·exact SeqAt.RcNeAt.str_int _ _ _ _
 ·exact SeqAt.RcNeAt.str_str _ _ _ _
 ·exact SeqAt.RcNeAt.str_list _ _ ‹_› hu
 ·exact SeqAt.RcNeAt.str_tuple _ _ ‹_› hu
 ·exact SeqAt.RcNeAt.list_none ‹_› hu
 ·exact SeqAt.RcNeAt.list_bool _ ‹_› hu
 ·exact SeqAt.RcNeAt.list_int _ _ ‹_› hu
 ·exact SeqAt.RcNeAt.list_str _ _ ‹_› hu
 ·rename_i as a us p ra bs b ws p' rb;have l1:=ra.len;have l2:=rb.len
  by_cases hl:as.length=bs.length
  ·rw[<-jvo as bs hl];have z:=SeqAt.RcNeAt.lists (A:=A) (s:=s) (e:=pAt as bs) p p' (by simp only[X9];lia) hu (el as bs us ws (.inl rfl) (.inl rfl) ra rb);rw[X9,<-l1]at z;exact z
  ·rw[jxv as bs hl];exact SeqAt.RcNeAt.lists_lengths p p' (by simp only[X9,bne_iff_ne];lia) hu
 ·exact SeqAt.RcNeAt.list_tuple ‹_› ‹_› hu
 ·exact SeqAt.RcNeAt.tuple_none ‹_› hu
 ·exact SeqAt.RcNeAt.tuple_bool _ ‹_› hu
 ·exact SeqAt.RcNeAt.tuple_int _ _ ‹_› hu
 ·exact SeqAt.RcNeAt.tuple_str _ _ ‹_› hu
 ·exact SeqAt.RcNeAt.tuple_list ‹_› ‹_› hu
 ·rename_i as a us p ra bs b ws p' rb;have l1:=ra.len;have l2:=rb.len;rw[<-kxs as bs];have z:=SeqAt.RcNeAt.tuples (A:=A) (s:=s) (e:=pAt as bs) p p' hu (el as bs us ws (.inr rfl) (.inr rfl) ra rb);rw[X9,X9,<-l1,<-l2]at z;exact z
theorem kq0{A:Around}{a a':Addr}{b:Bool}(jt:Value.ref a=Value.ref a'->b=true)(rc:SeqAt.RcAt A s (.ref a) (.ref a') b):SeqAt.EqAt A s (.ref a) (.ref a') b:=by
 by_cases e:a=a'
 ·subst e;rw[jt rfl];exact SeqAt.EqAt.same _
 ·exact SeqAt.EqAt.of_refs e rc
theorem wxa{A:Around}{d d':D}{u w:Value}(hu:A.units<cLine)(r:j9 s.heap d u)(r':j9 s.heap d' w)(jt:u=w->peq d d'=true)(rc:SeqAt.RcAt A s u w (peq d d')):SeqAt.EqAt A s u w (peq d d'):=by
 cases crv r<;>cases crv r'<;>try unfold peq
 ·exact SeqAt.EqAt.same _
 ·exact SeqAt.EqAt.none_bool _
 ·exact SeqAt.EqAt.none_int _ _
 ·exact SeqAt.EqAt.none_str _ _
 ·exact SeqAt.EqAt.none_list ‹_› hu
 ·exact SeqAt.EqAt.none_tuple ‹_› hu
 ·exact SeqAt.EqAt.bool_none _
 ·exact SeqAt.EqAt.bool_bool _ _
 ·exact SeqAt.EqAt.bool_int _ _ _
 ·exact SeqAt.EqAt.bool_str _ _ _
 ·exact SeqAt.EqAt.bool_list _ ‹_› hu
 ·exact SeqAt.EqAt.bool_tuple _ ‹_› hu
 ·exact SeqAt.EqAt.int_none _ _
 ·exact SeqAt.EqAt.int_bool _ _ _
 ·exact SeqAt.EqAt.int_int _ _ _ _
 ·exact SeqAt.EqAt.int_str _ _ _ _
 ·exact SeqAt.EqAt.int_list _ _ ‹_› hu
 ·exact SeqAt.EqAt.int_tuple _ _ ‹_› hu
 ·exact SeqAt.EqAt.str_none _ _
 ·exact SeqAt.EqAt.str_bool _ _ _
 ·exact SeqAt.EqAt.str_int _ _ _ _
 ·exact SeqAt.EqAt.str_str _ _ _ _
 ·exact SeqAt.EqAt.str_list _ _ ‹_› hu
 ·exact SeqAt.EqAt.str_tuple _ _ ‹_› hu
 ·exact SeqAt.EqAt.list_none ‹_› hu
 ·exact SeqAt.EqAt.list_bool _ ‹_› hu
 ·exact SeqAt.EqAt.list_int _ _ ‹_› hu
 ·exact SeqAt.EqAt.list_str _ _ ‹_› hu
 ·exact kq0 jt rc
 ·exact kq0 jt rc
 ·exact SeqAt.EqAt.tuple_none ‹_› hu
 ·exact SeqAt.EqAt.tuple_bool _ ‹_› hu
 ·exact SeqAt.EqAt.tuple_int _ _ ‹_› hu
 ·exact SeqAt.EqAt.tuple_str _ _ ‹_› hu
 ·exact kq0 jt rc
 ·exact kq0 jt rc
theorem Kz:∀(n:Nat) {d d':D} {u w:Value} {A:Around},d.flat n=true->j9 s.heap d u->j9 s.heap d' w->A.units+n<cLine->SeqAt.EqAt A s u w (peq d d')
 | n,d,d',u,w,A,f,r,r',hu=>by
  refine wxa ⋯ r r' (λe=>?_) (vzq ⋯ r r' λas bs us ws h1 h2 ra rb=>?_)
  rotate_left
  ·cases n with
   |zero=>rcases h1 with rfl|rfl<;>(unfold D.flat at f;cases f)
   |succ n=>
    have fs:D.flats n as=true:=by rcases h1 with rfl|rfl<;>(unfold D.flat at f;exact f)
    exact kwo ra rb λj d d' u w e1 e2 q1 q2=>Kz n (jwm fs e1) q1 q2 (by have:=L3.in1_units A;lia)
  ·subst e;rw[jxz r' r];exact VY f
end
section
variable {X:Cx}{Z:Fx0}{K:Frag}
def wz7(K:Frag):R2:=λx y H Q=>∃d d' as bs,RepL K H true d x as/\RepL K H true d' y bs/\d.flat 40=true/\d'.flat 40=true/\Q (.bl (peq d d')) H
def wz0(K:Frag):R2:=λx y H Q=>∃d d' as bs,RepL K H true d x as/\RepL K H true d' y bs/\d.flat 40=true/\d'.flat 40=true/\Q (.bl (!peq d d')) H
theorem W0(hu:X.A.units+64<cLine)(hK:autoParam (X.K=K) Ŕ):OpR X (compareOp .Eq) (wz7 K):=by
 subst hK;intro pins s σ H x y v u Q I rx ry h;obtain⟨d,d',as,bs,h1,h2,f1,f2,q⟩:=h;have c1:=Jz I h1 f1 rx;have c2:=Jz I h2 f2 ry;refine vzq ⋯ c1 c2 (λas bs us ws e1 e2 ra rb=>kwo ra rb λj d d' u w e3 e4 q1 q2=>?_) _ _ _ _ ⟨.bl _,H,I,rfl,q⟩;have fs:D.flats 39 as=true:=by rcases e1 with rfl|rfl<;>(unfold D.flat at f1;exact f1)
 exact Kz 39 (jwm fs e3) q1 q2 (by have:=L3.in1_units X.A;lia)
theorem wwk(hu:X.A.units+64<cLine)(hK:autoParam (X.K=K) Ŕ):OpR X (compareOp .NotEq) (wz0 K):=by
 subst hK;intro pins s σ H x y v u Q I rx ry h;obtain⟨d,d',as,bs,h1,h2,f1,f2,q⟩:=h;have c1:=Jz I h1 f1 rx;have c2:=Jz I h2 f2 ry;refine wvv ⋯ c1 c2 (λas bs us ws e1 e2 ra rb=>kwo ra rb λj d d' u w e3 e4 q1 q2=>?_) _ _ _ _ ⟨.bl _,H,I,rfl,q⟩;have fs:D.flats 39 as=true:=by rcases e1 with rfl|rfl<;>(unfold D.flat at f1;exact f1)
 exact Kz 39 (jwm fs e3) q1 q2 (by have:=L3.in1_units X.A;lia)
theorem W8:Ad2 K (wz7 K) (pu2 fEq):=by
 intro H x y s Q ox oy hf k;unfold pu2 fEq at hf;dsimp only at hf
 by_cases hc:(x.d.flat 40&&y.d.flat 40)=true
 ·rw[X6 hc]at hf;rw[Bool.and_eq_true]at hc;cases oq9 hf;exact⟨x.d,y.d,x.as,y.as,RepO.wk ox,RepO.wk oy,hc.1,hc.2,k ⟨.dp,.bl _,.bl _,[]⟩ H rfl rfl wJ⟩
 ·rw[X8 hc]at hf;cases hf
theorem wxr:Ad2 K (wz0 K) (pu2 fNe):=by
 intro H x y s Q ox oy hf k;unfold pu2 fNe at hf;dsimp only at hf
 by_cases hc:(x.d.flat 40&&y.d.flat 40)=true
 ·rw[X6 hc]at hf;rw[Bool.and_eq_true]at hc;cases oq9 hf;exact⟨x.d,y.d,x.as,y.as,RepO.wk ox,RepO.wk oy,hc.1,hc.2,k ⟨.dp,.bl _,.bl _,[]⟩ H rfl rfl wJ⟩
 ·rw[X8 hc]at hf;cases hf
end
mutual
noncomputable def Q7:D->Nat
 |.tup xs=>drwDs xs+1|_=>1
noncomputable def drwDs:List D->Nat
 |[]=>0|a::x=>Q7 a+drwDs x
end
mutual
theorem kks{n:Nat}{d:D}(h:jq n d=true):d.flat n=true:=by
 cases d<;>cases n<;>unfold jq at h<;>first|rfl|(cases h;done)|skip
 unfold D.flat;exact keys_flat h
theorem keys_flat{n:Nat}{ds:List D}(h:keyDs n ds=true):D.flats n ds=true:=by
 cases ds<;>unfold keyDs at h<;>unfold D.flats
 ·rfl
 rw[Bool.and_eq_true]at h;rw[kks h.1,keys_flat h.2];rfl
end
mutual
theorem kkr{n m:Nat}{a b:D}(ha:jq n a=true)(hb:jq m b=true):peq a b=decide (a=b):=by
 cases a<;>first|(cases n<;>(unfold jq at ha;cases ha);done)|(cases b<;>first|(cases m<;>(unfold jq at hb;cases hb);done)|(simp[peq];done)|(simp[peq];first|rfl|exact Bool.beq_eq_decide_eq _ _)|skip)
 cases n<;>cases m<;>unfold jq at ha hb<;>first|(cases ha;done)|(cases hb;done)|simpa [peq]using keys_peq ha hb
theorem keys_peq{n m:Nat}{a b:List D}(ha:keyDs n a=true)(hb:keyDs m b=true):peqs a b=decide (a=b):=by
 cases a<;>cases b<;>unfold keyDs at ha hb<;>simp[peqs]
 rw[Bool.and_eq_true]at ha hb;rw[kkr ha.1 hb.1,keys_peq ha.2 hb.2]
end
theorem qx1{h:Heap}{n:Nat}:∀{ds:List D} {us:List Value},keyDs n ds=true->CReps h ds us->∀u∈us,∃d,jq n d=true/\j9 h d u:=by
 intro ds
 induction ds<;>intro us hk r u hu<;>unfold CReps at r
 ·subst r;cases hu
 ·rename_i ih;obtain⟨v,r,rfl,h1,h2⟩:=r;unfold keyDs at hk;rw[Bool.and_eq_true]at hk;rcases aD hu with rfl|hu
  ·exact⟨_,hk.1,h1⟩
  ·exact ih hk.2 h2 u hu
theorem kx8{h : Heap}{P : Nat -> Value -> Prop}(b : ∀n u, (u = .none \/ (∃i t, u = .int i t) \/ ∃x t, u = .str x t) -> P n u)(st : ∀n a (us : List Value), h.IsTuple a us.toArray -> (∀u ∈ us, P n u) -> P (n+1) (.ref a)): ∀(n : Nat) {d : D} {u : Value}, jq n d = true -> j9 h d u -> P n u:= by
  intro n
  induction n <;> intro d u hk hr <;> cases crv hr <;> unfold jq at hk <;> first
    |(cases hk; done)
    |exact b _ _ (.inl rfl)
    |exact b _ _ (.inr (.inl ⟨_, _, rfl⟩))
    |exact b _ _ (.inr (.inr ⟨_, _, rfl⟩))
    |skip
  rename_i ih _ _ _ p q;refine st _ _ _ p λu hu=> ?_
  obtain⟨d, k, r⟩:= qx1 hk q u hu;exact ih k r
section
variable {prog:Program}{w:PySem.World}{A:Around}{E:VP9}{s:Shared}
theorem vje{Q:Int->Shared->Prop}(h:Q 4238894112 { s with toks:=s.toks+1 }):wpAny (model prog w) A (pyHash .none) Q E s:=by
 have ty:s.TypeIs Value.none "NoneType":=rfl;unfold pyHash;unfold pyHashByItsType;refine X0 ?_;rw[cRoomFor,X8 (show ¬([Value.none].any Value.onHeap)=true by decide)];refine X4 (X0 (Z5 ty F.slot_NoneType_hash.lookup ?_));show wpAny _ _ (if(some (Value.builtin "NoneType.__hash__")==some Value.none)=true then _ else _) Q E s;rw[X8 (show ¬(some (Value.builtin "NoneType.__hash__")==some Value.none)=true by rw[beq_builtin_none];exact Bool.false_ne_true)];refine X0 (Z5 ty F.slot_NoneType_hash.lookup ?_);show wpAny _ _ (callSpecialIfBoundUnlessNone? Value.none "__hash__" _ >>= _) Q E s;refine X0 (wpAny_callSpecialIfBoundUnlessNone?_slot ty F.slot_NoneType_hash (Y6 F.slot_NoneType_hash ty F.entry_NoneType_hash ?_ (F.args_NoneType_hash_1 _)));show wpAny _ _ (retInt 4238894112) _ _ s;refine wpAny_ret_mkInt ?_;show wpAny _ _ (if(decide (-(2:Int) ^ 63<=(4238894112:Int))&&decide ((4238894112:Int)<2 ^ 63))=true then _ else _) Q E _;rw[X6 ⋯];exact X4 h
theorem jzr{d:D}:∀ds:List D,hashDs w (ds++[d])=hashDs w ds++[KQ w d]
 |[]=>by simp[hashDs]|a::x=>by rw[List.cons_append,hashDs,hashDs,jzr x];rfl
theorem kjq{d:D}:∀ds:List D,drwDs (ds++[d])=drwDs ds+Q7 d
 |[]=>by simp[drwDs]|a::x=>by rw[List.cons_append,drwDs,drwDs,kjq x];lia
theorem wq3:∀(n:Nat) {d:D} {u:Value} {A:Around} {s:Shared} {Q:Int->Shared->Prop},jq n d=true->j9 s.heap d u->A.units+4*n<cLine->Q (KQ w d) { s with toks:=s.toks+Q7 d }->wpAny (model prog w) A (pyHash u) Q E s:=by
 intro n
 induction n<;>intro d u A s Q hk hr hu h<;>cases crv hr<;>unfold jq at hk<;>first|(cases hk;done)|exact vje h|exact wpAny_pyHash_int h|exact wpAny_pyHash_str h|skip
 rename_i n ih ds a us ht hi;have ty:=ht.typeIs;obtain⟨ob,d9,c9,nn,fv⟩:=ht;unfold pyHash;unfold pyHashByItsType;refine X0 (wpAny_cRoomFor_or (.inr ⋯) ?_);refine X0 (Z5 ty F.slot_tuple_hash.lookup ?_);show wpAny _ _ (if(some (Value.builtin "tuple.__hash__")==some Value.none)=true then _ else _) Q E s;rw [X8 (show ¬(some (Value.builtin "tuple.__hash__")==some Value.none)=true by rw[beq_builtin_none];exact Bool.false_ne_true)];refine X0 (Z5 ty F.slot_tuple_hash.lookup ?_);show wpAny _ _ (callSpecialIfBoundUnlessNone? (Value.ref a) "__hash__" _ >>= _) Q E s;refine X0 (wpAny_callSpecialIfBoundUnlessNone?_slot ty F.slot_tuple_hash (Y6 F.slot_tuple_hash ty F.entry_tuple_hash ?_ (F.args_tuple_hash_1 _)));show wpAny _ _ (Builtin.Tuple.tupleItemsOf (Value.ref a) >>= _) _ _ s;refine X0 (wpAny_tupleItemsOf d9 fv ?_);refine X0 ?_;rw [<-Array.forIn_toList];refine Zp _ (λab (b:Array Int) s'=>∃pre post,ds=pre++post/\keyDs n post=true/\CReps s.heap post ab/\b.toList=hashDs w pre/\s'={ s with toks:=s.toks+drwDs pre }) _ ?_ ?_ _ _ ⟨[],ds,rfl,hk,hi,rfl,rfl⟩
 ·rintro x ab b s' ⟨pre,post,rfl,km,hl,hb,rfl⟩;cases post with
  | nil=>unfold CReps at hl;cases hl
  | cons d post=>
   unfold CReps at hl;obtain⟨u1,r1,e1,h1,h2⟩:=hl;injection e1 with e1 e2;subst e1 e2;unfold keyDs at km;rw[Bool.and_eq_true]at km;have ru:A.in1.units+4*n<cLine:=by show A.units+1+4*n<cLine;lia
   have fin:∃p q,pre++d::post=p++q/\keyDs n q=true/\CReps s.heap q ab/\(b.push (KQ w d)).toList=hashDs w p/\({ s with toks:=s.toks+drwDs pre+Q7 d }:Shared)={ s with toks:=s.toks+drwDs p }:=
    ⟨pre++[d],post,by simp,km.2,h2,by rw[jzr,<-hb];simp,by rw[kjq,Nat.add_assoc]⟩
   refine X0 (ih km.1 h1 ru ?_)
   first
    |exact X4 fin
    |exact X0 (X4 (X4 fin))
 ·rintro b s' ⟨pre,post,rfl,km,hl,hb,rfl⟩;have:post=[]:=by
   cases post with|nil=>rfl|cons d post=>unfold CReps at hl;obtain⟨_,_,z,_⟩:=hl;cases z
  subst this;rw[Xq]at h;show wpAny _ _ (retInt (Builtin.Tuple.tupleHashOf b.toList)) _ _ _;rw[hb];refine wpAny_ret_mkInt ?_;generalize hv:Builtin.Tuple.tupleHashOf (hashDs w pre)=v;have h:Q (reduceHash v) { s with toks:=s.toks+drwDs pre+1 }:=by rw[<-hv];unfold KQ Q7 at h;rw[Nat.add_assoc];exact h
  show wpAny _ _ (if(decide (-(2:Int) ^ 63<=v)&&decide (v<2 ^ 63))=true then _ else _) Q E _;unfold reduceHash at h
  by_cases hq:(decide (-(2:Int) ^ 63<=v)&&decide (v<2 ^ 63))=true
  ·rw[X6 hq]at h ⊢;exact X4 h
  ·rw[X8 hq]at h ⊢;exact X0 (wpAny_rule (X4 h))
theorem vqq(n m:Nat){d:D}{u:Value}{A:Around}{s:Shared}{Q:Bool->Shared->Prop}(hm:n<=m)(hk:jq n d=true)(hr:j9 s.heap d u)(h:Q true s):wpAny (model prog w) A (eqIsQuiet m u) Q E s:=by
 refine kx8 (P:=λn u=>∀m (Q:Bool->Shared->Prop),n<=m->Q true s->wpAny (model prog w) A (eqIsQuiet m u) Q E s) ?_ (λn a us ht hi m Q hm h=>?_) n hk hr m Q hm h
 ·rintro n u (rfl|⟨i,t,rfl⟩|⟨i,t,rfl⟩) m Q _ h<;>(rw[eqIsQuiet_byValue m rfl];exact X4 h)
 have ty:=ht.typeIs;obtain⟨ob,d9,c9,nn,fv⟩:=ht;cases m
 ·lia
 unfold eqIsQuiet;refine X0 (Z5 ty F.slot_tuple_eq.lookup ?_);show wpAny _ _ (isInstance (Value.ref a) (.type "tuple") >>= _) _ _ s;refine X0 (wpAny_isInstance ty isSubtype_tuple_tuple ?_);simp only[Bool.not_true,Bool.false_eq_true,if_false];refine X0 (wpAny_seqItems d9 fv (X0 ?_));show wpAny _ _ (forIn us.toArray _ _) _ _ s;rw[<-Array.forIn_toList];refine Zp _ (λab r s'=>r.1=none/\s'=s/\∀u∈ab,u∈us) _ ?_ ?_ _ _ ⟨rfl,rfl,λ_ h=>h⟩
 ·rintro v ab r s' ⟨hr,rfl,hu⟩;refine X0 (hi v (hu v X5) _ _ ⋯ ?_);simp only[Bool.not_true,Bool.false_eq_true,if_false];exact X4 ⟨rfl,rfl,λu h=>hu u (lc9 _ h)⟩
 ·rintro ⟨r1,r2⟩ s' ⟨hz,rfl,_⟩;cases hz;exact X4 h
end
mutual
theorem jvj{h h':Heap}(et:∀b ob us n,h.get? b=some ob->ob.cls=.type "tuple"->ob.data=.seq us n->h'.get? b=some ob){n:Nat}{d:D}{u:Value}(hk:jq n d=true)(r:j9 h d u):j9 h' d u:=by
 cases d<;>cases n<;>unfold jq at hk<;>unfold j9 at r ⊢<;>first|exact r|(cases hk;done)|skip
 obtain⟨a,us,e,⟨ob,d9,hc,nn,fv⟩,hi⟩:=r;exact⟨a,us,e,⟨ob,et a ob _ _ d9 hc fv,hc,nn,fv⟩,creps_keep et hk hi⟩
theorem creps_keep{h h':Heap}(et:∀b ob us n,h.get? b=some ob->ob.cls=.type "tuple"->ob.data=.seq us n->h'.get? b=some ob){n:Nat}{ds:List D}{us:List Value}(hk:keyDs n ds=true)(r:CReps h ds us):CReps h' ds us:=by
 cases ds<;>unfold CReps at r ⊢
 ·exact r
 unfold keyDs at hk;rw[Bool.and_eq_true]at hk;obtain⟨u,rr,e,h1,h2⟩:=r;exact⟨u,rr,e,jvj et hk.1 h1,creps_keep et hk.2 h2⟩
end
noncomputable def Kq(prog:Program)(w:PySem.World):HeapKind prog w Kd where
 is:=λh k a=>j9 h k.1 (.ref a)
 hash:=λk=>KQ w k.1
 draws:=λk=>Q7 k.1
 room:=λA=>A.units+40<cLine
 inj:=λhx hy=>Subtype.ext (jxz hx hy)
 keeps:=fun {h h' k a d o es ep} x ho hd hs=>jvj (λb ob us n e _ z=>(hs.2 b (by rintro rfl;rw[ho]at e;cases e;rw[hd]at z;cases z)).trans e) k.2 x
 pyHash:=fun {A E s k a Q} hu hk h=>wq3 6 k.2 hk (Nat.lt_of_le_of_lt (Nat.add_le_add_left ⋯ _) hu) h
 eqBool:=fun {A E s x y a b Q} hu hx hy h=>by
  have e:peq x.1 y.1=decide (x=y):=by
   rw[kkr x.2 y.2]
   by_cases z:x=y
   ·rw[Xb z,Xb (congrArg Subtype.val z)]
   ·rw[Xi z,Xi λq=>z (Subtype.ext q)]
  have:=Kz (s:=s) 6 (A:=A) (kks x.2) hx hy (Nat.lt_of_le_of_lt (Nat.add_le_add_left ⋯ _) hu);rw[e]at this;exact this prog w E Q h
 quiet:=fun {A E s k a Q} hk h=>vqq 6 8 ⋯ k.2 hk h
abbrev Sl.sd(x:Sl):Sd:=(x.o,x.d)
def tA(Z:Fx0)(q:Bool)(cs:List Ex):TA:=fun σ H Q=>∃E L r,Mt E σ L/\World Z.K H L/\qw cs E=some r/\Xc Z σ H L r /\
 ∀E' ys,r=.ok E' ys->∀(xs:List Sl) L' H',xs.map Sl.sd=ys->Mt E' σ L'->World Z.K H' (xs.map some++L')->Step H L H' (xs.map some++L')->(q=true->jK H H'/\∀b∈j4 (xs.map some),H b=none)->Q (xs.map Sl.v) H'
def QA(X:Cx)(Z:Fx0)(q:Bool)(cs:List Ex)(es:List Expr):Prop:=PA X es (tA Z q cs)
theorem vkc{X:Cx}{es:List Expr}{t t':TA}(h:PA X es t)(w:∀ σ H Q,t' σ H Q->t σ H Q):PA X es t':=λpos pins s σ H Q I q=>h pos pins s σ H Q I (w σ H Q q)
section
variable {X:Cx}{Z:Fx0}{pn:List Nat}{q:Bool}{c:Ex}{cs:List Ex}{e:Expr}{es:List Expr}{pos:Pos}{σ:L2.St}{H:Hp}{L:Ls}{E:En}
theorem j8:QA X Z true [] []:=vkc vq fun σ H Q ak=>ex8 ak λE L r m w hc xc k=>by
 cases oq9 hc;exact k _ _ rfl [] L H rfl m w Step.refl λ_=>⟨λ_ _ z=>z,λ_ z=>(nomatch z)⟩
theorem j3(h:QE X Z q c e)(hs:QA X Z q cs es)(ba:autoParam (starEach (e::es) X.env=(false,eval e X.env)::starEach es X.env) Ŕ):QA X Z q (c::cs) (e::es):=
 vkc (qQ h hs ba) fun σ H Q ak=>ex8 ak λE L r m w hc xc k=>by
  refine qzj m w (show bnd (c E) _=some r from hc) xc λE1 s h1 x L1 H1 e1 e2 m1 w1 st sm=>?_
  have s1:Step H L H1 L1:=st.trans Step.drop;rcases vk h1 with⟨E2,ys,h2,h3⟩|⟨E2,cc,h2,h3⟩
  ·cases oq9 h3;refine⟨E1,L1,_,m1,w1.tail,h2,(λ_ _ z=>by cases z),λE' ys' z xs L2 H2 e3 m2 w2 b9 cj=>?_⟩;injection z with z1 z2;subst z1 z2;obtain⟨w3,c8⟩:=wzl (T:=[some x]) w1 b9 w2;refine k _ _ rfl (x::xs) L2 H2 (by rw[List.map_cons,e3];simp[Sl.sd,e1,e2]) m2 w3 (st.trans c8) λhq=>?_
   obtain⟨a1,a2⟩:=sm hq;obtain⟨b1,b2⟩:=cj hq;refine⟨jX a1 b1,λb hb=>?_⟩;rw[List.map_cons,jY]at hb;rcases aA hb with z|z
   ·exact a2 b z
   ·exact z4 a1 (b2 b z)
  ·exact⟨E1,L1,_,m1,w1.tail,h2,(xc.step s1).map h3,λE' s' z=>by cases z⟩
end
section
variable {X:Cx}{Z:Fx0}{q:Bool}{cs:List Ex}{es:List Expr}{pos:Pos}{σ:L2.St}{H:Hp}{L:Ls}{E:En}{α:Type}
theorem kvq:∀{cs:List Ex} {E E':En} {ys:List Sd},qw cs E=some (.ok E' ys)->ys.length=cs.length
 | [],E,E',ys,h=>by cases oq9 h;rfl
 | c::cs,E,E',ys,h=>by
  rcases vk (show bnd (c E) _=some _ from h)with⟨E1,x,h1,h2⟩|⟨_,_,_,z⟩
  ·rcases vk h2 with⟨E2,xs,h3,h4⟩|⟨_,_,_,z⟩
   ·cases oq9 h4;rw[Xk,Xk,kvq h3]
   ·cases z
  ·cases z
theorem vxd{F:En->List Sd->Option (Res α)}{r:Res α}{G:List V->Hp->Prop}(m:Mt E σ L)(w:World Z.K H L)(h:bnd (qw cs E) F=some r)(xc:Xc Z σ H L r)
  (k:∀E1 ys,F E1 ys=some r->ys.length=cs.length->∀(xs:List Sl) L1 H1,xs.map Sl.sd=ys->Mt E1 σ L1->World Z.K H1 (xs.map some++L1)->Step H L H1 (xs.map some++L1)->(q=true->jK H H1/\∀b∈j4 (xs.map some),H b=none)->G (xs.map Sl.v) H1):tA Z q cs σ H G:=by
 rcases vk h with⟨E1,s,h1,h2⟩|⟨E1,c,h1,h2⟩
 ·exact⟨E,L,_,m,w,h1,(λ_ _ z=>by cases z),λE' s' z xs L' H' e1 m' w' st sm=>by
   injection z with z1 z2;subst z1 z2;exact k _ _ h2 (kvq h1) xs L' H' e1 m' w' st sm⟩
 ·exact⟨E,L,_,m,w,h1,xc.map h2,λE' s' z=>by cases z⟩
theorem jvr{K:Frag}{H:Hp}(g:Bool):∀{xs:List Sl},(∀x∈xs,x.ok K H)->(g=false->∀x∈xs,vY x.sd=true)->∃bs,RepA K H g (xs.map Sl.d) (xs.map Sl.v) bs/\(∀b∈bs,∃x∈xs,b∈x.as)/\(g=false->bs=j4 (xs.map some))/\(g=true->bs=xs.flatMap Sl.as)
 | [],_,_=>⟨[],by unfold RepA;exact⟨rfl,rfl⟩,λ_ h=>(nomatch h),λ_=>rfl,λ_=>rfl⟩
 | x :: xs,h,ht=>by
  obtain⟨bs,r,hb,ho,hg⟩:=jvr g (xs:=xs) (λy hy=>h y (lc9 _ hy)) λhg y hy=>ht hg y (lc9 _ hy)
  have hx:=h x X5;have key:∃cs,RepL K H g x.d x.v cs/\(∀b∈cs,b∈x.as)/\(g=false->cs=x.own)/\(g=true->cs=x.as):=by
   cases g with
   | true=>exact⟨x.as,RepO.wk hx,λb hb=>hb,(λz=>by cases z),λ_=>rfl⟩
   | false=>
    have t:=ht rfl x X5;unfold vY at t
    by_cases ho:x.o=.dp
    ·refine⟨x.as,?_,λb hb=>hb,λ_=>?_,λz=>by cases z⟩
     ·have:=hx;unfold Sl.ok at this;rw[ho]at this;exact this
     ·unfold Sl.own;rw[ho]
    ·have hp:x.d.pure=true:=by
      rcases Bool.or_eq_true_iff.mp t with z|z
      ·exact absurd (by simpa using z) ho
      ·exact z
     obtain⟨z,rp⟩:=RepL.pu (g':=false) (RepO.wk hx) hp;exact⟨[],rp,λ_ h=>(nomatch h),λ_=>(vvf z).symm,λz=>by cases z⟩
  obtain⟨cs,r1,h1,h2,h3⟩:=key;refine⟨cs++bs,?_,λb cg=>?_,λll=>?_,λll=>?_⟩
  ·rw[List.map_cons,List.map_cons];unfold RepA;exact⟨x.v,xs.map Sl.v,cs,bs,rfl,rfl,r1,r⟩
  ·rcases aA cg with z|z
   ·exact⟨x,X5,h1 b z⟩
   ·obtain⟨y,hy,hby⟩:=hb b z;exact⟨y,lc9 _ hy,hby⟩
  ·rw[List.map_cons,jY,h2 ll,ho ll]
  ·rw[Yy,h3 ll,hg ll]
theorem vj2{K:Frag}{H:Hp}{p:Addr}{xs:List Sl}{L:Ls}(w:World K H (xs.map some++L))(hp:H p=none):
  ∃bs,World K (upd H p (.lst (xs.map Sl.v))) (some ⟨.rt,.lst (xs.map Sl.d),.ref p,p::bs⟩::L)/\Step H (xs.map some++L) (upd H p (.lst (xs.map Sl.v))) (some ⟨.rt,.lst (xs.map Sl.d),.ref p,p::bs⟩::L):=by
 obtain⟨bs,r,hb,_,_⟩:=jvr true (xs:=xs) (λx hx=>w.ok x (ll9 _ (Xs hx))) (λz=>by cases z);have ap:∀b∈bs,b∉j4 L:=λb cg hL=>by
  obtain⟨x,hx,dg⟩:=hb b cg;rcases Sl.as_of dg with z|z
  ·have nd:=w.nd;rw[jw,Xm]at nd;exact nd.2.2 b (mem_owned.mpr ⟨x,Xs hx,z⟩) b hL rfl
  ·exact w.ds b (by rw[jw];exact lr9 _ hL) (by rw[k3];exact ll9 _ (mem_frozen.mpr ⟨x,Xs hx,z⟩))
 have al:∀b∈bs,H b≠none:=λb cg=>by
  obtain⟨x,hx,dg⟩:=hb b cg;exact(w.ok x (ll9 _ (Xs hx))).some dg
 have sr:Src H (xs.map some++L) bs:=λb cg=>by
  obtain⟨x,hx,dg⟩:=hb b cg;rcases Sl.as_of dg with z|z
  ·exact .inr (.inl (by rw[jw];exact ll9 _ (mem_owned.mpr ⟨x,Xs hx,z⟩)))
  ·exact .inl (by rw[k3];exact ll9 _ (mem_frozen.mpr ⟨x,Xs hx,z⟩))
 have o:Out K H (upd H p (.lst (xs.map Sl.v))) ⟨.rt,.lst (xs.map Sl.d),.ref p,p::bs⟩ bs:=zX hp r λb hb=>hb
 have st:Step H (xs.map some++L) H L:=⟨λ_ _ h _=>h,λa ha=>.inl (by rw[jw];exact lr9 _ ha),λa ha=>.inl (by rw[k3];exact lr9 _ ha)⟩;exact⟨bs,K4 (Z:=⟨K,λ_=>none,λ_ _ _=>True⟩) w.right st o ap al sr⟩
theorem vj1{K:Frag}{H:Hp}{p:Addr}{xs:List Sl}{L:Ls}(w:World K H (xs.map some++L))(hp:H p=none):
  ∃bs,World K (upd H p (.tup (xs.map Sl.v))) (some ⟨.no,.tup (xs.map Sl.d),.ref p,bs⟩::L)/\Step H (xs.map some++L) (upd H p (.tup (xs.map Sl.v))) (some ⟨.no,.tup (xs.map Sl.d),.ref p,bs⟩::L):=by
 obtain⟨bs,r,hb,_,_⟩:=jvr true (xs:=xs) (λx hx=>w.ok x (ll9 _ (Xs hx))) (λz=>by cases z);have ap:∀b∈bs,b∉j4 L:=λb cg hL=>by
  obtain⟨x,hx,dg⟩:=hb b cg;rcases Sl.as_of dg with z|z
  ·have nd:=w.nd;rw[jw,Xm]at nd;exact nd.2.2 b (mem_owned.mpr ⟨x,Xs hx,z⟩) b hL rfl
  ·exact w.ds b (by rw[jw];exact lr9 _ hL) (by rw[k3];exact ll9 _ (mem_frozen.mpr ⟨x,Xs hx,z⟩))
 have al:∀b∈bs,H b≠none:=λb cg=>by
  obtain⟨x,hx,dg⟩:=hb b cg;exact(w.ok x (ll9 _ (Xs hx))).some dg
 have sr:Src H (xs.map some++L) bs:=λb cg=>by
  obtain⟨x,hx,dg⟩:=hb b cg;rcases Sl.as_of dg with z|z
  ·exact .inr (.inl (by rw[jw];exact ll9 _ (mem_owned.mpr ⟨x,Xs hx,z⟩)))
  ·exact .inl (by rw[k3];exact ll9 _ (mem_frozen.mpr ⟨x,Xs hx,z⟩))
 have o:Out K H (upd H p (.tup (xs.map Sl.v))) ⟨.no,.tup (xs.map Sl.d),.ref p,bs⟩ bs:=Vx hp r λb hb=>hb
 have st:Step H (xs.map some++L) H L:=⟨λ_ _ h _=>h,λa ha=>.inl (by rw[jw];exact lr9 _ ha),λa ha=>.inl (by rw[k3];exact lr9 _ ha)⟩;exact⟨bs,K4 (Z:=⟨K,λ_=>none,λ_ _ _=>True⟩) w.right st o ap al sr⟩
theorem qvd{K:Frag}{H H':Hp}{xs:List Sl}{L:Ls}{d:D}{v:V}{ps:List Addr}(w:World K H (xs.map some++L))(ht:∀x∈xs,vY x.sd=true)(hp:∀b∈ps,H b=none)(nd:ps.Nodup)(sm:jK H H')
  (rep:∀bs,RepA K H false (xs.map Sl.d) (xs.map Sl.v) bs->RepL K H' false d v (ps++bs)):
  World K H' (some ⟨.dp,d,v,ps++j4 (xs.map some)⟩::L)/\Step H (xs.map some++L) H' (some ⟨.dp,d,v,ps++j4 (xs.map some)⟩::L):=by
 obtain⟨bs,r,hb,ho,_⟩:=jvr false (xs:=xs) (λx hx=>w.ok x (ll9 _ (Xs hx))) (λ_=>ht);have e:=ho rfl;subst e;have w2:World K H' (xs.map some++L):=⟨λx hx=>RepO.kp (w.ok x hx) (Kp.of_same sm),w.nd,w.ds⟩;have ndx:=w.nd;rw[jw,Xm]at ndx;have al:∀b∈j4 (xs.map some),H b≠none:=λb hb=>w.own_some (by rw[jw];exact ll9 _ hb)
 refine⟨w2.right.cons (x:=⟨.dp,d,v,ps++j4 (xs.map some)⟩) (rep _ r) ?_ (λa ha hL=>?_) (λa ha hf=>?_) (λa ha=>(nomatch ha)) (λa ha=>λz=>(nomatch z)),⟨λa ob h _=>sm a ob h,λa ha=>?_,λa ha=>?_⟩⟩
 ·show(ps++j4 (xs.map some)).Nodup;rw[Xm];exact⟨nd,ndx.1,λa ha b hb e=>by subst e;exact al a hb (hp a ha)⟩
 ·rcases aA (show a∈ps++j4 (xs.map some)from ha)with z|z
  ·exact w.own_some (by rw[jw];exact lr9 _ hL) (hp a z)
  ·exact ndx.2.2 a z a hL rfl
 ·rcases aA (show a∈ps++j4 (xs.map some)from ha)with z|z
  ·exact w.frz_some (by rw[k3];exact lr9 _ hf) (hp a z)
  ·exact w.ds a (by rw[jw];exact ll9 _ z) (by rw[k3];exact lr9 _ hf)
 ·rw[jY]at ha;rcases aA ha with z|z
  ·rcases aA (show a∈ps++j4 (xs.map some)from z)with y|y
   ·exact .inr (hp a y)
   ·exact .inl (by rw[jw];exact ll9 _ y)
  ·exact .inl (by rw[jw];exact lr9 _ z)
 ·rw[qJ]at ha;exact .inl (by rw[k3];exact lr9 _ ha)
theorem wv8{xs:List Sl}{ys:List Sd}(h:xs.map Sl.sd=ys):xs.map Sl.d=ys.map (·.2):=by rw[<-h,Xh];rfl
theorem kz0{xs:List Sl}{ys:List Sd}(h:xs.map Sl.sd=ys)(ht:ys.all vY=true):∀x∈xs,vY x.sd=true:=λx hx=>by
 rw[<-h,List.all_map,Y7]at ht;exact ht x hx
theorem kzo{o:Own}{xs:List Sl}{ys:List Sd}{E':En}{r:Res Sd}{L':Ls}{H1:Hp}{Q:VK}{Hq:Hp}{Lq:Ls}(h:mkL o E' ys=some r)(e:xs.map Sl.sd=ys)(w:World Z.K H1 (xs.map some++L'))(st:Step Hq Lq H1 (xs.map some++L'))(sm:q=true->jK Hq H1/\∀b∈j4 (xs.map some),Hq b=none)
  (k:∀E'' a,r=.ok E'' a->∀(x:Sl) L'' H',x.o=a.1->x.d=a.2->Mt E'' σ L''->World Z.K H' (some x::L'')->Step Hq Lq H' (some x::L'')->(q=true->jK Hq H'/\∀b∈x.own,Hq b=none)->Q x.v H') (m:Mt E' σ L'):
  ∀ p,H1 p=none->Q (.ref p) (upd H1 p (.lst (xs.map Sl.v))):=by
 intro p hp;unfold mkL at h
 by_cases ho:o=.dp
 ·rw[X6 ho]at h
  by_cases ht:ys.all vY=true
  ·rw[X6 ht]at h;cases oq9 h;obtain⟨w2,s2⟩:=qvd (d:=.lst (xs.map Sl.d)) (v:=.ref p) (ps:=[p]) w (kz0 e ht) (λb hb=>by rw[aC hb];exact hp) (by simp) (qZ (o:=.lst (xs.map Sl.v)) hp) (λbs r=>by
    unfold RepL;exact⟨p,_,bs,rfl,r.kp (Kp.of_same (qZ hp)),.inl ⟨vX,rfl⟩⟩)
   refine k _ _ rfl ⟨.dp,.lst (xs.map Sl.d),.ref p,_⟩ L' _ rfl (by rw[wv8 e]) m w2 (st.trans s2) λhq=>⟨jX (sm hq).1 (qZ hp),λb hb=>?_⟩
   rcases aA (show b∈[p]++j4 (xs.map some)from hb)with z|z
   ·rw[aC z];exact z4 (sm hq).1 hp
   ·exact(sm hq).2 b z
  ·rw[X8 ht]at h;cases h
 ·rw[X8 ho]at h;cases oq9 h;obtain⟨bs,w2,s2⟩:=vj2 w hp;refine k _ _ rfl ⟨.rt,.lst (xs.map Sl.d),.ref p,p::bs⟩ L' _ rfl (by rw[wv8 e]) m w2 (st.trans s2) λhq=>⟨jX (sm hq).1 (qZ hp),λb hb=>?_⟩
  have:b=p:=by simpa [Sl.own]using hb
  rw[this];exact z4 (sm hq).1 hp
theorem vz8{xs:List Sl}{ys:List Sd}{n:Nat}(h:xs.map Sl.sd=ys)(hl:ys.length=n)(hz:n<=1000):(xs.map Sl.v).length<=sizeLine:=by
 have:xs.length=n:=by rw[<-hl,<-h,X1]
 rw[X1,this];exact Yn hz ⋯
theorem v9{o:Own}(h:QA X Z q cs es)(hz:autoParam (cs.length<=1000) ŕ):QE X Z q (qz o cs) (.List es pos):=kz (wjw h) fun σ H Q ak=>ex8 ak λE L r m w hc xc k=>
 vxd m w (show bnd (qw cs E) _=some r from hc) xc λE1 ys h1 hl xs L1 H1 e1 m1 w1 st sm=>⟨vz8 e1 hl hz,kzo (o:=o) (E':=E1) (ys:=ys) (by unfold mkL;exact h1) e1 w1 st sm k m1⟩
theorem q9{o:Own}{x1}(h:QA X Z q cs es)(hz:autoParam (cs.length<=1000) ŕ):QE X Z q (kW o cs) (.Tuple es x1 pos):=kz (wjt h) fun σ H Q ak=>ex8 ak λE L r m w hc xc k=>
 vxd m w (show bnd (qw cs E) _=some r from hc) xc λE1 ys h1 hl xs L1 H1 e1 m1 w1 st sm=>⟨vz8 e1 hl hz,λp hp=>by
  by_cases ho:o=.dp
  ·rw[X6 ho]at h1
   by_cases ht:ys.all vY=true
   ·rw[X6 ht]at h1;cases oq9 h1;obtain⟨w2,s2⟩:=qvd (d:=.tup (xs.map Sl.d)) (v:=.ref p) (ps:=[]) w1 (kz0 e1 ht) (λb hb=>(nomatch hb)) (by simp) (qZ (o:=.tup (xs.map Sl.v)) hp) (λbs r=>by
     unfold RepL;exact⟨p,_,rfl,SqT.of vX,r.kp (Kp.of_same (qZ hp))⟩)
    exact k _ _ rfl ⟨.dp,.tup (xs.map Sl.d),.ref p,_⟩ L1 _ rfl (by rw[wv8 e1]) m1 w2 (st.trans s2) λhq=>⟨jX (sm hq).1 (qZ hp),λb hb=>(sm hq).2 b hb⟩
   ·rw[X8 ht]at h1;cases h1
  ·rw[X8 ho]at h1;cases oq9 h1;obtain⟨bs,w2,s2⟩:=vj1 w1 hp;exact k _ _ rfl ⟨.no,.tup (xs.map Sl.d),.ref p,bs⟩ L1 _ rfl (by rw[wv8 e1]) m1 w2 (st.trans s2) λhq=>⟨jX (sm hq).1 (qZ hp),λb hb=>(nomatch hb)⟩⟩
end
def spF(K:Frag)(mg:Str->Option Value)(n:Nat)(f:Fn):Sp:=λvs H Q E=>∃(xs:List Sl) (r:Res Sd),vs=xs.map Sl.v/\xs.length=n/\World K H (xs.map some)/\f (xs.map Sl.sd)=some r /\
 (∀E' c,r=.exc E' c->∀C H',mg c=some (.ref C)->Step H (xs.map some) H' []->E (.ref C) none H') /\
 ∀E' a,r=.ok E' a->∀(x:Sl) H',x.o=a.1->x.d=a.2->World K H' [some x]->Step H (xs.map some) H' [some x]->Q x.v H'
theorem qW{K:Frag}{mg:Str->Option Value}{n:Nat}{f:Fn}{ps:List Str}(hn:ps.length=n):∀vs H Q E,spF K mg n f vs H Q E->vs.length=ps.length:=λvs H Q E ⟨xs,r,e,hl,_⟩=>by rw[e,X1,hl,hn]
theorem kkq:∀(xs:List Sl) (k:Nat),Mt (xs.map (λx=>some x.sd)++List.replicate k none) (xs.map (λx=>some x.v)++List.replicate k none) (xs.map some++List.replicate k none)
 |[],0=>.nil
 |[],k+1=>by
  rw[List.map_nil,List.map_nil,List.map_nil,List.replicate_succ,List.replicate_succ,List.replicate_succ];exact .un (kkq [] k)
 |x::xs,k=>.cons (x:=x) (kkq xs k)
theorem qY{X:Cx}{K:Frag}{mg:Str->Option Value}{N:List Str}{n nn:Nat}{B:Sm}{body:List Stmt}{H:Hp}{vs:List V}{Q:VK}{E:XK}(hN:N.length=nn)(t:QSs X ⟨K,mg,E⟩ [] B body)(h:spF K mg n (fn nn B) vs H Q E):
  ∃t,PSs X body t/\t { nx:=λ_ H'=>Q .non H',rt:=Q } (L2.start N vs) H:=by
 refine⟨_,t,?_⟩;obtain⟨xs,r,rfl,hl,w,hf,hx,hk⟩:=h;unfold fn at hf;rw[X1,Xh]at hf;have m:=kkq xs (nn - xs.length);have e1:L2.start N (xs.map Sl.v)=xs.map (λx=>some x.v)++List.replicate (nn - xs.length) none:=by
  unfold L2.start;rw[Xh,X1,hN];rfl
 have wL:World K H (xs.map some++List.replicate (nn - xs.length) none):=w.same (by simp);have sL:Step H (xs.map some) H (xs.map some++List.replicate (nn - xs.length) none):=Step.refl.same (List.Perm.refl _) (by simp);cases hB:B (xs.map (λx=>some x.sd)++List.replicate (nn - xs.length) none)with
 | none=>rw[show(some∘Sl.sd)=(λx:Sl=>some x.sd)from rfl,hB]at hf;cases hf
 | some g=>
  rw[show(some∘Sl.sd)=(λx:Sl=>some x.sd)from rfl,hB]at hf;refine⟨_,_,g,e1▸m,wL,hB,?_⟩;cases g with
  |nx E1=>
   cases oq9 hf;intro σ' L' H' _ m' w' s';exact hk _ _ rfl ⟨.dp,.non,.non,[]⟩ H' rfl rfl (World.consPu (x:=⟨.dp,.non,.non,[]⟩) (L:=[]) ⟨λ_ z=>(nomatch z),Yf,λ_ z=>(nomatch z)⟩ (show RepL K H' false .non .non []from qq9) rfl) (Kj (x:=⟨.dp,.non,.non,[]⟩) ((sL.trans s').sub (by simp)) (λb hb=>(nomatch hb)) rfl)
  |rt E1 a=>
   cases oq9 hf;intro x σ' L' H' e2 e3 _ m' w' s';exact hk _ _ rfl x H' e2 e3 (w'.sub (by simp)) ((sL.trans s').sub (by simp))
  |xc E1 c=>
   cases oq9 hf;intro C σ' L' H' hm _ m' w' s';exact hx _ _ rfl C H' hm ((sL.trans s').sub (by simp))
  |ct E1=>cases hf|bk E1=>cases hf
section
variable {X:Cx}{Z:Fx0}{q:Bool}{cs:List Ex}{e:Expr}{es:List Expr}{pos p:Pos}{x:Str}{ps:List Str}{k n:Nat}{f:Fn}
theorem Vj:∀xs:List Sl,j4 ((xs.map Sl.let).map some)=[]
 |[]=>rfl|x::xs=>by rw[List.map_cons,List.map_cons,jY,Vj xs];rfl
theorem jw3:∀xs:List Sl,jx ((xs.map Sl.let).map some)=xs.flatMap Sl.as
 |[]=>rfl|x::xs=>by rw[List.map_cons,List.map_cons,qJ,jw3 xs,Yy];rfl
theorem vw4(xs:List Sl):(xs.map Sl.let).map Sl.sd=letAll (xs.map Sl.sd):=by
 unfold letAll;rw[Xh,Xh];rfl
theorem qjc{K:Frag}{H:Hp}{xs:List Sl}{L:Ls}(w:World K H (xs.map some++L)):World K H ((xs.map Sl.let).map some++L)/\Step H (xs.map some++L) H ((xs.map Sl.let).map some++L):=by
 have nd:=w.nd;rw[jw,Xm]at nd;have cl:∀a∈xs.flatMap Sl.as,a∈j4 (xs.map some)\/a∈jx (xs.map some):=λa ha=>by
  obtain⟨x,hx,hax⟩:=List.mem_flatMap.mp ha;exact(Sl.as_of hax).imp (λz=>mem_owned.mpr ⟨x,Xs hx,z⟩) λz=>mem_frozen.mpr ⟨x,Xs hx,z⟩
 refine⟨⟨λx hx=>?_,by rw[jw,Vj];exact nd.2.1,λa ha hf=>?_⟩,λ_ _ h _=>h,λa ha=>?_,λa ha=>?_⟩
 ·rcases aA hx with hx|hx
  ·obtain⟨y,hy,e⟩:=aE hx;cases e;obtain⟨z,hz,rfl⟩:=aE hy;exact W7 (w.ok z (ll9 _ (Xs hz)))
  ·exact w.ok x (lr9 _ hx)
 ·rw[jw,Vj]at ha;rw[k3,jw3]at hf;rcases aA hf with z|z
  ·rcases cl a z with z|z
   ·exact nd.2.2 a z a ha rfl
   ·exact w.ds a (by rw[jw];exact lr9 _ ha) (by rw[k3];exact ll9 _ z)
  ·exact w.ds a (by rw[jw];exact lr9 _ ha) (by rw[k3];exact lr9 _ z)
 ·rw[jw,Vj]at ha;exact .inl (by rw[jw];exact lr9 _ ha)
 ·rw[k3,jw3]at ha;rw[k3,jw];rcases aA ha with z|z
  ·rcases cl a z with z|z
   ·exact .inr (.inl (ll9 _ z))
   ·exact .inl (ll9 _ z)
  ·exact .inl (lr9 _ z)
theorem wjb(D:kX X.prog X.w X.K X.mg X.base k x ps (spF Z.K Z.mg n f))(hr:Room k X.A)(g:xX X Z.EX)(ha:QA X Z q cs (e::es))(hn:autoParam (cs.length=n) Ŕ)(hg:autoParam (Gl X x) Ŕ)(fj:autoParam ((x==("__debug__":Str))=false) ŕ)
  (he:autoParam (starEach (e::es) X.env=(false,eval e X.env)::starEach es X.env) Ŕ) (bn:autoParam ((backTo pos (starEach es X.env)).any (·.1)=false) Ŕ):
  QE X Z q (jW f cs) (.Call (.Name x p) (e::es) [] pos):=kz (wjz D hr g ha hg fj he bn) fun σ H Q ak=>ex8 ak λE L r m w hc xc kk=>
 vxd m w (show bnd (qw cs E) _=some r from hc) xc λE1 ys h1 hl xs L1 H1 e1 m1 w1 st sm=>by
  rw [Xq];have ag:xs.length=n:=by rw[<-hn,<-hl,<-e1,X1]
  cases hf:f (letAll ys)with
  | none=>rw[hf]at h1;cases h1
  | some fr=>
   rw[hf]at h1;obtain⟨wl,sl⟩:=qjc w1;have ev:xs.map Sl.v=(xs.map Sl.let).map Sl.v:=by rw[Xh];rfl
   rw[ev];refine⟨xs.map Sl.let,fr,rfl,by rw[X1];exact ag,wl.left,by rw[<-e1]at hf;rw[vw4];exact hf,λE' c ee C H' hm s'=>?_,λE' a ee y H' e2 e3 w' s'=>?_⟩
   ·subst ee;cases oq9 h1;obtain⟨w2,s2⟩:=stay wl s' ⟨λ_ z=>(nomatch z),Yf,λ_ z=>(nomatch z)⟩;exact xc _ _ rfl C L1 H' hm m1 w2 ((st.trans sl).trans s2)
   ·subst ee;cases oq9 h1;obtain⟨w2,s2⟩:=stay wl s' w';refine kk _ _ rfl y L1 H' e2 e3 m1 w2 ((st.trans sl).trans s2) λhq=>?_
    obtain⟨a1,a2⟩:=sm hq;refine⟨λb ob hb=>s'.keep b ob (a1 b ob hb) λz=>?_,λb hb=>?_⟩
    ·rw[Vj]at z;exact nomatch z
    ·rcases s'.own b (by rw[jY];exact ll9 _ hb)with z|z
     ·rw[Vj]at z;exact nomatch z
     ·exact z4 a1 z
end
def vzt(K:Frag):R2:=λx y H Q=>∃l k xs,x=.ref l/\y=.int k/\LsR K H l xs/\-(2 ^ 63)<=k/\k<2 ^ 63/\xs.length*k.toNat<=sizeLine /\
 ∀p,H p=none->Q (.ref p) (upd H p (.lst (List.replicate k.toNat xs).flatten))
theorem op_repR{X:Cx}:OpR X (binaryOp .Mult) (vzt X.K):=by
 intro pins s σ H x y v u Q I rx ry h;obtain⟨l,k,xs,rfl,rfl,hH,h1,h2,hz,q⟩:=h;cases rx;obtain⟨t,rfl⟩:=ry;obtain⟨z,a8,n,r,e⟩:=hH.is I;have hl:=r.length;have ag:a8.toArray.size*k.toNat<=sizeLine:=by rw[X9,<-hl];exact hz
 have hcap:¬a8.toArray.size*k.toNat>(2 ^ 63 - 1) / 8:=by
  have:(sizeLine:Nat)<=(2 ^ 63 - 1) / 8:=⋯
  lia
 have fm:¬(!Builtin.List.listFitsIndex k)=true:=by
  rw[fitsIndex_both h1 h2];exact Bool.false_ne_true
 have ib:¬Builtin.List.listTooLong (a8.toArray.size*k.toNat)=true:=by
  rw[kzk ag];exact Bool.false_ne_true
 have f8:List.foldl (λx1 x2=>x1++x2) #[] (List.replicate (if a8.toArray.isEmpty=true then 0 else k.toNat) a8.toArray)=(List.replicate k.toNat a8).flatten.toArray:=by
  have f0:∀m:Nat,List.foldl (λx1 x2=>x1++x2) #[] (List.replicate m a8.toArray)=(List.replicate m a8).flatten.toArray:=λm=>by
   have:=jzs a8 m [];rw[List.nil_append]at this;exact this
  rw[f0];cases a8 with|nil=>simp|cons a r'=>rw[X8 (by simp)]
 refine wpAny_binaryOp_repeat_ref (T:="list") (U:="int") ⋯ ⟨_,e,rfl⟩ (λs'=>typeIs_int s' k t) noFill_list_mul F.fills_int_mul F.slot_int_rmul repeat_list F.slot_int_index.lookup
  (call_meets F.slot_int_rmul (typeIs_int s k t) F.entry_int_rmul (F.args_int_rmul_2 _ _) (int___rmul___int_list k t l a8.toArray n)
   ⟨e,rfl,⟨_,e,rfl⟩,call_meets F.slot_list_mul ⟨_,e,rfl⟩ F.entry_list_mul (F.args_list_mul_2 _ _) (AutoListH.list___mul___list_int_3 l a8.toArray n k t fm hcap ib) ⟨e,?_⟩⟩)
 rw[f8];exact⟨.ref _,_,I.lnew (t':=s.toks) (r.rep k.toNat) (by rw[qvp,Nat.mul_comm];exact hz),rfl,q _ I.fresh⟩
def vqn(K:Frag):R2:=λx y H Q=>rI IntMulOk (λi j=>.int (i*j)) x y H Q\/vzt K x y H Q\/vzs x y H Q
theorem wk6{X:Cx}{K:Frag}(hK:autoParam (X.K=K) Ŕ):OpR X (binaryOp .Mult) (vqn K):=by subst hK;exact op_mulI.or (op_repR.or vvg)
theorem kzp{a:Int}(h:a.natAbs.log2<2000000):Builtin.Int.intBits a<=2000000:=by
 unfold Builtin.Int.intBits
 split
 ·exact Yd _
 ·omega
theorem mulOk_of{a b:Int}(h:K7 a b=true):IntMulOk a b:=by
 unfold K7 qq1 at h;simp only[Bool.or_eq_true,Bool.and_eq_true,decide_eq_true_eq]at h;rcases h with(h|h)|h
 ·exact .of_left (intBits_le_64 h.1 h.2)
 ·exact .of_right (intBits_le_64 h.1 h.2)
 ·have h1:=kzp h.1;have h2:=kzp h.2;unfold IntMulOk Builtin.Int.intTooBig;have e:(2:Nat) ^ 27=134217728:=⋯
  have hb:bitsLine=134217728:=e;simp only[Bool.and_eq_true,decide_eq_true_eq,not_and];intro _ _;omega
theorem RepA.reps{K:Frag}{H:Hp}{ds:List D}{xs:List V}{bs:List Addr}(h:RepA K H true ds xs bs):∀k:Nat,∃cs,RepA K H true (List.replicate k ds).flatten (List.replicate k xs).flatten cs/\∀b∈cs,b∈bs
 |0=>⟨[],by simp only[List.replicate_zero,List.flatten_nil];unfold RepA;exact⟨rfl,rfl⟩,λ_ z=>(nomatch z)⟩
 |k+1=>by
  obtain⟨cs,r,hc⟩:=RepA.reps h k;rw[List.replicate_succ,List.replicate_succ,Zn,Zn];exact⟨bs++cs,r.app h,λb hb=>(aA hb).elim id (hc b)⟩
theorem vq4{K:Frag}:Ad2 K (vqn K) W2:=by
 intro H x y s Q ox oy hf k;unfold W2 at hf;dsimp only at hf
 split at hf
 ·rename_i i j e1 e2
  split at hf
  ·rename_i hm;cases oq9 hf;exact .inl ⟨i,j,kJ ox e1,kJ oy e2,mulOk_of hm,k ⟨.dp,.int _,.int _,[]⟩ H rfl rfl Vk⟩
  ·cases hf
 ·rename_i a n e1 e2
  split at hf
  ·rename_i hc;cases oq9 hf;obtain⟨l,xs,bs,e3,q3,r3,h3⟩:=x9 ox (.inl e1) hc.2.2.2;have q3:LsR K H l xs:=by rcases q3 with⟨_,z⟩|⟨z,_⟩;exact z;rw[e1]at z;cases z
   obtain⟨cs,r4,h4⟩:=r3.reps n.toNat;refine .inr (.inl ⟨l,n,xs,e3,kJ oy e2,q3,hc.1,hc.2.1,by rw[<-r3.len];exact hc.2.2.1,λp hp=>?_⟩);exact k ⟨.rt,.lst _,.ref p,p::cs⟩ _ rfl rfl (zX hp r4 λb hb=>ll9 _ (h3 b (h4 b hb)))
  ·cases hf
 ·rename_i z n e1 e2
  split at hf
  ·rename_i hc;cases oq9 hf;exact .inr (.inr ⟨z,n,(wx ox e1).1,kJ oy e2,hc.1,k ⟨.dp,.str _,.str _,[]⟩ H rfl rfl (wwj hc.2)⟩)
  ·cases hf
 ·cases hf
def dec(h:Heap)(u:Value):D:=open Classical in if e:∃d,j9 h d u then e.choose else .non
theorem XZ{h:Heap}{u:Value}{d:D}(r:j9 h d u):dec h u=d:=by
 unfold dec;have e:∃d,j9 h d u:=⟨d,r⟩;rw[dif_pos e];exact jxz e.choose_spec r
theorem kj2{h:Heap}{d:D}:∀{ds:List D} {us:List Value},CReps h ds us->us.any (λu=>peq (dec h u) d)=ds.any λz=>peq z d
 |[],_,r=>by unfold CReps at r;rw[r];rfl
 |z::ds,_,r=>by
  unfold CReps at r;obtain⟨u,rr,rfl,h1,h2⟩:=r;rw[List.any_cons,List.any_cons,XZ h1,kj2 h2]
theorem jxy{h:Heap}:∀{ds:List D} {us:List Value} {u:Value},CReps h ds us->u∈us->∃d∈ds,j9 h d u
 | [],_,_,r,hu=>by unfold CReps at r;rw[r]at hu;cases hu
 | z::ds,_,u,r,hu=>by
  unfold CReps at r;obtain⟨u',rr,rfl,h1,h2⟩:=r;rcases aD hu with rfl|hu
  ·exact⟨z,X5,h1⟩
  ·obtain⟨d,hd,c⟩:=jxy h2 hu;exact⟨d,lc9 _ hd,c⟩
theorem jwl:∀{n:Nat} {ds:List D} {d:D},D.flats n ds=true->d∈ds->d.flat n=true
 |_,[],_,_,h=>by cases h
 |n,z::ds,d,f,h=>by
  unfold D.flats at f;rw[Bool.and_eq_true]at f;rcases aD h with rfl|h
  ·exact f.1
  ·exact jwl f.2 h
section
variable {X:Cx}{Z:Fx0}{K:Frag}{q qa qb:Bool}{a b c:Ex}{u v:Ts}{e ea eb:Expr}{es:List Expr}{pos p:Pos}{σ:L2.St}{H:Hp}{L:Ls}{E:En}
def qqm(K:Frag)(i4:Bool):R2:=λx y H Q=>∃d ds as bs p xs,RepL K H true d x as/\y=.ref p/\(SqL K H p xs\/SqT K H p xs)/\RepA K H true ds xs bs/\d.flat 30=true/\D.flats 30 ds=true/\Q (.bl (if i4 then !(ds.any λz=>peq z d)else ds.any λz=>peq z d)) H
theorem vvk(hu:X.A.units+64<cLine):OpR X (compareOp .In) (qqm X.K false):=by
 intro pins s σ H x y v u Q I rx ry h;obtain⟨d,ds,as,bs,p,xs,h1,rfl,hq,ra,f1,f2,q⟩:=h;cases ry;have c1:=Jz I h1 f1 rx;have he:∀{us:List Value},CReps s.heap ds us->∀w,w∈us.toArray->SeqAt.EqAt X.A.in1 s w v (peq (dec s.heap w) d):=fun {us} cr w hw=>by
  obtain⟨d',hd,c⟩:=jxy cr (by simpa using hw);rw[XZ c];exact Kz 30 (jwl f2 hd) c c1 (by have:=L3.in1_units X.A;omega)
 rcases hq with hq|hq
 ·obtain⟨a8,r,pl,hz⟩:=I.list hq;have cr:=creps_of I ra f2 r;refine SeqAt.in_listAt _ pl.isList (he cr) ⟨.bl _,H,I,rfl,?_⟩;rw[List.any_toArray,kj2 cr];exact q
 ·obtain⟨a8,r,pl,hz⟩:=I.tuple hq;have cr:=creps_of I ra f2 r;refine SeqAt.in_tupleAt _ pl (he cr) ⟨.bl _,H,I,rfl,?_⟩;rw[List.any_toArray,kj2 cr];exact q
theorem qjt(hu:X.A.units+64<cLine):OpR X (compareOp .NotIn) (qqm X.K true):=by
 intro pins s σ H x y v u Q I rx ry h;obtain⟨d,ds,as,bs,p,xs,h1,rfl,hq,ra,f1,f2,q⟩:=h;cases ry;have c1:=Jz I h1 f1 rx;have he:∀{us:List Value},CReps s.heap ds us->∀w,w∈us.toArray->SeqAt.EqAt X.A.in1 s w v (peq (dec s.heap w) d):=fun {us} cr w hw=>by
  obtain⟨d',hd,c⟩:=jxy cr (by simpa using hw);rw[XZ c];exact Kz 30 (jwl f2 hd) c c1 (by have:=L3.in1_units X.A;omega)
 rcases hq with hq|hq
 ·obtain⟨a8,r,pl,hz⟩:=I.list hq;have cr:=creps_of I ra f2 r;refine SeqAt.notIn_listAt _ pl.isList (he cr) ⟨.bl _,H,I,rfl,?_⟩;rw[List.any_toArray,kj2 cr];exact q
 ·obtain⟨a8,r,pl,hz⟩:=I.tuple hq;have cr:=creps_of I ra f2 r;refine SeqAt.notIn_tupleAt _ pl (he cr) ⟨.bl _,H,I,rfl,?_⟩;rw[List.any_toArray,kj2 cr];exact q
def qql(i4:Bool):R2:=λx y H Q=>∃i j,x=.str i/\y=.str j/\Q (.bl (if i4 then !wx9 i j else wx9 i j)) H
theorem opInStr:OpR X (compareOp .In) (qql false):=λpins s σ H x y v u Q I rx ry ⟨i,j,e1,e2,q⟩=>qv0 pins s σ H x y v u Q I rx ry ⟨i,j,e1,e2,q⟩
theorem opNotInStr:OpR X (compareOp .NotIn) (qql true):=λpins s σ H x y v u Q I rx ry ⟨i,j,e1,e2,q⟩=>kqt pins s σ H x y v u Q I rx ry ⟨i,j,e1,e2,q⟩
def XQ(K:Frag)(i4:Bool):R2:=λx y H Q=>qql i4 x y H Q\/qqm K i4 x y H Q
theorem vvl(hu:X.A.units+64<cLine)(hK:autoParam (X.K=K) Ŕ):OpR X (compareOp .In) (XQ K false):=by subst hK;exact opInStr.or (vvk hu)
theorem kkh(hu:X.A.units+64<cLine)(hK:autoParam (X.K=K) Ŕ):OpR X (compareOp .NotIn) (XQ K true):=by subst hK;exact opNotInStr.or (qjt hu)
theorem xj{H:Hp}{l:Addr}{xs:List V}(h:LsR K H l xs):SqL K H l xs:=h.sq
theorem kkw{x y:Sl}{ys:List D}{i4:Bool}{Q:VK}(ox:x.ok K H)(oy:y.ok K H)(hy:y.d=.lst ys\/y.d=.tup ys)(hc:(x.d.flat 30&&D.flats 30 ys)=true)
  (k:Q (.bl (if i4 then !(ys.any λz=>peq z x.d)else ys.any λz=>peq z x.d)) H):XQ K i4 x.v y.v H Q:=by
 rw[Bool.and_eq_true]at hc;obtain⟨l,xs,bs,e3,q3,r3,_⟩:=items oy hy;have r3':RepA K H true ys xs bs:=by
  cases ho:(y.o != .dp)with|true=>rw[ho]at r3;exact r3|false=>rw[ho]at r3;exact r3.wk
 refine .inr ⟨x.d,ys,x.as,bs,l,xs,RepO.wk ox,e3,?_,r3',hc.1,hc.2,k⟩;rcases q3 with⟨_,z⟩|⟨_,z⟩
 ·exact .inl (xj z)
 ·exact .inr z
theorem vxc:Ad2 K (XQ K false) (pu2 xV):=by
 intro H x y s Q ox oy hf k;unfold pu2 xV fIn at hf;dsimp only at hf;cases hy:y.d with
 | lst ys=>
  rw[hy]at hf;dsimp only at hf
  split at hf
  ·rename_i hc;cases oq9 hf;exact kkw ox oy (.inl hy) hc (k ⟨.dp,.bl _,.bl _,[]⟩ H rfl rfl wJ)
  ·cases hf
 | tup ys=>
  rw[hy]at hf;dsimp only at hf
  split at hf
  ·rename_i hc;cases oq9 hf;exact kkw ox oy (.inr hy) hc (k ⟨.dp,.bl _,.bl _,[]⟩ H rfl rfl wJ)
  ·cases hf
 | str b=>
  rw[hy]at hf;dsimp only at hf
  split at hf
  ·rename_i a hx;cases oq9 hf;exact .inl ⟨a,b,(wx ox hx).1,(wx oy hy).1,k ⟨.dp,.bl _,.bl _,[]⟩ H rfl rfl wJ⟩
  ·cases hf
 |_=>rw[hy]at hf;cases hf
theorem kq8:Ad2 K (XQ K true) (pu2 xK):=by
 intro H x y s Q ox oy hf k;unfold pu2 xK QK fIn at hf;dsimp only at hf;cases hy:y.d with
 | lst ys=>
  rw[hy]at hf;dsimp only at hf
  split at hf
  ·rename_i hc;cases oq9 hf;exact kkw ox oy (.inl hy) hc (k ⟨.dp,.bl _,.bl _,[]⟩ H rfl rfl wJ)
  ·cases hf
 | tup ys=>
  rw[hy]at hf;dsimp only at hf
  split at hf
  ·rename_i hc;cases oq9 hf;exact kkw ox oy (.inr hy) hc (k ⟨.dp,.bl _,.bl _,[]⟩ H rfl rfl wJ)
  ·cases hf
 | str b=>
  rw[hy]at hf;dsimp only at hf
  split at hf
  ·rename_i a hx;cases oq9 hf;exact .inl ⟨a,b,(wx ox hx).1,(wx oy hy).1,k ⟨.dp,.bl _,.bl _,[]⟩ H rfl rfl wJ⟩
  ·cases hf
 |_=>rw[hy]at hf;cases hf
theorem jxu{g:Bool}{d:D}{v:V}{as:List Addr}(h:RepL K H g d v as):decide (v=.non)=isNon d:=by
 cases d with|non=>unfold RepL at h;rw[h.1];rfl|bl _=>unfold RepL at h;rw[h.1];rfl|int _=>unfold RepL at h;rw[h.1];rfl|str _=>unfold RepL at h;rw[h.1];rfl|tup _=>unfold RepL at h;obtain⟨a,xs,e,_⟩:=h;rw[e];rfl|lst _=>unfold RepL at h;obtain⟨a,xs,bs,e,_⟩:=h;rw[e];rfl|dct _=>unfold RepL at h;obtain⟨a,xs,bs,e,_⟩:=h;rw[e];rfl|obj _ _=>unfold RepL at h;obtain⟨_,x,o,C,e,_⟩:=h;rw[e];rfl
theorem vq5:Ad2 K (λx y H Q=>y=.non/\Q (.bl (decide (x=.non))) H) (f2First fIsNon):=by
 intro H x y s Q ox oy hf k;unfold f2First fIsNon at hf;dsimp only at hf
 split at hf
 ·rename_i hy;cases oq9 hf;have e:=jxu (RepO.wk oy);rw[hy]at e;refine⟨Ys e,?_⟩;rw[jxu (RepO.wk ox)];exact k ⟨.dp,.bl _,.bl _,[]⟩ H rfl rfl wJ
 ·cases hf
theorem vx9:Ad2 K (λx y H Q=>y=.non/\Q (.bl (!decide (x=.non))) H) (f2First fNotNon):=by
 intro H x y s Q ox oy hf k;unfold f2First fNotNon at hf;dsimp only at hf
 split at hf
 ·rename_i hy;cases oq9 hf;have e:=jxu (RepO.wk oy);rw[hy]at e;refine⟨Ys e,?_⟩;rw[jxu (RepO.wk ox)];exact k ⟨.dp,.bl _,.bl _,[]⟩ H rfl rfl wJ
 ·cases hf
theorem vkl(n:Nat)(i:Int):_root_.Q.ixN n i=L2.ixN n i:=rfl
theorem vw9{x y:Sl}{d:D}{Q:VK}(ox:x.ok K H)(oy:y.ok K H)(hf:kq x.d y.d=some d)(k:∀z:Sl,z.o=sub x.o->z.d=d->z.ok K H->(∀b∈z.frz,b∈x.frz)->(∀b∈z.as,b∈x.as)->Q z.v H):rIx K x.v y.v H Q:=by
 have seq:∀ds:List D,(x.d=.lst ds\/x.d=.tup ds)->∀i:Int,y.d=.int i->((_root_.Q.ixN ds.length i).bind λj=>ds[j]?)=some d->rIx K x.v y.v H Q:=by
  intro ds hx i hy hd;obtain⟨l,xs,bs,e3,q3,r3,h3,h4⟩:=items ox hx;cases hj:_root_.Q.ixN ds.length i with
  | none=>rw[hj]at hd;cases hd
  | some j=>
   rw [hj]at hd;obtain⟨v,cs,e4,r4,h5⟩:=r3.get (show ds[j]?=some d from hd);have kr:atI xs i=some v:=by
    unfold atI;rw[<-r3.len,<-vkl,hj];exact e4
   have fin:Q v H:=by
    cases ho:x.o with
    | dp=>
     rw[ho]at r4;exact k ⟨.dp,d,v,cs⟩ (by rw[ho];rfl) rfl r4 (λb hb=>(nomatch hb)) λb hb=>h3 b (h5 b hb)
    | no=>
     rw[ho]at r4;exact k ⟨.no,d,v,cs⟩ (by rw[ho];rfl) rfl r4 (λb hb=>h4 (by rw[ho];exact(λz=>nomatch z)) b (h5 b hb)) λb hb=>h3 b (h5 b hb)
    | rt=>
     rw[ho]at r4;exact k ⟨.no,d,v,cs⟩ (by rw[ho];rfl) rfl r4 (λb hb=>h4 (by rw[ho];exact(λz=>nomatch z)) b (h5 b hb)) λb hb=>h3 b (h5 b hb)
   rcases q3 with⟨_,z⟩|⟨_,z⟩
   ·exact .inl ⟨l,xs,i,v,e3,kJ oy hy,xj z,kr,fin⟩
   ·exact .inr (.inl ⟨l,xs,i,v,e3,kJ oy hy,z,kr,fin⟩)
 unfold kq at hf;cases hx:x.d with
 | lst ds=>
  rw [hx]at hf;cases hy:y.d with| int i=>rw[hy]at hf;exact seq ds (.inl hx) i hy hf| _=>rw[hy]at hf;cases hf
 | tup ds=>
  rw [hx]at hf;cases hy:y.d with| int i=>rw[hy]at hf;exact seq ds (.inr hx) i hy hf| _=>rw[hy]at hf;cases hf
 | str z=>
  rw [hx]at hf;cases hy:y.d with
  | int i=>
   rw [hy]at hf;have hf:((_root_.Q.ixN z.cps.size i).bind λj=>(z.cps.toList[j]?).map λc=>D.str ⟨#[c]⟩)=some d:=hf;cases hj:_root_.Q.ixN z.cps.size i with
   | none=>rw[hj]at hf;cases hf
   | some j=>
    rw[hj]at hf;cases hc:z.cps.toList[j]? with
    | none=>rw[Option.bind_some,hc]at hf;cases hf
    | some c=>
     rw[Option.bind_some,hc]at hf;cases oq9 hf;have kr:atI z.cps.toList i=some c:=by
      unfold atI;rw[X7,<-vkl,hj];exact hc
     obtain⟨e1,hz⟩:=wx ox hx;refine .inr (.inr ⟨z,i,c,e1,kJ oy hy,hz,kr,?_⟩);have rp:∀g,RepL K H g (.str ⟨#[c]⟩) (.str ⟨#[c]⟩) []:=λg=>VV (show(1:Nat)<=sizeLine by decide)
     cases ho:x.o with|dp=>exact k ⟨.dp,.str ⟨#[c]⟩,.str ⟨#[c]⟩,[]⟩ (by rw[ho];rfl) rfl (rp false) (λb hb=>(nomatch hb)) λb hb=>(nomatch hb)|no=>exact k ⟨.no,.str ⟨#[c]⟩,.str ⟨#[c]⟩,[]⟩ (by rw[ho];rfl) rfl (rp true) (λb hb=>(nomatch hb)) λb hb=>(nomatch hb)|rt=>exact k ⟨.no,.str ⟨#[c]⟩,.str ⟨#[c]⟩,[]⟩ (by rw[ho];rfl) rfl (rp true) (λb hb=>(nomatch hb)) λb hb=>(nomatch hb)
  |_=>rw[hy]at hf;cases hf
 |non=>rw[hx]at hf;cases hf|bl _=>rw[hx]at hf;cases hf|int _=>rw[hx]at hf;cases hf|dct _=>rw[hx]at hf;cases hf|obj _ _=>rw[hx]at hf;cases hf
theorem q_ix(ha:QV X Z qa a ea)(hb:QV X Z true b eb)(hs:kxm eb)(hK:autoParam (X.K=Z.K) Ŕ):QV X Z qa (jZ a b) (.Subscript ea eb pos):=
 kz (wwe (hK▸wkv) ha hb hs) fun σ H Q ak=>ex8 ak λE L r m w hc xc k=>by
  refine kK m w (show bnd (a E) _=some r from hc) xc λE1 s h1 x L1 H1 e1 e2 m1 w1 ok fr sr st sm=>?_
  refine kK m1 w1 h1 (xc.step st) λE2 s2 h2 y L2 H2 e3 e4 m2 w2 ef kl kh b9 cj=>?_
  obtain⟨z,hz,rfl⟩:=vW h2;cases hf:kq s.2 s2.2 with
  |none=>rw[hf]at hz;cases hz
  |some d=>
   rw[hf]at hz;cases oq9 hz;have kx:=J0 ok fr b9 (cj rfl);refine vw9 kx.1 ef (by rw[e2,e4];exact hf) λz zo zd qh zf za=>?_
   exact k _ _ rfl z L2 H2 (by rw[zo,e1]) zd m2 w2 qh (λb hb=>kx.2 b (zf b hb)) (Q4 sr za) (st.trans b9) λhq=>jX (sm hq) (cj rfl)
theorem ww8(ht:QT X Z q u e)(ha:QE X Z q a ea)(hb:QE X Z q b eb):QE X Z q (cIf u a b) (.IfExp e ea eb pos):=kz (qzs ht ha hb) fun σ H Q ak=>ex8 ak λE L r m w hc xc k=>
 qxx m w (show bnd (u E) _=some r from hc) xc λE1 s h1 L1 H1 m1 w1 st sm=>by
  have fin:∀{c:Ex},c E1=some r->tQ Z q c σ H1 Q:=λhc=>⟨E1,L1,r,m1,w1,hc,xc.step st,λE' a z x L' H' e1 e2 m' w' dn gr=>k E' a z x L' H' e1 e2 m' w' (st.trans dn) λhq=>⟨jX (sm hq) (gr hq).1,λb hb=>z4 (sm hq) ((gr hq).2 b hb)⟩⟩
  cases s with|true=>rw[X6 rfl]at h1 ⊢;exact fin h1|false=>rw[X8 ⋯]at h1 ⊢;exact fin h1
theorem truV{x:Sl}{k:Bool}(ok:x.ok K H)(h:truth x.d=some k)(hd:∀a9,x.d≠.dct a9):wxt K x.v H k:=by
 cases hx:x.d with
 |non=>rw[hx]at h;rw[vkg ok hx];exact(oq9 h).symm|bl b=>rw[hx]at h;rw[V8 ok hx];exact(oq9 h).symm|int i=>rw[hx]at h;rw[kJ ok hx];exact(oq9 h).symm
 |str z=>
  rw[hx]at h;obtain⟨e,hz⟩:=wx ok hx;rw[e];refine⟨hz,?_⟩;rw[<-oq9 h];show(z.cps.size != 0)=(((z.cps.size:Nat):Int) != 0);rw[Bool.eq_iff_iff];simp
 |lst ds=>
  rw[hx]at h;obtain⟨a,xs,bs,e,q,r,_⟩:=items ok (.inl hx);rw[e];have q':LsR K H a xs:=by rcases q with⟨_,z⟩|⟨z,_⟩;exact z;rw[hx]at z;cases z
  refine .inl ⟨xs,xj q',?_⟩;rw[<-oq9 h];have:=r.len;cases ds<;>cases xs<;>simp_all
 |tup ds=>
  rw[hx]at h;obtain⟨a,xs,bs,e,q,r,_⟩:=items ok (.inr hx);rw[e];have q':SqT K H a xs:=by rcases q with⟨z,_⟩|⟨_,z⟩;rw[hx]at z;cases z;exact z
  refine .inr (.inl ⟨xs,q',?_⟩);rw[<-oq9 h];have:=r.len;cases ds<;>cases xs<;>simp_all
 |dct a9=>exact absurd hx (hd a9)|obj c f=>rw[hx]at h;cases h
theorem qkt{d:D}{k:Bool}(h:truthQ d=some k):truth d=some k/\∀a9,d≠.dct a9:=by
 cases d<;>first|exact⟨h,λ_ z=>nomatch z⟩|cases h
theorem kke(h:QV X Z q a ea)(he:autoParam (∀dk,isTrue ea X.env dk=(do let v <-dk;standAt ea.pos;holding [v] (truthy v))) Ŗ)(hK:autoParam (X.K=Z.K) Ŕ):QT X Z q (tEQ a) ea:=kz9 (qzn h he) fun σ H Q ak=>ex8 ak λE L r m w hc xc k=>
 kK m w (show bnd (a E) _=some r from hc) xc λE1 s h1 x L1 H1 e1 e2 m1 w1 ok fr sr st sm=>by
  obtain⟨kk,hk,rfl⟩:=vW h1;obtain⟨h2,h3⟩:=qkt hk;exact⟨kk,hK▸truV ok (by rw[e2];exact h2) (by rw[e2];exact h3),k _ _ rfl L1 H1 m1 w1 st sm⟩
end
theorem jz0{α:Type}:∀{L:List α} {i:Nat} {q:α},L[i]?=some q->∃A B,L=A++q::B/\∀q',L.set i q'=A++q'::B
 |[],_,_,h=>by simp at h
 |a::L,0,q,h=>by
  have e:a=q:=by simpa using h
  subst e;exact⟨[],L,rfl,λ_=>rfl⟩
 |a::L,i+1,q,h=>by
  obtain⟨A,B,e,f⟩:=jz0 (L:=L) (i:=i) (by simpa using h);exact⟨a::A,B,by rw[e];rfl,λq'=>by rw[List.set_cons_succ,f];rfl⟩
section
variable {K:Frag}{H:Hp}{M T L:Ls}{y y':Sl}{l:Addr}{ob:HO}
theorem World.write(w:World K H (some y::(T++M)))(hl:l∈y.own)(ok':y'.ok K (upd H l ob))(nd:y'.own.Nodup)(h1:∀a∈y'.own,a∈y.own\/a∈j4 T)(h2:∀a∈y'.frz,a∈y.as\/a∈j4 T\/a∈jx T)(h3:∀a∈y'.own,a∉y'.frz):
  World K (upd H l ob) (some y'::M)/\Step H (some y::(T++M)) (upd H l ob) (some y'::M):=by
 have wn:=w.nd;rw [jY,jw,Xm,Xm]at wn;obtain⟨n1,⟨n2,n3,n4⟩,n5⟩:=wn;have oy:l∈j4 (some y::(T++M)):=by rw[jY];exact ll9 _ hl
 have iz:=w.own_al oy;have ds:∀a,(a∈y.own\/a∈j4 T\/a∈j4 M)->¬(a∈y.frz\/a∈jx T\/a∈jx M):=λa ha hf=>by
  refine w.ds a ?_ ?_
  ·rw[jY,jw];rcases ha with z|z|z
   ·exact ll9 _ z
   ·exact lr9 _ (ll9 _ z)
   ·exact lr9 _ (lr9 _ z)
  ·rw[qJ,k3];rcases hf with z|z|z
   ·exact ll9 _ z
   ·exact lr9 _ (ll9 _ z)
   ·exact lr9 _ (lr9 _ z)
 have noM:∀z,some z∈M->l∉z.as:=λz hz ha=>by
  rcases Sl.as_of ha with q|q
  ·exact n5 l hl l (lr9 _ (mem_owned.mpr ⟨z,hz,q⟩)) rfl
  ·exact ds l (.inl hl) (.inr (.inr (mem_frozen.mpr ⟨z,hz,q⟩)))
 have ke:∀a o,H a=some o->a≠l->upd H l ob a=some o:=λa o e ne=>by rw[k9 ne];exact e
 have kp:∀as:List Addr,l∉as->Kp H (upd H l ob) as:=λas hn=>by
  refine⟨λa xs e=>ke a _ e λz=>?_,λa o u e=>ke a _ e λz=>?_,λa ha o e=>ke a o e λz=>hn (z▸ha)⟩
  ·subst z;rcases iz with⟨_,q⟩|⟨_,q⟩|⟨_,q⟩<;>(rw[e]at q;cases q)
  ·subst z;rcases iz with⟨_,q⟩|⟨_,q⟩|⟨_,q⟩<;>(rw[e]at q;cases q)
 have wM:World K (upd H l ob) M:=by
  have w1:World K H M:=w.tail.right;exact⟨λz hz=>RepO.kp (w1.ok z hz) (kp _ (noM z hz)),w1.nd,w1.ds⟩
 refine⟨wM.cons ok' nd (λa ha hM=>?_) (λa ha hM=>?_) (λa ha hM=>?_) h3,λa o e hn=>ke a o e λz=>hn (z▸oy),λa ha=>?_,λa ha=>?_⟩
 ·rcases h1 a ha with z|z
  ·exact n5 a z a (lr9 _ hM) rfl
  ·exact n4 a z a hM rfl
 ·rcases h1 a ha with z|z
  ·exact ds a (.inl z) (.inr (.inr hM))
  ·exact ds a (.inr (.inl z)) (.inr (.inr hM))
 ·rcases h2 a ha with z|z|z
  ·rcases Sl.as_of z with z|z
   ·exact n5 a z a (lr9 _ hM) rfl
   ·exact ds a (.inr (.inr hM)) (.inl z)
  ·exact n4 a z a hM rfl
  ·exact ds a (.inr (.inr hM)) (.inr (.inl z))
 ·rw[jY]at ha;rw[jY,jw];rcases aA ha with z|z
  ·rcases h1 a z with z|z
   ·exact .inl (ll9 _ z)
   ·exact .inl (lr9 _ (ll9 _ z))
  ·exact .inl (lr9 _ (lr9 _ z))
 ·rw[qJ]at ha;rw[jY,jw,qJ,k3];rcases aA ha with z|z
  ·rcases h2 a z with z|z|z
   ·rcases Sl.as_of z with z|z
    ·exact .inr (.inl (ll9 _ z))
    ·exact .inl (ll9 _ z)
   ·exact .inr (.inl (lr9 _ (ll9 _ z)))
   ·exact .inl (lr9 _ (ll9 _ z))
  ·exact .inl (lr9 _ (lr9 _ z))
theorem World.writeAt{i:Nat}(w:World K H (T++L))(hy:L[i]?=some (some y))(hl:l∈y.own)(ok':y'.ok K (upd H l ob))(nd:y'.own.Nodup)(h1:∀a∈y'.own,a∈y.own\/a∈j4 T)(h2:∀a∈y'.frz,a∈y.as\/a∈j4 T\/a∈jx T)(h3:∀a∈y'.own,a∉y'.frz):
  World K (upd H l ob) (L.set i (some y'))/\Step H (T++L) (upd H l ob) (L.set i (some y')):=by
 obtain⟨A,B,e,f⟩:=jz0 hy;rw[f];subst e;have p:(T++(A++some y::B)).Perm (some y::(T++(A++B))):=by
  refine(List.Perm.append_left T (List.perm_middle (a:=some y) (l₁:=A) (l₂:=B))).trans List.perm_middle
 obtain⟨w2,s2⟩:=World.write (M:=A++B) (w.perm p) hl ok' nd h1 h2 h3;exact⟨w2.perm List.perm_middle.symm,s2.perm p.symm List.perm_middle.symm⟩
end
theorem RepA.snoc{K:Frag}{H:Hp}{g:Bool}{d:D}{x:V}{cs:List Addr}(h:RepL K H g d x cs){ds:List D}{xs:List V}{bs:List Addr}(r:RepA K H g ds xs bs):RepA K H g (ds++[d]) (xs++[x]) (bs++cs):=by
 refine RepA.app ?_ r;unfold RepA;exact⟨x,[],cs,[],rfl,by simp,h,by unfold RepA;exact⟨rfl,rfl⟩⟩
theorem kwp{K:Frag}{H:Hp}{y:Sl}{ds:List D}(ok:y.ok K H)(hd:y.d=.lst ds)(ho:y.o≠.no):∃l xs bs,y.v=.ref l/\H l=some (.lst xs)/\y.as=l::bs/\l∈y.own/\RepA K H (y.o != .dp) ds xs bs:=by
 obtain⟨o,d,v,as⟩:=y;dsimp only at hd ho;subst hd;cases o with
 |no=>exact absurd rfl ho
 |rt=>
  obtain⟨a,xs,bs,rfl,r,q,rfl⟩:=(show RepR K H (.lst ds) v as from ok);exact⟨a,xs,bs,rfl,q,rfl,by simp[Sl.own],r⟩
 |dp=>
  have ok:RepL K H false (.lst ds) v as:=ok;unfold RepL at ok;obtain⟨a,xs,bs,rfl,r,q⟩:=ok;rcases q with⟨q,rfl⟩|⟨z,_⟩
  ·exact⟨a,xs,bs,rfl,q,rfl,by simp[Sl.own],r⟩
  ·cases z
theorem kwj{K:Frag}{H:Hp}{T L:Ls}{i:Nat}{y:Sl}{l:Addr}{xs xs':List V}{bs cs:List Addr}{o':Own}{ds':List D}(w:World K H (T++L))(hy:L[i]?=some (some y))(hH:H l=some (.lst xs))(ha:y.as=l::bs)(hl:l∈y.own)(hv:y.v=.ref l)
  (r:RepA K H (o' != .dp) ds' xs' cs) (hc:(o'=.rt/\∀a∈cs,a∈bs\/a∈j4 T\/a∈jx T)\/(o'=.dp/\y.o=.dp/\cs.Nodup/\∀a∈cs,a∈bs\/a∈j4 T)):
  World K (upd H l (.lst xs')) (L.set i (some ⟨o',.lst ds',y.v,l::cs⟩))/\Step H (T++L) (upd H l (.lst xs')) (L.set i (some ⟨o',.lst ds',y.v,l::cs⟩)):=by
 have oL:l∈j4 L:=mem_owned.mpr ⟨y,ww hy,hl⟩;have oy:l∈j4 (T++L):=by rw[jw];exact lr9 _ oL
 have nd:=w.nd;rw [jw,Xm]at nd;have nT:l∉j4 T:=λz=>nd.2.2 l z l oL rfl
 have nF:l∉jx T:=λz=>w.ds l oy (by rw[k3];exact ll9 _ z)
 have yn:y.own.Nodup:=by
  obtain⟨A,B,e,_⟩:=jz0 hy;have:=nd.2.1;rw[e,jw,jY,Xm]at this;exact(List.nodup_append.mp this.2.1).1
 have nb:l∉bs:=λz=>by
  cases ho:y.o with
  | no=>unfold Sl.own at hl;rw[ho]at hl;exact nomatch hl
  | rt=>
   have:l∈y.frz:=by unfold Sl.frz;rw[ho,ha];exact z
   exact w.ds l oy (by rw[k3];exact lr9 _ (mem_frozen.mpr ⟨y,ww hy,this⟩))
  | dp=>
   unfold Sl.own at yn;rw[ho,ha]at yn;exact(List.nodup_cons.mp yn).1 z
 have nc:l∉cs:=λz=>by
  rcases hc with⟨_,hc⟩|⟨_,_,_,hc⟩
  ·rcases hc l z with q|q|q
   ·exact nb q
   ·exact nT q
   ·exact nF q
  ·rcases hc l z with q|q
   ·exact nb q
   ·exact nT q
 have kp:Kp H (upd H l (.lst xs')) cs:=by
  have k2:∀a o,H a=some o->a≠l->upd H l (.lst xs') a=some o:=λa o e ne=>by rw[k9 ne];exact e
  refine⟨λa zs e=>k2 a _ e λz=>?_,λa o u e=>k2 a _ e λz=>?_,λa ha o e=>k2 a o e λz=>nc (z▸ha)⟩
  ·subst z;rw[hH]at e;cases e
  ·subst z;rw[hH]at e;cases e
 have r':=r.kp kp;rcases hc with⟨rfl,hc⟩|⟨rfl,hdp,da,hc⟩
 ·refine World.writeAt w hy hl (y':=⟨.rt,.lst ds',y.v,l::cs⟩) ⟨l,xs',cs,hv,r',vX,rfl⟩ (by simp[Sl.own]) (λa h=>?_) (λa h=>?_) (λa h z=>?_)
  ·have:a=l:=by simpa [Sl.own]using h
   subst this;exact .inl hl
  ·rcases hc a (by simpa [Sl.frz]using h)with q|q
   ·exact .inl (by rw[ha];exact lc9 _ q)
   ·exact .inr q
  ·have:a=l:=by simpa [Sl.own]using h
   subst this;exact nc (by simpa [Sl.frz]using z)
 ·have oa:y.own=y.as:=by unfold Sl.own;rw[hdp]
  refine World.writeAt w hy hl (y':=⟨.dp,.lst ds',y.v,l::cs⟩) ?_ (List.nodup_cons.mpr ⟨nc,da⟩) (λa h=>?_) (λa h=>(nomatch h)) (λa h z=>(nomatch z))
  ·show RepL K _ false (.lst ds') y.v (l::cs);unfold RepL;exact⟨l,xs',cs,hv,r',.inl ⟨vX,rfl⟩⟩
  ·rcases aD (show a∈l::cs from h)with q|q
   ·subst q;exact .inl hl
   ·rcases hc a q with q|q
    ·exact .inl (by rw[oa,ha];exact lc9 _ q)
    ·exact .inr q
section
variable {X:Cx}{Z:Fx0}{pn:List Nat}{q:Bool}{c:Ex}{e:Expr}{σ:L2.St}{H:Hp}{L:Ls}{E:En}
theorem qvh{K:Frag}{x:Sl}{ds:List D}(ok:x.ok K H)(hd:x.d=.lst ds):tyV K "list" x.v H:=by
 obtain⟨a,xs,bs,e1,q1,_⟩:=items ok (.inl hd);rw[e1];rcases q1 with⟨_,z⟩|⟨z,_⟩
 ·exact .inl ⟨rfl,xs,z.sq⟩
 ·rw[hd]at z;cases z
theorem wx2{K:Frag}{x:Sl}(ok:x.ok K H)(b:Bool)(hb:b=false->vY x.sd=true):∃cs,RepL K H b x.d x.v cs/\(∀a∈cs,a∈x.as)/\(b=false->∀a∈cs,a∈x.own)/\(b=false->x.own.Nodup->cs.Nodup):=by
 cases b with
 | true=>exact⟨x.as,RepO.wk ok,λ_ h=>h,(λz=>by cases z),(λz=>by cases z)⟩
 | false=>
  have t:=hb rfl;unfold vY at t
  by_cases ho:x.o=.dp
  ·have e:x.own=x.as:=by unfold Sl.own;rw[ho]
   refine⟨x.as,?_,λ_ h=>h,λ_ a h=>by rw[e];exact h,λ_ n=>by rw[e]at n;exact n⟩;have:=ok;unfold Sl.ok at this;rw[ho]at this;exact this
  ·have hp:x.d.pure=true:=by
    rcases Bool.or_eq_true_iff.mp t with z|z
    ·exact absurd (by simpa using z) ho
    ·exact z
   obtain⟨z,rp⟩:=RepL.pu (g':=false) (RepO.wk ok) hp;exact⟨[],rp,λ_ h=>(nomatch h),λ_ _ h=>(nomatch h),λ_ _=>Yf⟩
theorem YQ{α:Type}{l:List α}{i:Nat}{x:α}(h:l[i]?=some x):l.set i x=l:=by
 obtain⟨h1,h2⟩:=List.getElem?_eq_some_iff.mp h;rw[<-h2];simp
theorem wzd {D':Ends} {f:List D->D->Option (List D)} {i:Nat} {r:Fl} {G:V->V->Hp->Prop} (m:Mt E σ L) (w:World Z.K H L) (hc:v3 f i c E=some r) (k:FlP Z pn D' σ H L r)
  (g:∀ (l:Addr) (x:V) (xs:List V) (ds ds':List D) (d:D) (bs cs:List Addr) (H1:Hp) (gg:Bool),f ds d=some ds'->H1 l=some (.lst xs)->RepA Z.K H1 gg ds xs bs->RepL Z.K H1 gg d x cs ->
   (∀ xs' es,RepA Z.K H1 gg ds' xs' es->(∀a∈es,a∈bs\/a∈cs)->((bs++cs).Nodup->es.Nodup)->D'.nx σ (upd H1 l (.lst xs')))->G (.ref l) x H1):
  ∃ v,σ[i]?=some (some v)/\tyV Z.K "list" v H/\tQ Z q c σ H (G v):=by
 unfold v3 at hc;cases h0:E[i]? with
 | none=>rw[h0]at hc;cases hc
 | some s0 =>
  cases s0 with
  | none=>rw[h0]at hc;cases hc
  | some s0=>
   obtain ⟨o0,d0⟩:=s0;cases d0 with
   | lst kd=>
    rw [h0,X6 (show J7 (some (some (o0,D.lst kd)))=true from rfl)]at hc;obtain ⟨x0,a1,a2,a3,a4⟩:=m.get h0;refine ⟨x0.v,a4,qvh (w.ok x0 (ww a1)) a3,?_⟩;refine Qw m w hc k λE1 s h1 x L1 H1 e1 e2 m1 w1 st _=>?_
    cases hE:E1[i]? with
    | none=>rw[hE]at h1;cases h1
    | some s1=>
     cases s1 with
     | none=>rw[hE]at h1;cases h1
     | some s1=>
      obtain⟨oo,dd⟩:=s1;rw [hE]at h1;cases dd with
      | lst ds=>
       dsimp only at h1
       by_cases gz:oo=.no
       ·rw [X6 gz]at h1;cases h1
       ·rw [X8 gz]at h1;cases hfd:f ds s.2 with
        | none=>rw[hfd]at h1;cases h1
        | some ds'=>
         rw[hfd]at h1;obtain⟨y,b1,b2,b3,b4⟩:=m1.get hE;have hv:y.v=x0.v:=by rw[a4]at b4;exact(oq9 (oq9 b4)).symm
         obtain⟨l,xs,bs,c1,c2,c3,c4,c5⟩:=kwp (w1.ok y (lc9 _ (ww b1))) b3 (by rw[b2];exact gz);have ex0:x0.v=.ref l:=hv▸c1;rw[ex0];have wT:World Z.K H1 ([some x]++L1):=w1;have okx:=w1.head;have nd:=w1.nd;rw[jY,Xm]at nd;have oT:j4 [some x]=x.own:=by simp
         have fT:jx [some x]=x.frz:=by simp
         by_cases hd:oo=.dp/\vY s=true
         ·rw[X6 hd]at h1;cases oq9 h1;have hyo:y.o=.dp:=b2.trans hd.1;rw[hyo]at c5;obtain⟨cs,r1,h3,h4,h5⟩:=wx2 okx false λ_=>by rw[show x.sd=s from by simp[Sl.sd,e1,e2]];exact hd.2
          refine g l x.v xs ds ds' s.2 bs cs H1 false hfd c2 c5 (by rw[<-e2];exact r1) λxs' es re he hn=>?_
          have ynd:(bs++cs).Nodup:=by
           have yo:y.own=l::bs:=by unfold Sl.own;rw[hyo,c3]
           obtain⟨A,B,e,_⟩:=jz0 b1;have q:=nd.2.1;rw[e,jw,jY,Xm]at q;have q2:=(List.nodup_append.mp q.2.1).1;rw[yo]at q2;rw[Xm];refine⟨(List.nodup_cons.mp q2).2,h5 rfl nd.1,λa ha b hb dm=>?_⟩;subst dm;exact nd.2.2 a (h4 rfl a hb) a (mem_owned.mpr ⟨y,ww b1,by rw[yo];exact lc9 _ ha⟩) rfl
          obtain⟨w3,s3⟩:=kwj (o':=.dp) (ds':=ds') (xs':=xs') wT b1 c2 c3 c4 c1 re (.inr ⟨rfl,hyo,hn ynd,λa ha=>(he a ha).imp id λz=>by rw[oT];exact h4 rfl a z⟩);refine k σ _ _ Pn.refl ?_ w3 (st.trans s3);have:=m1.set (x:=⟨.dp,.lst ds',y.v,l::es⟩) i;rw[YQ b4]at this;exact this
         ·rw[X8 hd]at h1;cases oq9 h1;have c6:RepA Z.K H1 true ds xs bs:=by
           cases hb:(y.o != .dp)with|true=>rw[hb]at c5;exact c5|false=>rw[hb]at c5;exact c5.wk
          refine g l x.v xs ds ds' s.2 bs x.as H1 true hfd c2 c6 (by rw[<-e2];exact RepO.wk okx) λxs' es re he hn=>?_
          obtain⟨w3,s3⟩:=kwj (o':=.rt) (ds':=ds') (xs':=xs') wT b1 c2 c3 c4 c1 re (.inl ⟨rfl,λa ha=>(he a ha).imp id λz=>by rw[oT,fT];exact Sl.as_of z⟩);refine k σ _ _ Pn.refl ?_ w3 (st.trans s3);have:=m1.set (x:=⟨.rt,.lst ds',y.v,l::es⟩) i;rw[YQ b4]at this;exact this
      |_=>cases h1
   |_=>rw[h0]at hc;cases hc
theorem wwa{i:Nat}{o:Expr}{am ae pos:Pos}(hb:PE X (.Call (.Attribute o "append" am) [e] [] ae) (tBM Z.K "list" kwf (JZ i) (vqg (tQ Z q c) wvm)))(hs:autoParam (swapsWith (.Call (.Attribute o "append" am) [e] [] ae) none pos.line X.env=pure false) Ŕ):
  QS X Z pn (v3 vQ i c) (.Expr (.Call (.Attribute o "append" am) [e] [] ae) pos):=JQ (kwk hb hs) λD σ H ak=>ex7 ak λE L r m w hc k=>
 wzd (G:=λv x H1=>kwf v [x] H1 λ_ H2=>D.nx σ H2) m w hc k λl x xs ds ds' d bs cs H1 gg hf hH ra rx fin=>by
  unfold vQ at hf
  by_cases hl:ds.length<big
  ·rw[X6 hl]at hf;cases oq9 hf;exact⟨l,xs,x,rfl,rfl,hH,by rw[<-ra.len];exact hl,fin (xs++[x]) (bs++cs) (RepA.snoc rx ra) (λa ha=>aA ha) λh=>h⟩
  ·rw[X8 hl]at hf;cases hf
end
section
variable {X:Cx}{Z:Fx0}{pn:List Nat}{q:Bool}{a b c:Ex}{tg e ea eb:Expr}{σ:L2.St}{H:Hp}{L:Ls}{E:En}{pos p:Pos}
theorem vz9{pins:LA9}{H1:Hp}{s1:Shared}{x:Str}{t:Tok}{R:It->Hp->Prop}(I1:L2.Inv X pins σ H1 s1)(q:R (Its x) H1):wpAny (model X.prog X.w) X.A (pyIter (.str x t)) (PIE X pins σ tg R) X.xe s1:=by
 have fp:∀b∈[s1.heap.objs.size],qK X pins H1 b:=λb hb=>by
  have e:b=s1.heap.objs.size:=by simpa using hb
  subst e;exact I1.fpOk (Xa _) (I1.hok.fresh (Xa _))
 cases ha:x.cps.all (· < 128)
 ·exact wpAny_pyIter_wide ha ⟨s1.heap.objs.size,[s1.heap.objs.size],_,_,H1,rfl,I1.kept (t':=s1.toks) λb o e=>X3 _ e,kxr (λA' hA=>PySem.Walks.strWide hA _ x t) (λ_ _ _ _ _ st h=>wpAny_pyIter_striter_wide st h) ⋯,⟨_,Xg _ rfl,rfl,rfl⟩,fp,q⟩
 ·exact wpAny_pyIter_ascii ha ⟨s1.heap.objs.size,[s1.heap.objs.size],_,_,H1,rfl,I1.kept (t':=s1.toks) λb o e=>X3 _ e,kxr (λA' hA=>PySem.Walks.strAscii hA _ x t) (λ_ _ _ _ _ st h=>wpAny_pyIter_striter_ascii st h) ⋯,⟨_,Xg _ rfl,rfl,rfl⟩,fp,q⟩
theorem wka{K:Frag}{H:Hp}(c:Nat):Sl.ok K H ⟨.no,.str ⟨#[c]⟩,.str ⟨#[c]⟩,[]⟩:=by
 show RepL K H true _ _ _;exact VV (show(1:Nat)<=sizeLine by decide)
theorem wk9{K:Frag}{H:Hp}(i:Int):Sl.ok K H ⟨.no,.int i,.int i,[]⟩:=by
 show RepL K H true _ _ _;exact xk
def iAny(K:Frag)(tl:TE):TI:=fun σ H R=>tl σ H λx H1=>(∃a xs,x=.ref a/\SqL K H1 a xs/\(xs.length<=sizeLine->R (Itl K a) H1))\/(∃a xs,x=.ref a/\SqT K H1 a xs/\(xs.length<=sizeLine->R (Itt K a) H1))\/∃z,x=.str z/\R (Its z) H1
theorem wjq{l:Expr}{tl:TE}(hl:PE X l tl):PI X tg l (iAny X.K tl):=by
 intro pins s σ H R I h;have h':tl σ H λx H1=>(∃a xs,x=.ref a/\SqL X.K H1 a xs/\(xs.length<=sizeLine->R (Itl X.K a) H1))\/(∃a xs,x=.ref a/\SqT X.K H1 a xs/\(xs.length<=sizeLine->R (Itt X.K a) H1))\/∃z,x=.str z/\R (Its z) H1:=h
 refine thn (hl pins s σ H _ I h') λv s1 ⟨x,H1,I1,r1,q1⟩=>?_
 rcases q1 with⟨a,xs,rfl,hq,q⟩|⟨a,xs,rfl,hq,q⟩|⟨z,rfl,q⟩
 ·cases r1;obtain⟨a8,rv,p,hz⟩:=I1.list hq;refine wpAny_pyIter_list p.isList ?_;refine⟨s1.heap.objs.size,[s1.heap.objs.size],_,_,H1,rfl,I1.kept (t':=s1.toks) λb o e=>X3 _ e,qkq a _,⟨_,Xg _ rfl,rfl,rfl⟩,λb hb=>?_,q hz⟩;have e:b=s1.heap.objs.size:=by simpa using hb
  subst e;exact I1.fpOk (Xa _) (I1.hok.fresh (Xa _))
 ·cases r1;obtain⟨a8,rv,p,hz⟩:=I1.tuple hq;refine wpAny_pyIter_tuple (show s1.heap.IsTuple a a8.toArray from p) ?_;refine⟨s1.heap.objs.size,[s1.heap.objs.size],_,_,H1,rfl,I1.kept (t':=s1.toks) λb o e=>X3 _ e,qjh a _,⟨_,Xg _ rfl,rfl,rfl⟩,λb hb=>?_,q hz⟩;have e:b=s1.heap.objs.size:=by simpa using hb
  subst e;exact I1.fpOk (Xa _) (I1.hok.fresh (Xa _))
 ·obtain⟨t,rfl⟩:=r1;exact vz9 I1 q
theorem kQ(h:QE X Z q c e)(hK:autoParam (X.K=Z.K) Ŕ):QI X Z q tg (itS c) e:=λpins s σ H R I ak=>ex8 ak λE L r m w hc xc k=>by
 refine(hK▸wjq h) pins s σ H R I ?_;refine qzj m w (show bnd (c E) _=some r from hc) xc λE1 s h1 x L1 H1 e1 e2 m1 w1 st sm=>?_
 obtain⟨ds,hd,rfl⟩:=vW h1;have ok:=w1.head;have wT:World Z.K H1 (L1++[x.let].map some):=by
  refine World.comm (L:=[some x.let]) ?_;exact w1.tail.consNo (W7 ok) rfl λb hb=>w1.apart b hb
 have sT:Step H L H1 (L1++[x.let].map some):=by
  refine⟨st.keep,λb hb=>?_,λb hb=>?_⟩
  ·have:b∈j4 L1:=by simpa [Qx]using hb
   exact st.own b (by rw[jY];exact lr9 _ this)
  ·have:b∈jx L1\/b∈x.as:=by simpa [Qx]using hb
   rcases this with z|z
   ·exact st.frz b (by rw[qJ];exact lr9 _ z)
   ·exact kk5 st b z
 cases hx:x.d with
 | lst es=>
  rw[<-e2,hx]at hd;have jc:es=ds:=oq9 hd;subst jc;obtain⟨a,xs,bs,ev,q3,r3,h3,_⟩:=items ok (.inl hx);have q3:LsR Z.K H1 a xs:=by rcases q3 with⟨_,z⟩|⟨z,_⟩;exact z;rw[hx]at z;cases z
  have again:∀H2:Hp,(∀t∈[x.let],t.ok Z.K H2)->∃ys cs,SqL Z.K H2 a ys/\RepA Z.K H2 true es ys cs/\∀b∈cs,b∈x.as:=λH2 hok=>by
   obtain⟨a',ys,cs,o7,q4,r4,h4,_⟩:=items (hok x.let (aB rfl)) (.inl hx);have:a'=a:=by have:=o7.symm.trans ev;exact V.ref.inj this
   subst this;rcases q4 with⟨_,z⟩|⟨z,_⟩
   ·exact⟨ys,cs,z.sq,r4,h4⟩
   ·rw[show x.let.d=D.lst es from hx]at z;cases z
  refine .inl ⟨a,xs,ev,q3.sq,λag=>k _ _ rfl (Itl Z.K a) [x.let] L1 H1 m1 wT sT (by rw[r3.len];exact ag) (λhq=>(sm hq).1) ⟨λt ht=>by rw[aC ht];rfl,λi H2 hok hi=>?_,λH2 hok=>?_,λi H2 v H3 d hok hy i7=>?_⟩⟩
  ·obtain⟨ys,cs,s1,s2,_⟩:=again H2 hok;have hl:=s2.len;exact⟨ys,ys[i]'⋯,s1,X2 ⋯⟩
  ·obtain⟨ys,cs,s1,s2,_⟩:=again H2 hok;exact⟨ys,s1,by rw[s2.len];exact Xa _⟩
  ·obtain⟨ys,cs,s1,s2,s3⟩:=again H2 hok;obtain⟨e3,hy⟩:=hy;subst e3;obtain⟨v',cp,f1,f2,f3⟩:=s2.get i7;have:v'=v:=by have:=hy ys s1;rw[f1]at this;exact oq9 this
   subst this;exact⟨⟨.no,d,v',cp⟩,rfl,rfl,rfl,wZ,f2,λb hb=>⟨x.let,aB rfl,s3 b (f3 b hb)⟩⟩
 | tup es=>
  rw[<-e2,hx]at hd;have jc:es=ds:=oq9 hd;subst jc;obtain⟨a,xs,bs,ev,q3,r3,h3,_⟩:=items ok (.inr hx);have q3:SqT Z.K H1 a xs:=by rcases q3 with⟨z,_⟩|⟨_,z⟩;rw[hx]at z;cases z;exact z
  have again:∀H2:Hp,(∀t∈[x.let],t.ok Z.K H2)->∃ys cs,SqT Z.K H2 a ys/\RepA Z.K H2 true es ys cs/\∀b∈cs,b∈x.as:=λH2 hok=>by
   obtain⟨a',ys,cs,o7,q4,r4,h4,_⟩:=items (hok x.let (aB rfl)) (.inr hx);have:a'=a:=by have:=o7.symm.trans ev;exact V.ref.inj this
   subst this;rcases q4 with⟨z,_⟩|⟨_,z⟩
   ·rw[show x.let.d=D.tup es from hx]at z;cases z
   ·exact⟨ys,cs,z,r4,h4⟩
  refine .inr (.inl ⟨a,xs,ev,q3,λag=>k _ _ rfl (Itt Z.K a) [x.let] L1 H1 m1 wT sT (by rw[r3.len];exact ag) (λhq=>(sm hq).1) ⟨λt ht=>by rw[aC ht];rfl,λi H2 hok hi=>?_,λH2 hok=>?_,λi H2 v H3 d hok hy i7=>?_⟩⟩)
  ·obtain⟨ys,cs,s1,s2,_⟩:=again H2 hok;have hl:=s2.len;exact⟨ys,ys[i]'⋯,s1,X2 ⋯⟩
  ·obtain⟨ys,cs,s1,s2,_⟩:=again H2 hok;exact⟨ys,s1,by rw[s2.len];exact Xa _⟩
  ·obtain⟨ys,cs,s1,s2,s3⟩:=again H2 hok;obtain⟨e3,hy⟩:=hy;subst e3;obtain⟨v',cp,f1,f2,f3⟩:=s2.get i7;have:v'=v:=by have:=hy ys s1;rw[f1]at this;exact oq9 this
   subst this;exact⟨⟨.no,d,v',cp⟩,rfl,rfl,rfl,wZ,f2,λb hb=>⟨x.let,aB rfl,s3 b (f3 b hb)⟩⟩
 | str z=>
  rw[<-e2,hx]at hd;have hd:(if z.cps.size<=big then some (z.cps.toList.map λc=>D.str ⟨#[c]⟩)else none)=some ds:=hd
  split at hd
  ·rename_i hz;cases oq9 hd;refine .inr (.inr ⟨z,(wx ok hx).1,k _ _ rfl (Its z) [] L1 H1 m1 (by simpa using w1.tail) (by simpa using (st.trans Step.drop)) (by rw[X1,X7];exact hz) (λhq=>(sm hq).1) ⟨λt ht=>(nomatch ht),λi H2 _ hi=>?_,λH2 _=>?_,λi H2 v H3 d _ hy i7=>?_⟩⟩)
   ·show i<z.cps.size
    simpa using hi
   ·show(z.cps.toList.map λc=>D.str ⟨#[c]⟩).length=z.cps.size;simp
   ·obtain⟨e3,cc,hc,rfl⟩:=hy;subst e3;rw[Xe,Xw,hc]at i7;cases oq9 i7;exact⟨⟨.no,.str ⟨#[cc]⟩,.str ⟨#[cc]⟩,[]⟩,rfl,rfl,rfl,wZ,wka cc,λb hb=>(nomatch hb)⟩
  ·cases hd
 |non=>rw[<-e2,hx]at hd;cases hd|bl _=>rw[<-e2,hx]at hd;cases hd|int _=>rw[<-e2,hx]at hd;cases hd|dct _=>rw[<-e2,hx]at hd;cases hd|obj _ _=>rw[<-e2,hx]at hd;cases hd
theorem qje{K:Frag}(lo hi:Int):Walks K (Itr lo (hi - lo).toNat) [] (jV lo hi):=by
 have hl:(jV lo hi).length=(hi - lo).toNat:=by simp[jV]
 refine⟨λt ht=>(nomatch ht),λi H _ i6=>by rw[hl]at i6;exact i6,λH _=>by rw[hl];exact Xa _,λi H v H' d _ hy hd=>?_⟩;obtain⟨e,rfl⟩:=hy;subst e;unfold jV at hd;rw[Xe]at hd;cases hr:(List.range (hi - lo).toNat)[i]? with
 | none=>rw[hr]at hd;cases hd
 | some j=>
  rw[hr]at hd;have:j=i:=by
   obtain⟨_,h2⟩:=List.getElem?_eq_some_iff.mp hr
   simpa using h2.symm
  subst this;cases oq9 hd;exact⟨⟨.no,.int (lo+(j:Int)),.int (lo+(j:Int)),[]⟩,rfl,rfl,rfl,wZ,wk9 _,λb hb=>(nomatch hb)⟩
theorem jww{i:Int}(h:vK i=true):-(2 ^ 62)<=i/\i<2 ^ 62:=by
 unfold vK at h
 simpa using h
theorem Jk(ha:QV X Z q a ea)(hg:Gl X "range")(hm:X.mg "range"=none)(ba:autoParam (starEach [ea] X.env=[(false,eval ea X.env)]) Ŕ):QI X Z q tg (x5 a) (.Call (.Name "range" p) [ea] [] pos):=λpins s σ H R I ak=>ex8 ak λE L r m w hc xc k=>by
 refine(qqw hg hm (qQ ha vq ba) ba) pins s σ H R I ?_;refine kK m w (show bnd (a E) _=some r from hc) xc λE1 s h1 x L1 H1 e1 e2 m1 w1 ok fr sr st sm=>?_
 cases hx:s.2 with
 | int j=>
  rw[hx]at h1;dsimp only at h1
  split at h1
  ·rename_i hj;cases oq9 h1;obtain⟨j1,j2⟩:=jww hj.1;have hv:=kJ ok (e2.trans hx);refine⟨j,by rw[hv],j1,j2,?_⟩;have wk:=qje (K:=Z.K) 0 j;rw[Int.sub_zero]at wk;exact k _ _ rfl (Itr 0 j.toNat) [] L1 H1 m1 (by simpa using w1) (by simpa using st) (by simp only[jV,X1,Xu,Int.sub_zero];exact hj.2) sm wk
  ·cases h1
 |_=>rw[hx]at h1;cases h1
theorem Mt.clr:∀{R:List Nat} {E:En} {L:Ls},Mt E σ L->Mt (Q.clr R E) σ (Q.clr R L)
 | [],_,_,m=>m
 | j::R,E,L,m=>by
  have un:∀{E:En} {σ:L2.St} {L:Ls} (j:Nat),Mt E σ L->Mt (E.set j none) σ (L.set j none):=by
   intro E σ L j m
   induction m generalizing j with
   |nil=>exact .nil
   |un m ih=>cases j with|zero=>exact .un m|succ j=>exact .un (ih j)
   |cons m ih=>cases j with|zero=>exact .un m|succ j=>exact .cons (ih j)
  show Mt (Q.clr R (E.set j none)) σ (Q.clr R (L.set j none));exact Mt.clr (un j m)
theorem Mt.drop:∀{E:En} {σ:L2.St} {L:Ls} (k:Nat),Mt E σ L->Mt (E.drop k) (σ.drop k) (L.drop k)
 |_,_,_,0,m=>m|_,_,_,k+1,.nil=>.nil|_,_,_,k+1,.un m=>m.drop k|_,_,_,k+1,.cons m=>m.drop k
theorem Mt.none_at:∀{E:En} {σ:L2.St} {L:Ls} {j:Nat},Mt E σ L->E[j]?=some none->L[j]?=some none
 |_,_,_,_,.nil,h=>by simp at h|_,_,_,0,.un _,_=>by simp|_,_,_,j+1,.un m,h=>by simpa using m.none_at (j:=j) (by simpa using h)|_,_,_,0,.cons _,h=>by simp at h|_,_,_,j+1,.cons m,h=>by simpa using m.none_at (j:=j) (by simpa using h)
theorem Mt.pick:∀{R:List Nat},Mt E σ L->Mt (R.map (at' E)) (R.map (at' σ)) (R.map (at' L))
 | [],_=>.nil
 | j::R,m=>by
  rw[List.map_cons,List.map_cons,List.map_cons];cases hE:E[j]? with
  | none=>
   have hl:=m.len;have:L[j]?=none:=by rw[List.getElem?_eq_none_iff]at hE ⊢;lia
   rw[show at' E j=none from by unfold at';rw[hE];rfl,show at' L j=none from by unfold at';rw[this];rfl];exact .un m.pick
  | some s=>
   cases s with
   |none=>
    have:L[j]?=some none:=m.none_at hE;rw[show at' E j=none from by unfold at';rw[hE];rfl,show at' L j=none from by unfold at';rw[this];rfl];exact .un m.pick
   |some s=>
    obtain⟨o,d⟩:=s;obtain⟨x,h1,h2,h3,h4⟩:=m.get hE;rw[show at' E j=some (x.o,x.d)from by unfold at';rw[hE,h2,h3];rfl,show at' L j=some x from by unfold at';rw[h1];rfl,show at' σ j=some x.v from by unfold at';rw[h4];rfl];exact .cons m.pick
theorem Mt.rep:∀{k:Nat},Mt E σ L->Mt (List.replicate k none++E) (List.replicate k none++σ) (List.replicate k none++L)
 |0,m=>by simpa using m
 |k+1,m=>by
  rw[List.replicate_succ,List.replicate_succ,List.replicate_succ];exact .un m.rep
theorem Mt.back:∀{R:List Nat} {B:En} {τ:L2.St} {M:Ls} {E:En} {L:Ls},Mt E σ L->Mt B τ M->(∀(i j:Nat) (v:V),R[i]?=some j->τ[i]?=some (some v)->σ[j]?=some (some v))->Mt (Q.back R B E) σ (Q.back R M L)
 | [],B,τ,M,E,L,m,_,_=>by simpa [Q.back]using m| j::R,_,_,_,E,L,m,.nil,_=>by simpa [Q.back]using m
 | j::R,_,_,_,E,L,m,.un mB,h=>by
  have un:∀{E:En} {σ:L2.St} {L:Ls} (j:Nat),Mt E σ L->Mt (E.set j none) σ (L.set j none):=by
   intro E σ L j m
   induction m generalizing j with
   |nil=>exact .nil
   |un m ih=>cases j with|zero=>exact .un m|succ j=>exact .un (ih j)
   |cons m ih=>cases j with|zero=>exact .un m|succ j=>exact .cons (ih j)
  show Mt (Q.back R _ (E.set j none)) σ (Q.back R _ (L.set j none));exact Mt.back (un j m) mB λi jj v e1 e2=>h (i+1) jj v (by simpa using e1) (by simpa using e2)
 |j::R,_,_,_,E,L,m,.cons (x:=x) mB,h=>by
  have h0:=h 0 j x.v (by simp) (by simp);have m1:=m.set (x:=x) j;rw[YQ h0]at m1;show Mt (Q.back R _ (E.set j _)) σ (Q.back R _ (L.set j _));exact Mt.back m1 mB λi jj v e1 e2=>h (i+1) jj v (by simpa using e1) (by simpa using e2)
section
variable {aj df:Expr}{cz:List Expr}{scope:Scope}{N:List Str}{k:Nat}{R:List Nat}{it:Ev (List D)}{tt:Tg}{u:Ts}{o:Own}{q1 q2:Bool}
theorem vw6:zw k R σ=List.replicate k none++R.map (at' σ):=rfl
theorem wwr{K:Frag}{M:Ls}(hR:R.Nodup)(w:World K H (L++M)):World K H ((List.replicate k none++R.map (at' L))++(Q.clr R L++M))/\Step H (L++M) H ((List.replicate k none++R.map (at' L))++(Q.clr R L++M)):=by
 have p:(sls (L++M)).Perm (sls ((List.replicate k none++R.map (at' L))++(Q.clr R L++M))):=by
  have:=qj8 (R:=R) (L:=L) hR;rw[KW]at this;simp only[KW,vqh,List.nil_append];rw[<-Y4];exact(this.append_right _).symm
 exact⟨w.same p,Step.refl.same (List.Perm.refl _) p⟩
theorem wki{K:Frag}{B:Ls}{M:Ls}{H2:Hp}(hR:R.Nodup)(hr:∀j∈R,j<L.length)(hB:B.length=k+R.length)(w:World K H2 (B++(Q.clr R L++M))):World K H2 (Q.back R (B.drop k) (Q.clr R L)++M)/\Step H2 (B++(Q.clr R L++M)) H2 (Q.back R (B.drop k) (Q.clr R L)++M):=by
 have p:=kvx (R:=R) (B:=B.drop k) (L:=Q.clr R L) hR (λj hj=>qx3 hj) (λj hj=>by rw[qx2];exact hr j hj) (by rw[Zj,hB];lia);have p2:(sls (Q.back R (B.drop k) (Q.clr R L)++M)).Perm (sls (B.drop k++(Q.clr R L++M))):=by
  rw[KW,<-Y4,KW (B.drop k++Q.clr R L)];exact p.append_right _
 have sub:(sls (B.drop k++(Q.clr R L++M))).Sublist (sls (B++(Q.clr R L++M))):=by
  rw[KW,KW B];refine List.Sublist.append ?_ (List.Sublist.refl _);unfold sls;exact(List.drop_sublist k B).filterMap _
 exact⟨(w.sub sub).same p2.symm,(Step.refl.sub sub).same (List.Perm.refl _) p2.symm⟩
theorem jz5:∀{is:List Nat} {es:List D} {E E':En},setAll is es E=some E'->E'.length=E.length
 |[],[],_,_,h=>by cases oq9 h;rfl|[],_::_,_,_,h=>by cases h|_::_,[],_,_,h=>by cases h|i::is,d::es,E,E',h=>by rw[jz5 (E:=E.set i (some (.no,d))) h,List.length_set]
theorem vqx{t:Tg}{d:D}{E E':En}(h:t.put d E=some E'):E'.length=E.length:=by
 cases t with
 |n i=>cases oq9 h;rw[List.length_set]
 |t is=>
  cases d with|tup es=>exact jz5 (show setAll is es E=some E' from h)|lst es=>exact jz5 (show setAll is es E=some E' from h)|_=>cases h
theorem qvu{nN:Nat}{Q:VK}(hσ:σ.length=nN)(hR:R.Nodup)(hr:∀j∈R,j<nN)(h:tQ Z q (cLC o k R it tt u c) σ H Q):tLC (tIS Z q it) (tG Z ((List.range R.length).map (k + ·)) tt) (tT Z q u) (tQ Z q c) k R σ H Q:=by
 obtain⟨E,L,r,m,w,d8,xc,kk⟩:=h;have d8:bnd (it E) (λE ds=>match lcL tt u c ds (JJ k R E) []with
  | some (.ok B xs)=>mkL o (wY k R B E) xs| some (.exc B e)=>some (.exc (wY k R B E) e)
  | none=>none)=some r:=d8
 rcases vk d8 with⟨E1,ds,h1,h2⟩|⟨E1,cc,h1,h2⟩
 rotate_left
 ·exact⟨E,L,_,m,w,h1,xc.map h2,λE' s' z=>by cases z⟩
 refine⟨E,L,_,m,w,h1,(λ_ _ z=>by cases z),λE' ds' z J T L1 H1 m1 w1 st hz sm wk=>?_⟩;injection z with z1 z2;subst z1 z2;have hL1:∀j∈R,j<L1.length:=λj hj=>by have:=m1.len;have:=hr j hj;lia
 obtain⟨wB,sB⟩:=wwr (k:=k) hR w1;cases hrB:lcL tt u c ds (JJ k R E1) []with
 | none=>rw[hrB]at h2;cases h2
 | some rB=>
  rw [hrB]at h2;have okT:∀{H2:Hp} {A B:Ls},World Z.K H2 (A++(B++(_root_.Q.clr R L1++T.map some)))->∀t∈T,t.ok Z.K H2:=λw2 t ht=>w2.ok t (lr9 _ (lr9 _ (lr9 _ (Xs ht))))
  have mB0:Mt (JJ k R E1) (zw k R σ) (List.replicate k none++R.map (at' L1)):=(m1.pick (R:=R)).rep;have qy:∀{B:En} {LB:Ls} {τ:L2.St} {H2:Hp} {A:Ls},Mt B τ LB->τ.length=k+R.length->Pn ((List.range R.length).map (k + ·)) (zw k R σ) τ->World Z.K H2 (LB++(A++(_root_.Q.clr R L1++T.map some))) ->
    Mt (wY k R B E1) σ (_root_.Q.back R (LB.drop k) (_root_.Q.clr R L1))/\World Z.K H2 (A++_root_.Q.back R (LB.drop k) (_root_.Q.clr R L1))/\Step H2 (LB++(A++(_root_.Q.clr R L1++T.map some))) H2 (A++_root_.Q.back R (LB.drop k) (_root_.Q.clr R L1)):=fun {B LB τ H2 A} mB lB pB wB2=>by
   have hl:LB.length=k+R.length:=by rw[mB.len.2];exact lB
   have pm:(LB++(A++(_root_.Q.clr R L1++T.map some))).Perm (LB++(_root_.Q.clr R L1++(A++T.map some))):=by
    refine List.Perm.append_left _ ?_;rw [<-Y4,<-Y4];exact List.Perm.append_right _ Za
   obtain⟨w3,s3⟩:=wki (k:=k) hR hL1 hl (wB2.perm pm);have pm2:(_root_.Q.back R (LB.drop k) (_root_.Q.clr R L1)++(A++T.map some)).Perm ((A++_root_.Q.back R (LB.drop k) (_root_.Q.clr R L1))++T.map some):=by
    rw [<-Y4];exact List.Perm.append_right _ Za
   refine⟨?_,(w3.perm pm2).left,(s3.perm pm.symm pm2).trans Step.dropT⟩;refine Mt.back (m1.clr) (mB.drop k) λi j v e1 e2=>?_
   have hi:i<R.length:=(List.getElem?_eq_some_iff.mp e1).1;have e3:=pB (k+i) (List.mem_map.mpr ⟨i,List.mem_range.mpr hi,rfl⟩);rw [List.getElem?_drop,e3,vw6,List.getElem?_append_right (by simp),Z8,show k+i - k=i from by lia,Xe,e1]at e2;have e4:at' σ j=some v:=by simpa using e2
   unfold at' at e4;cases hh:σ[j]? with| none=>rw[hh]at e4;cases e4| some s=>rw[hh]at e4;rw[show s=some v from e4]
  refine⟨λi n ys τ H2=>∃(B:En) (LB:Ls) (aa:List Sl),Mt B τ LB/\τ.length=k+R.length/\Pn ((List.range R.length).map (k + ·)) (zw k R σ) τ/\World Z.K H2 (LB++(aa.map some++(_root_.Q.clr R L1++T.map some)))/\Step H L H2 (LB++(aa.map some++(_root_.Q.clr R L1++T.map some))) /\
   ys=aa.map Sl.v/\lcL tt u c (ds.drop i) B (aa.map Sl.sd)=some rB/\i<=ds.length/\aa.length<=i/\n=ds.length - i/\(q=true->jK H H2/\∀b∈j4 (aa.map some),H b=none),⟨_,JJ k R E1,_,[],mB0,by simp[zw],Pn.refl,wB,st.trans sB,rfl,hrB,Yd _,Yd _,rfl,λhq=>⟨sm hq,λ_ z=>(nomatch z)⟩⟩,?_⟩
  rintro i n ys τ H2 ⟨B,LB,aa,mB,lB,pB,wB2,sB2,rfl,f1,hi,cu,rfl,smB⟩
  by_cases b7:i<ds.length
  rotate_left
  ·have e:i=ds.length:=⋯
   subst e;rw [List.drop_length]at f1;cases oq9 f1;obtain⟨m3,w3,s3⟩:=qy mB lB pB wB2;refine .inl ⟨wk.stop H2 (okT wB2) (λhq=>(smB hq).1),by rw[X1];lia,?_⟩;exact kzo (σ:=σ) (Q:=Q) (o:=o) (xs:=aa) h2 rfl w3 (sB2.trans s3) smB kk m3
  ·have hd:ds.drop i=ds[i]::ds.drop (i+1):=Z7 b7;rw [hd]at f1;unfold lcL at f1;cases bc:tt.put ds[i] B with
   | none=>rw[bc]at f1;cases f1
   | some B2=>
    rw [bc]at f1;dsimp only at f1;refine .inr ⟨wk.go i H2 (okT wB2) (λhq=>(smB hq).1) b7,λv H3 hy=>?_⟩;obtain⟨z,zo,zd,zv,smz,qh,zas⟩:=wk.yld i H2 v H3 ds[i] (okT wB2) (λhq=>(smB hq).1) hy (X2 b7);have pm:(LB++(aa.map some++(_root_.Q.clr R L1++T.map some))).Perm ((LB++(aa.map some++_root_.Q.clr R L1))++T.map some):=by
     rw[<-Y4 (aa.map some),<-Y4]
    obtain⟨wz,sz⟩:=kjm (wB2.perm pm) wk.no smz qh zo zas;have wz':World Z.K H3 ((some z::LB)++(aa.map some++(_root_.Q.clr R L1++T.map some))):=wz.perm (by
     rw[List.cons_append,List.cons_append];exact List.Perm.cons _ pm.symm)
    have sz':Step H2 (LB++(aa.map some++(_root_.Q.clr R L1++T.map some))) H3 ((some z::LB)++(aa.map some++(_root_.Q.clr R L1++T.map some))):=sz.perm pm.symm (by
     rw[List.cons_append,List.cons_append];exact List.Perm.cons _ pm.symm)
    refine⟨B,LB,z,B2,mB,wz'.left,zo,zv,by rw[zd];exact bc,fun τ2 LB2 p2 mB2 wB3 sB3=>?_⟩;obtain⟨w4,s4⟩:=stay wz' sB3 wB3;have lB2:τ2.length=k+R.length:=by
     have h1:=mB2.len.1;have h2:=mB.len.1;have h3:=vqx bc;lia
    have p3:=pB.trans p2;have oe:Step H L H3 (LB2++(aa.map some++(_root_.Q.clr R L1++T.map some))):=sB2.trans (sz'.trans s4);have fq:q=true->jK H H3/\∀b∈j4 (aa.map some),H b=none:=λhq=>⟨jX (smB hq).1 smz,(smB hq).2⟩
    refine⟨λy H5=>∃(B:En) (LB:Ls) (bj:List Sl),Mt B τ2 LB/\World Z.K H5 (LB++(bj.map some++(_root_.Q.clr R L1++T.map some)))/\Step H L H5 (LB++(bj.map some++(_root_.Q.clr R L1++T.map some)))/\aa.map Sl.v++[y]=bj.map Sl.v/\bj.length=aa.length+1/\lcL tt u c (ds.drop (i+1)) B (bj.map Sl.sd)=some rB/\(q=true->jK H H5/\∀b∈j4 (bj.map some),H b=none),
     λH5=>∃B LB,Mt B τ2 LB/\World Z.K H5 (LB++(aa.map some++(_root_.Q.clr R L1++T.map some)))/\Step H L H5 (LB++(aa.map some++(_root_.Q.clr R L1++T.map some)))/\lcL tt u c (ds.drop (i+1)) B (aa.map Sl.sd)=some rB/\(q=true->jK H H5/\∀b∈j4 (aa.map some),H b=none),
     λy H5 ⟨B5,LB5,acc5,c1,c2,c3,c4,c5,c6,c7⟩=>⟨by rw[X1];lia,ds.length - (i+1),⋯,B5,LB5,acc5,c1,lB2,p3,c2,c3,c4,c6,b7,⋯,rfl,c7⟩,
     λH5 ⟨B5,LB5,c1,c2,c3,c6,c7⟩=>⟨ds.length - (i+1),⋯,B5,LB5,aa,c1,lB2,p3,c2,c3,rfl,c6,b7,⋯,rfl,c7⟩,?_⟩
    have xcB:∀{α:Type} {H6:Hp} {L6:Ls} {B6:En} {cc:Str} {A:Ls},rB=.exc B6 cc->World Z.K H6 (L6++(A++(_root_.Q.clr R L1++T.map some)))->Step H L H6 (L6++(A++(_root_.Q.clr R L1++T.map some)))->Xc Z τ2 H6 L6 (.exc B6 cc:Res α):=fun {α H6 L6 B6 cc A} er w6 s6 E7 c7 e7 C L7 H7 hm m7 w7 s7=>by
     injection e7 with e8 e9;subst e8 e9;subst er;cases oq9 h2;obtain⟨w8,s8⟩:=stay w6 s7 w7;obtain⟨m9,w9,s9⟩:=qy m7 lB2 p3 w8;exact xc _ _ rfl C _ H7 hm m9 w9.right ((s6.trans (s8.trans s9)).trans ⟨λ_ _ h _=>h,λa ha=>.inl (by rw[jw];exact lr9 _ ha),λa ha=>.inl (by rw[k3];exact lr9 _ ha)⟩)
    rcases vk f1 with⟨B4,kb,g1,g2⟩|⟨B4,cc,g1,g2⟩
    rotate_left
    ·exact⟨B2,LB2,_,mB2,wB3,g1,xcB g2 w4 oe,λE' s' z=>by cases z⟩
    refine⟨B2,LB2,_,mB2,wB3,g1,(λ_ _ z=>by cases z),λE' s' z LB4 H4 mB4 wB4 sB4 m5=>?_⟩;injection z with z1 z2;subst z1 z2;obtain⟨w5,s5⟩:=stay w4 sB4 wB4;have im:=oe.trans s5;cases kb with
    | false=>
     rw[X8 ⋯]at g2 ⊢;exact⟨B4,LB4,mB4,w5,im,g2,λhq=>⟨jX (fq hq).1 (m5 hq),(fq hq).2⟩⟩
    | true=>
     rw[X6 rfl]at g2 ⊢;rcases vk g2 with⟨B6,y,g3,g4⟩|⟨B6,cc,g3,g4⟩
     rotate_left
     ·exact⟨B4,LB4,_,mB4,wB4,g3,xcB g4 w5 im,λE' s' z=>by cases z⟩
     refine⟨B4,LB4,_,mB4,wB4,g3,(λ_ _ z=>by cases z),λE' s' z x LB6 H6 ex ey mB6 wB6 sB6 sm6=>?_⟩;injection z with z1 z2;subst z1 z2;obtain⟨w7,s7⟩:=stay w5 sB6 wB6;have pm3:((some x::LB6)++(aa.map some++(_root_.Q.clr R L1++T.map some))).Perm (LB6++((aa++[x]).map some++(_root_.Q.clr R L1++T.map some))):=by
      rw[Xf,List.cons_append];have:(LB6++(aa.map some++[x].map some++(_root_.Q.clr R L1++T.map some)))=(LB6++aa.map some)++some x::(_root_.Q.clr R L1++T.map some):=by simp
      rw[this];refine List.Perm.trans ?_ List.perm_middle.symm;rw[Y4]
     refine⟨B6,LB6,aa++[x],mB6,w7.perm pm3,(im.trans s7).perm (List.Perm.refl _) pm3,by simp,by simp,?_,λhq=>⟨jX (fq hq).1 (jX (m5 hq) (sm6 hq).1),λb hb=>?_⟩⟩
     ·rw[Xf,show[x].map Sl.sd=[y]from by simp[Sl.sd,ex,ey]];exact g4
     ·rw[Xf,jw]at hb;rcases aA hb with hb|hb
      ·exact(fq hq).2 b hb
      ·have hb:b∈x.own:=by simpa using hb
       exact z4 (jX (fq hq).1 (m5 hq)) ((sm6 hq).2 b hb)
theorem wz9(N:List Str)(hi:QI X Z q tg it aj)
  (hg:∀cl C s0 H0 fp,QG (lcE X scope N cl C s0 H0 fp Z.EX) Z ((List.range R.length).map (k + ·)) tt tg) (ht:∀cl C s0 H0 fp,PTs (lcE X scope N cl C s0 H0 fp Z.EX) cz (tT Z q u)) (he:∀cl C s0 H0 fp,QE (lcE X scope N cl C s0 H0 fp Z.EX) Z q c df)
  (gx:xX X Z.EX) (top:zQ X) (hR:R.Nodup) (hr:∀j∈R,j<X.N.length) (hc:autoParam (X.calm=true) Ŕ) (hk:autoParam (scope.kind=.function) Ŕ) (iu:autoParam (Q2 X.N X.env.scope scope N k R=true) Ŕ) (hs:autoParam (∀x,foldedSetIterable aj X.env x=pure x) Ŗ):
  QE X Z q (cLC o k R it tt u c) (.ListComp df [⟨tg,aj,cz,0⟩] scope pos):=λpins s σ H Q I hw=>
 wjx (EX:=Z.EX) N k R (wz8 hi) hg ht he gx top hc hk iu hs pins s σ H Q I (qvu I.len hR hr hw)
theorem qqt{EX:XK}{wi:TI}{g:TG}{tte:TT}{te:TE}{i:Nat}{y:Str}{py fe:Pos}(N:List Str)(k:Nat)(R:List Nat)(hN:X.N.Nodup)(hy:X.N[i]?=some y)(hx:Loc X.env.scope y)(hi:PI X tg aj wi)
  (hg:∀cl C s0 H0 fp,PG (lcE X scope N cl C s0 H0 fp EX) tg g) (ht:∀cl C s0 H0 fp,PTs (lcE X scope N cl C s0 H0 fp EX) cz tte) (he:∀cl C s0 H0 fp,PE (lcE X scope N cl C s0 H0 fp EX) df te) (gx:xX X EX) (top:zQ X)
  (je:autoParam (swapsWith (.ListComp df [⟨tg,aj,cz,0⟩] scope pos) (some (.Name y py)) fe.line X.env=pure true) Ŕ)
  (hc:autoParam (X.calm=true) Ŕ) (hk:autoParam (scope.kind=.function) Ŕ) (iu:autoParam (Q2 X.N X.env.scope scope N k R=true) Ŕ) (hs:autoParam (∀x,foldedSetIterable aj X.env x=pure x) Ŗ)
  (hf:autoParam (X.fn y=true\/X.env.scope.names.lookup y=some .local) ś):
  PS X (.Assign [.Name y py] (.ListComp df [⟨tg,aj,cz,0⟩] scope pos) fe) (λD σ H=>tLC wi g tte te k R σ H λv H1=>D.nx (σ.set i (some v)) H1):=by
 intro pins s σ H D I h;have sc:=kzr hk iu;obtain⟨cl,iw,c9,b6⟩:=kjr (scope:=scope) (env:=X.env) λy hy e=>I.ok.has y.1 (sc.caps y hy e)
 rw[exec_Assign_Name_used _ _ _ _ je];refine X0 (wpAny_standAt (X0 ?_));show wpAny _ X.A (do let _ <-comprehension (.ListComp df [⟨tg,aj,cz,0⟩] scope pos) scope X.env _ (newList []) false (eval aj X.env) (some (assign (.Name y py) X.env))) _ _ s;refine X0 (thn (wpAny_comprehension_free (use:=some (assign (.Name y py) X.env)) (Q:=λ_ s'=>SP X pins D .next s') rfl hs iw sc.kind sc.names
  (thn (hi pins s σ H _ I h) λv s1 h1=>thn h1 λitv s2 h2=>?_)) λ_ s' hq=>X4 (X4 hq))
 obtain⟨it,fp,tn,J,H2,e,I2,T,b9,f2,W,w0,dz⟩:=h2;subst e;refine kv2 (EX:=EX) (RR:=λaa C=>compPost (model X.prog X.w) X.A X.xe (some (assign (.Name y py) X.env)) (λ_ s'=>SP X pins D .next s') aa C) hc top sc c9 b6 (hg cl) (ht cl) (he cl) I2 T b9 f2 w0 dz ?_ ?_
 rotate_left
 ·intro D' C s' bo σ' H' x T Cc fl hC t q;exact vki gx I2 f2 hC t q
 intro L C oC m ys H' s' I' eC nC fC q;show wpAny _ X.A (assign (.Name y py) X.env (.ref L)) _ _ s';refine wpAny_assign_Name (kk4 I' hN hy hx (v:=.ref L) rfl (λig I''=>?_) hf);have pC:=I''.pin (C,oC) (lr9 _ (lr9 _ (aB rfl)));refine⟨m,nC.at' λo e=>?_,λh' sb=>⟨_,_,I''.unpinned.turned (it:=C) (t':=ig.toks) (λb o hb e=>(sb.2 b hb).trans e) fC.1 fC.2.1 fC.2.2.2.1 fC.2.2.2.2.1 fC.2.2.2.2.2,q⟩⟩;rw[eC]at e;cases e;exact pC.1
theorem kwg{i:Nat}{y:Str}{py fe:Pos}(N:List Str)(hN:X.N.Nodup)(hy:X.N[i]?=some y)(hx:Loc X.env.scope y)(hi:QI X Z q tg it aj)
  (hg:∀cl C s0 H0 fp,QG (lcE X scope N cl C s0 H0 fp Z.EX) Z ((List.range R.length).map (k + ·)) tt tg) (ht:∀cl C s0 H0 fp,PTs (lcE X scope N cl C s0 H0 fp Z.EX) cz (tT Z q u)) (he:∀cl C s0 H0 fp,QE (lcE X scope N cl C s0 H0 fp Z.EX) Z q c df)
  (gx:xX X Z.EX) (top:zQ X) (hR:R.Nodup) (hr:∀j∈R,j<X.N.length) (hp:autoParam (i∉pn) ŕ)
  (je:autoParam (swapsWith (.ListComp df [⟨tg,aj,cz,0⟩] scope pos) (some (.Name y py)) fe.line X.env=pure true) Ŕ)
  (hc:autoParam (X.calm=true) Ŕ) (hk:autoParam (scope.kind=.function) Ŕ) (iu:autoParam (Q2 X.N X.env.scope scope N k R=true) Ŕ) (hs:autoParam (∀x,foldedSetIterable aj X.env x=pure x) Ŗ)
  (hf:autoParam (X.fn y=true\/X.env.scope.names.lookup y=some .local) ś):
  QS X Z pn (jv i (cLC o k R it tt u c)) (.Assign [.Name y py] (.ListComp df [⟨tg,aj,cz,0⟩] scope pos) fe):=
 wjc (q:=q) hp λpins s σ H D I hw=>qqt N k R hN hy hx (wz8 hi) hg ht he gx top je hc hk iu hs hf pins s σ H D I (qvu I.len hR hr hw)
end
end
section
variable {X:Cx}{Z:Fx0}{K:Frag}{pn:List Nat}{q qa qb:Bool}{a b c:Ex}{u:Ts}{tg e ea eb:Expr}{σ:L2.St}{H:Hp}{L:Ls}{E:En}{pos p:Pos}{x:Str}{id T:String}{r:List V->Hp->VK->Prop}{f:Sd->Option Sd}{g:Sd->Sd->Option Sd}
theorem KK:PTs X [] (tT Z q _root_.Q.tYes):=λpins s σ H Q I ak=>ex8 ak λE L r m w hc xc k=>by
 cases oq9 hc;exact vv0 pins s σ H Q I (k _ _ rfl L H m w Step.refl λ_=>wZ)
theorem vqs(h:QT X Z q u e):PTs X [e] (tT Z q u):=vqz h
theorem W4(hc:CallR X (.builtin id) r)(ad:Ad1 Z.K (λv H Q=>r [v] H Q) f)(ha:QV X Z q a ea)(hm:X.mg x=none)(hv:bootBuiltins x=some (.builtin id))(hg:autoParam (Gl X x) Ŕ)(hn:autoParam (x≠"__name__") ŕ)(fj:autoParam ((x==("__debug__":Str))=false) ŕ)
  (he:autoParam (starEach [ea] X.env=(false,eval ea X.env)::starEach [] X.env) Ŕ) (bn:autoParam ((backTo pos (starEach [] X.env)).any (·.1)=false) Ŕ):QE X Z q (cF1 f a) (.Call (.Name x p) [ea] [] pos):=
 kz (kzf hc hg hm hv (qQ ha vq he) hn fj he bn) fun σ H Q h=>XJ (r:=λv H Q=>r [v] H Q) ad h
theorem Qj(hc:CallR X (.type T) r)(ad:Ad1 Z.K (λv H Q=>r [v] H Q) f)(ha:QV X Z q a ea)(hm:X.mg x=none)(hv:bootBuiltins x=some (.type T))(hg:autoParam (Gl X x) Ŕ)(hn:autoParam (x≠"__name__") ŕ)(fj:autoParam ((x==("__debug__":Str))=false) ŕ)
  (he:autoParam (starEach [ea] X.env=(false,eval ea X.env)::starEach [] X.env) Ŕ) (bn:autoParam ((backTo pos (starEach [] X.env)).any (·.1)=false) Ŕ):QE X Z q (cF1 f a) (.Call (.Name x p) [ea] [] pos):=
 kz (qqx hc hg hm hv (qQ ha vq he) hn fj he bn) fun σ H Q h=>XJ (r:=λv H Q=>r [v] H Q) ad h
theorem wqz:Ad1 K (λv H Q=>qqk K [v] H Q) (pu1 v8):=by
 intro H x s Q ok hf k;unfold pu1 at hf;have fin:∀n:Nat,v8 x.d=some (.int n)->Q (.int n) H:=λn e=>by
  rw[show(x.o,x.d).2=x.d from rfl,e]at hf;cases oq9 hf;exact k ⟨.dp,.int n,.int n,[]⟩ H rfl rfl Vk
 cases hx:x.d with
 |lst ds=>
  obtain⟨l,xs,bs,e,q,r,_⟩:=items ok (.inl hx);refine .inl ⟨l,xs,by rw[e],?_,by rw[<-r.len];exact fin ds.length (by rw[hx];rfl)⟩;rcases q with⟨_,z⟩|⟨_,z⟩
  ·exact .inl (xj z)
  ·exact .inr z
 |tup ds=>
  obtain⟨l,xs,bs,e,q,r,_⟩:=items ok (.inr hx);refine .inl ⟨l,xs,by rw[e],?_,by rw[<-r.len];exact fin ds.length (by rw[hx];rfl)⟩;rcases q with⟨_,z⟩|⟨_,z⟩
  ·exact .inl (xj z)
  ·exact .inr z
 |str z=>
  obtain⟨e,hz⟩:=wx ok hx;exact .inr (.inl ⟨z,by rw[e],hz,fin z.length (by rw[hx];rfl)⟩)
 |_=>rw[show(x.o,x.d).2=x.d from rfl,hx]at hf;cases hf
def vqo(K:Frag):List V->Hp->VK->Prop:=λxs H Q=>wz4 K xs H Q\/(∃p ys U,xs=[.ref p,.ty U]/\SqT K H p ys/\U∈kinds.tail/\Q (.bl (YX "tuple" U)) H)\/∃p ys U,xs=[.ref p,.ty U]/\SqL K H p ys/\U∈kinds.tail/\Q (.bl (YX "list" U)) H
theorem qx8(hK:autoParam (X.K=K) Ŕ):CallR X (.builtin "isinstance") (vqo K):=by
 subst hK;intro pins s σ H xs us Q I r h;rcases h with h|⟨p,ys,U,rfl,hq,hU,q⟩|⟨p,ys,U,rfl,hq,hU,q⟩
 ·exact vjq pins s σ H xs us Q I r h
 ·obtain⟨u,w',rfl,r1,r2⟩:=vqb r;cases(show w'=Value.type U from r2);cases r1;obtain⟨a8,_,⟨o,h1,h2,_⟩,_⟩:=I.tuple hq;exact Yk PySem.W.kitx_tuple I.kIn ⟨o,h1,h2⟩ (kx7 (T:="tuple") ⋯ hU) (λz=>nomatch z) λtk=>⟨.bl _,H,I.tok _,rfl,q⟩
 ·obtain⟨u,w',rfl,r1,r2⟩:=vqb r;cases(show w'=Value.type U from r2);cases r1;obtain⟨a8,_,⟨o,n,h1,h2,_⟩,_⟩:=I.list hq;exact Yk PySem.W.kitx_list I.kIn ⟨o,h1,h2⟩ (kx7 (T:="list") ⋯ hU) (λz=>nomatch z) λtk=>⟨.bl _,H,I.tok _,rfl,q⟩
theorem wv0{U:String}(hU:U∈kinds.tail):Ad1 K (λv H Q=>vqo K [v,.ty U] H Q) (pu1 (wqa U)):=by
 intro H x s Q ok hf k;unfold pu1 wqa at hf;have fin:∀(T:String),kind x.d=T->(∀c f,x.d≠.obj c f)->Q (.bl (YX T U)) H:=λT e ho=>by
  cases hx:x.d with
  |obj c f=>exact absurd hx (ho c f)|dct a9=>rw[show(x.o,x.d).2=x.d from rfl,hx]at hf;cases hf
  |_=>
   rw[show(x.o,x.d).2=x.d from rfl,hx]at hf;cases oq9 hf;rw[<-e,hx];exact k ⟨.dp,.bl _,.bl _,[]⟩ H rfl rfl wJ
 cases hx:x.d with
 |non=>exact .inl ⟨x.v,"NoneType",U,rfl,by rw[vkg ok hx];exact .non,⋯,hU,fin _ (by rw[hx];rfl) (by rw[hx];exact λ_ _ z=>nomatch z)⟩|bl k=>exact .inl ⟨x.v,"bool",U,rfl,by rw[V8 ok hx];exact .bl _,⋯,hU,fin _ (by rw[hx];rfl) (by rw[hx];exact λ_ _ z=>nomatch z)⟩|int k=>exact .inl ⟨x.v,"int",U,rfl,by rw[kJ ok hx];exact .int _,⋯,hU,fin _ (by rw[hx];rfl) (by rw[hx];exact λ_ _ z=>nomatch z)⟩|str k=>exact .inl ⟨x.v,"str",U,rfl,by rw[(wx ok hx).1];exact .str _,⋯,hU,fin _ (by rw[hx];rfl) (by rw[hx];exact λ_ _ z=>nomatch z)⟩
 |lst ds=>
  obtain⟨l,xs,bs,e,q,r,_⟩:=items ok (.inl hx);have f:=fin "list" (by rw[hx];rfl) (by rw[hx];exact λ_ _ z=>nomatch z);rcases q with⟨_,z⟩|⟨z,_⟩
  ·exact .inr (.inr ⟨l,xs,U,by rw[e],z.sq,hU,f⟩)
  ·rw[hx]at z;cases z
 |tup ds=>
  obtain⟨l,xs,bs,e,q,r,_⟩:=items ok (.inr hx);have f:=fin "tuple" (by rw[hx];rfl) (by rw[hx];exact λ_ _ z=>nomatch z);rcases q with⟨z,_⟩|⟨_,z⟩
  ·rw[hx]at z;cases z
  ·exact .inr (.inl ⟨l,xs,U,by rw[e],z,hU,f⟩)
 |dct a9=>
  rw[show(x.o,x.d).2=x.d from rfl,hx]at hf;cases hf
 |obj c f=>
  rw[show(x.o,x.d).2=x.d from rfl,hx]at hf;cases hf
theorem ww5{U:String}{y:Str}{p2:Pos}(ha:QV X Z q a ea)(hm:X.mg "isinstance"=none)(hmy:X.mg y=none)(hy:bootBuiltins y=some (.type U))(hK:X.K=Z.K)(hU:autoParam (U∈kinds.tail) ŕ)(hg:autoParam (Gl X "isinstance") Ŕ)(hgy:autoParam (Gl X y) Ŕ)(hny:autoParam (y≠"__name__") ŕ)(hdy:autoParam ((y==("__debug__":Str))=false) ŕ)
  (he:autoParam (starEach [ea,.Name y p2] X.env=(false,eval ea X.env)::starEach [.Name y p2] X.env) Ŕ) (qt:autoParam (starEach [.Name y p2] X.env=(false,eval (.Name y p2) X.env)::starEach [] X.env) Ŕ) (bn:autoParam ((backTo pos (starEach [.Name y p2] X.env)).any (·.1)=false) Ŕ):
  QE X Z q (cF1 (pu1 (wqa U)) a) (.Call (.Name "isinstance" p) [ea,.Name y p2] [] pos):=
 kz (kzf (qx8 hK) hg hm kq2 (qQ ha (qQ (vve (v:=.ty U) hgy hmy hy rfl hny hdy) vq qt) he) ⋯ ⋯ he bn) fun σ H Q h=>XJ (r:=λv H Q=>vqo Z.K [v,.ty U] H Q) (wv0 hU) h
theorem Zw:Ad1 K (λv H Q=>qqj K [v] H Q) KY:=by
 intro H x s Q ok hf k;unfold KY at hf;dsimp only at hf
 split at hf
 ·rename_i ds e
  split at hf
  ·rename_i hl;cases oq9 hf;obtain⟨l,xs,bs,ev,q3,r3,h3⟩:=x9 ok (.inl e) hl;have q3:LsR K H l xs:=by rcases q3 with⟨_,z⟩|⟨z,_⟩;exact z;rw[e]at z;cases z
   exact⟨l,xs,by rw[ev],.inl (xj q3),λp hp=>k ⟨.rt,.lst ds,.ref p,p::bs⟩ _ rfl rfl (zX hp r3 h3)⟩
  ·cases hf
 ·rename_i ds e
  split at hf
  ·rename_i hl;cases oq9 hf;obtain⟨l,xs,bs,ev,q3,r3,h3⟩:=x9 ok (.inr e) hl;have q3:SqT K H l xs:=by rcases q3 with⟨z,_⟩|⟨_,z⟩;rw[e]at z;cases z;exact z
   exact⟨l,xs,by rw[ev],.inr q3,λp hp=>k ⟨.rt,.lst ds,.ref p,p::bs⟩ _ rfl rfl (zX hp r3 h3)⟩
  ·cases hf
 ·cases hf
def kz5(K:Frag):List V->Hp->VK->Prop:=λxs H Q=>∃p ys,xs=[.ref p]/\((SqL K H p ys/\∀l,H l=none->Q (.ref l) (upd H l (.tup ys)))\/(SqT K H p ys/\Q (.ref p) H))
theorem qx9(hK:X.K=K):CallR X (.type "tuple") (kz5 K):=by subst hK;exact kq1
theorem vjv:Ad1 K (λv H Q=>kz5 K [v] H Q) QZ:=by
 intro H x s Q ok hf k;unfold QZ at hf;dsimp only at hf
 split at hf
 ·rename_i ds e
  split at hf
  ·rename_i hl;cases oq9 hf;obtain⟨l,xs,bs,ev,q3,r3,h3⟩:=x9 ok (.inl e) hl;have q3:LsR K H l xs:=by rcases q3 with⟨_,z⟩|⟨z,_⟩;exact z;rw[e]at z;cases z
   exact⟨l,xs,by rw[ev],.inl ⟨xj q3,λp hp=>k ⟨.no,.tup ds,.ref p,bs⟩ _ rfl rfl (Vx hp r3 h3)⟩⟩
  ·cases hf
 ·rename_i ds e
  split at hf
  ·rename_i hl;cases oq9 hf;obtain⟨l,xs,bs,ev,q3,r3,h3⟩:=x9 ok (.inr e) hl;have q3:SqT K H l xs:=by rcases q3 with⟨z,_⟩|⟨_,z⟩;rw[e]at z;cases z;exact z
   refine⟨l,xs,by rw[ev],.inr ⟨q3,k ⟨.no,.tup ds,.ref l,bs⟩ H rfl rfl ⟨wZ,?_,λb hb=>(nomatch hb),Yf,λb hb=>h3 b hb⟩⟩⟩;show RepL K H true (.tup ds) (.ref l) bs;unfold RepL;exact⟨l,xs,rfl,q3,r3⟩
  ·cases hf
 ·cases hf
theorem qxd{g:Bool}:∀{ds:List D} {bs:List Bool} {xs:List V} {as:List Addr},bls ds=some bs->RepA K H g ds xs as->xs=bs.map V.bl
 | [],bs,xs,as,h,r=>by
  cases oq9 h;unfold RepA at r;exact r.1
 | d::ds,bs,xs,as,h,r=>by
  cases d with
  | bl b=>
   unfold bls at h;cases hb:bls ds with
   |none=>rw[hb]at h;cases h
   |some cp=>
    rw[hb]at h;cases oq9 h;unfold RepA at r;obtain⟨x,rr,c1,c2,rfl,rfl,h1,h2⟩:=r;unfold RepL at h1;rw[h1.1,qxd hb h2];rfl
  |_=>unfold bls at h;cases h
theorem vq6:Ad1 K (λv H Q=>wvy K [v] H Q) (pu1 wqb):=by
 intro H x s Q ok hf k;unfold pu1 wqb at hf;dsimp only at hf
 split at hf
 ·rename_i ds e;cases hb:bls ds with
  |none=>rw[hb]at hf;cases hf
  |some bs=>
   rw[hb]at hf;cases oq9 hf;obtain⟨l,xs,cs,ev,q3,r3,_⟩:=items ok (.inl e);have q3:LsR K H l xs:=by rcases q3 with⟨_,z⟩|⟨z,_⟩;exact z;rw[e]at z;cases z
   exact⟨l,bs,by rw[ev],by rw[<-qxd hb r3];exact xj q3,k ⟨.dp,.bl _,.bl _,[]⟩ H rfl rfl wJ⟩
 ·cases hf
theorem vx6{g:Int->Int->Bool}:∀x y s,pu2 (c2 g) x y=some s->∃k,s.2=.bl k:=by
 intro x y s h;unfold pu2 c2 at h
 split at h
 ·cases oq9 h;exact⟨_,rfl⟩
 ·cases h
theorem Zv:∀x y s,pu2 fEq x y=some s->∃k,s.2=.bl k:=by
 intro x y s h;unfold pu2 fEq at h
 split at h
 ·cases oq9 h;exact⟨_,rfl⟩
 ·cases h
theorem wxk:∀x y s,pu2 fNe x y=some s->∃k,s.2=.bl k:=by
 intro x y s h;unfold pu2 fNe at h
 split at h
 ·cases oq9 h;exact⟨_,rfl⟩
 ·cases h
theorem vko{x y d:D}(h:fIn x y=some d):∃k,d=.bl k:=by
 unfold fIn at h
 split at h
 ·split at h
  ·cases oq9 h;exact⟨_,rfl⟩
  ·cases h
 ·split at h
  ·cases oq9 h;exact⟨_,rfl⟩
  ·cases h
 ·split at h
  ·cases oq9 h;exact⟨_,rfl⟩
  ·cases h
 ·cases oq9 h;exact⟨_,rfl⟩
 ·cases h
theorem wxl:∀x y s,pu2 xV x y=some s->∃k,s.2=.bl k:=by
 intro x y s h;unfold pu2 xV at h
 split at h
 ·cases h
 ·cases hf:fIn x.2 y.2 with
  |none=>rw[hf]at h;cases h
  |some d=>
   rw[hf]at h;cases oq9 h;exact vko hf
theorem kq3:∀x y s,pu2 xK x y=some s->∃k,s.2=.bl k:=by
 intro x y s h;unfold pu2 xK QK at h
 split at h
 ·cases h
 ·cases hf:fIn x.2 y.2 with
  |none=>rw[hf]at h;cases h
  |some d=>
   obtain⟨k,rfl⟩:=vko hf;rw[hf]at h;cases oq9 h;exact⟨_,rfl⟩
theorem vky:∀x y s,f2First fIsNon x y=some s->∃k,s.2=.bl k:=by
 intro x y s h;unfold f2First fIsNon at h
 split at h
 ·cases oq9 h;exact⟨_,rfl⟩
 ·cases h
theorem vx5:∀x y s,f2First fNotNon x y=some s->∃k,s.2=.bl k:=by
 intro x y s h;unfold f2First fNotNon at h
 split at h
 ·cases oq9 h;exact⟨_,rfl⟩
 ·cases h
theorem kjz:∀{xs:List V} {us:List Value},xs.length=us.length->(∀(i:Nat) (x:V) (u:Value),xs[i]?=some x->us[i]?=some u->RelV x u)->Vals xs us
 |[],[],_,_=>.nil|[],_::_,h,_=>by simp at h|_::_,[],h,_=>by simp at h|x::xs,u::us,h,f=>.cons (f 0 x u (by simp) (by simp)) (kjz (by simpa using h) λi x u e1 e2=>f (i+1) x u (by simpa using e1) (by simpa using e2))
theorem vk9{p2 az:Pos}(ha:QV X Z q a ea)(pi:X.mg "range"=none)(rl:Gl X "range")(ba:starEach [ea] X.env=(false,eval ea X.env)::starEach [] X.env)(bn:(backTo az (starEach [] X.env)).any (·.1)=false):PE X (.Call (.Name "range" p2) [ea] [] az) (fun σ H Q=>tV Z q a σ H λv H1=>∃j:Int,v=.int j/\∀pp,H1 pp=none->Q (.ref pp) (upd H1 pp (.rng 0 j))):=by
 intro pins s σ H Q I h;refine Call_ (xW I rl pi boot_range (Ya (thn (qQ ha vq ba az pins s σ H (λvs H1=>∃j:Int,vs=[.int j]/\∀pp,H1 pp=none->Q (.ref pp) (upd H1 pp (.rng 0 j))) I ?_) λus s1 ⟨vs,H1,I1,r1,j,e,q1⟩=>?_) ba bn))
 ·obtain⟨E,L,r,m,w,d8,xc,k⟩:=h;exact⟨E,L,r,m,w,d8,xc,λE' s' z x L' H' e1 e2 m' w' ok fr sr st sm=>by
   obtain⟨j,ej,qj⟩:=k E' s' z x L' H' e1 e2 m' w' ok fr sr st sm;exact⟨j,by rw[ej],qj⟩⟩
 ·subst e;obtain⟨u,rfl,t,rfl⟩:=r1.one;refine call_range_1 ⟨.ref s1.heap.objs.size,_,I1.laid (o:=.rng 0 j) (λb o e=>X3 _ e) (Xa _) ⟨_,_,_,Xg _ rfl⟩,rfl,q1 _ I1.fresh⟩
theorem qq7{K:Frag}{H:Hp}(ns:List Nat):RepA K H true (ns.map λ(i:Nat)=>D.int (0+(i:Int))) (ns.map λ(i:Nat)=>V.int (0+(i:Int))) []:=by
 induction ns with
 |nil=>unfold RepA;exact⟨rfl,rfl⟩
 |cons i ns ih=>
  rw[List.map_cons,List.map_cons];unfold RepA;exact⟨_,_,[],[],rfl,rfl,xk,ih⟩
theorem kxn{n:Nat}{aa:Array Value}(hs:aa.size=n)(hg:∀(i:Nat) (u:Value),aa[i]?=some u->∃t,u=.int (0+(i:Int)*1) t):Vals ((List.range n).map λ(i:Nat)=>V.int (0+(i:Int))) aa.toList:=kjz (by simp[hs]) λi x u ex eu=>by
 rw[Xw]at eu;obtain⟨t,rfl⟩:=hg i u eu;rw[Xe]at ex;obtain⟨m,hr,rfl⟩:=Option.map_eq_some_iff.mp ex;obtain⟨_,h2⟩:=List.getElem?_eq_some_iff.mp hr;rw[List.getElem_range]at h2;subst h2;exact⟨t,by rw[Int.mul_one]⟩
theorem wj3{p2 az:Pos}(ha:QV X Z q a ea)(pi:X.mg "range"=none)(hml:X.mg "list"=none)(hc:autoParam (X.calm=true) Ŕ)(rl:autoParam (Gl X "range") Ŕ)(ny:autoParam (Gl X "list") Ŕ)
  (ba:autoParam (starEach [ea] X.env=(false,eval ea X.env)::starEach [] X.env) Ŕ) (bn:autoParam ((backTo az (starEach [] X.env)).any (·.1)=false) Ŕ)
  (ia:autoParam (starEach [.Call (.Name "range" p2) [ea] [] az] X.env=(false,eval (.Call (.Name "range" p2) [ea] [] az) X.env)::starEach [] X.env) Ŕ) (lv:autoParam ((backTo pos (starEach [] X.env)).any (·.1)=false) Ŕ):
  QE X Z q (XW a) (.Call (.Name "list" p) [.Call (.Name "range" p2) [ea] [] az] [] pos):=by
 intro pins s σ H Q I ⟨E,L,r,m,w,d8,xc,k⟩;refine Yw (xW I ny hml Qz ?_);refine Ya (thn (qQ (vk9 ha pi rl ba bn) vq ia pos pins s σ H (λvs H1=>∃pp j,vs=[.ref pp]/\H1 pp=some (.rng 0 j)/\vK j=true/\j.toNat<=big/\∀l,H1 l=none->Q (.ref l) (upd H1 l (.lst ((List.range j.toNat).map λ(i:Nat)=>V.int (0+(i:Int)))))) I ?_) λus s1 ⟨vs,H1,I1,r1,pp,j,e,hp,h62,gh,q1⟩=>?_) ia lv
 ·refine kK m w (show bnd (a E) _=some r from d8) xc λE1 s h1 x L1 H1 e1 e2 m1 w1 ok fr sr st sm=>?_
  cases hx:s.2 with
  | int j=>
   rw[hx]at h1;dsimp only at h1
   split at h1
   ·rename_i hj;cases oq9 h1;refine⟨j,kJ ok (e2.trans hx),λpp hpp=>⟨pp,j,rfl,vX,hj.1,hj.2,λl hl=>?_⟩⟩;have s1:jK H1 (upd H1 pp (.rng 0 j)):=qZ hpp;have w2:World Z.K (upd H1 pp (.rng 0 j)) L1:=⟨λx hx=>RepO.kp (w1.ok x hx) (Kp.of_same s1),w1.nd,w1.ds⟩;have b9:Step H L (upd H1 pp (.rng 0 j)) L1:=st.trans ⟨λb ob z _=>s1 b ob z,λb z=>.inl z,λb z=>.inl z⟩;have o:=zX (K:=Z.K) (H:=upd H1 pp (.rng 0 j)) (fr:=[]) hl (qq7 (List.range j.toNat)) (λ_ z=>(nomatch z));obtain⟨w3,c8⟩:=K4 w2 b9 o (λ_ z=>(nomatch z)) (λ_ z=>(nomatch z)) (λ_ z=>(nomatch z));refine k _ _ rfl ⟨.rt,.lst (jV 0 j),.ref l,[l]⟩ L1 _ rfl rfl m1 (by simpa [jV]using w3) (by simpa [jV]using c8) λhq=>⟨jX (sm hq) (jX s1 o.same),λb hb=>?_⟩
    have:b=l:=by simpa [Sl.own]using hb
    subst this;exact z4 (jX (sm hq) s1) hl
   ·cases h1
  |_=>rw[hx]at h1;cases h1
 ·subst e;obtain⟨u,rfl,rx⟩:=r1.one;cases rx;obtain⟨t1,t2,t3,hg⟩:=(show ObjOk X.prog X.w H1 s1.heap pp (.rng 0 j)from I1.hok pp _ hp);obtain⟨j1,j2⟩:=jww h62;have e2:Builtin.Range.rangeSize 0 j 1=((j.toNat:Nat):Int):=by rw[rangeSize_one];split<;>lia
  refine call_list_range (n:=j.toNat) (I1.ok.hd hc) (show IsRange s1.heap pp 0 j 1 t1 t2 t3 from hg) (small_one ⋯ ⋯ j1 j2) e2 gh λh' tk bj c' kp e4 fh=>?_
  obtain⟨hs,jg⟩:=fh;refine⟨.ref s1.heap.objs.size,_,I1.laid (a:=s1.heap.objs.size) (o:=.lst ((List.range j.toNat).map λ(i:Nat)=>V.int (0+(i:Int)))) (t':=tk) kp (Xa _) ⟨by rw[X1,Xu];exact gh,bj.toList,c',kxn hs jg,by simpa using e4⟩,rfl,q1 _ I1.fresh⟩
end
end Q
namespace Q
open PySem
def qzc:Sm:=λ_=>none
def x3(n d:Nat):Option Int->Nat
 |none=>d|some v=>if v<0 then(v+(n:Int)).toNat else min v.toNat n
def wql(xs:List D)(lo hi:Option Int):List D:=(xs.drop (x3 xs.length 0 lo)).take (x3 xs.length xs.length hi - x3 xs.length 0 lo)
def fSl:Sd->Option Int->Option Int->Option Sd:=λx lo hi=>match x.2 with
 |.lst xs=>if k7 x then some (.rt,.lst (wql xs lo hi))else none|.tup xs=>if k7 x/\¬(x3 xs.length 0 lo=0/\x3 xs.length xs.length hi=xs.length)then some (.no,.tup (wql xs lo hi))else none|.str z=>if(Txt.slice z lo hi).length<=big then some (.dp,.str (Txt.slice z lo hi))else none|_=>none
def zx:Option Ex->Ev (Option Int)
 |none,E=>some (.ok E none)
 |some c,E=>bnd (c E) λE x=>match x.2 with
  |.int i=>some (.ok E (some i))|_=>none
def cSl(a:Ex)(lo hi:Option Ex):Ex:=λE=>bnd (a E) λE x=>bnd (zx lo E) λE l=>bnd (zx hi E) λE h=>val E (fSl x l h)
def xQ:Nat->List D->List D
 |_,[]=>[]|k,d::ds=>.tup [.int k,d]::xQ (k+1) ds
def lstOf:D->Option (List D)
 |.lst xs=>some xs|_=>none
def wvb(c:Ex):Ev (List D):=λE=>bnd (c E) λE x=>val E ((lstOf x.2).map (xQ 0))
def zV:List D->Option (List Str)
 |[]=>some []|.str z::ds=>(zV ds).map (z :: ·)|_=>none
def zq:List D->Option (List Int)
 |[]=>some []|.int z::ds=>(zq ds).map (z :: ·)|_=>none
def K5(a:Str):List Str->List Str
 |[]=>[a]|b::r=>if Spec.ltCps b.cps.toList a.cps.toList then b::K5 a r else a::b::r
def zj:List Str->List Str
 |[]=>[]|a::r=>K5 a (zj r)
def Qq(a:Int):List Int->List Int
 |[]=>[a]|b::r=>if b<a then b::Qq a r else a::b::r
def Qv:List Int->List Int
 |[]=>[]|a::r=>Qq a (Qv r)
def jzu:Sd->Option Sd:=λx=>match x.2 with
 | .lst ds=>(match zV ds with
  |some ss=>if ss.length<64 then some (.rt,.lst ((zj ss).map .str))else none
  |none=>(match zq ds with
   |some is=>if is.length<64 then some (.rt,.lst ((Qv is).map .int))else none
   |none=>none))
 |_=>none
def QJ:D->D->Option D:=λxs x=>match xs with
 |.lst ys=>if x.flat 30&&D.flats 30 ys then(ys.findIdx? λz=>peq z x).map λ(j:Nat)=>D.int (j:Int)else none|.tup ys=>if x.flat 30&&D.flats 30 ys then(ys.findIdx? λz=>peq z x).map λ(j:Nat)=>D.int (j:Int)else none|_=>none
def isSq:D->Bool
 |.lst _=>true|.tup _=>true|_=>false
def W6(a b:Ex):Ex:=λE=>bnd (a E) λE x=>if isSq x.2 then bnd (b E) λE y=>val E (pu2 QJ x y)else none
def vJ:Sd->Sd->Option Sd:=λx y=>match x.2,y.2 with
 |.tup a,.int k=>if -(2 ^ 63)<=k/\k<2 ^ 63/\a.length*k.toNat<=big/\k7 x then some (.no,.tup (List.replicate k.toNat a).flatten)else none|_,_=>W2 x y
def Q6(f g:D->D->Option D)(a b c:Ex):Ex:=λE=>bnd (a E) λE x=>bnd (b E) λE y=>match f x.2 y.2 with
 |some (.bl true)=>bnd (c E) λE z=>val E ((g y.2 z.2).map λd=>(.dp,d))|some (.bl false)=>some (.ok E (.dp,.bl false))|_=>none
def wwv:D->Bool
 |.tup _=>true|_=>false
def wV(x:D):Bool:=jq 6 x&&wwv x
def K6:D->D->Option D:=λx y=>match y with
 |.dct a9=>if wV x=true/\unm a9=true then some (.bl (!decide (x∈a9.map (·.1))))else none|_=>none
def vwc:Option (Option Sd)->Bool
 |some (some (.rt,.dct _))=>true|_=>false
def mkD:D×D:=(.str "",.non)
def wW(kv:List (Int×Int)):D:=.dct (mkD::kv.map λp=>(.int p.1,.int p.2))
def Kv : List (D × D) -> Option (List (Int × Int))
  |[]=>some []|(.int k, .int v)::r=>(Kv r).map ((k, v):: ·)|_=>none
def zY:D->Option (List (Int×Int)):=λd=>match d with
 |.dct ((.str _,.non)::a9)=>Kv a9|_=>none
def v7(kv:List (Int×Int))(k:Int):Option Int:=(kv.find? λp=>decide (p.1=k)).map (·.2)
def zK(kv:List (Int×Int))(k v:Int):List (Int×Int):=if(kv.any λp=>decide (p.1=k))=true then kv.map (λp=>if p.1=k then(p.1,v)else p)else kv++[(k,v)]
def vx2:Ex:=λE=>some (.ok E (.rt,wW []))
def K2:D->D->Option D:=λx y=>match x,zY y with
 |.int k,some kv=>some (.bl (!(v7 kv k).isSome))|_,_=>none
def Wz:D->D->Option D:=λy x=>match x,zY y with
 |.int k,some kv=>(v7 kv k).map .int|_,_=>none
def wv7(a b:Ex):Ex:=λE=>bnd (a E) λE x=>bnd (b E) λE y=>val E ((Wz x.2 y.2).map λd=>(.dp,d))
def qzd(i:Nat)(kc vc:Ex):Sm:=λE=>ofE (vc E) λE v=>if vwc E[i]?=true then ofE (kc E) λE k=>match E[i]?,k.2,v.2 with
 |some (some (.rt,d)),.int a,.int b=>(match zY d with
  |some kv=>if kv.length<big then some (.nx (E.set i (some (.rt,wW (zK kv a b)))))else none
  |none=>none)
 |_,_,_=>none
 else none
def qwj(z:Str):D->Option D:=λd=>match d with
 |.lst ds=>(match zV ds with
  |some ys=>if(ys.map (·.length)).sum+ys.length*z.length<=100000 then some (.str (Txt.join z ys))else none
  |none=>none)
 |_=>none
def vjs(z:Str)(c:Ex):Ex:=λE=>bnd (c E) λE x=>val E ((qwj z x.2).map λd=>(.dp,d))
def kzw:D->Bool
 |.str _=>true|_=>false
def Zx:D->D->Option D:=λx y=>match x,y with
 |.str a,.str b=>(match Builtin.Str.occurrences a b 0 a.length 1 with
  |i::_=>some (.int i)
  |[]=>none)
 |_,_=>none
def vjt(a b:Ex):Ex:=λE=>bnd (a E) λE x=>if kzw x.2=true then bnd (b E) λE y=>val E ((Zx x.2 y.2).map λd=>(.dp,d))else none
def Jx(a9:List (D×D))(k:D):Option D:=(a9.find? λp=>decide (p.1=k)).map (·.2)
def wvc(c:Ex):Ex:=λE=>bnd (c E) λE x=>match x.2 with
 |.int j=>if vK j/\j.toNat<=big then some (.ok E (.no,.tup (jV 0 j)))else none|_=>none
def Wq(k:Int):List D->D->Option (List D):=λds d=>if 0<=k/\k<=ds.length/\ds.length<big then some (ds.take k.toNat++d::ds.drop k.toNat)else none
def ZQ(j:Nat)(kc vc:Ex):Sm:=λE=>if J7 E[j]? then ofE (kc E) λE1 x=>match x.2 with
 |.int k=>v3 (Wq k) j vc E1|_=>none
 else none
end Q
namespace Q
open PySem PySem.Spec PyProof.Rows L2 L3
section
variable {X:Cx}{Z:Fx0}{K:Frag}{pn:List Nat}{q qa qb:Bool}{a b c:Ex}{u:Ts}{tg e ea eb:Expr}{st:Stmt}{σ:L2.St}{H:Hp}{L:Ls}{E:En}{pos p p2:Pos}{x:Str}
theorem qqp:QS X Z pn qzc st:=λpins s σ H D I ak=>ex7 ak λE L r m w hc k=>by cases hc
theorem jzo(a:Str):∀r,(K5 a r).Perm (a::r)
 |[]=>List.Perm.refl _
 |b::r=>by
  unfold K5
  split
  ·exact((jzo a r).cons b).trans (List.Perm.swap ..)
  ·exact List.Perm.refl _
theorem Vz:∀r,(zj r).Perm r
 |[]=>List.Perm.refl _|a::r=>(jzo a _).trans ((Vz r).cons a)
def leS(a b:Str):Prop:=Spec.ltCps b.cps.toList a.cps.toList=false
theorem leS_iff{a b:Str}:leS a b↔a.cps.toList<=b.cps.toList:=by
 unfold leS;rw[ltCps_eq,decide_eq_false_iff_not,List.not_lt]
theorem kv1{a b c:Str}(h:leS a b)(h':leS b c):leS a c:=leS_iff.mpr (List.le_trans (leS_iff.mp h) (leS_iff.mp h'))
theorem vj4{a b:Str}(h:leS a b)(h':leS b a):a=b:=by
 have:=List.le_antisymm (leS_iff.mp h) (leS_iff.mp h');cases a;cases b;simp only at this
 congr 1
 exact Array.toList_inj.mp this
theorem qvr{a b:Str}(h:¬leS a b):leS b a:=by
 rw[leS_iff]at h ⊢;exact List.le_of_lt (List.not_le.mp h)
theorem kqi:∀{a:Str} {r:List Str},risingS a r=true->(a::r).Pairwise leS
 |a,[],_=>by simp
 |a,b::r,h=>by
  have h:(!(Spec.ltCps b.cps.toList a.cps.toList)&&risingS b r)=true:=h;rw[Bool.and_eq_true,Bool.not_eq_true']at h;have ih:=kqi h.2;refine List.pairwise_cons.mpr ⟨λc hc=>?_,ih⟩;rcases aD hc with rfl|hc
  ·exact h.1
  ·exact kv1 h.1 ((List.pairwise_cons.mp ih).1 c hc)
theorem qkz{r:List Str}(h:sortedS r=true):r.Pairwise leS:=by
 cases r with|nil=>exact .nil|cons a r=>exact kqi h
theorem qw8{a:Str}:∀{r:List Str},r.Pairwise leS->(K5 a r).Pairwise leS
 | [],_=>by simp[K5]
 | b::r,h=>by
  rw[List.pairwise_cons]at h;unfold K5
  by_cases hl:Spec.ltCps b.cps.toList a.cps.toList=true
  ·rw[X6 hl];refine List.pairwise_cons.mpr ⟨λc hc=>?_,qw8 h.2⟩;rcases aD ((jzo a r).mem_iff.mp hc)with rfl|hc
   ·exact qvr (by unfold leS;rw[hl];exact λz=>nomatch z)
   ·exact h.1 c hc
  ·rw[X8 hl];have dm:leS a b:=by unfold leS;exact Bool.eq_false_iff.mpr hl
   refine List.pairwise_cons.mpr ⟨λc hc=>?_,List.pairwise_cons.mpr h⟩;rcases aD hc with rfl|hc
   ·exact dm
   ·exact kv1 dm (h.1 c hc)
theorem kk6:∀{r:List Str},(zj r).Pairwise leS
 |[]=>.nil|a::r=>qw8 kk6
theorem qz2{r s:List Str}(p:s.Perm r)(h:sortedS s=true):s=zj r:=
 List.Perm.eq_of_pairwise (λa b _ _ h1 h2=>vj4 h1 h2) (qkz h) kk6 (p.trans (Vz r).symm)
theorem jzq(a:Int):∀r,(Qq a r).Perm (a::r)
 |[]=>List.Perm.refl _
 |b::r=>by
  unfold Qq
  split
  ·exact((jzq a r).cons b).trans (List.Perm.swap ..)
  ·exact List.Perm.refl _
theorem jwv:∀r,(Qv r).Perm r
 |[]=>List.Perm.refl _|a::r=>(jzq a _).trans ((jwv r).cons a)
theorem qwa{a:Int}:∀{r:List Int},r.Pairwise (·<=·)->(Qq a r).Pairwise (·<=·)
 | [],_=>by simp[Qq]
 | b::r,h=>by
  rw[List.pairwise_cons]at h;unfold Qq
  by_cases hl:b<a
  ·rw[X6 hl];refine List.pairwise_cons.mpr ⟨λc hc=>?_,qwa h.2⟩;rcases aD ((jzq a r).mem_iff.mp hc)with rfl|hc
   ·exact Int.le_of_lt hl
   ·exact h.1 c hc
  ·rw[X8 hl];refine List.pairwise_cons.mpr ⟨λc hc=>?_,List.pairwise_cons.mpr h⟩;rcases aD hc with rfl|hc
   ·lia
   ·have:=h.1 c hc;lia
theorem kxx:∀{r:List Int},(Qv r).Pairwise (·<=·)
 |[]=>.nil|a::r=>qwa kxx
theorem qz4{r s:List Int}(p:s.Perm r)(h:s.Pairwise (·<=·)):s=Qv r:=
 List.Perm.eq_of_pairwise (λa b _ _ h1 h2=>Int.le_antisymm h1 h2) h kxx (p.trans (jwv r).symm)
theorem qjj{ns:List Str}:∀{us:List Value},Vals (ns.map V.str) us->StrsAre us ns:=by
 induction ns with
 | nil=>intro us r;rw[List.map_nil]at r;cases r;exact .nil
 | cons n ns ih=>
  intro us r;rw[List.map_cons]at r;cases r with
  |cons r1 r2=>
   obtain⟨t,e⟩:=r1;subst e;exact .cons n t (ih r2)
theorem qko{us:List Value}{ns:List Str}(h:StrsAre us ns):Vals (ns.map V.str) us:=by
 induction h with|nil=>exact .nil|cons y t _ ih=>exact .cons ⟨t,rfl⟩ ih
theorem kqd{us:List Value}{ns:List Int}(h:IntsAre us ns):Vals (ns.map V.int) us:=by
 induction h with|nil=>exact .nil|cons y t _ ih=>exact .cons ⟨t,rfl⟩ ih
def qqh(K:Frag):List V->Hp->VK->Prop:=λxs H Q=>
 (∃p ss,xs=[.ref p]/\SqL K H p (ss.map V.str)/\ss.length<64/\∀l,H l=none->Q (.ref l) (upd H l (.lst ((zj ss).map V.str)))) \/
 ∃p ss,xs=[.ref p]/\SqL K H p (ss.map V.int)/\ss.length<64/\∀l,H l=none->Q (.ref l) (upd H l (.lst ((Qv ss).map V.int)))
theorem kxh(hK:X.K=K):CallR X (.builtin "sorted") (qqh K):=by
 subst hK;intro pins s σ H xs us Q I r h;rcases h with⟨p,ss,rfl,hq,hl,q⟩|⟨p,ss,rfl,hq,hl,q⟩
 ·obtain⟨u,rfl,rx⟩:=x8 r;cases rx;obtain⟨a8,r',pl,hz⟩:=I.list hq;have ag:=r'.length;rw[X1]at ag hz;refine sorted_strs (vs:=a8) pl.isList (qjj r') ⋯ λout ss' h1 h2 h3=>?_
  have e:=qz2 h2 h3;subst e;obtain⟨n,hn⟩:=sortedAll_at s.heap a8 out;have db:s.heap.objs.size<=s.heap.objs.size+1:=Nat.le_succ _;refine⟨.ref (s.heap.objs.size+1),_,I.laid (t':=s.toks) (o:=.lst ((zj ss).map V.str)) (λb o e=>sortedAll_old e) db ?_,rfl,q _ (I.hok.fresh db)⟩;exact⟨by rw[X1,(Vz ss).length_eq];exact hz,out.toList,n,qko h1,by simpa using hn⟩
 ·obtain⟨u,rfl,rx⟩:=x8 r;cases rx;obtain⟨a8,r',pl,hz⟩:=I.list hq;have ag:=r'.length;rw[X1]at ag hz;refine sorted_ints (vs:=a8) pl.isList (kjo r') ⋯ λout ss' h1 h2 h3=>?_
  have e:=qz4 h2 h3;subst e;obtain⟨n,hn⟩:=sortedAll_at s.heap a8 out;have db:s.heap.objs.size<=s.heap.objs.size+1:=Nat.le_succ _;refine⟨.ref (s.heap.objs.size+1),_,I.laid (t':=s.toks) (o:=.lst ((Qv ss).map V.int)) (λb o e=>sortedAll_old e) db ?_,rfl,q _ (I.hok.fresh db)⟩;exact⟨by rw[X1,(jwv ss).length_eq];exact hz,out.toList,n,kqd h1,by simpa using hn⟩
theorem kk3{g:Bool}:∀{ds:List D} {bs:List Str} {xs:List V} {as:List Addr},zV ds=some bs->RepA K H g ds xs as->xs=bs.map V.str/\∀z∈bs,z.length<=sizeLine
 | [],bs,xs,as,h,r=>by
  cases oq9 h;unfold RepA at r;exact⟨r.1,λ_ z=>nomatch z⟩
 | d::ds,bs,xs,as,h,r=>by
  cases d with
  | str b=>
   unfold zV at h;cases hb:zV ds with
   |none=>rw[hb]at h;cases h
   |some cp=>
    rw[hb]at h;cases oq9 h;unfold RepA at r;obtain⟨x,rr,c1,c2,rfl,rfl,h1,h2⟩:=r;unfold RepL at h1;obtain⟨i1,i2⟩:=kk3 hb h2;exact⟨by rw[h1.1,i1];rfl,λz hz=>(aD hz).elim (λe=>e▸h1.2.2) (i2 z)⟩
  |_=>unfold zV at h;cases h
theorem kku{g:Bool}:∀{ds:List D} {bs:List Int} {xs:List V} {as:List Addr},zq ds=some bs->RepA K H g ds xs as->xs=bs.map V.int
 | [],bs,xs,as,h,r=>by
  cases oq9 h;unfold RepA at r;exact r.1
 | d::ds,bs,xs,as,h,r=>by
  cases d with
  | int b=>
   unfold zq at h;cases hb:zq ds with
   |none=>rw[hb]at h;cases h
   |some cp=>
    rw[hb]at h;cases oq9 h;unfold RepA at r;obtain⟨x,rr,c1,c2,rfl,rfl,h1,h2⟩:=r;unfold RepL at h1;rw[h1.1,kku hb h2];rfl
  |_=>unfold zq at h;cases h
theorem kz3{g:Bool}:∀{bs:List Str},(∀z∈bs,z.length<=sizeLine)->RepA K H g (bs.map D.str) (bs.map V.str) []
 |[],_=>by unfold RepA;exact⟨rfl,rfl⟩
 |b::bs,h=>by
  rw[List.map_cons,List.map_cons];unfold RepA;exact⟨_,_,[],[],rfl,rfl,VV (h b X5),kz3 λz hz=>h z (lc9 _ hz)⟩
theorem kz4{g:Bool}:∀{bs:List Int},RepA K H g (bs.map D.int) (bs.map V.int) []
 |[]=>by unfold RepA;exact⟨rfl,rfl⟩
 |b::bs=>by
  rw[List.map_cons,List.map_cons];unfold RepA;exact⟨_,_,[],[],rfl,rfl,xk,kz4⟩
theorem qxm:Ad1 K (λv H Q=>qqh K [v] H Q) jzu:=by
 intro H x s Q ok hf k;unfold jzu at hf;dsimp only at hf;cases hx:x.d with
 | lst ds=>
  rw [hx]at hf;dsimp only at hf;obtain⟨l,xs,bs,ev,q3,r3,_⟩:=items ok (.inl hx);have q3:LsR K H l xs:=by rcases q3 with⟨_,z⟩|⟨z,_⟩;exact z;rw[hx]at z;cases z
  cases hs:zV ds with
  | some ss=>
   rw[hs]at hf;dsimp only at hf
   split at hf
   ·rename_i hl;cases oq9 hf;obtain⟨e1,e2⟩:=kk3 hs r3;subst e1;refine .inl ⟨l,ss,by rw[ev],xj q3,hl,λp hp=>?_⟩;exact k ⟨.rt,.lst _,.ref p,p::[]⟩ _ rfl rfl (zX hp (kz3 λz hz=>e2 z ((Vz ss).mem_iff.mp hz)) λb hb=>nomatch hb)
   ·cases hf
  | none=>
   rw[hs]at hf;dsimp only at hf;cases hi:zq ds with
   | none=>rw[hi]at hf;cases hf
   | some ss=>
    rw[hi]at hf;dsimp only at hf
    split at hf
    ·rename_i hl;cases oq9 hf;have e1:=kku hi r3;subst e1;refine .inr ⟨l,ss,by rw[ev],xj q3,hl,λp hp=>?_⟩;exact k ⟨.rt,.lst _,.ref p,p::[]⟩ _ rfl rfl (zX hp kz4 λb hb=>nomatch hb)
    ·cases hf
 |_=>rw[hx]at hf;cases hf
def tPo(Z:Fx0):Option Ex->TO
 |none=>qku|some c=>vz4 (tV Z true c)
theorem vqu:PO X none (tPo Z none):=vv7
theorem Ww(h:QV X Z true c e):PO X (some e) (tPo Z (some c)):=vv5 h
theorem kkg{α:Type}{co:Option Ex}{F:En->Option Int->Option (Res α)}{r:Res α}{G:Option Int->Hp->Prop}(m:Mt E σ L)(w:World Z.K H L)(h:bnd (zx co E) F=some r)(xc:Xc Z σ H L r)
  (k:∀E1 l,F E1 l=some r->∀L1 H1,Mt E1 σ L1->World Z.K H1 L1->Step H L H1 L1->jK H H1->G l H1):tPo Z co σ H G:=by
 cases co with
 | none=>exact k E none h L H m w Step.refl wZ
 | some c=>
  have h:bnd (bnd (c E) λE x=>match x.2 with|.int i=>some (.ok E (some i))|_=>none) F=some r:=h;have h':bnd (c E) (λE x=>bnd (match x.2 with|.int i=>some (.ok E (some i))|_=>none) F)=some r:=by
   cases hc:c E with|none=>rw[hc]at h;exact h|some y=>rw[hc]at h;cases y<;>exact h
  show tV Z true c σ H λx H1=>∃i,x=.int i/\G (some i) H1
  refine kK m w h' xc λE1 s h1 x L1 H1 e1 e2 m1 w1 ok fr sr st sm=>?_
  cases hs:s.2 with
  |int i=>
   rw[hs]at h1;exact⟨i,kJ ok (e2.trans hs),k E1 (some i) h1 L1 H1 m1 w1 st (sm rfl)⟩
  |_=>rw[hs]at h1;cases h1
theorem Wj(n d:Nat)(v:Option Int):HT.sIx n d v=x3 n d v:=by
 cases v<;>rfl
theorem RepA.drop{K:Frag}{H:Hp}{g:Bool}:∀(n:Nat) {ds:List D} {xs:List V} {as:List Addr},RepA K H g ds xs as->∃bs,RepA K H g (ds.drop n) (xs.drop n) bs/\∀b∈bs,b∈as
 |0,ds,xs,as,h=>⟨as,h,λ_ h=>h⟩
 |n+1,[],xs,as,h=>by
  unfold RepA at h;obtain⟨rfl,rfl⟩:=h;exact⟨[],by simp only[List.drop_nil];unfold RepA;exact⟨rfl,rfl⟩,λ_ h=>h⟩
 |n+1,d::ds,xs,as,h=>by
  unfold RepA at h;obtain⟨x,r,bs,cs,rfl,rfl,h1,h2⟩:=h;obtain⟨es,r2,hb⟩:=RepA.drop n h2;exact⟨es,r2,λb h=>lr9 _ (hb b h)⟩
theorem RepA.take{K:Frag}{H:Hp}{g:Bool}:∀(n:Nat) {ds:List D} {xs:List V} {as:List Addr},RepA K H g ds xs as->∃bs,RepA K H g (ds.take n) (xs.take n) bs/\∀b∈bs,b∈as
 |0,ds,xs,as,h=>⟨[],by simp only[List.take_zero];unfold RepA;exact⟨rfl,rfl⟩,λ_ h=>nomatch h⟩
 |n+1,[],xs,as,h=>by
  unfold RepA at h;obtain⟨rfl,rfl⟩:=h;exact⟨[],by simp only[List.take_nil];unfold RepA;exact⟨rfl,rfl⟩,λ_ h=>h⟩
 |n+1,d::ds,xs,as,h=>by
  unfold RepA at h;obtain⟨x,r,bs,cs,rfl,rfl,h1,h2⟩:=h;obtain⟨es,r2,hb⟩:=RepA.take n h2;refine⟨bs++es,?_,λb h=>(aA h).elim (λz=>ll9 _ z) λz=>lr9 _ (hb b z)⟩;rw[List.take_succ_cons,List.take_succ_cons];unfold RepA;exact⟨x,r.take n,bs,es,rfl,rfl,h1,r2⟩
theorem RepA.cut{K:Frag}{H:Hp}{g:Bool}{ds:List D}{xs:List V}{as:List Addr}(h:RepA K H g ds xs as)(lo hi:Option Int):∃bs,RepA K H g (wql ds lo hi) (Q1 xs lo hi) bs/\∀b∈bs,b∈as:=by
 have hl:=h.len;unfold wql Q1;rw[Wj,Wj,<-hl];obtain⟨bs,r,hb⟩:=h.drop (x3 ds.length 0 lo);obtain⟨cs,r2,hc⟩:=r.take (x3 ds.length ds.length hi - x3 ds.length 0 lo);exact⟨cs,r2,λb h=>hb b (hc b h)⟩
theorem kw7{x:Sl}{s:Sd}{lo hi:Option Int}{Q:VK}(ok:x.ok K H)(hf:fSl (x.o,x.d) lo hi=some s)(k:∀(z:Sl) H',z.o=s.1->z.d=s.2->Out K H H' z x.frz->Q z.v H'):qqi K x.v lo hi H Q:=by
 unfold fSl at hf;dsimp only at hf;cases hx:x.d with
 | lst ds=>
  rw[hx]at hf;dsimp only at hf
  split at hf
  ·rename_i hl;cases oq9 hf;obtain⟨l,xs,bs,ev,q3,r3,h3⟩:=x9 ok (.inl hx) (by rw[hx];exact hl);have q3:LsR K H l xs:=by rcases q3 with⟨_,z⟩|⟨z,_⟩;exact z;rw[hx]at z;cases z
   obtain⟨cs,r4,h4⟩:=r3.cut lo hi;exact .inl ⟨l,xs,ev,xj q3,λp hp=>k ⟨.rt,.lst _,.ref p,p::cs⟩ _ rfl rfl (zX hp r4 λb hb=>h3 b (h4 b hb))⟩
  ·cases hf
 | tup ds=>
  rw[hx]at hf;dsimp only at hf
  split at hf
  ·rename_i hl;cases oq9 hf;obtain⟨l,xs,bs,ev,q3,r3,h3⟩:=x9 ok (.inr hx) (by rw[hx];exact hl.1);have q3:SqT K H l xs:=by rcases q3 with⟨z,_⟩|⟨_,z⟩;rw[hx]at z;cases z;exact z
   obtain⟨cs,r4,h4⟩:=r3.cut lo hi;refine .inr (.inl ⟨l,xs,ev,q3,?_,λp hp=>k ⟨.no,.tup _,.ref p,cs⟩ _ rfl rfl (Vx hp r4 λb hb=>h3 b (h4 b hb))⟩);rw[Wj,Wj,<-r3.len];exact hl.2
  ·cases hf
 | str z=>
  rw[hx]at hf;dsimp only at hf
  split at hf
  ·rename_i hl;cases oq9 hf;obtain⟨e,hz⟩:=wx ok hx;exact .inr (.inr ⟨z,e,hz,k ⟨.dp,.str _,.str _,[]⟩ H rfl rfl (wwj hl)⟩)
  ·cases hf
 |_=>rw[hx]at hf;cases hf
theorem ww2{lo hi:Option Ex}{qu qf:Option Expr}(ha:QV X Z q a ea)(hl:PO X qu (tPo Z lo))(hh:PO X qf (tPo Z hi))(hK:autoParam (X.K=Z.K) Ŕ):QE X Z q (cSl a lo hi) (.Subscript ea (.Slice qu qf none p2) pos):=
 kz (kze (vzj Z.K hK) ha hl hh) fun σ H Q ak=>ex8 ak λE L r m w hc xc k=>by
  refine kK m w (show bnd (a E) _=some r from hc) xc λE1 s h1 x L1 H1 e1 e2 m1 w1 ok fr sr st sm=>?_
  refine kkg m1 w1 h1 (xc.step st) λE2 l h2 L2 H2 m2 w2 b9 cj=>?_
  refine kkg m2 w2 h2 (xc.step (st.trans b9)) λE3 u h3 L3 H3 m3 w3 c8 jh=>?_
  obtain⟨z,hz,rfl⟩:=vW h3;have k1:=J0 ok fr b9 cj;have k2:=J0 k1.1 k1.2 c8 jh;refine kw7 k2.1 (by rw[e1,e2];exact hz) λy H' ho hd o=>?_
  obtain⟨w4,fu⟩:=K4 w3 ((st.trans b9).trans c8) o k2.2 (λb hb=>k2.1.some (Sl.frz_as hb)) (Q4 sr λb hb=>Sl.frz_as hb);have gr:q=true->jK H H3:=λhq=>jX (sm hq) (jX cj jh)
  exact k _ _ rfl y L3 H' ho hd m3 w4 fu λhq=>⟨jX (gr hq) o.same,λb hb=>z4 (gr hq) (o.new b hb)⟩
end
theorem vz1{prog:Program}{w:PySem.World}{A:Around}{E:VP9}{s:Shared}{t:Addr}{items:Array Value}{x:Value}{e:Value->Bool}{j:Nat}{Q:VP9}
  (ht:IsTup s.heap t items) (he:∀y∈items,SeqAt.EqAt A.in1 s y x (e y)) (hj:j<items.size) (h1:e items[j]=true) (h2:∀m (hm:m<items.size),m<j->e items[m]=false)
  (h:Q (.int j s.toks) { s with toks:=s.toks+1 }):wpAny (model prog w) A (call (.builtin "tuple.index") [.ref t,x]) Q E s:=by
 refine Y6 PySem.F.slot_tuple_index ht.typeIs PySem.F.entry_tuple_index ?_ (PySem.F.args_tuple_index_2 _ _);show wpAny _ _ (Builtin.Tuple.tupleItemsOf (.ref t) >>= _) _ _ s;refine X0 (tupleItemsOf_ ht ?_);dsimp only;refine X0 (X4 ?_);refine X0 (X4 ?_);rw[Std.Legacy.Range.forIn_eq_forIn_range'];refine X0 (Zp _ (λab b s'=>b=(none,())/\s'=s/\∃k,k<=j/\ab=List.range' k (items.size - k)) _ ?_ ?_ _ _ ⟨rfl,rfl,0,Yd _,?_⟩)
 ·rintro i ab b s' ⟨rfl,rfl,k,hk,hr⟩;obtain⟨n,hn⟩:∃n,items.size - k=n+1:=⟨items.size - k - 1,⋯⟩;rw[hn,List.range'_succ]at hr;injection hr with hi fk;subst hi;have hi:i<items.size:=⋯
  rw[show items[i]?=some items[i]from Xj hi];dsimp only;refine X0 (he items[i] (Array.getElem_mem hi) _ _ _ _ ?_)
  by_cases ji:i=j
  ·subst ji;rw[h1,X6 rfl];unfold retInt;refine X0 (X0 (wpAny_mkInt (X4 (X4 ?_))));exact X4 ⟨_,rfl,h⟩
  ·rw[h2 i hi ⋯,X8 ⋯];refine X4 ⟨rfl,rfl,i+1,⋯,?_⟩;rw[fk]
   congr 1
   lia
 ·rintro b s' ⟨rfl,rfl,k,hk,hr⟩;have:items.size - k=0:=by
   have:=congrArg List.length hr
   simpa using this.symm
  lia
 ·simp
theorem wvu{prog:Program}{w:PySem.World}{A:Around}{E:VP9}{s:Shared}{l:Addr}{items:Array Value}{k:Int}{t:Tok}{Q:VP9}
  (ht:IsTup s.heap l items) (h:Q .notImplemented s):wpAny (model prog w) A (call (.builtin "int.__rmul__") [.int k t,.ref l]) Q E s:=by
 refine Y6 PySem.F.slot_int_rmul (typeIs_int s k t) PySem.F.entry_int_rmul ?_ (PySem.F.args_int_rmul_2 _ _);obtain⟨o,e,c,n,hd⟩:=ht;show wpAny _ _ (asInt? (.ref l) >>= _) _ _ s;unfold asInt?;refine X0 (X0 (wpAny_load e ?_));rw[hd];refine X4 ?_;dsimp only;refine X0 (wpAny_rule ?_);exact X4 ⟨_,rfl,h⟩
theorem mulT{prog:Program}{w:PySem.World}{A:Around}{E:VP9}{s:Shared}{l:Addr}{items:Array Value}{k:Int}{t:Tok}{Q:VP9}
  (ht:IsTup s.heap l items) (h1:-(2 ^ 63)<=k) (h2:k<2 ^ 63) (hz:items.size*k.toNat<=sizeLine)
  (nu:(items.isEmpty=true\/k=1)->Q (.ref l) s)
  (hsz:(List.foldl (λx1 x2=>x1++x2) #[] (List.replicate k.toNat items)).size<=sizeLine)
  (f8:Q (.ref s.heap.objs.size) { s with heap:=s.heap.push { cls:=.type "tuple",data:=.seq (List.foldl (λx1 x2=>x1++x2) #[] (List.replicate k.toNat items)) } })
  : wpAny (model prog w) A (call (.builtin "tuple.__mul__") [.ref l,.int k t]) Q E s:=by
 refine Y6 PySem.F.slot_tuple_mul ht.typeIs PySem.F.entry_tuple_mul ?_ (PySem.F.args_tuple_mul_2 _ _);show wpAny _ _ (if(decide (k < -2 ^ 63)||decide (k>=2 ^ 63))=true then _ else _) _ _ s;rw [X8 (by simp;lia)];show wpAny _ _ (Builtin.Tuple.tupleItemsOf (.ref l) >>= _) _ _ s;refine X0 (tupleItemsOf_ ht ?_)
 by_cases hs:(items.isEmpty||k==1)=true
 ·rw[X6 hs];unfold Builtin.Tuple.tupleIsExact;refine X0 (X0 (Zb ht.typeIs (X4 ?_)));rw[X6 ⋯];refine X0 (wpAny_rule ?_);refine X4 ⟨_,rfl,nu ?_⟩
  simpa using hs
 ·rw[X8 hs];have dl:items.isEmpty=false:=by
   cases h:items.isEmpty<;>simp_all
  have hm:((items.size:Int)*k)<=(sizeLine:Int)\/k<=0:=by
   by_cases hk:k<=0
   ·exact .inr hk
   ·refine .inl ?_;have e:((k.toNat:Nat):Int)=k:=Int.toNat_of_nonneg ⋯;have:((items.size*k.toNat:Nat):Int)<=(sizeLine:Int):=Int.ofNat_le.mpr hz;rw[Int.natCast_mul,e]at this;exact this
  dsimp only
  by_cases hk:k<=0
  ·rw[X6 (by simp[hk])];have e:k.toNat=0:=⋯
   rw[e]at f8;unfold Builtin.Tuple.tupleExact;exact X0 (Y1 (X4 ⟨_,rfl,f8⟩) (show(0:Nat)<=sizeLine from Yd _))
  ·rw[X8 (by simp[hk,dl])];have hm:=hm.resolve_right hk;have ku:(sizeLine:Int)=16777216:=⋯
   rw[X8 ⋯];rw[X8 (by unfold Builtin.Tuple.tupleTooMany;simp;lia)];unfold Builtin.Tuple.tupleExact;exact X0 (Y1 (X4 ⟨_,rfl,f8⟩) hsz)
section
variable {X:Cx}{Z:Fx0}{K:Frag}{pn:List Nat}{q qa qb:Bool}{a b c:Ex}{u:Ts}{tg e ea eb:Expr}{st:Stmt}{σ:L2.St}{H:Hp}{L:Ls}{E:En}{pos p p2:Pos}{x:Str}
def vzr(K:Frag):R2:=λx y H Q=>∃l k xs,x=.ref l/\y=.int k/\SqT K H l xs/\-(2 ^ 63)<=k/\k<2 ^ 63/\xs.length*k.toNat<=sizeLine/\((xs=[]\/k=1)->Q (.ref l) H)/\∀p,H p=none->Q (.ref p) (upd H p (.tup (List.replicate k.toNat xs).flatten))
theorem op_repT:OpR X (binaryOp .Mult) (vzr X.K):=by
 intro pins s σ H x y v u Q I rx ry h;obtain⟨l,k,xs,rfl,rfl,hq,h1,h2,hz,q1,q2⟩:=h;cases rx;obtain⟨t,rfl⟩:=ry;obtain⟨a8,r,ht,hl⟩:=I.tuple hq;have ag:=r.length;have f0:List.foldl (λx1 x2=>x1++x2) #[] (List.replicate k.toNat a8.toArray)=(List.replicate k.toNat a8).flatten.toArray:=by
  have:=jzs a8 k.toNat [];rw[List.nil_append]at this;exact this
 have ko:(List.replicate k.toNat xs).flatten.length<=sizeLine:=by rw[qvp,Nat.mul_comm];exact hz
 refine wpAny_binaryOp_repeat_ref (T:="tuple") (U:="int") ⋯ ht.typeIs (λs'=>typeIs_int s' k t) rfl F.fills_int_mul F.slot_int_rmul (show seqRepeat? (Value.type "tuple")=pure (some (Value.builtin "tuple.__mul__"))from rfl) F.slot_int_index.lookup
  (wvu ht ⟨rfl,ht.typeIs,mulT ht h1 h2 (by rw[X9,<-ag];exact hz) (λhs=>?_) ?_ ?_⟩)
 ·refine⟨.ref l,H,I,rfl,q1 ?_⟩;rcases hs with hs|hs
  ·left;have:a8=[]:=by simpa using hs
   subst this
   simpa using ag
  ·exact .inr hs
 ·rw[f0,X9,<-(r.rep k.toNat).length];exact ko
 ·rw[f0];exact⟨.ref _,_,I.laid (t':=s.toks) (o:=.tup _) (λb o e=>X3 _ e) (Xa _) ⟨ko,_,r.rep k.toNat,IsTupD.new _ _⟩,rfl,q2 _ (I.hok.fresh (Xa _))⟩
def vzu(K:Frag):R2:=λx y H Q=>vzr K x y H Q\/vqn K x y H Q
theorem wk5(hK:autoParam (X.K=K) Ŕ):OpR X (binaryOp .Mult) (vzu K):=by subst hK;exact op_repT.or wk6
theorem vxa:Ad2 K (vzu K) vJ:=by
 intro H x y s Q ox oy hf k;cases hx:x.d with
 | tup ds=>
  cases hy:y.d with
  | int n=>
   unfold vJ at hf;rw [show(x.o,x.d).2=x.d from rfl,show(y.o,y.d).2=y.d from rfl,hx,hy]at hf;dsimp only at hf
   split at hf
   ·rename_i hc;cases oq9 hf;obtain⟨l,xs,bs,e3,q3,r3,h3⟩:=x9 ox (.inr hx) (by rw[hx];exact hc.2.2.2);have q3:SqT K H l xs:=by rcases q3 with⟨z,_⟩|⟨_,z⟩;rw[hx]at z;cases z;exact z
    obtain⟨cs,r4,h4⟩:=r3.reps n.toNat;refine .inl ⟨l,n,xs,e3,kJ oy hy,q3,hc.1,hc.2.1,by rw[<-r3.len];exact hc.2.2.1,λhs=>?_,λp hp=>?_⟩
    ·refine k ⟨.no,.tup _,.ref l,cs⟩ H rfl rfl ⟨wZ,?_,λb hb=>(nomatch hb),Yf,λb hb=>ll9 _ (h3 b (h4 b hb))⟩;show RepL K H true (.tup _) (.ref l) cs;unfold RepL;refine⟨l,xs,rfl,q3,?_⟩;have e:(List.replicate n.toNat xs).flatten=xs:=by
      rcases hs with hs|hs
      ·subst hs;simp
      ·subst hs;simp
     rw[e]at r4;exact r4
    ·exact k ⟨.no,.tup _,.ref p,cs⟩ _ rfl rfl (Vx hp r4 λb hb=>ll9 _ (h3 b (h4 b hb)))
   ·cases hf
  |_=>
   refine .inr (vq4 H x y s Q ox oy ?_ k);unfold vJ at hf;rw[show(x.o,x.d).2=x.d from rfl,show(y.o,y.d).2=y.d from rfl,hx,hy]at hf;rw[hx,hy];exact hf
 |_=>
  refine .inr (vq4 H x y s Q ox oy ?_ k);unfold vJ at hf;rw[show(x.o,x.d).2=x.d from rfl,hx]at hf;rw[hx];exact hf
theorem qvc{h:Heap}:∀{ds:List D} {us:List Value},CReps h ds us->us.map (dec h)=ds
 |[],_,r=>by unfold CReps at r;rw[r];rfl
 |z::ds,_,r=>by
  unfold CReps at r;obtain⟨u,rr,rfl,h1,h2⟩:=r;rw[List.map_cons,XZ h1,qvc h2]
def wvx(K:Frag)(C:Hp->List V->Prop):List V->Hp->VK->Prop:=λvs H Q=>∃v d ds as bs xs j,vs=[v]/\RepL K H true d v as/\C H xs/\RepA K H true ds xs bs/\d.flat 30=true/\D.flats 30 ds=true/\(ds.findIdx? λz=>peq z d)=some j/\Q (.int j) H
theorem qzr{o:Expr}{to:TE}{t:TA}{am ae:Pos}(hu:X.A.units+64<cLine)(ho:PE X o to)(ha:PA X [e] t)
  (aw:autoParam (attributeBase o "index" X.env (eval o X.env)=eval o X.env) Ŕ)
  (bi:autoParam (((backTo ae (starEach [e] X.env)).all (λx=>!x.1)&&(backToKw ae (keywordEach [] X.env)).all (λx=>x.1.isSome)
   && decide ([e].length+([]:List Keyword).length+(if([]:List Keyword).isEmpty then 0 else 1)<30))=true) Ŕ)
  (ax:autoParam ((am.endLine==ae.line)=true) Ŕ) (hs:autoParam (starEach [e] X.env=(false,eval e X.env)::starEach [] X.env) Ŕ) (aq:autoParam ((backTo ae (starEach [] X.env)).any (·.1)=false) Ŕ):
  PE X (.Call (.Attribute o "index" am) [e] [] ae) (fun σ H Q=>to σ H λx H1=>(∃p xs,x=.ref p/\LsR X.K H1 p xs/\t σ H1 λvs H2=>wvx X.K (λH xs=>LsR X.K H p xs) vs H2 Q)\/∃p xs,x=.ref p/\SqT X.K H1 p xs/\t σ H1 λvs H2=>wvx X.K (λH xs=>SqT X.K H p xs) vs H2 Q):=by
 intro pins s σ H Q I h;refine wpAny_Call_method_late aw bi ax rfl (thn (ho pins s σ H _ I h) λv s1 ⟨x,H1,I1,r1,qq⟩=>?_);have eqs:∀{s2:Shared} {H2:Hp} {d:D} {v:V} {as:List Addr} {w:Value} {us:List Value} {ds:List D},L2.Inv X pins σ H2 s2->RepL X.K H2 true d v as->RelV v w->d.flat 30=true->D.flats 30 ds=true->CReps s2.heap ds us->∀y∈us.toArray,SeqAt.EqAt X.A.in1 s2 y w (peq (dec s2.heap y) d):=fun {s2 H2 d v as w us ds} I2 rd rw f1 f2 cr y hy=>by
  have c1:=Jz I2 rd f1 rw;obtain⟨d',hd,c⟩:=jxy cr (by simpa using hy);rw[XZ c];exact Kz 30 (jwl f2 hd) c c1 (by have:=L3.in1_units X.A;lia)
 have idx:∀{h:Heap} {ds:List D} {us:List Value} {d:D} {j:Nat},CReps h ds us->(ds.findIdx? λz=>peq z d)=some j->∃hj:j<us.toArray.size,peq (dec h us.toArray[j]) d=true/\∀m (hm:m<us.toArray.size),m<j->peq (dec h us.toArray[m]) d=false:=fun {h ds us d j} cr hf=>by
  have e:=qvc cr;subst e;rw[List.findIdx?_eq_some_iff_getElem]at hf;obtain⟨hj,h1,h2⟩:=hf;have jd:j<us.length:=by simpa using hj
  refine⟨by simpa using jd,by simpa using h1,λm hm hmj=>?_⟩;have:=h2 m hmj
  simpa using this
 rcases qq with⟨pp,zs,rfl,ty,q1⟩|⟨pp,zs,rfl,ty,q1⟩
 ·cases r1;have hA:=ha ae pins s1 σ H1 _ I1 q1;rw[hs]at hA ⊢;obtain⟨z,a8,n,r,e0⟩:=ty.is I1;refine⟨"list","list.index",F.plainAttrs_list,F.slot_list_index,F.type_list_index,⟨_,e0,rfl⟩,λa e2=>?_,?_⟩
  ·cases e2;exact⟨_,e0,rfl⟩
  refine Calls.callWith_builtin (by show(false||(backTo ae (starEach [] X.env)).any (·.1))=false;rw[aq]<;>rfl) (Calls.evalArgs_plain ?_);refine thn hA λus s2 ⟨vs,H2,I2,r2,d2⟩=>?_
  obtain⟨v,d,ds,as,bs,xs,j,rfl,rd,hq,ra,f1,f2,hf,q2⟩:=d2;obtain⟨w,rfl,rw1⟩:=r2.one;obtain⟨z2,cf,n2,r3,e3⟩:=hq.is I2;have cr:=creps_of I2 ra f2 r3;obtain⟨hj,h1,h2⟩:=idx cr hf;have hsz:cf.toArray.size<=16777216:=by rw[X9,<-r3.length];exact z2
  exact call_meets F.slot_list_index ⟨_,e3,rfl⟩ F.entry_list_index (F.args_list_index_2 _ _) (SeqAt.list_indexAt pp cf.toArray n2 none #[] w (λy=>peq (dec s2.heap y) d) j hj ⋯ h1 h2) ⟨e3,eqs I2 rd rw1 f1 f2 cr,.int _,H2,I2.tok _,⟨_,rfl⟩,q2⟩
 ·cases r1;have hA:=ha ae pins s1 σ H1 _ I1 q1;rw[hs]at hA ⊢;obtain⟨a8,r,ht,hz⟩:=I1.tuple ty;have hd0:=I1.tupleD ty;refine⟨"tuple","tuple.index",F.plainAttrs_tuple,F.slot_tuple_index,F.type_tuple_index,ht.typeIs,λa e2=>?_,?_⟩
  ·cases e2;exact hd0
  refine Calls.callWith_builtin (by show(false||(backTo ae (starEach [] X.env)).any (·.1))=false;rw[aq]<;>rfl) (Calls.evalArgs_plain ?_);refine thn hA λus s2 ⟨vs,H2,I2,r2,d2⟩=>?_
  obtain⟨v,d,ds,as,bs,xs,j,rfl,rd,hq,ra,f1,f2,hf,q2⟩:=d2;obtain⟨w,rfl,rw1⟩:=r2.one;obtain⟨cf,r3,ht2,ko⟩:=I2.tuple hq;have cr:=creps_of I2 ra f2 r3;obtain⟨hj,h1,h2⟩:=idx cr hf;exact vz1 (e:=λy=>peq (dec s2.heap y) d) ht2 (eqs I2 rd rw1 f1 f2 cr) hj h1 h2 ⟨.int _,H2,I2.tok _,⟨_,rfl⟩,q2⟩
theorem kwh{am ae:Pos}(hu:X.A.units+64<cLine)(ha:QV X Z q a ea)(hb:QV X Z true b eb)(hK:autoParam (X.K=Z.K) Ŕ)
  (aw:autoParam (attributeBase ea "index" X.env (eval ea X.env)=eval ea X.env) Ŕ)
  (bi:autoParam (((backTo ae (starEach [eb] X.env)).all (λx=>!x.1)&&(backToKw ae (keywordEach [] X.env)).all (λx=>x.1.isSome)
   && decide ([eb].length+([]:List Keyword).length+(if([]:List Keyword).isEmpty then 0 else 1)<30))=true) Ŕ)
  (ax:autoParam ((am.endLine==ae.line)=true) Ŕ) (hs:autoParam (starEach [eb] X.env=(false,eval eb X.env)::starEach [] X.env) Ŕ) (aq:autoParam ((backTo ae (starEach [] X.env)).any (·.1)=false) Ŕ):
  QE X Z q (W6 a b) (.Call (.Attribute ea "index" am) [eb] [] ae):=kz (qzr hu ha (qQ hb vq hs) aw bi ax hs aq) fun σ H Q ak=>ex8 ak λE L r m w hc xc k=>by
 refine kK m w (show bnd (a E) _=some r from hc) xc λE1 s h1 x L1 H1 e1 e2 m1 w1 ok fr sr st sm=>?_
 split at h1
 rotate_left
 ·cases h1
 rename_i hsq;rw [hK];have fin:∀{ds:List D},(x.d=.lst ds\/x.d=.tup ds)->∀(C:Hp->List V->Prop),(∀H2,x.ok Z.K H2->∃xs bs,C H2 xs/\RepA Z.K H2 true ds xs bs)->tV Z true b σ H1 λv H2=>wvx Z.K C [v] H2 Q:=fun {ds} hx C hC=>by
  refine kK m1 w1 h1 (xc.step st) λE2 s2 h2 y L2 H2 e3 e4 m2 w2 ef kl kh b9 cj=>?_
  obtain⟨z,hz,rfl⟩:=vW h2;have kx:=J0 ok fr b9 (cj rfl);obtain⟨xs,bs,c1,c2⟩:=hC H2 kx.1;have key:∃j:Nat,y.d.flat 30=true/\D.flats 30 ds=true/\(ds.findIdx? λz=>peq z y.d)=some j/\z=(.dp,.int j):=by
   unfold pu2 QJ at hz;rw[<-e2,<-e4]at hz;have mx:(if y.d.flat 30&&D.flats 30 ds then(ds.findIdx? λz=>peq z y.d).map λ(j:Nat)=>D.int (j:Int)else none).map (λd=>((Own.dp,d):Sd))=some z:=by
    rcases hx with hx|hx<;>(rw[hx]at hz;exact hz)
   split at mx
   ·rename_i hf;rw[Bool.and_eq_true]at hf;cases hj:ds.findIdx? λz=>peq z y.d with|none=>rw[hj]at mx;cases mx|some j=>rw[hj]at mx;exact⟨j,hf.1,hf.2,rfl,(oq9 mx).symm⟩
   ·cases mx
  obtain⟨j,f1,f2,f3,rfl⟩:=key;refine⟨y.v,y.d,ds,y.as,bs,xs,j,rfl,RepO.wk ef,c1,c2,f1,f2,f3,?_⟩;have gr:q=true->jK H H2:=λhq=>jX (sm hq) (cj rfl)
  exact k _ _ rfl ⟨.dp,.int j,.int j,[]⟩ L2 H2 rfl rfl m2 (w2.consPu (x:=⟨.dp,.int j,.int j,[]⟩) (show RepL Z.K H2 false (.int j) (.int j) []from xk) rfl) (Kj (x:=⟨.dp,.int j,.int j,[]⟩) (st.trans b9) (λb hb=>nomatch hb) rfl) λhq=>⟨gr hq,λ_ z=>(nomatch z)⟩
 have wkA:∀{ds:List D} {xs:List V} {bs:List Addr} {H2:Hp},RepA Z.K H2 (x.o != .dp) ds xs bs->RepA Z.K H2 true ds xs bs:=fun {ds xs bs H2} r=>by
  cases ho:(x.o != .dp)with|true=>rw[ho]at r;exact r|false=>rw[ho]at r;exact r.wk
 cases hx:x.d with
 |lst ds=>
  obtain⟨l,xs,bs,ev,q3,r3,h3,_⟩:=items ok (.inl hx);have q3:LsR Z.K H1 l xs:=by rcases q3 with⟨_,z⟩|⟨z,_⟩;exact z;rw[hx]at z;cases z
  refine .inl ⟨l,xs,ev,q3,fin (.inl hx) _ λH2 ef=>?_⟩;obtain⟨l2,ys,cs,ev2,q4,r4,_⟩:=items ef (.inl hx);have:l2=l:=by have:=ev2.symm.trans ev;exact V.ref.inj this
  subst this;rcases q4 with⟨_,z⟩|⟨z,_⟩
  ·exact⟨ys,cs,z,wkA r4⟩
  ·rw[hx]at z;cases z
 |tup ds=>
  obtain⟨l,xs,bs,ev,q3,r3,h3,_⟩:=items ok (.inr hx);have q3:SqT Z.K H1 l xs:=by rcases q3 with⟨z,_⟩|⟨_,z⟩;rw[hx]at z;cases z;exact z
  refine .inr ⟨l,xs,ev,q3,fin (.inr hx) _ λH2 ef=>?_⟩;obtain⟨l2,ys,cs,ev2,q4,r4,_⟩:=items ef (.inr hx);have:l2=l:=by have:=ev2.symm.trans ev;exact V.ref.inj this
  subst this;rcases q4 with⟨z,_⟩|⟨_,z⟩
  ·rw[hx]at z;cases z
  ·exact⟨ys,cs,z,wkA r4⟩
 |_=>rw[<-e2,hx]at hsq;cases hsq
end
def Ite(K:Frag)(l:Addr):It:=⟨λi H=>∃xs x,SqL K H l xs/\xs[i]?=some x,
 λi H v H'=>∃T x,H T=none/\v=.ref T/\H'=upd H T (.tup [.int i,x])/\∀xs,SqL K H l xs->xs[i]?=some x,
 λi H=>∃xs,SqL K H l xs/\xs.length<=i⟩
theorem qkr{P:Program}{w:PySem.World}{K:Frag}{f7:List Expr}{k1:Nat}{pos:Pos}{e it l:Addr}(n1:e≠it)(n2:l≠e)(n3:l≠it):
  Turn P w K (.Tuple f7 k1 pos) (Ite K l) [e,it] e (λi h=>(∃ci,IsEnum h e it (i:Int) ci)/\h.IsListIter it l i) where
 mem:=by simp
 obj:=λi h st b hb=>by
  obtain⟨⟨ci,h1⟩,o4,e4,c4,d4⟩:=st;simp only[Xz,Y8,or_false]at hb;rcases hb with rfl|rfl
  ·exact⟨_,h1,λv z=>by cases z⟩
  ·exact⟨_,e4,λv z=>by rw[d4]at z;cases z⟩
 keep:=λi h h' st k=>by
  obtain⟨⟨ci,h1⟩,o4,e4,c4,d4⟩:=st;exact⟨⟨ci,k _ (by simp) _ h1⟩,o4,k _ (by simp) _ e4,c4,d4⟩
 item:=by
  intro X hP hw hK hc i pins s σ H E I hf st hg;subst hP hw hK;obtain⟨xs,x,q1,hx⟩:=hg;obtain⟨rn,rv1,p1,i9⟩:=I.list q1;obtain⟨u1,my,ru1⟩:=rv1.get hx;obtain⟨⟨ci,t1⟩,t2⟩:=st;refine wpAny_pyNext_enum_item t1 t2 p1.isList (x:=u1) (by simpa using my) n1 λh1 g1 g2 gT gs gk=>?_
  refine⟨_,rfl,wpAny_letOwnedTupleGo_enum (s:={ s with heap:=h1,toks:=s.toks+1 }) g1 λh2 f1 sb=>?_⟩;have fT:qK X pins H s.heap.objs.size:=I.fpOk (Xa _) (I.hok.fresh (Xa _));have nT:∀b∈[e,it],b≠s.heap.objs.size:=λb hb ee=>by
   obtain⟨o,eo,_⟩:∃o,s.heap.get? b=some o/\True:=by
    simp only[Xz,Y8,or_false]at hb;obtain⟨o4,e4,_⟩:=t2;rcases hb with rfl|rfl
    ·exact⟨_,t1,trivial⟩
    ·exact⟨_,e4,trivial⟩
   exact absurd (Xd eo) (by rw[ee];exact Z1 _)
  have kk:∀b o,b∉[e,it]->s.heap.get? b=some o->h2.get? b=some o:=λb o hb ee=>by
   simp only[Xz,Y8,or_false,not_or]at hb;exact(sb.2 b hb.1).trans (gk b o hb.1 hb.2 ee)
  have I1:L2.Inv X pins σ H { s with heap:=h2,toks:=s.toks+1 }:=jzk [e,it] I kk hf;have nz:s.heap.objs.size≠e:=λee=>nT e (by simp) ee.symm
  have I2:=kv6 (a:=s.heap.objs.size) (o:=.tup [.int (i:Int),x]) I1 fT.1 fT.2.1 fT.2.2.2.1 fT.2.2.2.2.1 fT.2.2.2.2.2
   (show ObjOk X.prog X.w _ h2 _ (.tup [.int (i:Int),x])from⟨by show(2:Nat)<=sizeLine;decide,[.int i s.toks,u1],.cons ⟨_,rfl⟩ (.cons ru1 .nil),⟨_,(sb.2 _ nz).trans gT,rfl,rfl,0,rfl⟩⟩)
  refine⟨.ref s.heap.objs.size,_,I2,rfl,⟨_,x,fT.1,rfl,rfl,λzs hzs=>by rw[I.list_inj hzs q1];exact hx⟩,?_,λb hb=>by rw[k9 (nT b hb)];exact(hf b hb).1⟩;exact⟨⟨u1,f1⟩,g2.at λo ee=>(sb.2 _ n1.symm).trans ee⟩
 done:=by
  intro X hP hw hK hc i pins s σ H E I hf st hg;subst hP hw hK;obtain⟨xs,q1,hx⟩:=hg;obtain⟨rn,rv1,p1,i9⟩:=I.list q1;obtain⟨⟨ci,t1⟩,t2⟩:=st;have mi:=rv1.length;refine wpAny_pyNext_enum_end (I.ok.hd hc) t1 t2 p1.isList (by simp;lia) λh' kk=>⟨rfl,?_⟩
  refine jzk (t':=s.toks) [it] I (λb o hb ee=>kk b o (by simpa using hb) ee) λb hb=>hf b (by
   simp only[Xz,Y8,or_false]at hb ⊢;exact .inr hb)
 self:=λ_ _ _ _ _ st h=>by obtain⟨⟨ci,h1⟩,_⟩:=st;exact wpAny_pyIter_enum h1 h
abbrev wx1(K:Frag)(ta:TA):TI:=fun σ H R=>ta σ H λvs H1=>∃l,vs=[.ref l]/\(∃xs,SqL K H1 l xs/\(xs.length<=sizeLine->R (Ite K l) H1))
theorem kvr:bootBuiltins "enumerate"=some (.type "enumerate"):=boot_enumerate
section
variable {X:Cx}{Z:Fx0}{K:Frag}{pn:List Nat}{q qa qb:Bool}{a b c:Ex}{u:Ts}{tg e ea eb:Expr}{st:Stmt}{σ:L2.St}{H:Hp}{L:Ls}{E:En}{pos p p2 lx:Pos}{x:Str}{f7:List Expr}{k1:Nat}
theorem vv8(K:Frag){ta:TA}(hg:Gl X "enumerate")(hm:X.mg "enumerate"=none)(ha:PA X [e] ta)(hK:autoParam (X.K=K) Ŕ)
  (hs:autoParam (starEach [e] X.env=[(false,eval e X.env)]) Ŕ):PI X (.Tuple f7 k1 lx) (.Call (.Name "enumerate" p) [e] [] pos) (wx1 K ta):=by
 subst hK;intro pins s σ H R I h;refine Call_ (xW I hg hm kvr (Ya (thn (ha pos pins s σ H _ I h) λus s1 ⟨vs,H1,I1,r1,q1⟩=>?_) (by rw[hs];rfl) rfl));obtain⟨l,rfl,xs,q1,q⟩:=q1;obtain⟨u1,rfl,e1⟩:=x8 r1;cases e1;obtain⟨rn,rv1,p1,i9⟩:=I1.list q1;have lt:l<s1.heap.objs.size:=by obtain⟨_,ee,_⟩:=p1.isList;exact Xd ee
 refine call_enumerate_list p1.isList λh' g1 g2 gs gk=>?_
 refine wpAny_pyIter_enum g1 ⟨_,[_,s1.heap.objs.size],_,_,H1,rfl,I1.kept (t':=s1.toks) gk,
  qkr (e:=s1.heap.objs.size+1) (it:=s1.heap.objs.size) (l:=l) (Nat.succ_ne_self _) (Xl (Yt lt)) (Xl lt),⟨⟨_,g1⟩,g2⟩,λb hb=>?_,q i9⟩
 have db:s1.heap.objs.size<=b:=by
  simp only[Xz,Y8,or_false]at hb;rcases hb with rfl|rfl<;>lia
 exact I1.fpOk db (I1.hok.fresh db)
theorem jwn:∀(ds:List D) (k:Nat),(xQ k ds).length=ds.length
 |[],_=>rfl|d::ds,k=>by rw[xQ,Xk,Xk,jwn ds]
theorem kvi:∀(ds:List D) (k i:Nat),(xQ k ds)[i]?=(ds[i]?).map λd=>.tup [.int ((k+i:Nat):Int),d]
 |[],_,_=>by simp[xQ]|d::ds,k,0=>by simp[xQ]
 |d::ds,k,i+1=>by
  rw[xQ,List.getElem?_cons_succ,List.getElem?_cons_succ,kvi ds,show k+1+i=k+(i+1)from by lia]
theorem qvj{x:Sl}{es:List D}{l:Addr}{H1:Hp}(hx:x.d=.lst es)(ev:x.v=.ref l):∀H2:Hp,x.let.ok K H2->∃ys cs,SqL K H2 l ys/\RepA K H2 true es ys cs/\∀b∈cs,b∈x.as:=λH2 hok=>by
 obtain⟨a',ys,cs,o7,q4,r4,h4,_⟩:=items hok (.inl hx);have:a'=l:=by have:=o7.symm.trans ev;exact V.ref.inj this
 subst this;rcases q4 with⟨_,z⟩|⟨z,_⟩
 ·exact⟨ys,cs,z.sq,r4,h4⟩
 ·rw[show x.let.d=D.lst es from hx]at z;cases z
theorem qzf{H2:Hp}{T:Addr}{d1 d2:D}{v1 v2:V}{b1 b2:List Addr}(hT:H2 T=none)(r1:RepL K H2 true d1 v1 b1)(r2:RepL K H2 true d2 v2 b2):RepL K (upd H2 T (.tup [v1,v2])) true (.tup [d1,d2]) (.ref T) (b1++b2):=by
 have sm:jK H2 (upd H2 T (.tup [v1,v2])):=qZ hT;unfold RepL;refine⟨T,[v1,v2],rfl,.inl (.inl vX),?_⟩;unfold RepA;refine⟨v1,[v2],b1,b2,rfl,rfl,r1.kp (Kp.of_same sm),?_⟩;unfold RepA;refine⟨v2,[],b2,[],rfl,by simp,r2.kp (Kp.of_same sm),?_⟩;unfold RepA;exact⟨rfl,rfl⟩
theorem wj5(h:QE X Z q c e)(hg:Gl X "enumerate")(hm:X.mg "enumerate"=none)(hK:autoParam (X.K=Z.K) Ŕ)(hs:autoParam (starEach [e] X.env=[(false,eval e X.env)]) Ŕ):QI X Z q (.Tuple f7 k1 lx) (wvb c) (.Call (.Name "enumerate" p) [e] [] pos):=λpins s σ H R I ak=>ex8 ak λE L r m w hc xc k=>by
 refine(vv8 Z.K hg hm (qQ h vq hs) hK hs) pins s σ H R I ?_;refine qzj m w (show bnd (c E) _=some r from hc) xc λE1 s h1 x L1 H1 e1 e2 m1 w1 st sm=>?_
 obtain⟨ds,hd,rfl⟩:=vW h1;have ok:=w1.head;have wT:World Z.K H1 (L1++[x.let].map some):=by
  refine World.comm (L:=[some x.let]) ?_;exact w1.tail.consNo (W7 ok) rfl λb hb=>w1.apart b hb
 have sT:Step H L H1 (L1++[x.let].map some):=by
  refine⟨st.keep,λb hb=>?_,λb hb=>?_⟩
  ·have:b∈j4 L1:=by simpa [Qx]using hb
   exact st.own b (by rw[jY];exact lr9 _ this)
  ·have:b∈jx L1\/b∈x.as:=by simpa [Qx]using hb
   rcases this with z|z
   ·exact st.frz b (by rw[qJ];exact lr9 _ z)
   ·exact kk5 st b z
 cases hx:x.d with
 | lst es=>
  rw[<-e2,hx]at hd;have jc:xQ 0 es=ds:=oq9 hd;subst jc;obtain⟨a,xs,bs,ev,q3,r3,h3,_⟩:=items ok (.inl hx);have q3:LsR Z.K H1 a xs:=by rcases q3 with⟨_,z⟩|⟨z,_⟩;exact z;rw[hx]at z;cases z
  have again:=qvj (K:=Z.K) (H1:=H1) hx ev;refine⟨a,by rw[ev],xs,q3.sq,λag=>k _ _ rfl (Ite Z.K a) [x.let] L1 H1 m1 wT sT (by rw[jwn,r3.len];exact ag) (λhq=>(sm hq).1) ⟨λt ht=>by rw[aC ht];rfl,λi H2 hok hi=>?_,λH2 hok=>?_,λi H2 v H3 d hok hy i7=>?_⟩⟩
  ·obtain⟨ys,cs,s1,s2,_⟩:=again H2 (hok _ (aB rfl));have hl:=s2.len;rw[jwn]at hi;exact⟨ys,ys[i]'⋯,s1,X2 ⋯⟩
  ·obtain⟨ys,cs,s1,s2,_⟩:=again H2 (hok _ (aB rfl));exact⟨ys,s1,by rw[jwn,s2.len];exact Xa _⟩
  ·obtain⟨ys,cs,s1,s2,s3⟩:=again H2 (hok _ (aB rfl));obtain⟨T,x',hT,rfl,rfl,hy⟩:=hy;rw[kvi]at i7;cases lc:es[i]? with
   |none=>rw[lc]at i7;cases i7
   |some d0=>
    rw[lc]at i7;cases oq9 i7;obtain⟨v',cp,f1,f2,f3⟩:=s2.get lc;have:v'=x':=by have:=hy ys s1;rw[f1]at this;exact oq9 this
    subst this;have rp:=qzf (v1:=.int ((0+i:Nat):Int)) hT xk f2;rw[show((0+i:Nat):Int)=(i:Int)from by lia]at rp ⊢;exact⟨⟨.no,_,.ref T,[]++cp⟩,rfl,rfl,rfl,qZ hT,rp,λb hb=>⟨x.let,aB rfl,s3 b (f3 b (by simpa using hb))⟩⟩
 |_=>rw[<-e2,hx]at hd;cases hd
end
section
variable {X:Cx}{Z:Fx0}{q:Bool}{a b c:Ex}{ea eb ec:Expr}{σ:L2.St}{H:Hp}{pos:Pos}
theorem qk8{r r':R2}{f g:D->D->Option D}(ad:Ad2 Z.K r (pu2 f))(ad':Ad2 Z.K r' (pu2 g)){Q:VK}(h:tQ Z q (Q6 f g a b c) σ H Q):vjy r r' (tV Z q a) (tV Z true b) (tV Z true c) σ H Q:=by
 obtain⟨E,L,R,m,w,hc,xc,k⟩:=h;refine kK m w hc xc λE1 s h1 x L1 H1 e1 e2 m1 w1 ok fr sr st sm=>?_
 refine kK m1 w1 h1 (xc.step st) λE2 s2 h2 y L2 H2 e3 e4 m2 w2 ef kl kh b9 cj=>?_
 have kx:=J0 ok fr b9 (cj rfl);cases hf:f s.2 s2.2 with
 | none=>rw[hf]at h2;cases h2
 | some d=>
  rw [hf]at h2;cases d with
  | bl kb=>
   refine ad H2 x y (.dp,.bl kb) _ kx.1 ef (by show(f x.d y.d).map _=_;rw[e2,e4,hf];rfl) λz H' zo zd o=>?_
   refine⟨kb,V8 o.ok zd,?_⟩;have w3:World Z.K H' L2:=⟨λt ht=>RepO.kp (w2.ok t ht) (Kp.of_same o.same),w2.nd,w2.ds⟩;have c8:Step H L H' L2:=(st.trans b9).trans ⟨λb ob h _=>o.same b ob h,λ_ h=>.inl h,λ_ h=>.inl h⟩;have jh:q=true->jK H H':=λhq=>jX (sm hq) (jX (cj rfl) o.same)
   cases kb with
   | false=>
    cases oq9 h2;rw[X8 ⋯];exact k _ _ rfl ⟨.dp,.bl false,.bl false,[]⟩ L2 H' rfl rfl m2 (w3.consPu (x:=⟨.dp,.bl false,.bl false,[]⟩) (show RepL Z.K H' false (.bl false) (.bl false) []from qqb) rfl) (Kj (x:=⟨.dp,.bl false,.bl false,[]⟩) c8 (λb hb=>nomatch hb) rfl) λhq=>⟨jh hq,λ_ z=>(nomatch z)⟩
   | true=>
    rw[X6 rfl];refine kK m2 w3 h2 (xc.step c8) λE3 s3 h3 v L3 H3 e5 e6 m3 w4 ok3 mj sr3 fu m5=>?_
    obtain⟨zz,hz,rfl⟩:=vW h3;have ky:=J0 (x:=y) (RepO.kp ef (Kp.of_same o.same)) kl fu (m5 rfl);refine ad' H3 y v zz Q ky.1 ok3 (by show(g y.d v.d).map _=_;rw[e4,e6];exact hz) λt H5 to td ot=>?_
    obtain⟨w5,ix⟩:=K4 w4 (c8.trans fu) ot (λb hb=>(aA hb).elim (ky.2 b) (mj b)) (λb hb=>(aA hb).elim (λz=>ky.1.some (Sl.frz_as z)) λz=>ok3.some (Sl.frz_as z))
     (qky (Q4 (kh.back st) λb hb=>Sl.frz_as hb) (Q4 (sr3.back c8) λb hb=>Sl.frz_as hb))
    exact k _ _ rfl t L3 H5 to td m3 w5 ix λhq=>⟨jX (jh hq) (jX (m5 rfl) ot.same),λb hb=>z4 (jX (jh hq) (m5 rfl)) (ot.new b hb)⟩
  |_=>cases h2
theorem qzk {op lz:CmpOp} {r r':R2} {f g:D->D->Option D} (ho:OpR X (compareOp op) r) (ad:Ad2 Z.K r (pu2 f)) (dq:OpR X (compareOp lz) r') (ad':Ad2 Z.K r' (pu2 g)) (ha:QV X Z q a ea) (hb:QV X Z true b eb) (hc:QV X Z true c ec) (hg:∀x y s,pu2 g x y=some s->∃k,s.2=.bl k)
  (hm:lastMarks [op,lz] [eb,ec]=false:=by ac_rfl):QT X Z q (_root_.Q.tE (Q6 f g a b c)) (.Compare ea [op,lz] [eb,ec] pos):=
 kz9 (qzo ho dq ha hb hc hm) fun σ H Q ak=>ex8 ak λE L r m w d8 xc k=>by
  refine qk8 ad ad' ?_;have fy:bnd (Q6 f g a b c E) (λE x=>val E (truth x.2))=some r:=d8;rcases vk fy with⟨E1,s,h1,h2⟩|⟨E1,cx,h1,h2⟩
  ·refine⟨E,L,_,m,w,h1,(λ_ _ z=>by cases z),λE' s' z x L' H' e1 e2 m' w' st sm=>?_⟩;injection z with z1 z2;subst z1 z2;obtain⟨kk,hk⟩:∃k,s.2=.bl k:=by
    unfold Q6 at h1;rcases vk h1 with⟨E2,s2,h3,h4⟩|⟨_,_,_,z⟩
    ·rcases vk h4 with⟨E3,s3,h5,h6⟩|⟨_,_,_,z⟩
     ·split at h6
      ·rcases vk h6 with⟨E4,s4,h7,h8⟩|⟨_,_,_,z⟩
       ·obtain⟨y,hy,z⟩:=vW h8;cases z;exact hg s3 s4 _ hy
       ·cases z
      ·cases oq9 h6;exact⟨false,rfl⟩
      ·cases h6
     ·cases z
    ·cases z
   rw[hk]at h2;cases oq9 h2;exact⟨kk,V8 w'.head (e2.trans hk),k _ _ rfl L' H' m' w'.tail (st.trans Step.drop) λhq=>(sm hq).1⟩
  ·exact⟨E,L,_,m,w,h1,xc.map h2,λE' s' z=>by cases z⟩
end
section
variable {X:Cx}{pins:LA9}{σ:L2.St}{H:Hp}{s:Shared}{a b:Addr}{es:List Ent}{A:Around}{E:VP9}{k:Kd}
mutual
theorem W1(I:Inv X pins σ H s):∀{d:D} {v:V} {u:Value},PuR X.K H d v->RelV v u->j9 s.heap d u
 |.non,_,_,h,r=>by unfold PuR at h;rw[h]at r;unfold j9;exact r|.int _,_,_,h,r=>by unfold PuR at h;rw[h]at r;unfold j9;exact r
 |.tup ds,_,_,h,r=>by
  unfold PuR at h;obtain⟨a,xs,rfl,q,ra⟩:=h;cases r;obtain⟨a8,rv,p,_⟩:=I.tuple q;unfold j9;exact⟨a,a8,rfl,p,purs_creps I ra rv⟩
 |.bl _,_,_,h,_=>by unfold PuR at h;exact h.elim|.str _,_,_,h,r=>by unfold PuR at h;rw[h.1]at r;unfold j9;exact r|.lst _,_,_,h,_=>by unfold PuR at h;exact h.elim|.dct _,_,_,h,_=>by unfold PuR at h;exact h.elim|.obj _ _,_,_,h,_=>by unfold PuR at h;exact h.elim
theorem purs_creps(I:Inv X pins σ H s):∀{ds:List D} {xs:List V} {us:List Value},PuRs X.K H ds xs->Vals xs us->CReps s.heap ds us
 | [],_,_,h,r=>by unfold PuRs at h;rw[h]at r;cases r;unfold CReps;rfl
 | d::ds,_,_,h,r=>by
  unfold PuRs at h;obtain⟨x,rr,rfl,h1,h2⟩:=h;cases r with
  |cons r1 r2=>
   unfold CReps;exact⟨_,_,rfl,W1 I h1 r1,purs_creps I h2 r2⟩
end
mutual
theorem kz8{K:Frag}{g:Bool}:∀{n:Nat} {d:D} {v:V} {as:List Addr},jq n d=true->RepL K H g d v as->PuR K H d v
 |_,.non,_,_,_,h=>by unfold RepL at h;unfold PuR;exact h.1|_,.int _,_,_,_,h=>by unfold RepL at h;unfold PuR;exact h.1|0,.tup _,_,_,hk,_=>by unfold jq at hk;cases hk
 |n+1,.tup ds,_,_,hk,h=>by
  unfold jq at hk;unfold RepL at h;obtain⟨a,xs,e,q,ra⟩:=h;unfold PuR;exact⟨a,xs,e,q,purs_of hk ra⟩
 |n,.bl _,_,_,hk,_=>by cases n<;>(unfold jq at hk;cases hk)|_,.str _,_,_,_,h=>by unfold RepL at h;unfold PuR;exact⟨h.1,h.2.2⟩|n,.lst _,_,_,hk,_=>by cases n<;>(unfold jq at hk;cases hk)|n,.dct _,_,_,hk,_=>by cases n<;>(unfold jq at hk;cases hk)|n,.obj _ _,_,_,hk,_=>by cases n<;>(unfold jq at hk;cases hk)
theorem purs_of{K:Frag}{g:Bool}:∀{n:Nat} {ds:List D} {xs:List V} {as:List Addr},keyDs n ds=true->RepA K H g ds xs as->PuRs K H ds xs
 |_,[],_,_,_,h=>by unfold RepA at h;unfold PuRs;exact h.1
 |n,d::ds,_,_,hk,h=>by
  unfold keyDs at hk;rw[Bool.and_eq_true]at hk;unfold RepA at h;obtain⟨x,r,bs,cs,rfl,rfl,h1,h2⟩:=h;unfold PuRs;exact⟨x,r,rfl,kz8 hk.1 h1,purs_of hk.2 h2⟩
end
theorem vkp{ep:Nat}(I:Inv X pins σ H s)(h:H a=some (Qk a es ep))(hn:(es.map (·.1)).Nodup)(hk:∀x∈es,PuR X.K H x.1.1 (.ref x.2.1)):s.heap.DictOfH (Kq X.prog X.w) a es:=by
 obtain⟨⟨o,ds,h1,h2,h3,h4⟩,_⟩:=(show ObjOk X.prog X.w H s.heap a (Qk a es ep)from I.hok a _ h);exact⟨o,ds,ep,h1,h2,h3,h4,λx hx=>W1 I (hk x hx) rfl,hn⟩
theorem vq0:∀(es:List Ent) (k:Kd),(atKey es k).isSome=decide (k.1∈es.map (·.1.1))
 | [],k=>by simp[atKey]
 | x::es,k=>by
  have ih:=vq0 es k
  by_cases h:x.1=k
  ·have:k.1∈(x::es).map (·.1.1):=by rw[<-h];simp
   rw[Xb this];simp[atKey,Yp,h]
  ·have e1:atKey (x::es) k=atKey es k:=by simp[atKey,Yp,h]
   have e2:(k.1∈(x::es).map (·.1.1))↔k.1∈es.map (·.1.1):=by
    rw[List.map_cons,Xz];exact⟨λz=>z.elim (λq=>absurd (Subtype.ext q.symm) h) id,.inr⟩
   rw[e1,ih];exact decide_eq_decide.mpr e2.symm
theorem qq6(hu:A.units+64<cLine):(Kq X.prog X.w).room A.in1:=by show A.units+1+40<cLine;lia
theorem qwt{ks:List D}{vs:List V}{Q:VP9}(hu:A.units+64<cLine)(I:Inv X pins σ H s)(d:DcN X.K H a ks vs)(hk:PuR X.K H k.1 (.ref b))(h:∀s',Inv X pins σ H s'->Q (.bool (!decide (k.1∈ks))) s'):wpAny (model X.prog X.w) A (compareOp .NotIn (.ref b) (.ref a)) Q E s:=by
 obtain⟨es,ep,e,h1,h2,h3,rfl,h5,h6⟩:=d;refine wpAny_notIn_heap (knd:=Kq X.prog X.w) (qq6 hu) (W1 I hk rfl) h1 (vkp I e h3 h5) ?_;rw[vq0];exact h _ (I.tok _)
end
def wz6(K:Frag)(i4:Bool):R2:=λx y H Q=>∃(k:Kd) (b a:Addr) (ks:List D) (vs:List V),x=.ref b/\y=.ref a/\PuR K H k.1 (.ref b)/\DcN K H a ks vs/\Q (.bl (if i4 then !decide (k.1∈ks)else decide (k.1∈ks))) H
theorem qzy{X:Cx}{K:Frag}(hu:X.A.units+64<cLine)(hK:autoParam (X.K=K) Ŕ):OpR X (compareOp .NotIn) (wz6 K true):=by
 subst hK;intro pins s σ H x y u v Q I rx ry ⟨k,b,a,ks,vs,e1,e2,hk,hd,q⟩;subst e1 e2;cases rx;cases ry;exact qwt hu I hd hk λs' I'=>⟨.bl _,H,I',rfl,q⟩
theorem wqk{K:Frag}{H:Hp}{y:Sl}{a9:List (D×D)}(ok:y.ok K H)(hd:y.d=.dct a9)(hu:unm a9=true):∃a xs,y.v=.ref a/\DcN K H a (a9.map (·.1)) xs:=by
 have h:=RepO.wk ok;rw[hd]at h;unfold RepL at h;obtain⟨a,xs,bs,e,_,q,_⟩:=h;exact⟨a,xs,e,DcA.un q hu⟩
theorem kjl{K:Frag}{H:Hp}{x:Sl}(ok:x.ok K H)(hk:wV x.d=true):∃b,x.v=.ref b/\PuR K H x.d (.ref b):=by
 unfold wV at hk;rw[Bool.and_eq_true]at hk;have h:=kz8 hk.1 (RepO.wk ok);cases hd:x.d with
 |tup ds=>
  rw[hd]at h;have h':=h;unfold PuR at h;obtain⟨a,xs,e,_⟩:=h;exact⟨a,e,e▸h'⟩
 |_=>rw[hd]at hk;cases hk.2
theorem qxo{K:Frag}:Ad2 K (wz6 K true) (pu2 K6):=by
 intro H x y s Q ox oy hf k;unfold pu2 K6 at hf;dsimp only at hf;cases hy:y.d with
 | dct a9=>
  rw[hy]at hf;dsimp only at hf
  by_cases hk:wV x.d=true/\unm a9=true
  ·rw[X6 hk]at hf;cases oq9 hf;obtain⟨a,xs,e,q⟩:=wqk oy hy hk.2;obtain⟨b,eb,pb⟩:=kjl ox hk.1;have mw:jq 6 x.d=true:=by have hk:=hk.1;unfold wV at hk;rw[Bool.and_eq_true]at hk;exact hk.1
   exact⟨⟨x.d,mw⟩,b,a,_,xs,eb,e,pb,q,k ⟨.dp,.bl _,.bl _,[]⟩ H rfl rfl wJ⟩
  ·rw[X8 hk]at hf;cases hf
 |_=>rw[hy]at hf;cases hf
theorem qxf(x y s:Sd)(h:pu2 K6 x y=some s):∃k,s.2=.bl k:=by
 unfold pu2 K6 at h;cases hy:y.2 with
 |dct a9=>
  rw[hy]at h;dsimp only at h
  by_cases hk:wV x.2=true/\unm a9=true
  ·rw[X6 hk]at h;cases oq9 h;exact⟨_,rfl⟩
  ·rw[X8 hk]at h;cases h
 |_=>rw[hy]at h;cases h
mutual
theorem qq8{K:Frag}{H:Hp}:∀{d:D} {v:V},PuR K H d v->RepL K H true d v []
 |.non,_,h=>by unfold PuR at h;unfold RepL;exact⟨h,rfl⟩|.int _,_,h=>by unfold PuR at h;unfold RepL;exact⟨h,rfl⟩
 |.tup ds,_,h=>by
  unfold PuR at h;obtain⟨a,xs,e,s,r⟩:=h;unfold RepL;exact⟨a,xs,e,s,rep_purs r⟩
 |.bl _,_,h=>by unfold PuR at h;exact h.elim|.str _,_,h=>by unfold PuR at h;unfold RepL;exact⟨h.1,rfl,h.2⟩|.lst _,_,h=>by unfold PuR at h;exact h.elim|.dct _,_,h=>by unfold PuR at h;exact h.elim|.obj _ _,_,h=>by unfold PuR at h;exact h.elim
theorem rep_purs{K:Frag}{H:Hp}:∀{ds:List D} {xs:List V},PuRs K H ds xs->RepA K H true ds xs []
 |[],_,h=>by unfold PuRs at h;unfold RepA;exact⟨h,rfl⟩
 |d::ds,_,h=>by
  unfold PuRs at h;obtain⟨x,r,e,h1,h2⟩:=h;unfold RepA;exact⟨x,r,[],[],e,rfl,qq8 h1,rep_purs h2⟩
end
abbrev dkI(kv:List (Int×Int)):List (Key×V):=kv.map λp=>(Sum.inl p.1,V.int p.2)
theorem vxy(kv:List (Int×Int))(k:Int):xx (dkI kv) (Sum.inl k)=(v7 kv k).map V.int:=by
 induction kv with
 | nil=>rfl
 | cons p r ih=>
  unfold xx v7 at ih ⊢;rw[show dkI (p::r)=(Sum.inl p.1,V.int p.2)::dkI r from rfl,Yp,Yp]
  by_cases h:p.1=k
  ·have h1:decide ((Sum.inl p.1:Key)=Sum.inl k)=true:=Xb (by rw[h]);have h2:decide (p.1=k)=true:=Xb h;simp only[h1,h2];rfl
  ·have h1:decide ((Sum.inl p.1:Key)=Sum.inl k)=false:=Xi λz=>h (Sum.inl.inj z)
   have h2:decide (p.1=k)=false:=Xi h;simp only[h1,h2];exact ih
theorem wjh(kv:List (Int×Int))(k v:Int):xv (dkI kv) (Sum.inl k) (V.int v)=dkI (zK kv k v):=by
 have ha:((dkI kv).any λp=>decide (p.1=(Sum.inl k:Key)))=kv.any λp=>decide (p.1=k):=by
  unfold dkI;rw[Zt]
  congr 1
  funext p;show decide ((Sum.inl p.1:Key)=Sum.inl k)=decide (p.1=k);exact decide_eq_decide.mpr ⟨λz=>Sum.inl.inj z,λz=>by rw[z]⟩
 unfold xv zK;rw[ha]
 by_cases h:(kv.any λp=>decide (p.1=k))=true
 ·rw[X6 h,X6 h];unfold dkI;rw[Xh,Xh];refine Yj λp _=>?_
  show(if(Sum.inl p.1:Key)=Sum.inl k then _ else _)=_
  by_cases z:p.1=k
  ·rw[X6 (by rw[z])];show _=(Sum.inl (if p.1=k then(p.1,v)else p).1,V.int (if p.1=k then(p.1,v)else p).2);rw[X6 z]
  ·rw[X8 λq=>z (Sum.inl.inj q)];show _=(Sum.inl (if p.1=k then(p.1,v)else p).1,V.int (if p.1=k then(p.1,v)else p).2);rw[X8 z]
 ·rw[X8 h,X8 h];unfold dkI;rw[Xf];rfl
theorem kv9 : ∀{a9 : List (D × D)} {kv : List (Int × Int)}, Kv a9 = some kv -> a9 = kv.map λp=>(D.int p.1, D.int p.2)
  | [], kv, h=>by cases oq9 h; rfl
  | (a, b)::r, kv, h=>by
    cases a with
    | int k=>
      cases b with
      | int v=>
        have h : (Kv r).map ((k, v):: ·) = some kv:= h;cases hr : Kv r with
        | none=>rw[hr]at h; cases h
        | some q=>
          rw[hr]at h;cases oq9 h;rw[List.map_cons, <-kv9 hr]
      |_=>cases h
    |_=>cases b <;> cases h
theorem kv8 : ∀(kv : List (Int × Int)), Kv (kv.map λp=>(D.int p.1, D.int p.2)) = some kv
  | []=>rfl
  | (a, b)::r=>by
    show(Kv (r.map λp=>(D.int p.1, D.int p.2))).map ((a, b):: ·) = _;rw[kv8 r]; rfl
theorem kzz(kv:List (Int×Int)):zY (wW kv)=some kv:=kv8 kv
theorem kqk{K:Frag}{H:Hp}{g:Bool}:∀{kv:List (Int×Int)} {xs:List V} {bs:List Addr},RepP K H g (kv.map λp=>(D.int p.1,D.int p.2)) xs bs->xs=kv.map λp=>V.int p.2
 |[],_,_,h=>by
  have h:RepP K H g [] _ _:=h;unfold RepP at h;exact h.1
 |p::r,_,_,h=>by
  rw[List.map_cons]at h;unfold RepP at h;obtain⟨y,rr,b1,b2,rfl,_,h1,h2⟩:=h;unfold RepL at h1;rw[h1.1,kqk h2,List.map_cons]
theorem kv7{K:Frag}{H:Hp}{g:Bool}:∀(kv:List (Int×Int)),RepP K H g (kv.map λp=>(D.int p.1,D.int p.2)) (kv.map λp=>V.int p.2) []
 |[]=>by show RepP K H g [] [] [];unfold RepP;exact⟨rfl,rfl⟩
 |p::r=>by
  rw[List.map_cons,List.map_cons];unfold RepP;exact⟨_,_,[],[],rfl,rfl,xk,kv7 r⟩
theorem qvb{K:Frag}{H:Hp}{g:Bool}(kv:List (Int×Int)):RepP K H g (mkD::kv.map λp=>(D.int p.1,D.int p.2)) (V.non::kv.map λp=>V.int p.2) []:=by
 unfold mkD RepP;exact⟨_,_,[],[],rfl,rfl,by unfold RepL;exact⟨rfl,rfl⟩,kv7 kv⟩
theorem kzy:∀{a:List (Int×V)} {kv:List (Int×Int)},(kv.map λp=>D.int p.1)=a.map (λp=>D.int p.1)->(kv.map λp=>V.int p.2)=a.map (·.2)->(a.map λp=>((Sum.inl p.1:Key),p.2))=dkI kv
 |[],[],_,_=>rfl|[],_::_,h,_=>by simp at h|_::_,[],h,_=>by simp at h
 |p::a,q::kv,h,h'=>by
  rw[List.map_cons,List.map_cons]at h h';injection h with h1 h2;injection h' with h3 h4;injection h1 with h1;unfold dkI;rw[List.map_cons,List.map_cons,kzy h2 h4,<-h1,<-h3]
theorem qj4{K:Frag}{H:Hp}{y:Sl}{kv:List (Int×Int)}(ok:y.ok K H)(hd:zY y.d=some kv):∃a,y.v=.ref a/\H a=some (.dK (dkI kv))/\∃bs,y.as=a::bs:=by
 have h:=RepO.wk ok;cases hy:y.d with
 | dct a9=>
  rw [hy]at hd h;cases a9 with
  | nil=>cases hd
  | cons e a9=>
   obtain⟨a,b⟩:=e;cases a with
   | str m=>
    cases b with
    | non=>
     have hd:Kv a9=some kv:=hd;have e:=kv9 hd;subst e;unfold RepL at h;obtain⟨a,xs,bs,ev,rp,qa,eas⟩:=h;rcases qa with⟨es,ep,_,_,_,_,g5,g6,_⟩|⟨kvn,mm,g1,g2,g3⟩
     ·exfalso;rw[List.map_cons]at g5;cases es with
      |nil=>cases g5
      |cons n es=>
       rw[List.map_cons]at g5;injection g5 with g5 _;have:=g6 n X5;rw[<-g5]at this;unfold PuR at this;cases this.1
     ·refine⟨a,ev,?_,bs,eas⟩;rw[g1]
      congr 2
      unfold RepP at rp;obtain⟨y1,rr,_,_,rfl,_,_,r2⟩:=rp;have e1:=kqk r2;rw[List.map_cons,Xh]at g2;injection g2 with _ g2;injection g3 with _ g3;refine kzy g2 ?_;rw[<-e1];exact g3
    |_=>cases hd
   |_=>cases b<;>cases hd
 |_=>rw[hy]at hd;cases hd
section
def wz5(i4:Bool):R2:=λx y H Q=>∃(k:Int) (a:Addr) (kv:List (Int×Int)),x=.int k/\y=.ref a/\H a=some (.dK (dkI kv))/\Q (.bl (if i4 then !(v7 kv k).isSome else(v7 kv k).isSome)) H
theorem vkq{H:Hp}{a:Addr}{kv:List (Int×Int)}(k:Int)(e:H a=some (.dK (dkI kv))):DGet H a (.int k) ((v7 kv k).map V.int):=by
 rw[<-vxy];exact DGet.k (k:=Sum.inl k) e
theorem qzx{X:Cx}(hu:X.A.units+64<cLine):OpR X (compareOp .NotIn) (wz5 true):=by
 intro pins s σ H x y u v Q I rx ry ⟨k,a,kv,e1,e2,hd,q⟩;subst e1 e2;cases ry;refine vww ⋯ I (vkq k hd) rx λs' I'=>⟨.bl _,H,I',rfl,?_⟩
 rw[Option.isSome_map];exact q
theorem qxn{K:Frag}:Ad2 K (wz5 true) (pu2 K2):=by
 intro H x y s Q ox oy hf k;unfold pu2 K2 at hf;dsimp only at hf;cases hx:x.d with
 | int j=>
  rw[hx]at hf;cases hi:zY y.d with
  |none=>rw[hi]at hf;cases hf
  |some kv=>
   rw[hi]at hf;cases oq9 hf;obtain⟨a,e,q,_⟩:=qj4 oy hi;exact⟨j,a,kv,kJ ox hx,e,q,k ⟨.dp,.bl _,.bl _,[]⟩ H rfl rfl wJ⟩
 |_=>rw[hx]at hf;cases hf
theorem qxe(x y s:Sd)(h:pu2 K2 x y=some s):∃k,s.2=.bl k:=by
 unfold pu2 K2 at h;cases hx:x.2 with
 |int j=>
  rw[hx]at h;cases hi:zY y.2 with|none=>rw[hi]at h;cases h|some kv=>rw[hi]at h;cases oq9 h;exact⟨_,rfl⟩
 |_=>rw[hx]at h;cases h
end
section
variable {X:Cx}{Z:Fx0}{pn:List Nat}{q qa:Bool}{a b c kc vc:Ex}{o ea eb ec ke ve:Expr}{pos bm ae:Pos}
theorem ww4(hu:X.A.units+64<cLine)(ha:QV X Z qa a ea)(hb:QV X Z true b eb)(hs:YV eb):QV X Z qa (wv7 a b) (.Subscript ea eb pos):=
 kz (vva ⋯ ha hb hs) fun σ H Q ak=>ex8 ak λE L r m w hc xc k=>by
  refine kK m w (show bnd (a E) _=some r from hc) xc λE1 s h1 x L1 H1 e1 e2 m1 w1 ok fr sr st sm=>?_
  refine kK m1 w1 h1 (xc.step st) λE2 s2 h2 y L2 H2 e3 e4 m2 w2 ef kl kh b9 cj=>?_
  obtain⟨z,hz,rfl⟩:=vW h2;have kx:=J0 ok fr b9 (cj rfl);unfold Wz at hz;cases hy:s2.2 with
  | int j=>
   rw [hy]at hz;cases hi:zY s.2 with
   | none=>rw[hi]at hz;cases hz
   | some kv=>
    rw[hi]at hz;dsimp only at hz;cases hv:v7 kv j with
    | none=>rw[hv]at hz;cases hz
    | some v=>
     rw[hv]at hz;cases oq9 hz;obtain⟨l,e,q,_⟩:=qj4 kx.1 (by rw[e2];exact hi);refine⟨l,.int v,e,?_,?_⟩
     ·rw[kJ ef (by rw[e4];exact hy)];have:=vkq j q;rw[hv]at this;exact this
     ·exact k _ _ rfl ⟨.dp,.int v,.int v,[]⟩ L2 H2 rfl rfl m2 w2 (show RepL Z.K H2 false (.int v) (.int v) []from xk) (λ_ hb=>nomatch hb) (λ_ hb=>nomatch hb) (st.trans b9) λhq=>jX (sm hq) (cj rfl)
  |_=>rw[hy]at hz;cases hz
theorem wja:QE X Z true vx2 (.Dict [] [] pos):=kz qzt fun σ H Q ak=>ex8 ak λE L r m w hc xc k=>by
 intro p hp;cases oq9 hc;have sm:jK H (upd H p (.dK [])):=qZ hp;refine k _ _ rfl ⟨.rt,wW [],.ref p,[p]⟩ L _ rfl rfl m ?_ ?_ λ_=>⟨sm,λb hb=>?_⟩
 ·refine World.cons ⟨λt ht=>RepO.kp (w.ok t ht) (Kp.of_same sm),w.nd,w.ds⟩ ?_ ?_ ?_ ?_ ?_ ?_
  ·exact⟨p,_,[],rfl,qvb [],.inr ⟨[],"",vX,rfl,rfl⟩,rfl⟩
  ·simp[Sl.own]
  ·intro b hb ho;have:b=p:=by simpa [Sl.own]using hb
   subst this;exact w.own_some ho hp
  ·intro b hb ho;have:b=p:=by simpa [Sl.own]using hb
   subst this;exact w.frz_some ho hp
  ·intro b hb;simp[Sl.frz]at hb
  ·intro b _ hb;simp[Sl.frz]at hb
 ·refine⟨λb ob h _=>sm b ob h,λb hb=>?_,λb hb=>?_⟩
  ·rw[jY]at hb;rcases aA hb with z|z
   ·have:b=p:=by simpa [Sl.own]using z
    exact .inr (this▸hp)
   ·exact .inl z
  ·rw[qJ]at hb;rcases aA hb with z|z
   ·simp[Sl.frz]at z
   ·exact .inl z
 ·have:b=p:=by simpa [Sl.own]using hb
  exact this▸hp
theorem wj6 {i:Nat} (hu:X.A.units+64<cLine) (ho:PE X o (JZ i)) (hk:QV X Z true kc ke) (hv:QE X Z q vc ve) (hs:autoParam (swapsWith ve (some (.Subscript o ke bm)) pos.line X.env=pure false) Ŕ):
  QS X Z pn (qzd i kc vc) (.Assign [.Subscript o ke bm] ve pos):=JQ (vv4 ⋯ ho hk hv hs) λD σ H ak=>ex7 ak λE L r m w hr k=>
 Qw m w hr k λE1 s1 h1 x L1 H1 e1 e2 m1 w1 nq _=>by
  by_cases hd:vwc E1[i]?=true
  ·rw [X6 hd]at h1;obtain ⟨s0,hd0⟩:∃s0,E1[i]?=some (some s0):=by
    cases h0:E1[i]? with
    | none=>rw[h0]at hd;cases hd
    | some s0=>
     cases s0 with| none=>rw[h0]at hd;cases hd| some s0=>exact⟨s0,rfl⟩
   obtain ⟨y0,a1,a2,a3,a4⟩:=m1.get hd0;refine ⟨y0.v,a4,?_⟩;have stL:Step H L H1 L1:=nq.trans Step.drop;rcases jwh h1 with⟨E2,ky,hk1,de⟩|⟨E2,c,hk1,rfl⟩
   ·refine ⟨E1,L1,_,m1,w1.tail,hk1,(λ_ _ z=>by cases z),λE' s' z zk L2 H2 f1 f2 m2 w2 okz frz _ b9 sm=>?_⟩;injection z with z1 z2;subst z1 z2;cases hE:E2[i]? with
    | none=>rw[hE]at de;cases de
    | some s2=>
     cases s2 with
     | none=>rw[hE]at de;cases de
     | some s2=>
      obtain ⟨oo,dd⟩:=s2;rw [hE]at de;cases oo with
      | no=>cases de| dp=>cases de
      | rt =>
       cases hkd:ky.2 with
       | int j=>
        cases hvd:s1.2 with
        | int vv=>
         rw [hkd,hvd]at de;dsimp only at de;cases hi:zY dd with
         | none=>rw[hi]at de;cases de
         | some kv=>
          rw [hi]at de;dsimp only at de
          by_cases hl:kv.length<big
          ·rw[X6 hl]at de;cases oq9 de;obtain⟨y,b1,b2,b3,b4⟩:=m2.get hE;have hyv:y.v=y0.v:=by rw[a4]at b4;exact(oq9 (oq9 b4)).symm
           obtain⟨w3,c8⟩:=wzl (T:=[some x]) w1 b9 w2;obtain⟨l,c1,c2,bs,c3⟩:=qj4 (w2.ok y (ww b1)) (by rw[b3];exact hi);have hkz:zk.v=.int j:=kJ okz (by rw[f2];exact hkd);have hxv:x.v=.int vv:=kJ (w3.ok x X5) (by rw[e2];exact hvd);refine⟨l,upd H2 l (.dK (dkI (zK kv j vv))),hyv▸c1,?_,?_⟩
           ·rw[hkz,hxv,<-wjh];exact DPut.k (k:=Sum.inl j) c2 (by show(kv.map _).length<sizeLine;rw[X1];exact hl)
           ·have hlo:l∈y.own:=by unfold Sl.own;rw[b2,c3];simp
            obtain⟨w4,fu⟩:=World.writeAt (ob:=.dK (dkI (zK kv j vv))) (T:=[some x]) w3 b1 hlo (y':=⟨.rt,wW (zK kv j vv),y.v,[l]⟩) ⟨l,_,[],c1,qvb _,.inr ⟨(zK kv j vv).map λp=>(p.1,V.int p.2),"",by rw[vX,Xh];rfl,by unfold mkD;rw[List.map_cons,Xh,Xh];rfl,by rw[Xh];rfl⟩,rfl⟩ (by simp[Sl.own]) (λa h=>by
             have:a=l:=by simpa [Sl.own]using h
             subst this;exact .inl hlo) (λa h=>by simp[Sl.frz]at h) (λa h z=>by simp[Sl.frz]at z)
            have ix:Step H L _ _:=(nq.trans c8).trans fu;refine k σ _ _ Pn.refl ?_ w4 ix;have:=m2.set (x:=⟨.rt,wW (zK kv j vv),y.v,[l]⟩) i;rw[YQ b4]at this;exact this
          ·rw[X8 hl]at de;cases de
        |_=>rw[hkd,hvd]at de;cases de
       |_=>rw[hkd]at de;cases de
   ·exact⟨E1,L1,_,m1,w1.tail,hk1,(λE' c' e C L' H' hm m' w' st=>by injection e with z1 z2;subst z1 z2;exact k C σ L' H' hm Pn.refl m' w' (stL.trans st)),λE' s' z=>by cases z⟩
  ·rw[X8 hd]at h1;cases h1
end
end Q
namespace PySem
theorem qjm:typeLookup (.type "list") "keys"=pure none:=am_miss_of_fast (by decide +kernel)
theorem kkx{prog:Program}{w:World}{A:Around}{E:VP9}{s:Shared}{a:Addr}{o:Obj}{xs:Array Value}{k:Nat}{Q:Option Value->Shared->Prop}
  (hx:s.heap.get? a=some o) (hc:o.cls=.type "list") (dy:o.data=.seq xs k) (hd:o.dict=none) (hA:A.handled=none)
  (h:∀h' tk,(∀b ob,s.heap.get? b=some ob->h'.get? b=some ob)->Q none { s with heap:=h',toks:=tk }):
  wpAny (model prog w) A (getAttr? (.ref a) "keys") Q E s:=by
 obtain⟨c,dct,dat,sl⟩:=o;simp only at hc dy hd;subst hc dy hd;obtain⟨hp,g,d,tk,os⟩:=s;have hT:∀n6,(⟨hp,g,d,n6,os⟩:Shared).TypeIs (.ref a) "list":=λ_=>⟨_,hx,rfl⟩
 have f1:=sub_AttributeError;have f3:=F.slot_list_getattribute.lookup;have f4:=F.slot_list_getattribute.bind (.ref a);have f5:=am_list_getattr_none;unfold getAttr? getAttrBy? getAttrBy
 repeat (any_goals (first|assumption|exact hT _|((with_reducible show wpAny _ _ (call (Value.builtin "list.__getattribute__") _ _) _ _ _);refine call_meets F.slot_list_getattribute (hT _) am_entry_list_getattribute (F.args_list_getattribute_2 _ _) (meets_getattribute_miss_list a xs k sl "keys" _ qjm ⋯ ⋯) ⟨hx,hA,λh' n6 e hx'=>?_⟩)|wp_step))
 obtain⟨t',u',he⟩:=hx'.there;show wpAny _ _ (getattributeRaised _ _ _ _ _ _ _) _ _ _;unfold getattributeRaised
 repeat (any_goals (first|assumption|wp_step))
 exact h _ _ hx'.keeps
namespace F
theorem entry_dict_update_loop:entryFor table "dict.update.loop"=some Builtin.«dict.update.loop»:=entryFor_of_tree (by kernel_rfl)
theorem plain_dict_update_loop:plainId "dict.update.loop"=true:=by decide +kernel
end F
section
variable {prog:Program}{w:World}{A:Around}{R:Result->Shared->Prop}{I:Addr}{fp wr:List Addr}{G:Array GenState->Array GenState->Prop}{n:Nat}{P:Nat->Value->Prop}{St:Nat->Shared->Prop}{K:Type}[DecidableEq K]{knd:KeyKind prog w K}
theorem qjq{s:Shared}{T:Addr}{u v:Value}{E:VP9}{Q:List Value->Shared->Prop}(h:s.heap.IsTuple T #[u,v])(hq:Q [u,v] s):wpAny (model prog w) A (Builtin.Dict.pairItems (.ref T)) Q E s:=by
 obtain⟨o,ho,hc,m,hd⟩:=h;have hT:s.TypeIs (.ref T) "tuple":=⟨o,ho,hc⟩;unfold Builtin.Dict.pairItems;refine X0 (Zb hT ?_);obtain⟨hp,g,d,tk,os⟩:=s;obtain⟨cls,dct,dat,sl⟩:=o;simp only at hc hd;subst hc hd
 repeat (any_goals (first|assumption|wp_step))
end
end PySem
namespace Q
open PySem PySem.Spec PyProof.Rows L2 L3
theorem wj4{X:Cx}{Z:Fx0}{q:Bool}{c:Ex}{o e:Expr}{z:Str}{am ae:Pos}(ho:PE X o (tC (.str z)))(hc:QV X Z q c e)(hK:autoParam (X.K=Z.K) Ŕ)
  (aw:autoParam (attributeBase o "join" X.env (eval o X.env)=eval o X.env) Ŕ)
  (bi:autoParam (((backTo ae (starEach [e] X.env)).all (λx=>!x.1)&&(backToKw ae (keywordEach [] X.env)).all (λx=>x.1.isSome)
   && decide ([e].length+([]:List Keyword).length+(if([]:List Keyword).isEmpty then 0 else 1)<30))=true) Ŕ)
  (ax:autoParam ((am.endLine==ae.line)=true) Ŕ) (hs:autoParam (starEach [e] X.env=(false,eval e X.env)::starEach [] X.env) Ŕ) (aq:autoParam ((backTo ae (starEach [] X.env)).any (·.1)=false) Ŕ):
  QE X Z q (vjs z c) (.Call (.Attribute o "join" am) [e] [] ae):=
 kz (vvd PySem.F.plainAttrs_str PySem.F.slot_str_join PySem.F.type_str_join vvv ho (qQ hc vq hs) aw bi ax hs aq) fun σ H Q ak=>ex8 ak λE L r m w d8 xc k=>by
  refine⟨?_,?_⟩
  ·rfl
  ·refine kK m w (show bnd (c E) _=some r from d8) xc λE1 s h1 x L1 H1 e1 e2 m1 w1 ok fr sr st sm=>?_
   obtain⟨y,hz,rfl⟩:=vW h1;unfold qwj at hz;cases hx:s.2 with
   | lst ds=>
    rw [hx]at hz;dsimp only at hz;cases hp:zV ds with
    | none=>rw[hp]at hz;cases hz
    | some ys=>
     rw[hp]at hz;dsimp only at hz
     by_cases hl:(ys.map (·.length)).sum+ys.length*z.length<=100000
     ·rw[X6 hl]at hz;cases oq9 hz;obtain⟨a,xs,bs,ev,q1,ra⟩:=items ok (.inl (by rw[e2];exact hx));have hq:SqL Z.K H1 a xs:=by
       rcases q1 with⟨_,t⟩|⟨t,_⟩
       ·exact t.sq
       ·rw[e2,hx]at t;cases t
      have ex:=(kk3 hp ra.1).1;subst ex;have ag:(Txt.join z ys).length<=sizeLine:=joinOk_length (joinOk_of ⋯);refine⟨z,a,ys,rfl,by rw[ev],by rw[hK];exact hq,⋯,?_⟩;exact k _ _ rfl ⟨.dp,.str (Txt.join z ys),.str (Txt.join z ys),[]⟩ L1 H1 rfl rfl m1 (w1.consPu (x:=⟨.dp,.str (Txt.join z ys),.str (Txt.join z ys),[]⟩) (show RepL Z.K H1 false (.str _) (.str _) []from VV ag) rfl) (Kj (x:=⟨.dp,.str (Txt.join z ys),.str (Txt.join z ys),[]⟩) st (λb hb=>nomatch hb) rfl) λhq=>⟨sm hq,λ_ t=>(nomatch t)⟩
     ·rw[X8 hl]at hz;cases hz
   |_=>rw[hx]at hz;cases hz
section
variable {X:Cx}{Z:Fx0}{pn:List Nat}{q:Bool}{a b:Ex}{o e:Expr}{am ae:Pos}
theorem wj7(ha:QV X Z q a o)(hb:QV X Z true b e)(hK:autoParam (X.K=Z.K) Ŕ)
  (aw:autoParam (attributeBase o "index" X.env (eval o X.env)=eval o X.env) Ŕ)
  (bi:autoParam (((backTo ae (starEach [e] X.env)).all (λx=>!x.1)&&(backToKw ae (keywordEach [] X.env)).all (λx=>x.1.isSome)
   && decide ([e].length+([]:List Keyword).length+(if([]:List Keyword).isEmpty then 0 else 1)<30))=true) Ŕ)
  (ax:autoParam ((am.endLine==ae.line)=true) Ŕ) (hs:autoParam (starEach [e] X.env=(false,eval e X.env)::starEach [] X.env) Ŕ) (aq:autoParam ((backTo ae (starEach [] X.env)).any (·.1)=false) Ŕ):
  QE X Z q (vjt a b) (.Call (.Attribute o "index" am) [e] [] ae):=
 kz (vvd PySem.F.plainAttrs_str PySem.F.slot_str_index PySem.F.type_str_index vvw ha (qQ hb vq hs) aw bi ax hs aq) fun σ H Q ak=>ex8 ak λE L r m w d8 xc k=>by
  refine kK m w (show bnd (a E) _=some r from d8) xc λE1 s h1 x L1 H1 e1 e2 m1 w1 ok fr sr st sm=>?_
  by_cases ba:kzw s.2=true
  ·rw [X6 ba]at h1;cases hx:s.2 with
   | str z=>
    have ev:x.v=.str z:=(wx ok (by rw[e2];exact hx)).1;refine⟨by rw[ev];rfl,?_⟩;refine kK m1 w1 h1 (xc.step st) λE2 s2 h2 y L2 H2 e3 e4 m2 w2 ef kl kh b9 cj=>?_
    obtain⟨d,hz,rfl⟩:=vW h2;rw[hx]at hz;unfold Zx at hz;cases hy:s2.2 with
    | str y'=>
     rw[hy]at hz;dsimp only at hz;cases ho:Builtin.Str.occurrences z y' 0 z.length 1 with
     |nil=>rw[ho]at hz;cases hz
     |cons i ab=>
      rw[ho]at hz;cases oq9 hz;have ey:y.v=.str y':=(wx ef (by rw[e4];exact hy)).1;refine⟨z,y',i,ab,ev,by rw[ey],ho,?_⟩;exact k _ _ rfl ⟨.dp,.int (i:Nat),.int (i:Nat),[]⟩ L2 H2 rfl rfl m2 (w2.consPu (x:=⟨.dp,.int (i:Nat),.int (i:Nat),[]⟩) (show RepL Z.K H2 false (.int _) (.int _) []from xk) rfl) (Kj (x:=⟨.dp,.int (i:Nat),.int (i:Nat),[]⟩) (st.trans b9) (λb hb=>nomatch hb) rfl) λhq=>⟨jX (sm hq) (cj rfl),λ_ t=>(nomatch t)⟩
    |_=>rw[hy]at hz;cases hz
   |_=>rw[hx]at ba;cases ba
  ·rw[X8 ba]at h1;cases h1
end
section
variable {X:Cx}{Z:Fx0}{pn:List Nat}{q:Bool}{c:Ex}{e ep:Expr}{i:Nat}{p:List Nat}{pos:Pos}
theorem vzp{K:Frag}{H:Hp}{x:Sl}(ok:x.ok K H)(h:x.d.pure=true):RepL K H false x.d x.v []:=(RepL.pu (g':=false) (RepO.wk ok) h).2
end
end Q
namespace PySem
section
variable {prog:Program}{w:World}{A:Around}{E:VP9}{s:Shared}
def qxs(h:Heap)(d:Addr)(n:Nat):Prop:=∃o es ep,h.get? d=some o/\o.cls=.type "dict"/\o.data=.dict es ep/\es.size=n
theorem jzf(d:Addr)(hd:(d==sysModules)=false):
  MeetsIn prog w (Builtin.«dict.__len__» ⟨[.ref d],[]⟩) (λ_ R s=>∃n,qxs s.heap d n/\R (.ok (.ret (.int n s.toks))) { s with toks:=s.toks+1 }):=
 .of_wp λA R s ⟨n,⟨o,es,ep,ho,hc,dy,hz⟩,h⟩=>by
  show wpAny _ _ (dictSize d >>= _) _ _ s;unfold dictSize;refine X0 (X0 (wpAny_dictEntries ho dy (X4 ?_)));show wpAny _ _ (Builtin.Dict.pendingCount d >>= _) _ _ s;refine X0 (wpAny_pendingCount_other hd ?_);refine wpAny_ret_mkInt ?_;rw[Nat.add_zero,hz];exact h
theorem kja{d:Addr}{n:Nat}{Q:VP9}(hd:(d==sysModules)=false)(hm:qxs s.heap d n)(fm:(n:Int)<2 ^ 63)
  (h:Q (.int n (s.toks+1)) { s with toks:=s.toks+1+1 }):wpAny (model prog w) A (Builtin.«len» ⟨[.ref d],[]⟩) (λfin s'=>∃r,fin=.done (.ret r)/\Q r s') E s:=by
 have ht:s.TypeIs (.ref d) "dict":=by obtain⟨o,es,ep,ho,hc,_⟩:=hm;exact⟨o,ho,hc⟩
 unfold Builtin.«len»;refine X0 (m:=oneArg "len" _) (X4 ?_);refine X0 (m:=callSpecial? (.ref d) (Str.ofString "__len__")) (Yv (name:=Str.ofString "__len__") ht F.slot_dict_len
  (call_meetsIn F.slot_dict_len ht F.entry_dict_len (F.args_dict_len_1 _) (jzf d hd) ⟨n,hm,?_⟩))
 show wpAny _ _ _ _ _ { s with toks:=s.toks+1 };refine X0 (Y9 (X4 ?_));refine X0 (wpAny_letGo ?_);show wpAny _ _ (if((n:Nat):Int)<0 then _ else _) _ _ _;rw[X8 ⋯];show wpAny _ _ (if((n:Nat):Int)>=2 ^ 63 then _ else _) _ _ _;rw[X8 ⋯];exact X0 (wpAny_mkInt (X4 ⟨_,rfl,h⟩))
theorem kjd{d:Addr}{n:Nat}{Q:VP9}(hd:(d==sysModules)=false)(hm:qxs s.heap d n)(fm:(n:Int)<2 ^ 63)
  (h:Q (.int n (s.toks+1)) { s with toks:=s.toks+1+1 }):wpAny (model prog w) A (call (.builtin "len") [.ref d]) Q E s:=
 Calls.call_function_entry kind_len plain_len entry_len (args_len1 _) (kja hd hm fm h)
end
end PySem
namespace Q
open PySem PySem.Spec PyProof.Rows L2 L3
theorem qwd {K : Frag} {H : Hp} {k : Kd}: ∀{a9 : List (D × D)} {xs : List V} {bs : List Addr} {es : List Ent}, RepP K H true a9 xs bs -> a9.map (·.1) = es.map (·.1.1) -> Vals xs (es.map (·.2.2)) -> D.pures (a9.map (·.2)) = true ->
    (∀ p, atKey es k = some p -> ∃d v, Jx a9 k.1 = some d /\ RelV v p.2 /\ RepL K H false d v [] /\ d.pure = true) /\ (atKey es k = none -> Jx a9 k.1 = none)
  | [], _, _, [], _, _, _, _=>⟨λp h=>(by cases h), λ_=>rfl⟩| [], _, _, _::_, _, h, _, _=>by cases h| _ :: _, _, _, [], _, h, _, _=>by cases h
  | (q, d)::a9, xs, bs, e::es, hr, hk, hv, hp=>by
    unfold RepP at hr;obtain⟨x, r, b1, c1, rfl, _, h1, h2⟩:= hr;rw [List.map_cons, List.map_cons]at hk;injection hk with k1 k2;rw [List.map_cons]at hv hp;cases hv with
    | cons v1 v2=>
      unfold D.pures at hp;rw [Bool.and_eq_true]at hp;have ih:= qwd (k:= k) h2 k2 v2 hp.2;have k1 : q = e.1.1:= k1
      by_cases he : e.1 = k
      · have hq : q = k.1:= by rw[k1, he]
        have hg : Jx ((q, d)::a9) k.1 = some d:= by unfold Jx; rw[List.find?_cons_of_pos (by simp[hq])]; rfl
        have ha : atKey (e::es) k = some e.2:= by
          obtain⟨ek, ev⟩:= e;have he : ek = k:= he;simp[atKey, he]
        refine⟨λp hp'=> ?_, λhn=> ?_⟩
        · rw[ha]at hp'
          cases oq9 hp';exact⟨d, x, hg, v1, (RepL.pu (g':= false) h1 hp.1).2, hp.1⟩
        · rw[ha]at hn; cases hn
      · have hq : q≠k.1:= λz=>he (Subtype.ext (by rw[<-k1]; exact z))
        have hg : Jx ((q, d)::a9) k.1 = Jx a9 k.1:= by unfold Jx; rw[List.find?_cons_of_neg (by simp[hq])]
        have ha : atKey (e::es) k = atKey es k:= by
          obtain⟨ek, ev⟩:= e;have he : ¬ek = k:= he;simp[atKey, he]
        rw[hg, ha];exact ih
end Q
namespace PySem
open Sem (wp)
section
variable {prog:Program}{w:World}{A:Around}{E:VP9}{s:Shared}
theorem jwo{R:Result->Shared->Prop}{r:Addr}{a b c:Int}{t u v:Tok}{n:Nat}(hh:A.handled=none)(hr:IsRange s.heap r a b c t u v)(bz:Builtin.Range.small a b c=true)
  (hn:Builtin.Range.rangeSize a b c=n) (ag:n<=2 ^ 24)
  (hR:∀h' tk aa c',(∀b o,s.heap.get? b=some o->h'.get? b=some o)->h'.get? s.heap.objs.size=some { cls:=.type "list",dict:=none,data:=.seq aa c',slots:=#[] }->ItemsOf (λi v=>∃t,v=.int (a+i*c) t) aa n->R (.ok (.ret (.ref s.heap.objs.size))) { s with heap:=h',toks:=tk }):
  codeAny (model prog w) A (.builtin "proto.collect" ⟨[.ref r],[]⟩) R s:=by
 refine Yq F.entry_proto_collect ?_;rw[Yb F.plain_proto_collect _];show wpAny _ A.in1 (newList [] >>= λl=>again (.builtin "list.__iadd__" ⟨[l,.ref r],[]⟩)) _ _ s;refine X0 (Y1 ?_);refine X4 ⟨Zi F.plain_list_iadd _,Yq F.entry_list_iadd ?_⟩;rw[Yb F.plain_list_iadd _];show wpAny _ A.in1 (Builtin.List.listExtendWith (.ref s.heap.objs.size) (.ref r) (.ref s.heap.objs.size)) _ _ _;exact wpAny_extend_range (s:={ s with heap:=s.heap.push { cls:=.type "list",data:=.seq ([]:List Value).toArray } }) hh (X3 _ hr) bz hn ag s.heap.objs.size (.ref s.heap.objs.size) 0 (Xg _ rfl) λh' tk bj c' hk fc cu=>hR h' tk bj c' (λb o e=>hk b o (Xl (Xd e)) (X3 _ e)) fc cu
theorem jvx{Q:List Value->Shared->Prop}{r:Addr}{a b c:Int}{t u v:Tok}{n:Nat}(hh:A.handled=none)(hr:IsRange s.heap r a b c t u v)(bz:Builtin.Range.small a b c=true)
  (hn:Builtin.Range.rangeSize a b c=n) (ag:n<=2 ^ 24)
  (hQ:∀h' tk aa,(∀b o,s.heap.get? b=some o->h'.get? b=some o)->ItemsOf (λi v=>∃t,v=.int (a+i*c) t) aa n->Q aa.toList { s with heap:=h',toks:=tk }):
  wpAny (model prog w) A (collect (.ref r)) Q E s:=by
 unfold collect;refine X0 (wpAny_runValue (jwo hh hr bz hn ag λh' tk bj c' hk fc cu=>?_));show wpAny _ A (load s.heap.objs.size >>= _) _ _ _;refine X0 (wpAny_load fc ?_);exact X4 (hQ h' tk bj hk cu)
theorem jvg(r:Addr)(a b c:Int)(n:Nat)(bz:Builtin.Range.small a b c=true)(hn:Builtin.Range.rangeSize a b c=n)(ag:n<=2 ^ 24):
  Meets (Builtin.«tuple.__new__» ⟨[.type "tuple",.ref r],[]⟩)
   (λA R s=>A.handled=none/\(∃t u v,IsRange s.heap r a b c t u v)/\∀(h':Heap) (tk:Nat) (aa:Array Value),(∀b o,s.heap.get? b=some o->h'.get? b=some o)->ItemsOf (λi v=>∃t,v=.int (a+i*c) t) aa n ->
    R (.ok (.ret (.ref h'.objs.size))) { s with heap:=h'.push { cls:=.type "tuple",data:=.seq aa },toks:=tk }):=
 .of_wp λprog w A R s h=>by
  obtain⟨hh,⟨t,u,v,hr⟩,h⟩:=h;have ft:=sub_tuple_self;have hinit:=init_tuple_lookup;have hmh:=madeHere_tuple;have hT:s.TypeIs (.ref r) "range":=⟨_,hr,rfl⟩;have hh1:A.in1.handled=none:=hh
  wp_walk using Zb hT,jvx hh1 hr bz hn ag
  intro h' tk aa hk cu;show wpAny _ _ (Builtin.Tuple.tupleExact aa.toList.toArray >>= λv=>ret v) _ _ _;unfold Builtin.Tuple.tupleExact;refine X0 (Y1 ?_ (show aa.toList.toArray.size<=sizeLine by simp only[Array.toArray_toList];rw[cu.1,Yr];lia));refine X4 ⟨_,rfl,?_⟩;have e:aa.toList.toArray=aa:=by simp
  rw[e];exact h h' tk aa hk cu
theorem jxp{Q:VP9}{r:Addr}{a b c:Int}{t u v:Tok}{n:Nat}(hh:A.handled=none)(hr:IsRange s.heap r a b c t u v)(bz:Builtin.Range.small a b c=true)(hn:Builtin.Range.rangeSize a b c=n)(ag:n<=2 ^ 24)
  (h:∀(h':Heap) (tk:Nat) (aa:Array Value),(∀b o,s.heap.get? b=some o->h'.get? b=some o)->ItemsOf (λi v=>∃t,v=.int (a+i*c) t) aa n->Q (.ref h'.objs.size) { s with heap:=h'.push { cls:=.type "tuple",data:=.seq aa },toks:=tk }):
  wpAny (model prog w) A (call (.type "tuple") [.ref r]) Q E s:=by
 refine callType_new F.called_tuple ⋯ (F.typeCall_tuple_1 _) (F.newCall_tuple_1 _) (λobj=>F.args_object_init_2 obj _) F.entry_tuple_new
  (jvg r a b c n bz hn ag) ⟨hh,⟨t,u,v,hr⟩,λh' tk aa hk cu=>⟨⟨_,Xg _ rfl,rfl⟩,?_⟩⟩
 exact h h' tk aa hk cu
end
end PySem
namespace Q
open PySem PySem.Spec PyProof.Rows L2 L3
section
variable {X:Cx}{Z:Fx0}{pn:List Nat}{q:Bool}{a b:Ex}{e ea:Expr}{p pos:Pos}
theorem wvz{p2 az:Pos}(ha:QV X Z q a ea)(pi:X.mg "range"=none)(hml:X.mg "tuple"=none)(hc:autoParam (X.calm=true) Ŕ)(rl:autoParam (Gl X "range") Ŕ)(ny:autoParam (Gl X "tuple") Ŕ)
  (ba:autoParam (starEach [ea] X.env=(false,eval ea X.env)::starEach [] X.env) Ŕ) (bn:autoParam ((backTo az (starEach [] X.env)).any (·.1)=false) Ŕ)
  (ia:autoParam (starEach [.Call (.Name "range" p2) [ea] [] az] X.env=(false,eval (.Call (.Name "range" p2) [ea] [] az) X.env)::starEach [] X.env) Ŕ) (lv:autoParam ((backTo pos (starEach [] X.env)).any (·.1)=false) Ŕ):
  QE X Z q (wvc a) (.Call (.Name "tuple" p) [.Call (.Name "range" p2) [ea] [] az] [] pos):=by
 intro pins s σ H Q I ⟨E,L,r,m,w,d8,xc,k⟩;refine Yw (xW I ny hml qja ?_);refine Ya (thn (qQ (vk9 ha pi rl ba bn) vq ia pos pins s σ H (λvs H1=>∃pp j,vs=[.ref pp]/\H1 pp=some (.rng 0 j)/\vK j=true/\j.toNat<=big/\∀l,H1 l=none->Q (.ref l) (upd H1 l (.tup ((List.range j.toNat).map λ(i:Nat)=>V.int (0+(i:Int)))))) I ?_) λus s1 ⟨vs,H1,I1,r1,pp,j,e,hp,h62,gh,q1⟩=>?_) ia lv
 ·refine kK m w (show bnd (a E) _=some r from d8) xc λE1 s h1 x L1 H1 e1 e2 m1 w1 ok fr sr st sm=>?_
  cases hx:s.2 with
  | int j=>
   rw[hx]at h1;dsimp only at h1
   split at h1
   ·rename_i hj;cases oq9 h1;refine⟨j,kJ ok (e2.trans hx),λpp hpp=>⟨pp,j,rfl,vX,hj.1,hj.2,λl hl=>?_⟩⟩;have s1:jK H1 (upd H1 pp (.rng 0 j)):=qZ hpp;have w2:World Z.K (upd H1 pp (.rng 0 j)) L1:=⟨λx hx=>RepO.kp (w1.ok x hx) (Kp.of_same s1),w1.nd,w1.ds⟩;have b9:Step H L (upd H1 pp (.rng 0 j)) L1:=st.trans ⟨λb ob z _=>s1 b ob z,λb z=>.inl z,λb z=>.inl z⟩;have o:=Vx (K:=Z.K) (H:=upd H1 pp (.rng 0 j)) (fr:=[]) hl (qq7 (List.range j.toNat)) (λ_ z=>(nomatch z));obtain⟨w3,c8⟩:=K4 w2 b9 o (λ_ z=>(nomatch z)) (λ_ z=>(nomatch z)) (λ_ z=>(nomatch z));exact k _ _ rfl ⟨.no,.tup (jV 0 j),.ref l,[]⟩ L1 _ rfl rfl m1 (by simpa [jV]using w3) (by simpa [jV]using c8) λhq=>⟨jX (sm hq) (jX s1 o.same),λb hb=>nomatch hb⟩
   ·cases h1
  |_=>rw[hx]at h1;cases h1
 ·subst e;obtain⟨u,rfl,rx⟩:=r1.one;cases rx;obtain⟨t1,t2,t3,hg⟩:=(show ObjOk X.prog X.w H1 s1.heap pp (.rng 0 j)from I1.hok pp _ hp);obtain⟨j1,j2⟩:=jww h62;have e2:Builtin.Range.rangeSize 0 j 1=((j.toNat:Nat):Int):=by rw[rangeSize_one];split<;>lia
  refine jxp (n:=j.toNat) (I1.ok.hd hc) (show IsRange s1.heap pp 0 j 1 t1 t2 t3 from hg) (small_one ⋯ ⋯ j1 j2) e2 (by unfold big at gh;lia) λh' tk bj kp fh=>?_
  obtain⟨hs,jg⟩:=fh;have I2:=I1.kept (t':=tk) kp;have I3:=I2.laid (t':=tk) (λb o e=>X3 _ e) (Xa _) (show ObjOk X.prog X.w _ _ _ (.tup ((List.range j.toNat).map λ(i:Nat)=>V.int (0+(i:Int))))from⟨by rw[X1,Xu];exact gh,bj.toList,kxn hs jg,by simpa using IsTupD.new h' bj⟩);exact⟨.ref h'.objs.size,_,I3,rfl,q1 _ (I2.hok.fresh (Xa _))⟩
end
theorem qvx{P:Program}{w:PySem.World}{K:Frag}{mg mb:Str->Option Value}{CX:CXT}{k:Nat}{fa a:Addr}{fd:FuncData}{x:Str}{sp:Sp}{s₁:Shared}{vs:List Value}{ns:List Int}
  (KX:K.In s₁.heap) (hns:s₁.heap.Ns mainGlobals mg) (hb:s₁.heap.Ns builtinsNs mb) (hbb:∀x:Str,x≠"__name__"->mb x=bootBuiltins x) (hlim:s₁.heap.NoLimit) (hg:s₁.gens=#[])
  (ha:s₁.heap.get? a=some { cls:=.type "list",data:=.seq vs.toArray }) (hi:IntsAre vs ns) (hl:ns.length<=sizeLine) (hr:Room k callerA)
  (F:∀base:Heap,K.In base->base.Ns mainGlobals mg->FnOk P w K mg base CX k fa fd [x] sp) (ou:∀(s:Shared) (u:Value),BindsTo s fd ⟨[u],[]⟩ [(x,u)])
  (ie:∀H:Hp,wxu H->LsR K H a (ns.map V.int)->sp [.ref a] H (λv _=>v=.bl true) λ_ _ _=>False)
  (hCX:∀H e s',CX [] H s₁ (λ_ _ _=>False) e s'->False):
  codeAny (model P w) callerA (.call (.ref fa) ⟨[.ref a],[]⟩) (λr s'=>r=.ok (.ret (.bool true))/\OldK s₁.heap s'.heap/\s'.os=s₁.os/\AllBare s'.gens) s₁:=by
 have rv:=kqd hi;have lenV:=hi.length;have pk:∀H:Hp,wxu H->LsR K H a (ns.map V.int)->HOk P w H s₁.heap->(∀b,H b≠none->b=a)->(H a≠none->K.lookup a=none) ->
   codeAny (model P w) callerA (.call (.ref fa) ⟨[.ref a],[]⟩) (λr s'=>r=.ok (.ret (.bool true))/\OldK s₁.heap s'.heap/\s'.os=s₁.os/\AllBare s'.gens) s₁:=by
  intro H hO hS hok hA hK;have gu:∀{b:Addr} {o:Obj},s₁.heap.get? b=some o->H b=none->(K3 s₁.heap H).get? b=some o:=λe n=>vjc e n
  have p9:∀{b:Addr} {o:Obj} {es:Array DictEntry} {ep:Nat},s₁.heap.get? b=some o->o.data=.dict es ep->H b=none:=fun {b o es ep} e d=>by
   cases q:H b with
   | none=>rfl
   | some u=>
    have e':b=a:=hA b (by rw[q];simp);subst e';rw[ha]at e;cases e;have d':Data.seq vs.toArray _=Data.dict es ep:=d;cases d'
  have nsK:∀{b:Addr} {m:Str->Option Value},s₁.heap.Ns b m->(K3 s₁.heap H).Ns b m:=fun {b m} ⟨o,es,ep,e,d,r⟩=>⟨o,es,ep,gu e (p9 e d),d,r⟩
  have hKb:K.In (K3 s₁.heap H):=λb o e=>gu (KX b o e) (by
   cases q:H b with
   | none=>rfl
   | some u=>
    have e':b=a:=hA b (by rw[q];simp);subst e';rw[hK (by rw[q];simp)]at e;cases e)
  have hM:Mod K mg (K3 s₁.heap H):=⟨hKb,nsK hns,⟨mb,nsK hb,hbb⟩,let ⟨mc,h1,h2⟩:=hlim;⟨mc,nsK h1,h2⟩⟩;have e0:Env0 P w K mg (K3 s₁.heap H) callerA [] s₁ H:=⟨rfl,hM,λb o e=>vvm e,Nat.le_of_eq (qwc _ _),trivial,λb hb=>absurd (show b∈([]:List Addr)from hb) (by simp),hok,.of_eq hg⟩;refine codeAny_mono ((F _ hKb (nsK hns)).run callerA [] s₁ H ⟨[.ref a],[]⟩ [.ref a] [.ref a] _ _ hr e0 (ou s₁ (.ref a)) (.cons rfl .nil) (ie H hO hS)) λr s' h=>?_
  cases r with
  | error e=>exact(hCX H e s' h).elim
  | ok fl=>
   cases fl with
   | next=>exact False.elim h| brk=>exact False.elim h| cont=>exact False.elim h
   | ret u=>
    obtain⟨v,H',os,bare,un,hok',r',q⟩:=h;have q':v=.bl true:=q;subst q';obtain rfl:u=Value.bool true:=r';refine⟨rfl,OldK.of_keep λb o e=>?_,os,bare⟩;cases q:H b with
    | none=>exact un.keep b o e q (by intro z;exact absurd (show b∈([]:List Addr)from z) (by simp)) (by simp)
    | some u=>
     rcases hO b with z|⟨ob,xs,z⟩
     ·rw[q]at z;cases z
     ·have z2:=un.frzs b ob _ z;obtain⟨e1,_⟩:=hok b _ z;obtain⟨e2,_⟩:=hok' b _ z2;rw[e]at e1;cases e1;exact e2
 cases hk:K.lookup a with
 | some o=>
  have e:=KX a o hk;rw[ha]at e;cases e;refine pk (λ_=>none) (λ_=>.inl rfl) (.inr ⟨vs.toArray,_,hk,by rw[X9,lenV];exact hl,by simpa using rv⟩) (λb u z=>by have z':(none:Option HO)=some u:=z;cases z') (λb z=>absurd rfl z) λz=>absurd rfl z
 | none=>
  refine pk (λb=>if b=a then some (.frz { cls:=.type "list",data:=.seq vs.toArray } (.lst (ns.map V.int)))else none) (λb=>?_) (.inl (.inr ⟨{ cls:=.type "list",data:=.seq vs.toArray },X6 rfl⟩)) (λb u z=>?_) (λb z=>?_) λ_=>hk
  ·by_cases hb:b=a
   ·exact .inr ⟨_,_,X6 hb⟩
   ·exact .inl (X8 hb)
  ·by_cases hb:b=a
   ·have z':=(X6 hb).symm.trans z;cases z';subst hb;exact⟨ha,by rw[X1];exact hl,vs,_,rv,ha⟩
   ·have z':=(X8 hb).symm.trans z;cases z'
  ·by_cases hb:b=a
   ·exact hb
   ·exact absurd (X8 hb) z
@[elab_as_elim] theorem wzj {P:List Value->Prop}(us:List Value)(e:us.length=1)(h:∀a,P [a]):P us:=by
 cases us with|nil=>cases e|cons a us=>cases List.eq_nil_of_length_eq_zero (Zu e);exact h a
@[elab_as_elim] theorem wzi {P:List Value->Prop}(us:List Value)(e:us.length=2)(h:∀a b,P [a,b]):P us:=by
 cases us with|nil=>cases e|cons a us=>exact wzj (P:=λl=>P (a::l)) us (Zu e) λb=>h a b
@[elab_as_elim] theorem wzh {P:List Value->Prop}(us:List Value)(e:us.length=3)(h:∀a b c,P [a,b,c]):P us:=by
 cases us with|nil=>cases e|cons a us=>exact wzi (P:=λl=>P (a::l)) us (Zu e) λb c=>h a b c
@[elab_as_elim] theorem wzg {P:List Value->Prop}(us:List Value)(e:us.length=4)(h:∀a b c d,P [a,b,c,d]):P us:=by
 cases us with|nil=>cases e|cons a us=>exact wzh (P:=λl=>P (a::l)) us (Zu e) λb c d=>h a b c d
@[elab_as_elim] theorem wzf {P:List Value->Prop}(us:List Value)(e:us.length=5)(h:∀a b c d f,P [a,b,c,d,f]):P us:=by
 cases us with|nil=>cases e|cons a us=>exact wzg (P:=λl=>P (a::l)) us (Zu e) λb c d f=>h a b c d f
@[elab_as_elim] theorem len6 {P:List Value->Prop}(us:List Value)(e:us.length=6)(h:∀a b c d f g,P [a,b,c,d,f,g]):P us:=by
 cases us with|nil=>cases e|cons a us=>exact wzf (P:=λl=>P (a::l)) us (Zu e) λb c d f g=>h a b c d f g
theorem jwx{K:Frag}{H:Hp}{g:Bool}:∀(ns:List Int),RepA K H g (ns.map D.int) (ns.map V.int) []
 |[]=>by unfold RepA;exact⟨rfl,rfl⟩
 |n::ns=>by
  rw[List.map_cons,List.map_cons];unfold RepA;exact⟨_,_,[],[],rfl,rfl,xk,jwx ns⟩
theorem wkm{K:Frag}{mg:Str->Option Value}{f:Fn}{H:Hp}{a:Addr}{ns:List Int}(h:∃E o,f [(.no,.lst (ns.map D.int))]=some (.ok E (o,.bl true)))(hs:LsR K H a (ns.map V.int))(hO:wxu H):
  spF K mg 1 f [.ref a] H (λv _=>v=.bl true) λ_ _ _=>False:=by
 obtain⟨E,o,h⟩:=h;have key:∃as,RepL K H true (.lst (ns.map D.int)) (.ref a) as/\(∀b∈as,False):=by
  rcases hs with(hs|⟨ob,hs⟩)|hs
  ·rcases hO a with z|⟨_,_,z⟩<;>(rw[hs]at z;cases z)
  ·refine⟨[],?_,λb hb=>nomatch hb⟩;unfold RepL;exact⟨a,ns.map V.int,[],rfl,jwx ns,.inr ⟨rfl,.inl ⟨ob,hs⟩,rfl⟩⟩
  ·refine⟨[],?_,λb hb=>nomatch hb⟩;unfold RepL;exact⟨a,ns.map V.int,[],rfl,jwx ns,.inr ⟨rfl,.inr hs,rfl⟩⟩
 obtain⟨as,r,hn⟩:=key;refine⟨[⟨.no,.lst (ns.map D.int),.ref a,as⟩],_,rfl,rfl,?_,h,(λE' c z=>by cases z),λE' s z x H' e1 e2 w' st=>?_⟩
 ·exact⟨λx hx=>by rw[oq9 (aC hx)];exact r,by simp[Sl.own],λb hb=>by simp[Sl.own]at hb⟩
 ·injection z with z1 z2;subst z2;exact V8 w'.head e2
section
open PySem.W PySem.Calls
theorem walkQ{l:OpenLaw}{n k:Nat}{q:Program}{k7:List Str}{XP:(Str->Option Value)->Heap->Prop}{YP:PySem.World->Heap->Prop}{d:DefRec}{K:Params->Frag}{f:Fn}{x:Str}
  (hn:l.most=some n) (qo:n<=sizeLine) (hdf:d.params.defaults=[]) (hr:Room k callerA)
  (hY:∀(w:PySem.World) (h:Heap),YP w h->(K w.params).In h)
  (F:∀(w:PySem.World) (mg:Str->Option Value) (fa:Addr) (h:Heap),(K w.params).In h->h.Ns mainGlobals mg->mg d.name=some (.ref fa) ->
   ∃fd:FuncData,(∀(s:Shared) (u:Value),BindsTo s fd ⟨[u],[]⟩ [(x,u)])/\∀base:Heap,(K w.params).In base->base.Ns mainGlobals mg->FnOk l.prog w (K w.params) mg base (CXE l.prog w) k fa fd [x] (spF (K w.params) mg 1 f))
  (ie:∀(ns:List Int),ns.length<=n->(∀i∈ns,Builtin.Int.intBits i<=1048576)->∃E o,f [(.no,.lst (ns.map D.int))]=some (.ok E (o,.bl true))):
  WalkO q k7 XP YP l.row.toRowW d [] (λf vs=>PySem.call f vs):=by
 intro w s0 s1 mg mb G Y fa o pm cd fb dV kV ho hd fi hD hmg hg args bq as jn hlay hrd rh hlo;obtain rfl:dV=.none:=Dflts.none hD hdf;obtain rfl:kV=.none:=Dflts.noKw hD;obtain⟨a,vs,ns,rfl,rfl,hobj,qg,ag⟩:=Att.script_of hn jn rh;have og:=kxi hlay;have KX:=hY w _ Y;obtain⟨fd,hb,hF⟩:=F w mg fa _ KX G.T.g hmg;refine enter_call (codeAny_mono (qvx KX G.T.g G.T.b G.T.builtins G.T.nolimit hg hobj qg (Yn ag qo) hr hF hb (λH hO hS=>wkm (ie ns ag og) hS hO) (λ_ _ _ ⟨_,_,_,_,_,_,_,_,_,_,_,_,_,_,_,z⟩=>z)) λr s' hq=>?_);obtain⟨rfl,h2,h3,h4⟩:=hq;exact⟨.inl ⟨.bool true,.bool true,[],rfl,λ_=>rfl,.bool true,Att.post_true l _,λ_=>⟨List.Pairwise.nil,λ_ hm=>(nomatch hm)⟩⟩,h2,h3,h4⟩
end
section
variable {P:Program}{w:PySem.World}{K:Frag}{mg:Str->Option Value}{base h:Heap}{x:Str}{st:Stmt}{ps:List Str}{k:Nat}{sp:Sp}
def Gf(K:Frag)(x:Str)(st:Stmt):Prop:=∃(f:Addr) (oc:Value) (od:Option Addr) (kV dc pm:Value) (an:Option Addr) (cd ct:Value) (sl:Array (Option Value)),nsIn K mainGlobals x=some (some (.ref f))/\K.lookup f=some ⟨oc,od,.func (PySem.W.fnOf x x (Q0 st) (K9 st) (k4 st) .none kV dc pm an cd ct),sl⟩/\PySem.W.codeIn K cd x=true/\PySem.W.keepIn K (.ref f)=true
theorem Gf.mk{f:Addr}{oc:Value}{od:Option Addr}{kV dc pm:Value}{an:Option Addr}{cd ct:Value}{sl:Array (Option Value)}(a:nsIn K mainGlobals x=some (some (.ref f)))(l:K.lookup f=some ⟨oc,od,.func (PySem.W.fnOf x x (Q0 st) (K9 st) (k4 st) .none kV dc pm an cd ct),sl⟩)(c:PySem.W.codeIn K cd x=true)(k:PySem.W.keepIn K (.ref f)=true):Gf K x st:=⟨f,oc,od,kV,dc,pm,an,cd,ct,sl,a,l,c,k⟩
theorem Gf.d(g:Gf K x st)(X:K.In h)(G:h.Ns mainGlobals mg)(ok:∀{f:Addr} {fd:FuncData},Fun K x x st f fd->FnOk P w K mg base (CXE P w) k f fd ps sp)
  (hb:∀(kV fb pm:Value) (an:Option Addr) (b8 ct:Value) (us:List Value),us.length=ps.length->bindArgs (PySem.W.fnOf x x (Q0 st) (K9 st) (k4 st) .none kV fb pm an b8 ct) ⟨us,[]⟩=pure (ps.zip us):=by
   intro _ _ _ _ _ _ us hl
   first
   |exact wzj us hl λ_=>rfl|exact wzi us hl λ_ _=>rfl|exact wzh us hl λ_ _ _=>rfl|exact wzg us hl λ_ _ _ _=>rfl|exact wzf us hl λ_ _ _ _ _=>rfl
   |exact len6 us hl λ_ _ _ _ _ _=>rfl):kX P w K mg base k x ps sp:=by
 obtain⟨f,oc,od,kV,dc,pm,an,cd,ct,sl,a,l,c,kp⟩:=g;exact⟨f,_,ok (qwg l c kp),(qwg l c kp).binds hb,kp,PySem.W.mg_of X G a⟩
theorem Gf.law{fa:Addr}{y:Str}(g:Gf K "law" st)(X:K.In h)(G:h.Ns mainGlobals mg)(hfa:mg "law"=some (.ref fa))(ok:∀{base:Heap} {f:Addr} {fd:FuncData},Fun K "law" "law" st f fd->FnOk P w K mg base (CXE P w) k f fd [y] sp)
  (hb:∀(kV fb pm:Value) (an:Option Addr) (b8 ct:Value) (s:Shared) (v:Value),BindsTo s (PySem.W.fnOf "law" "law" (Q0 st) (K9 st) (k4 st) .none kV fb pm an b8 ct) ⟨[v],[]⟩ [(y,v)]:=by
   intros
   exact .of_eq rfl):
  ∃fd:FuncData,(∀(s:Shared) (v:Value),BindsTo s fd ⟨[v],[]⟩ [(y,v)])/\∀base:Heap,K.In base->base.Ns mainGlobals mg->FnOk P w K mg base (CXE P w) k fa fd [y] sp:=by
 obtain⟨f,oc,od,kV,dc,pm,an,cd,ct,sl,a,l,c,kp⟩:=g;have e:=hfa.symm.trans (PySem.W.mg_of X G a);cases e;exact⟨_,hb kV dc pm an cd ct,λbase _ _=>ok (qwg l c kp)⟩
end
end Q
namespace Q
open PySem L2
theorem mkS{N P:List Str}{sc:Scope}(h1:autoParam (sc.kind=.function) Ŕ)(h2:autoParam (sc.isCoroutine=false) Ŕ)(h3:autoParam (sc.isGenerator=false) Ŕ)(h4:autoParam (N.Nodup) ŗ)(h5:autoParam (N.take P.length=P) Ŕ)(h6:autoParam (∀x∈P,sc.names.lookup x=some .local\/sc.names.lookup x=some .cell) ŗ)(h7:autoParam (∀y∈sc.names,y.2≠.free) ŗ):FnScope N P sc:=⟨h1,h2,h3,h4,h5,h6,h7⟩
end Q
namespace Q
open PySem PySem.Spec PyProof.Rows L2 L3
section
variable {X:Cx}{Z:Fx0}{pn:List Nat}{q qa:Bool}{a b c:Ex}{e ea eb:Expr}{pos p:Pos}
theorem kI{z:Int}{j}:QE X Z true (cC (.int z)) (.Constant (.int z) j p):=q_C wjy λ_=>xk
theorem ki{z:Int}{j}:QV X Z true (vE (cC (.int z))) (.Constant (.int z) j p):=j5 kI
theorem kN{j}:QE X Z true (cC .non) (.Constant .none j p):=q_C wjv λ_=>qq9
theorem kn{j}:QV X Z true (vE (cC .non)) (.Constant .none j p):=j5 kN
theorem kS{z:Str}{j}(h:autoParam (z.length<=sizeLine) ŕ):QE X Z true (cC (.str z)) (.Constant (.str z) j p):=q_C vk8 λ_=>VV h
theorem vv(i:Nat){x:Str}(hN:autoParam (X.N[i]?=some x) Ŕ)(hv:autoParam (Vis X.env.scope x) ř)(hd:autoParam ((x==("__debug__":Str))=false) ŕ)
  (fi:autoParam ((x==("__classdict__":Str))=false) ŕ):QV X Z true (vV i) (.Name x pos):=q_vV (pv i hN hv hd fi)
theorem cv(i:Nat){x:Str}(hN:autoParam (X.N[i]?=some x) Ŕ)(hv:autoParam (Vis X.env.scope x) ř)(hd:autoParam ((x==("__debug__":Str))=false) ŕ)
  (fi:autoParam ((x==("__classdict__":Str))=false) ŕ):QE X Z true (cV i) (.Name x pos):=q_V (pv i hN hv hd fi)
theorem kx(ha:QV X Z qa a ea)(hb:QV X Z true b eb)(hs:kxm eb:=by exact λ_ _=>rfl)(hK:autoParam (X.K=Z.K) Ŕ):QV X Z qa (jZ a b) (.Subscript ea eb pos):=q_ix ha hb hs hK
theorem qA{i:Nat}{y:Str}{bm:Pos}(hN:X.N.Nodup)(h:QE X Z q a ea)(hi:autoParam (X.N[i]?=some y) Ŕ)(hx:autoParam (Loc X.env.scope y) Ś)(hp:autoParam (i∉pn) ŕ)(hs:autoParam (swapsWith ea (some (.Name y bm)) pos.line X.env=pure false) Ŕ)(hf:autoParam (X.fn y=true\/X.env.scope.names.lookup y=some .local) Ř):
  QS X Z pn (jv i a) (.Assign [.Name y bm] ea pos):=ww9 hN hi hx h hp hs hf
theorem gn{i:Nat}{x:Str}(hN:X.N.Nodup)(hi:autoParam (X.N[i]?=some x) Ŕ)(hx:autoParam (Loc X.env.scope x) Ś)(hf:autoParam (X.fn x=true\/X.env.scope.names.lookup x=some .local) Ř):PG X (.Name x pos) (WQ i):=qV hN hi hx hf
theorem gN{i:Nat}{x:Str}(hN:X.N.Nodup)(hi:autoParam (X.N[i]?=some x) Ŕ)(hx:autoParam (Loc X.env.scope x) Ś)(hf:autoParam (X.fn x=true\/X.env.scope.names.lookup x=some .local) Ř)(hp:autoParam (i∉pn) ŕ):QG X Z pn (.n i) (.Name x pos):=V9 (qV hN hi hx hf) hp
theorem qC{k m n:Nat}{x:Str}{ps:List Str}{f:Fn}{cs:List Ex}{es:List Expr}(D:kX X.prog X.w X.K X.mg X.base k x ps (spF Z.K Z.mg n f))(hr:Room m X.A)(ha:QA X Z q cs (e::es))(g:xX X Z.EX:=by exact V6)(db:autoParam (k<=m) ŕ)(hn:autoParam (cs.length=n) Ŕ)(hg:autoParam (Gl X x) Ŕ)(fj:autoParam ((x==("__debug__":Str))=false) ŕ)
  (he:autoParam (starEach (e::es) X.env=(false,eval e X.env)::starEach es X.env) Ŕ) (bn:autoParam ((backTo pos (starEach es X.env)).any (·.1)=false) Ŕ):
  QE X Z q (jW f cs) (.Call (.Name x p) (e::es) [] pos):=wjb D (hr.mono db) g ha hn hg fj he bn
theorem qF{tg aj:Expr}{ss:List Stmt}{it:Ev (List D)}{t:Tg}{B:Sm}(hi:QI X Z q tg it aj)(hg:QG X Z pn t tg)(hb:QSs X Z pn B ss)(hp:PassesOwn (model X.prog X.w) X.A X.env X.xe:=by exact wwi ⟨_,_,rfl,rfl⟩)(hc:autoParam (X.calm=true) Ŕ)(hs:autoParam (∀x,foldedSetIterable aj X.env x=pure x) Ŗ):QS X Z pn (v6 it t B) (.For tg aj ss [] pos):=ww7 hp hc hi hg hb hs
theorem oA(ha:QV X Z qa a ea)(hb:QV X Z true b eb)(hK:autoParam (X.K=Z.K) Ŕ):QE X Z qa (cF2 jQ a b) (.BinOp ea .Add eb pos):=kw (wk7 hK) wv1 ha hb
theorem oX(ha:QV X Z qa a ea)(hb:QV X Z true b eb)(hK:autoParam (X.K=Z.K) Ŕ):QE X Z qa (cF2 vJ a b) (.BinOp ea .Mult eb pos):=kw (wk5 hK) vxa ha hb
theorem oM(ha:QV X Z qa a ea)(hb:QV X Z true b eb):QE X Z qa (cF2 (pu2 k8) a b) (.BinOp ea .Mod eb pos):=kw wk3 wqy ha hb
theorem qP{i:Nat}{x:Str}{am ae xp:Pos}(h:QE X Z q c e)(hN:autoParam (X.N[i]?=some x) Ŕ)(hv:autoParam (Vis X.env.scope x) ř)(hd:autoParam ((x==("__debug__":Str))=false) ŕ)
  (fi:autoParam ((x==("__classdict__":Str))=false) ŕ) (aw:autoParam (attributeBase (.Name x xp) "append" X.env (eval (.Name x xp) X.env)=eval (.Name x xp) X.env) Ŕ)
  (bi:autoParam (((backTo ae (starEach [e] X.env)).all (λx=>!x.1)&&(backToKw ae (keywordEach [] X.env)).all (λx=>x.1.isSome)
   && decide ([e].length+([]:List Keyword).length+(if([]:List Keyword).isEmpty then 0 else 1)<30))=true) Ŕ)
  (ax:autoParam ((am.endLine==ae.line)=true) Ŕ) (hs:autoParam (starEach [e] X.env=(false,eval e X.env)::starEach [] X.env) Ŕ) (aq:autoParam ((backTo ae (starEach [] X.env)).any (·.1)=false) Ŕ) (hK:autoParam (X.K=Z.K) Ŕ)
  (je:autoParam (swapsWith (.Call (.Attribute (.Name x xp) "append" am) [e] [] ae) none pos.line X.env=pure false) Ŕ):
  QS X Z pn (v3 vQ i c) (.Expr (.Call (.Attribute (.Name x xp) "append" am) [e] [] ae) pos):=wwa (qqy Z.K PySem.F.plainAttrs_list PySem.F.slot_list_append PySem.F.type_list_append qva (pv i hN hv hd fi) (qQ h vq hs) aw bi ax hs aq hK) je
theorem qL(ha:QV X Z q a ea)(hm:X.mg "len"=none)(hK:autoParam (X.K=Z.K) Ŕ)(hg:autoParam (Gl X "len") Ŕ)(he:autoParam (starEach [ea] X.env=(false,eval ea X.env)::starEach [] X.env) Ŕ)(bn:autoParam ((backTo pos (starEach [] X.env)).any (·.1)=false) Ŕ):QE X Z q (cF1 (pu1 v8) a) (.Call (.Name "len" p) [ea] [] pos):=W4 (hK▸vx1 X.K) wqz ha hm vkv hg ⋯ ⋯ he bn
theorem qT(ha:QV X Z q a ea)(hm:X.mg "tuple"=none)(hK:autoParam (X.K=Z.K) Ŕ)(hg:autoParam (Gl X "tuple") Ŕ)(he:autoParam (starEach [ea] X.env=(false,eval ea X.env)::starEach [] X.env) Ŕ)(bn:autoParam ((backTo pos (starEach [] X.env)).any (·.1)=false) Ŕ):QE X Z q (cF1 QZ a) (.Call (.Name "tuple" p) [ea] [] pos):=Qj (qx9 hK) vjv ha hm qja hg ⋯ ⋯ he bn
variable {aj df tg:Expr}{cz:List Expr}{scope:Scope}{it:Ev (List D)}{tt:Tg}{u:Ts}
theorem qm(o:Own)(k:Nat)(R:List Nat)(m:Nat)(N:List Str)(hi:QI X Z q tg it aj)
  (hg:N.Nodup->∀cl C s0 H0 fp,QG (lcE X scope N cl C s0 H0 fp Z.EX) Z ((List.range R.length).map (k + ·)) tt tg) (ht:∀cl C s0 H0 fp,PTs (lcE X scope N cl C s0 H0 fp Z.EX) cz (tT Z q u)) (he:∀cl C s0 H0 fp,QE (lcE X scope N cl C s0 H0 fp Z.EX) Z q c df)
  (hN:autoParam (N.Nodup) ŗ) (gx:xX X Z.EX:=by exact V6) (top:zQ X:=by exact⟨_,_,rfl,rfl⟩) (hR:autoParam (R.Nodup) ŕ) (hm:autoParam (X.N.length=m) Ŕ) (hr:autoParam (∀j∈R,j<m) ŕ) (hc:autoParam (X.calm=true) Ŕ) (hk:autoParam (scope.kind=.function) Ŕ) (iu:autoParam (Q2 X.N X.env.scope scope N k R=true) Ŕ) (hs:autoParam (∀x,foldedSetIterable aj X.env x=pure x) Ŗ):
  QE X Z q (cLC o k R it tt u c) (.ListComp df [⟨tg,aj,cz,0⟩] scope pos):=wz9 N hi (hg hN) ht he gx top hR (hm▸hr) hc hk iu hs
theorem qM{x:Str}{p':Pos}(o:Own)(k:Nat)(R:List Nat)(m:Nat)(N:List Str)(hi:QI X Z q (.Name x p') it aj)(he:∀cl C s0 H0 fp,QE (lcE X scope N cl C s0 H0 fp Z.EX) Z q c df)
  (hN:autoParam (N.Nodup) ŗ) (gx:xX X Z.EX:=by exact V6) (top:zQ X:=by exact⟨_,_,rfl,rfl⟩) (hR:autoParam (R.Nodup) ŕ) (hm:autoParam (X.N.length=m) Ŕ) (hr:autoParam (∀j∈R,j<m) ŕ) (hc:autoParam (X.calm=true) Ŕ) (hk:autoParam (scope.kind=.function) Ŕ) (iu:autoParam (Q2 X.N X.env.scope scope N k R=true) Ŕ) (hs:autoParam (∀x,foldedSetIterable aj X.env x=pure x) Ŗ)
  (hg:N.Nodup->∀cl C s0 H0 fp,QG (lcE X scope N cl C s0 H0 fp Z.EX) Z ((List.range R.length).map (k + ·)) (.n 0) (.Name x p'):=by exact λh _ _ _ _ _=>V9 (qV (i:=0) h rfl (by trivial))):
  QE X Z q (cLC o k R it (.n 0) tYes c) (.ListComp df [⟨.Name x p',aj,[],0⟩] scope pos):=wz9 N hi (hg hN) (λ_ _ _ _ _=>KK) he gx top hR (hm▸hr) hc hk iu hs
end
section
variable {X:Cx}
def kwe:V->List V->Hp->VK->Prop:=λx vs H Q=>∃l xs k y,x=.ref l/\vs=[.int k,y]/\H l=some (.lst xs)/\xs.length<big/\0<=k/\k<=xs.length/\Q .non (upd H l (.lst (xs.take k.toNat++y::xs.drop k.toNat)))
theorem vwf(a8:List Value)(u:Value)(k:Nat)(h:k<=a8.length):(a8.toArray.extract 0 k).push u++a8.toArray.extract k=(a8.take k++u::a8.drop k).toArray:=by
 apply Array.ext';simp;exact Zh (by simp)
theorem qv8:MtM X "list.insert" kwe:=by
 intro pins s σ H x vs v us Q I rx rv h;obtain⟨l,xs,k,y,rfl,rfl,hH,hb,h1,h2,q⟩:=h;cases rx;obtain⟨u1,u2,rfl,ru1,ru2⟩:=rv.two;obtain⟨t,rfl⟩:=ru1;obtain⟨z,a8,n,r,hl,e⟩:=I.lstM hH;unfold big at hb;have fm:Builtin.List.listFitsIndex k=true:=fitsIndex_both ⋯ (by unfold sizeLine at *;lia);have hk:k.toNat<=a8.length:=⋯
 refine call_meets F.slot_list_insert ⟨_,e,rfl⟩ F.entry_list_insert (F.args_list_insert_3 _ _ _) (AutoSeq1.list_insert_list_int_val_1 l a8.toArray n k t u2 (by simp[fm]) (by rw[X9];lia)) ⟨e,?_⟩;refine⟨.non,_,I.lset (its':=a8.take k.toNat++u2::a8.drop k.toNat) hH e ?_ ((r.take _).append (.cons ru2 (r.drop _))) ?_,rfl,q⟩
 ·show(a8.toArray.extract 0 (if k<0 then(k+((a8.toArray.size:Nat):Int)).toNat else min k.toNat a8.toArray.size)).push u2++a8.toArray.extract (if k<0 then(k+((a8.toArray.size:Nat):Int)).toNat else min k.toNat a8.toArray.size)=_;rw[X8 ⋯,X9,Nat.min_eq_left hk];exact vwf a8 u2 k.toNat hk
 ·rw[Xp,Y5,Xk,Zj];have e3:min k.toNat xs.length=k.toNat:=Nat.min_eq_left ⋯;rw[e3];show k.toNat+(xs.length - k.toNat+1)<=sizeLine;have:k.toNat+(xs.length - k.toNat+1)=xs.length+1:=⋯
  rw[this];exact hb
theorem RepA.ins{K:Frag}{H:Hp}{g:Bool}{d:D}{x:V}{cs:List Addr}(rx:RepL K H g d x cs):∀{ds:List D} {xs:List V} {bs:List Addr} (k:Nat),RepA K H g ds xs bs->∃es,RepA K H g (ds.take k++d::ds.drop k) (xs.take k++x::xs.drop k) es/\es.Perm (cs++bs)
 | ds,xs,bs,0,h=>⟨cs++bs,by rw[List.take_zero,List.drop_zero,List.take_zero,List.drop_zero,List.nil_append,List.nil_append];unfold RepA;exact⟨x,xs,cs,bs,rfl,rfl,rx,h⟩,List.Perm.refl _⟩
 | [],xs,bs,k+1,h=>by
  unfold RepA at h;obtain⟨rfl,rfl⟩:=h;refine⟨cs++[],?_,List.Perm.refl _⟩;show RepA K H g [d] [x] _;unfold RepA;exact⟨x,[],cs,[],rfl,rfl,rx,by unfold RepA;exact⟨rfl,rfl⟩⟩
 | d0::ds,xs,bs,k+1,h=>by
  unfold RepA at h;obtain⟨x0,r0,b1,c1,rfl,rfl,h1,h2⟩:=h;obtain⟨es,r2,hp⟩:=RepA.ins rx k h2;refine⟨b1++es,?_,?_⟩
  ·rw[List.take_succ_cons,List.drop_succ_cons,List.take_succ_cons,List.drop_succ_cons,List.cons_append,List.cons_append];unfold RepA;exact⟨x0,_,b1,es,rfl,rfl,h1,r2⟩
  ·refine(List.Perm.append_left b1 hp).trans ?_;rw[<-Y4,<-Y4];exact List.Perm.append_right _ Za
end
section
variable {X:Cx}{Z:Fx0}{pn:List Nat}{q1 q2:Bool}{kc vc:Ex}{e1 e2 o:Expr}{j:Nat}
theorem qqa{K:Frag}{H:Hp}{x:Sl}{k:Int}(ok:x.ok K H)(hd:x.d=.int k):x.v=.int k:=by
 have h:=vzp ok (by rw[hd];rfl);rw[hd]at h;unfold RepL at h;exact h.1
theorem ww6(ho:PE X o (JZ j))(hk:QE X Z q1 kc e1)(hv:QE X Z q2 vc e2)(hK:autoParam (X.K=Z.K) Ŕ)(hm:MtR X "list.insert" kwe){am ae fe:Pos}
  (aw:autoParam (attributeBase o "insert" X.env (eval o X.env)=eval o X.env) Ŕ)
  (bi:autoParam (((backTo ae (starEach [e1,e2] X.env)).all (λx=>!x.1)&&(backToKw ae (keywordEach [] X.env)).all (λx=>x.1.isSome)
   && decide ([e1,e2].length+([]:List Keyword).length+(if([]:List Keyword).isEmpty then 0 else 1)<30))=true) Ŕ)
  (ax:autoParam ((am.endLine==ae.line)=true) Ŕ) (hs:autoParam (starEach [e1,e2] X.env=(false,eval e1 X.env)::starEach [e2] X.env) Ŕ) (mz:autoParam (starEach [e2] X.env=(false,eval e2 X.env)::starEach [] X.env) Ŕ) (aq:autoParam ((backTo ae (starEach [e2] X.env)).any (·.1)=false) Ŕ)
  (je:autoParam (swapsWith (.Call (.Attribute o "insert" am) [e1,e2] [] ae) none fe.line X.env=pure false) Ŕ):
  QS X Z pn (ZQ j kc vc) (.Expr (.Call (.Attribute o "insert" am) [e1,e2] [] ae) fe):=
 JQ (kwk (qqy Z.K PySem.F.plainAttrs_list PySem.F.slot_list_insert PySem.F.type_list_insert hm ho (qQ hk (qQ hv vq mz) hs) aw bi ax hs aq hK) je) λDe σ H ak=>ex7 ak λE L r m w d8 k=>by
 unfold ZQ at d8
 by_cases i5:J7 E[j]?=true
 rotate_left
 ·rw[X8 i5]at d8;cases d8
 rw[X6 i5]at d8;obtain⟨o0,kd,h0⟩:∃o0 kd,E[j]?=some (some (o0,.lst kd)):=by
  unfold J7 at i5
  split at i5
  ·rename_i o0 kd h;exact⟨o0,kd,h⟩
  ·cases i5
 obtain⟨x0,a1,a2,a3,a4⟩:=m.get h0;refine⟨x0.v,a4,qvh (w.ok x0 (ww a1)) a3,?_⟩;refine Qw m w d8 k λE1 s h1 x L1 H1 e1 e2 m1 w1 st _=>?_
 split at h1
 rotate_left
 ·cases h1
 rename_i kk mz;have hxv:x.v=.int kk:=qqa w1.head (e2.trans mz);rw[hxv];obtain⟨v',c1,c2,c3⟩:=wzd (q:=q2) (G:=λv y H2=>kwe v [.int kk,y] H2 λ_ H3=>De.nx σ H3) m1 w1.tail h1 (k.step (st.trans Step.drop) Pn.refl) λl x xs ds ds' d bs cs H1 gg hf hH ra rx fin=>by
  unfold Wq at hf
  split at hf
  rotate_left
  ·cases hf
  rename_i hc;cases oq9 hf;obtain⟨es,re,hp⟩:=RepA.ins rx kk.toNat ra;exact⟨l,xs,kk,x,rfl,rfl,hH,by rw[<-ra.len];exact hc.2.2,hc.1,by rw[<-ra.len];exact hc.2.1,fin _ es re (λa ha=>((aA (hp.mem_iff.mp ha))).symm) λhn=>(hp.trans Za).nodup_iff.mpr hn⟩
 have:v'=x0.v:=by rw[a4]at c1;exact(oq9 (oq9 c1)).symm
 subst this;exact c3
end
end Q
namespace Q
def ddI(ss:List Int):List Int:=ss.foldl (λl k=>if l.any (· == k)then l else l++[k]) []
end Q
namespace Sw
open PySem PyProof.Rows
section
variable {prog:Program}{w:World}{A:Around}{E:VP9}{s:Shared}
def tx(w:World):Bool:=w.params.followText "set-order"
structure Ok (prog:Program)(w:World)(o:Obj)(es:Array (Int×Value))(ep:Nat)(t:SetTable):Prop where
 ex:o.ExactSet
 d:o.data=.set es ep t
 el:ElemsOf (PySem.strKind prog w) es.toList
 b:es.size<scanBound
 f:t.fits es.size=true
 led:t.led=!tx w
 pl:t.plain=false\/es.size=0
theorem vza{h:Heap}{a:Addr}{o:Obj}{es es':Array (Int×Value)}{ep:Nat}{t t':SetTable}(ho:h.get? a=some o)(hd:o.data=.set es ep t):(h.update a (Obj.putSet es' t')).get? a=some { o with data:=.set es' (ep+1) t' }:=by
 have:=Yh (Obj.putSet es' t') ho (by rw[putSet_of es' t' hd];rfl)
 rwa [putSet_of es' t' hd]at this
def fresh(w:World):Obj:={ cls:=.type "set",dict:=none,data:=.set #[] 0 (.fresh 0 0 (!tx w)) }
theorem made(a:Value){Q₁:VP9}(h:Q₁ (.ref s.heap.objs.size) { s with heap:=s.heap.push (fresh w) }):
  codeAny (model prog w) A (.call (.builtin "set.__new__") ⟨[.type "set",a],[]⟩) (wants Q₁ E) s:=by
 refine codeAny_of_tree ?_;show wpAny _ A.in1 (do checkBuiltinCall "set.__new__" ⟨[.type "set",a],[]⟩;again (.builtin "set.__new__" ⟨[.type "set",a],[]⟩)) _ _ s;refine X0 (wpAny_of_eq (F.newCall_set_1 a) (X4 ⟨Zi F.plain_set_new _,Yq F.entry_set_new ?_⟩));rw[Yb F.plain_set_new _];unfold Builtin.«set.__new__» Builtin.Frozenset.newClass;have ft:=sub_set_self;obtain⟨hp,g,d,tk,os⟩:=s;dsimp only
 wp_walk
 refine Zq (X4 ?_);dsimp only;simp only[newObj];refine X0 (wpAny_alloc (X4 ?_));exact X4 h
end
theorem slot_next:Slot "set_iterator" "__next__" "set_iterator.__next__" :=
 .of (owner:="set_iterator") (n:="__next__") (by rw[typeLookup_type,builtinLookup_eq_fast];kernel_rfl) (by decide +kernel) (by decide +kernel) (by decide +kernel)
  (by first|exact .inl (by decide +kernel)|exact .inr (by decide +kernel)) (by rw[isSubtype_type];kernel_rfl)
theorem kqe:Slot "set_iterator" "__iter__" "set_iterator.__iter__" :=
 .of (owner:="set_iterator") (n:="__iter__") (by rw[typeLookup_type,builtinLookup_eq_fast];kernel_rfl) (by decide +kernel) (by decide +kernel) (by decide +kernel)
  (by first|exact .inl (by decide +kernel)|exact .inr (by decide +kernel)) (by rw[isSubtype_type];kernel_rfl)
theorem jvt:entryFor table "set_iterator.__next__"=some Builtin.«set_iterator.__next__»:=entryFor_of_tree (by kernel_rfl)
theorem qk4:entryFor table "set_iterator.__iter__"=some Builtin.«dict_keyiterator.__iter__»:=entryFor_alias (id':="dict_keyiterator.__iter__") (by kernel_rfl) rfl (by decide +kernel) (by kernel_rfl)
theorem qk5:entryFor table "set.__iter__"=some Builtin.«frozenset.__iter__»:=entryFor_alias (id':="frozenset.__iter__") (by kernel_rfl) rfl (by decide +kernel) (by kernel_rfl)
theorem jws(a:Value):argsOk "set_iterator.__next__" ⟨[a],[]⟩:=by unfold argsOk;kernel_rfl
theorem qxi(a:Value):argsOk "set_iterator.__iter__" ⟨[a],[]⟩:=by unfold argsOk;kernel_rfl
theorem qxj(a:Value):argsOk "set.__iter__" ⟨[a],[]⟩:=by unfold argsOk;kernel_rfl
section
variable {prog:Program}{w:World}{A:Around}{E:VP9}{s:Shared}
theorem wqn{src:Source}{n:Nat}{Q:Nat->Shared->Prop}(hn:n≠0)(h:∀i d,i<n->Q i { s with drawn:=d }):wpAny (model prog w) A (choose src n) Q E s:=
 λ_ _ _=>⟨hn,h _ _ (Nat.mod_lt _ (Nat.pos_of_ne_zero hn))⟩
theorem jx9{α:Type}:∀{l:List α} {i:Nat} (h:i<l.length),(l[i]::l.eraseIdx i).Perm l
 |a::l,0,h=>List.Perm.refl _
 |a::l,i+1,h=>by
  have hi:i<l.length:=Nat.lt_of_succ_lt_succ h;exact(List.Perm.swap a (l[i]'hi) _).trans ((jx9 hi).cons a)
theorem drawn{α:Type}:∀(n:Nat) (xs:List α) (s:Shared) {Q:List α->Shared->Prop},xs.length=n->(∀ys d,ys.Perm xs->Q ys { s with drawn:=d })->wpAny (model prog w) A (drawOrder n xs) Q E s
 | 0,xs,s,Q,hl,h=>by
  cases xs with|nil=>exact X4 (h [] s.drawn (.refl _))|cons=>cases hl
 | n+1,xs,s,Q,hl,h=>by
  cases xs with
  |nil=>cases hl
  |cons x xs=>
   unfold drawOrder;refine X0 (wqn (by simp) λi d hi=>?_);rw[X2 hi];refine X0 (drawn n _ _ (by rw[List.length_eraseIdx,X6 hi];exact Zu hl) λys d' hp=>?_);exact X4 (h _ d' ((hp.cons _).trans (jx9 hi)))
theorem qqv{α:Type}(f:Nat->Nat):∀(n k:Nat) (l:List α) (out:Array α),l.length=n->(pickOrder.go f n k l out).toList.Perm (out.toList++l)
 |0,k,l,out,hl=>by
  cases l with|nil=>unfold pickOrder.go;simp|cons=>cases hl
 |n+1,k,l,out,hl=>by
  have hi:f k % l.length<l.length:=Nat.mod_lt _ ⋯;unfold pickOrder.go;rw[X2 hi];refine(qqv f n (k+1) _ _ (by rw[List.length_eraseIdx,X6 hi];lia)).trans ?_;rw[Array.toList_push,Y4];exact(List.Perm.refl _).append (jx9 hi)
theorem kqo{α:Type}(f:Nat->Nat)(xs:Array α):(pickOrder f xs).toList.Perm xs.toList:=by
 unfold pickOrder;exact qqv f _ 0 _ #[] (by simp)
end
section
variable {prog:Program}{w:World}{A:Around}{E:VP9}{s:Shared}
def It(h:Heap)(I a:Addr)(f:Value)(i n ep:Nat):Prop:=∃o,h.get? I=some o/\o.cls=.type "set_iterator"/\o.data=.fields #[f,.int i 0,.ref a,.int n 0,.int ep 0]
theorem It.at'{h h':Heap}{I a:Addr}{f:Value}{i n ep:Nat}(x:It h I a f i n ep)(e:∀o,h.get? I=some o->h'.get? I=some o):It h' I a f i n ep:=by
 obtain⟨o,ho,r⟩:=x;exact⟨o,e _ ho,r⟩
def Stn(h:Heap)(a:Addr)(n ep:Nat):Prop:=∃o es t,h.get? a=some o/\o.data=.set es ep t/\t.fits es.size=true/\es.size=n
theorem qq5{I a:Addr}{f:Value}{i n ep:Nat}{Q:VP9}(fh:It s.heap I a f i n ep)(h:Q (.ref I) s):wpAny (model prog w) A (pyIter (.ref I)) Q E s:=by
 obtain⟨o,ho,hc,hd⟩:=fh;have hT:s.TypeIs (.ref I) "set_iterator":=⟨o,ho,hc⟩;refine wpAny_pyIter_slot hT kqe (Y6 kqe hT qk4 ?_ (qxi _));show wpAny _ _ (ret (.ref I)) _ _ s;exact X4 ⟨_,rfl,"set_iterator",_,hT,slot_next.lookup,h⟩
theorem wkz{I a:Addr}{sl nx i n ep:Nat}{v:Value}{Q:Option Value->Shared->Prop}(fh:It s.heap I a (.int sl 0) i n ep)(hs:Stn s.heap a n ep)
  (hN:∀(A':Around) (E':VP9) (R:Option (Value×Nat)->Shared->Prop),R (some (v,nx)) s->wpAny (model prog w) A' (setNext a sl i ep) R E' s)
  (hQ:∀h',It h' I a (.int nx 0) (i+1) n ep->Heap.SameBut I s.heap h'->Q (some v) { s with heap:=h' }):wpAny (model prog w) A (pyNext (.ref I)) Q E s:=by
 obtain⟨o,ho,hc,hd⟩:=fh;obtain⟨os,es,t,fz,au,hf,hn⟩:=hs;have hT:s.TypeIs (.ref I) "set_iterator":=⟨o,ho,hc⟩;unfold pyNext;refine X0 (wpAny_attempt (Yv (name:=Str.ofString "__next__") hT slot_next (Y6 slot_next hT jvt ?_ (jws _))));show wpAny _ _ (fieldsOf (.ref I) >>= _) _ _ s;refine X0 (wpAny_fieldsOf ho hd ?_);show wpAny _ _ (setEntries a >>= _) _ _ s;refine X0 (wpAny_setEntries_of fz au hf ?_);rw[X8 (by rw[hn];simp)];show wpAny _ _ (setNext a ((sl:Int)).toNat ((i:Int)).toNat ((ep:Int)).toNat >>= _) _ _ s;rw[Xy,Xy,Xy];refine X0 (hN _ _ _ ?_);refine X0 (Zd ho hd (by simp) ?_);have jb:=Obj.data_mapFields hd (·.setIfInBounds 0 (rawInt nx));have dv:=Yh (Obj.mapFields (·.setIfInBounds 0 (rawInt nx))) ho (Obj.isFreed_of_fields jb);refine X0 (Zd dv jb (by simp) (X4 ⟨v,rfl,X4 (hQ _ ?_ ((Yx ..).trans (Yx ..)))⟩));have du:=Obj.data_mapFields jb (·.setIfInBounds 1 (rawInt (i+1)));refine⟨_,Yh _ dv (Obj.isFreed_of_fields du),(Obj.cls_mapFields ..).trans ((Obj.cls_mapFields ..).trans hc),?_⟩;rw[du];simp[rawInt]
theorem wky{I a T:Addr}{i n ep:Nat}{v:Value}{pl:List Nat}{p:Nat}{Q:Option Value->Shared->Prop}(fh:It s.heap I a (.ref T) i n ep)(hs:Stn s.heap a n ep)(nr:∃o k,s.heap.get? T=some o/\o.data=.seq (pl.map λ(j:Nat)=>rawInt j).toArray k)
  (hp:pl[i]?=some p)
  (hN:∀(A':Around) (E':VP9) (R:VP9),R v s->wpAny (model prog w) A' (setNextDrawn a p ep) R E' s)
  (hQ:∀h',It h' I a (.ref T) (i+1) n ep->Heap.SameBut I s.heap h'->Q (some v) { s with heap:=h' }):wpAny (model prog w) A (pyNext (.ref I)) Q E s:=by
 obtain⟨o,ho,hc,hd⟩:=fh;obtain⟨os,es,t,fz,au,hf,hn⟩:=hs;obtain⟨oT,kT,hoT,mr⟩:=nr;have hT:s.TypeIs (.ref I) "set_iterator":=⟨o,ho,hc⟩;unfold pyNext;refine X0 (wpAny_attempt (Yv (name:=Str.ofString "__next__") hT slot_next (Y6 slot_next hT jvt ?_ (jws _))));show wpAny _ _ (fieldsOf (.ref I) >>= _) _ _ s;refine X0 (wpAny_fieldsOf ho hd ?_);show wpAny _ _ (setEntries a >>= _) _ _ s;refine X0 (wpAny_setEntries_of fz au hf ?_);rw[X8 (by rw[hn];simp)];show wpAny _ _ (seqItems? (.ref T) >>= _) _ _ s;refine X0 (wpAny_seqItems hoT mr ?_);have hg:(pl.map λ(j:Nat)=>rawInt j).toArray[((i:Int)).toNat]?=some (.int p 0):=by
  rw[Xy,List.getElem?_toArray,Xe,hp];rfl
 dsimp only;rw[hg];show wpAny _ _ (setNextDrawn a ((p:Int)).toNat ((ep:Int)).toNat >>= _) _ _ s;rw[Xy,Xy];refine X0 (hN _ _ _ ?_);have du:=Obj.data_mapFields hd (·.setIfInBounds 1 (rawInt (i+1)));refine X0 (Zd ho hd (by simp) (X4 ⟨v,rfl,X4 (hQ _ ?_ (Yx ..))⟩));refine⟨_,Yh _ ho (Obj.isFreed_of_fields du),(Obj.cls_mapFields ..).trans hc,?_⟩;rw[du];simp[rawInt]
theorem wxc{I a:Addr}{sl i n ep:Nat}{Q:Option Value->Shared->Prop}(hh:A.handled=none)(fh:It s.heap I a (.int sl 0) i n ep)(hs:Stn s.heap a n ep)
  (hN:∀(A':Around) (E':VP9) (R:Option (Value×Nat)->Shared->Prop),R none s->wpAny (model prog w) A' (setNext a sl i ep) R E' s)
  (hQ:∀h',Heap.ExtBut I s.heap h'->Q none { s with heap:=h' }):wpAny (model prog w) A (pyNext (.ref I)) Q E s:=by
 obtain⟨o,ho,hc,hd⟩:=fh;obtain⟨os,es,t,fz,au,hf,hn⟩:=hs;have hT:s.TypeIs (.ref I) "set_iterator":=⟨o,ho,hc⟩;unfold pyNext;refine X0 (wpAny_attempt (Yv (name:=Str.ofString "__next__") hT slot_next (Y6 slot_next hT jvt ?_ (jws _))));show wpAny _ _ (fieldsOf (.ref I) >>= _) _ _ s;refine X0 (wpAny_fieldsOf ho hd ?_);show wpAny _ _ (setEntries a >>= _) _ _ s;refine X0 (wpAny_setEntries_of fz au hf ?_);rw[X8 (by rw[hn];simp)];show wpAny _ _ (setNext a ((sl:Int)).toNat ((i:Int)).toNat ((ep:Int)).toNat >>= _) _ _ s;rw[Xy,Xy,Xy];refine X0 (hN _ _ _ ?_);refine X0 (Zd ho hd (by simp) ?_);show wpAny _ _ (newExc (.type "StopIteration") [] >>= _) _ _ _;refine X0 ?_;simp only[newExc,newTuple];refine X0 (Y1 ?_ (by size_fits));refine X0 (m:=firstArgMember _ _) (wpAny_of_eq (a:=Value.none) (by first|rfl|(simp only[firstArgMember];rfl)) ?_);refine Y1 ?_ (by size_fits);simp only[raiseNew];refine X0 (wpAny_handled ?_);rw[show A.in1.handled=none from hh];refine X0 (X4 (wpAny_throw ?_));refine X0 (wpAny_isInstance (T:="StopIteration") (b:=true) ⟨_,Xg _ rfl,rfl⟩ isSubtype_stop ?_);exact X4 (hQ _ (((Yx ..).extBut.push _).push _))
theorem wxb{I a T:Addr}{i n ep:Nat}{pl:List Nat}{Q:Option Value->Shared->Prop}(hh:A.handled=none)(fh:It s.heap I a (.ref T) i n ep)(hs:Stn s.heap a n ep)(nr:∃o k,s.heap.get? T=some o/\o.data=.seq (pl.map λ(j:Nat)=>rawInt j).toArray k)
  (hp:pl[i]?=none) (hQ:∀h',Heap.ExtBut I s.heap h'->Q none { s with heap:=h' }):wpAny (model prog w) A (pyNext (.ref I)) Q E s:=by
 obtain⟨o,ho,hc,hd⟩:=fh;obtain⟨os,es,t,fz,au,hf,hn⟩:=hs;obtain⟨oT,kT,hoT,mr⟩:=nr;have hT:s.TypeIs (.ref I) "set_iterator":=⟨o,ho,hc⟩;unfold pyNext;refine X0 (wpAny_attempt (Yv (name:=Str.ofString "__next__") hT slot_next (Y6 slot_next hT jvt ?_ (jws _))));show wpAny _ _ (fieldsOf (.ref I) >>= _) _ _ s;refine X0 (wpAny_fieldsOf ho hd ?_);show wpAny _ _ (setEntries a >>= _) _ _ s;refine X0 (wpAny_setEntries_of fz au hf ?_);rw[X8 (by rw[hn];simp)];show wpAny _ _ (seqItems? (.ref T) >>= _) _ _ s;refine X0 (wpAny_seqItems hoT mr ?_);have hg:(pl.map λ(j:Nat)=>rawInt j).toArray[((i:Int)).toNat]?=none:=by
  rw[Xy,List.getElem?_toArray,Xe,hp];rfl
 dsimp only;rw[hg];have jb:=Obj.data_mapFields hd (·.setIfInBounds 0 (rawInt 0));have dv:=Yh (Obj.mapFields (·.setIfInBounds 0 (rawInt 0))) ho (Obj.isFreed_of_fields jb);refine X0 (Zd ho hd (by simp) ?_);refine X0 (Zd dv jb (by simp) ?_);show wpAny _ _ (newExc (.type "StopIteration") [] >>= _) _ _ _;refine X0 ?_;simp only[newExc,newTuple];refine X0 (Y1 ?_ (by size_fits));refine X0 (m:=firstArgMember _ _) (wpAny_of_eq (a:=Value.none) (by first|rfl|(simp only[firstArgMember];rfl)) ?_);refine Y1 ?_ (by size_fits);simp only[raiseNew];refine X0 (wpAny_handled ?_);rw[show A.in1.handled=none from hh];refine X0 (X4 (wpAny_throw ?_));refine X0 (wpAny_isInstance (T:="StopIteration") (b:=true) ⟨_,Xg _ rfl,rfl⟩ isSubtype_stop ?_);exact X4 (hQ _ ((((Yx ..).trans (Yx ..)).extBut.push _).push _))
end
section
variable {prog:Program}{w:World}{A:Around}{E:VP9}{s:Shared}
theorem qkn(hh:A.handled=none)(I a:Addr)(dl:a≠I){o:Obj}{es:Array (Int×Value)}{ep:Nat}{t:SetTable}(hd:o.data=.set es ep t)(hf:t.fits es.size=true){bq:List Value}(hl:bq.length=es.size)(sl:Nat->Nat)
  (hN:∀(i:Nat) (s:Shared) (A':Around) (E':VP9) (R:Option (Value×Nat)->Shared->Prop),s.heap.get? a=some o->i<=es.size->R (bq[i]?.map λv=>(v,sl (i+1))) s->wpAny (model prog w) A' (setNext a (sl i) i ep) R E' s):
  Walks prog w A I [I,a] [I] es.size (λi v=>bq[i]?=some v) (λi h=>It h I a (.int (sl i) 0) i es.size ep/\h.get? a=some o) where
 sub:=λb hb=>by simp at hb;simp[hb]
 frame:=λ_ _ _ st hk=>⟨st.1.at' λo e=>hk I (by simp) o e,hk a (by simp) _ st.2⟩
 item:=λi s Q E hi st hQ=>by
  have hv:bq[i]?=some (bq[i]'⋯):=X2 _;refine wkz (nx:=sl (i+1)) (v:=bq[i]'⋯) st.1 ⟨o,es,t,st.2,hd,hf,rfl⟩ (λA' E' R hR=>hN i s A' E' R st.2 (Nat.le_of_lt hi) (by rw[hv];exact hR)) λh' lu i8=>?_
  exact hQ _ h' s.toks hv ⟨lu,(i8.extBut a o dl st.2)⟩ λb o hb e=>i8.extBut b o (λh=>hb (by simp[h])) e
 done:=λs Q E st hQ=>by
  refine wxc hh st.1 ⟨o,es,t,st.2,hd,hf,rfl⟩ (λA' E' R hR=>hN es.size s A' E' R st.2 (Xa _) (by rw[Yi ⋯];exact hR)) λh' he=>?_
  exact hQ h' s.toks λb o hb e=>he b o (λh=>hb (by simp[h])) e
 self:=λ_ _ _ _ st hQ=>qq5 st.1 hQ
theorem vq8(hh:A.handled=none)(I a T:Addr)(dl:a≠I)(hneT:T≠I){o oT:Obj}{es:Array (Int×Value)}{ep k:Nat}{t:SetTable}(hd:o.data=.set es ep t)(hf:t.fits es.size=true){pl:List Nat}(hp:pl.Perm (List.range es.size))(mr:oT.data=.seq (pl.map λ(j:Nat)=>rawInt j).toArray k):
  Walks prog w A I [I,a,T] [I] es.size (λi v=>(pl.map λj=>(es.getD j (0,.none)).2)[i]?=some v) (λi h=>It h I a (.ref T) i es.size ep/\h.get? a=some o/\h.get? T=some oT) where
 sub:=λb hb=>by simp at hb;simp[hb]
 frame:=λ_ _ _ st hk=>⟨st.1.at' λo e=>hk I (by simp) o e,hk a (by simp) _ st.2.1,hk T (by simp) _ st.2.2⟩
 item:=λi s Q E hi st hQ=>by
  have ag:pl.length=es.size:=by rw[hp.length_eq,Xu]
  have hv:pl[i]?=some (pl[i]'⋯):=X2 _;have b7:pl[i]'⋯<es.size:=List.mem_range.mp (hp.mem_iff.mp (Y2 _));refine wky (p:=pl[i]'⋯) (v:=(es.getD (pl[i]'⋯) (0,.none)).2) st.1 ⟨o,es,t,st.2.1,hd,hf,rfl⟩ ⟨oT,k,st.2.2,mr⟩ hv (λA' E' R hR=>?_) λh' lu i8=>?_
  ·unfold setNextDrawn;refine X0 (Yl st.2.1 hd hf ?_);dsimp only;rw[X8 (by simp),Xj b7];refine X4 ?_;rw[Yu,Xj b7]at hR;exact hR
  ·exact hQ _ h' s.toks (by rw[Xe,hv];rfl) ⟨lu,(i8.extBut a o dl st.2.1),(i8.extBut T oT hneT st.2.2)⟩ λb o hb e=>i8.extBut b o (λh=>hb (by simp[h])) e
 done:=λs Q E st hQ=>by
  have ag:pl.length=es.size:=by rw[hp.length_eq,Xu]
  refine wxb hh st.1 ⟨o,es,t,st.2.1,hd,hf,rfl⟩ ⟨oT,k,st.2.2,mr⟩ (Yi ⋯) λh' he=>?_
  exact hQ h' s.toks λb o hb e=>he b o (λh=>hb (by simp[h])) e
 self:=λ_ _ _ _ st hQ=>qq5 st.1 hQ
theorem qv4(jr:tx w=true){a:Addr}{o:Obj}{es:Array (Int×Value)}{ep:Nat}{t:SetTable}(hd:o.data=.set es ep t)(hf:t.fits es.size=true):
  ∀(i:Nat) (s:Shared) (A':Around) (E':VP9) (R:Option (Value×Nat)->Shared->Prop),s.heap.get? a=some o->i<=es.size->R (((pickOrder (w.params.setOrder a ep) es).toList.map (·.2))[i]?.map λv=>(v,0)) s->wpAny (model prog w) A' (setNext a 0 i ep) R E' s:=by
 intro i s A' E' R ho hi hR;unfold setNext;refine X0 (Yl ho hd hf ?_);unfold setsByText;refine X0 (X0 (Zq (X4 ?_)));show wpAny _ _ (if tx w=true then _ else _) _ _ _;rw[X6 jr];rw[X8 (by simp)];unfold setWalk;refine X0 (X0 (Yl ho hd hf ?_));unfold setsByText;refine X0 (X0 (Zq (X4 ?_)));show wpAny _ _ (if tx w=true then _ else _) _ _ _;rw[X6 jr];refine X0 (Zq (X4 ?_));refine X4 ?_;rw[Xe,Xw,Option.map_map]at hR;exact hR
end
section
variable {prog:Program}{w:World}{A:Around}{E:VP9}{s:Shared}
theorem qwh{t:SetTable}{n:Nat}(h:t.fits n=true):t.place.size=n:=by
 simp only[SetTable.fits,Bool.and_eq_true,beq_iff_eq]at h;exact h.1
theorem qkp{es:Array (Int×Value)}{pl:List Nat}(hp:pl.Perm (List.range es.size)):(pl.map λj=>(es.getD j (0,.none)).2).Perm (es.toList.map (·.2)):=by
 refine(hp.map _).trans (.of_eq ?_);apply List.ext_getElem
 ·simp
 ·intro i h1 h2;simp at h1;simp[Yu,h1]
end
section
variable {prog:Program}{w:World}{A:Around}{E:VP9}{s:Shared}
theorem vwk{a:Addr}{Q:Bool->Shared->Prop}(hT:s.TypeIs (.ref a) "set")(h:Q false s):wpAny (model prog w) A (Builtin.List.listLengthHint (.ref a)) Q E s:=by
 unfold Builtin.List.listLengthHint;refine X0 (Z5 hT F.slot_set_len.lookup ?_);generalize jt:("set.__len__":String)=id0
 wp_delta
 rw[show splitId id0=some ("set","__len__")from by subst jt;decide +kernel];subst jt;refine X0 (wpAny_isInstance (T:="set") (b:=true) hT sub_set_self ?_);refine wpAny_ite_split (λdm=>absurd dm ⋯) (λ_=>?_);refine wpAny_ite_split (λ_=>?_) (λdm=>absurd (by decide +kernel) dm);refine X0 (Zb hT ?_);exact X4 h
end
end Sw
namespace Q
open PySem PySem.Spec PyProof.Rows L2 L3 Sw
section
variable {X:Cx}{Z:Fx0}{K:Frag}{q:Bool}{a:Ex}{e ea:Expr}{σ:L2.St}{H:Hp}{pos p p2 az:Pos}{x y:Str}{pins:LA9}{s:Shared}
theorem Inv.dr{d:Drawn}(I:L2.Inv X pins σ H s):L2.Inv X pins σ H { s with drawn:=d }:=⟨I.ok,I.os,I.bare,I.base,I.loc,I.cell,I.free,I.freeC,I.pin,I.hok,I.len⟩
end
section
variable {X:Cx}{Z:Fx0}{K:Frag}{q:Bool}{a:Ex}{e ea:Expr}{σ:L2.St}{H:Hp}{pos p p2 az:Pos}{x y:Str}{pins:LA9}{s:Shared}
theorem wq6(ns:List Int):∀i,i<=ns.length->firstMet (λi=>ns.getD i 0) i=(ns.take i).foldl step_dedup []
 |0,_=>rfl
 |i+1,h=>by
  rw[firstMet_succ,wq6 ns i (Nat.le_of_succ_le h),List.take_succ,Ze,Xr,X2 h];rfl
end
end Q
namespace Q
open PySem
def Kk(i:Nat)(c:Ex):Sm:=λE=>if J7 E[i]? then ofE (c E) λE x=>match E[i]?,x.2 with
 |some (some (o,.lst xs)),.lst ys=>if o=.no\/x.1=.no\/¬xs.length+ys.length<big then none else some (.nx (E.set i (some (.rt,.lst (xs++ys)))))|_,_=>none
 else none
end Q
namespace Q
open PySem PySem.Spec PyProof.Rows L2 L3
section
variable {X:Cx}{Z:Fx0}{K:Frag}{q:Bool}{a:Ex}{e:Expr}{p2 pos:Pos}
variable {pn:List Nat}{c:Ex}
theorem wj9 {i:Nat} {o:Expr} {am ae:Pos} (hb:PE X (.Call (.Attribute o "extend" am) [e] [] ae) (tBM Z.K "list" qqn (JZ i) (vqg (tQ Z q c) wvm))) (hs:autoParam (swapsWith (.Call (.Attribute o "extend" am) [e] [] ae) none pos.line X.env=pure false) Ŕ):
  QS X Z pn (Kk i c) (.Expr (.Call (.Attribute o "extend" am) [e] [] ae) pos):=JQ (kwk hb hs) λD' σ H ak=>ex7 ak λE L r m w hc k=>by
 unfold Kk at hc;cases h0:E[i]? with
 | none=>rw[h0]at hc;cases hc
 | some s0=>
  cases s0 with
  | none=>rw[h0]at hc;cases hc
  | some s0=>
   obtain ⟨o0,d0⟩:=s0;cases d0 with
   | lst kd=>
    rw [h0,X6 (show J7 (some (some (o0,D.lst kd)))=true from rfl)]at hc;obtain⟨x0,a1,a2,a3,a4⟩:=m.get h0;refine⟨x0.v,a4,qvh (w.ok x0 (ww a1)) a3,?_⟩;refine Qw m w hc k λE1 s h1 x L1 H1 e1 e2 m1 w1 st _=>?_
    cases hE:E1[i]? with
    | none=>rw[hE]at h1;cases h1
    | some s1=>
     cases s1 with
     | none=>rw[hE]at h1;cases h1
     | some s1=>
      obtain⟨oo,dd⟩:=s1;rw [hE]at h1;cases dd with
      | lst ds=>
       obtain⟨so,sd⟩:=s;cases sd with
       | lst ys=>
        dsimp only at h1
        by_cases gz:oo=.no\/so=.no\/¬ds.length+ys.length<big
        ·rw[X6 gz]at h1;cases h1
        ·rw[X8 gz]at h1;cases oq9 h1;have ms:oo≠.no:=λz=>gz (.inl z)
         have qo:so≠.no:=λz=>gz (.inr (.inl z))
         have hn3:ds.length+ys.length<big:=Decidable.byContradiction λz=>gz (.inr (.inr z))
         obtain⟨y,b1,b2,b3,b4⟩:=m1.get hE;have hv:y.v=x0.v:=by rw[a4]at b4;exact(oq9 (oq9 b4)).symm
         obtain⟨l,xs,bs,c1,c2,c3,c4,c5⟩:=kwp (w1.ok y (lc9 _ (ww b1))) b3 (by rw[b2];exact ms);have okx:=w1.head;obtain⟨l2,zs,bs2,g1,g2,g3,g4,g5⟩:=kwp okx e2 (by rw[e1];exact qo);have ex0:x0.v=.ref l:=hv▸c1;rw[ex0];have wT:World Z.K H1 ([some x]++L1):=w1;have oT:j4 [some x]=x.own:=by simp
         have fT:jx [some x]=x.frz:=by simp
         have wk:∀{b:Bool} {ds:List D} {xs:List V} {bs:List Addr},RepA Z.K H1 b ds xs bs->RepA Z.K H1 true ds xs bs:=fun {b} {ds} {xs} {bs} h=>by
          cases b with|true=>exact h|false=>exact h.wk
         have re:=RepA.app (wk g5) (wk c5);refine⟨l,l2,xs,zs,rfl,by rw[g1],c2,g2,?_,?_⟩
         ·have:=(wk c5).len;have:=(wk g5).len;have hb:big=sizeLine:=rfl;omega
         obtain⟨w3,s3⟩:=kwj (o':=.rt) (ds':=ds++ys) (xs':=xs++zs) wT b1 c2 c3 c4 c1 re (.inl ⟨rfl,λa ha=>(aA ha).imp id λz=>by rw[oT,fT];exact Sl.as_of (by rw[g3];exact lc9 _ z)⟩);refine k σ _ _ Pn.refl ?_ w3 (st.trans s3);have:=m1.set (x:=⟨.rt,.lst (ds++ys),y.v,l::(bs++bs2)⟩) i;rw[YQ b4]at this;exact this
       |_=>cases h1
      |_=>obtain⟨so,sd⟩:=s;cases sd<;>cases h1
   |_=>rw[h0]at hc;cases hc
theorem vqv{i:Nat}{x:Str}{am ae xp:Pos}(h:QE X Z q c e)(hN:autoParam (X.N[i]?=some x) Ŕ)(hv:autoParam (Vis X.env.scope x) ř)(hd:autoParam ((x==("__debug__":Str))=false) ŕ)
  (fi:autoParam ((x==("__classdict__":Str))=false) ŕ) (aw:autoParam (attributeBase (.Name x xp) "extend" X.env (eval (.Name x xp) X.env)=eval (.Name x xp) X.env) Ŕ)
  (bi:autoParam (((backTo ae (starEach [e] X.env)).all (λx=>!x.1)&&(backToKw ae (keywordEach [] X.env)).all (λx=>x.1.isSome)
   && decide ([e].length+([]:List Keyword).length+(if([]:List Keyword).isEmpty then 0 else 1)<30))=true) Ŕ)
  (ax:autoParam ((am.endLine==ae.line)=true) Ŕ) (hs:autoParam (starEach [e] X.env=(false,eval e X.env)::starEach [] X.env) Ŕ) (aq:autoParam ((backTo ae (starEach [] X.env)).any (·.1)=false) Ŕ) (hK:autoParam (X.K=Z.K) Ŕ)
  (je:autoParam (swapsWith (.Call (.Attribute (.Name x xp) "extend" am) [e] [] ae) none pos.line X.env=pure false) Ŕ):
  QS X Z pn (Kk i c) (.Expr (.Call (.Attribute (.Name x xp) "extend" am) [e] [] ae) pos):=wj9 (qqy Z.K PySem.F.plainAttrs_list PySem.F.slot_list_extend PySem.F.type_list_extend qv9 (pv i hN hv hd fi) (qQ h vq hs) aw bi ax hs aq hK) je
end
end Q
namespace Q
open PySem
def YY:D->D->Option D:=λy x=>match y with
 |.dct a9=>if wV x=true/\unm a9=true/\D.pures (a9.map (·.2))=true then Jx a9 x else none|_=>none
def wv6(a b:Ex):Ex:=λE=>bnd (a E) λE x=>bnd (b E) λE y=>val E ((YY x.2 y.2).map λd=>(.dp,d))
end Q
namespace Q
open PySem PySem.Spec PyProof.Rows L2 L3
abbrev vz6(K:Frag)(td ty:TE):TE:=fun σ H Q=>td σ H λx H1=>ty σ H1 λy H2=>∃(a b:Addr) (k:Kd) (es:List Ent) (ep:Nat) (v:V) (p:Addr×Value),x=.ref a/\y=.ref b/\H2 a=some (Qk a es ep)/\(es.map (·.1)).Nodup/\(∀x∈es,PuR K H2 x.1.1 (.ref x.2.1))/\PuR K H2 k.1 (.ref b)/\atKey es k=some p/\RelV v p.2/\Q v H2
section
variable {X:Cx}{Z:Fx0}{q qa:Bool}{a b:Ex}{td ty:TE}{o i ea eb:Expr}{pos:Pos}
theorem qzu(hu:X.A.units+64<cLine)(ho:PE X o td)(hi:PE X i ty)(hs:YV i):PE X (.Subscript o i pos) (vz6 X.K td ty):=by
 intro pins s σ H Q I h;refine qkv PySem.F.slot_dict_getitem.lookup hs (thn (ho pins s σ H _ I h) λu s1 ⟨x,H1,I1,rx,q1⟩=>thn (hi pins s1 σ H1 _ I1 q1) λiv s2 ⟨y,H2,I2,ry,a,b,k,es,ep,v,p,ex,ey,d,hn,hks,hk,hp,rv,q2⟩=>?_);subst ex ey;obtain rfl:u=Value.ref a:=rx;obtain rfl:iv=Value.ref b:=ry;have dd:=vkp I2 d hn hks;exact⟨dd.typeIs,wpAny_getItem_heap (qq6 hu) (W1 I2 hk rfl) dd hp ⟨v,H2,I2.tok _,rv,q2⟩⟩
theorem ww3(hu:X.A.units+64<cLine)(ha:QV X Z qa a ea)(hb:QV X Z true b eb)(hs:YV eb)(hK:autoParam (X.K=Z.K) Ŕ):QV X Z qa (wv6 a b) (.Subscript ea eb pos):=
 kz (hK▸qzu hu ha hb hs) fun σ H Q ak=>ex8 ak λE L r m w hc xc k=>by
  refine kK m w (show bnd (a E) _=some r from hc) xc λE1 s h1 x L1 H1 e1 e2 m1 w1 ok fr sr st sm=>?_
  refine kK m1 w1 h1 (xc.step st) λE2 s2 h2 y L2 H2 e3 e4 m2 w2 ef kl kh b9 cj=>?_
  obtain⟨z,hz0,rfl⟩:=vW h2;have kx:=J0 ok fr b9 (cj rfl);obtain⟨d,hz,rfl⟩:=Option.map_eq_some_iff.mp hz0;unfold YY at hz;cases hy:s.2 with
  | dct a9=>
   rw[hy]at hz;dsimp only at hz
   by_cases hc:wV s2.2=true/\unm a9=true/\D.pures (a9.map (·.2))=true
   ·rw[X6 hc]at hz;obtain⟨b,eb,pb⟩:=kjl ef (by rw[e4];exact hc.1);have mw:jq 6 y.d=true:=by
     have:wV y.d=true:=by rw[e4];exact hc.1
     unfold wV at this;rw[Bool.and_eq_true]at this;exact this.1
    have h:=RepO.wk kx.1;rw[e2,hy]at h;unfold RepL at h;obtain⟨l,xs,bs,e,rp,dc,_⟩:=h;obtain⟨es,ep,d1,d2,d3,d4,d5,d6,d7⟩:=DcA.un dc hc.2.1;obtain⟨g1,g2⟩:=qwd (k:=⟨y.d,mw⟩) rp d5 d7 hc.2.2;have hyk:(⟨y.d,mw⟩:Kd).1=s2.2:=e4;cases kr:atKey es ⟨y.d,mw⟩with
    |none=>
     have:=g2 kr;rw[hyk,hz]at this;cases this
    |some p=>
     obtain⟨d',v',q1,q2,q3,q4⟩:=g1 p kr;rw[hyk,hz]at q1;cases oq9 q1;exact⟨l,b,⟨y.d,mw⟩,es,ep,v',p,e,eb,d1,d4,d6,pb,kr,q2,k _ _ rfl ⟨.dp,d,v',[]⟩ L2 H2 rfl rfl m2 w2 q3 (λ_ hb=>nomatch hb) (λ_ hb=>nomatch hb) (st.trans b9) λhq=>jX (sm hq) (cj rfl)⟩
   ·rw[X8 hc]at hz;cases hz
  |_=>rw[hy]at hz;cases hz
end
@[irreducible] noncomputable def ShE (X:Cx) (Z:Fx0) (q:Bool) (c:Ex) (e:Expr):Prop:=QE X Z q c e
@[irreducible] noncomputable def ShA (X:Cx) (Z:Fx0) (q:Bool) (cs:List Ex) (es:List Expr):Prop:=QA X Z q cs es
@[irreducible] noncomputable def ShS (X:Cx) (Z:Fx0) (pn:List Nat) (c:Sm) (st:Stmt):Prop:=QS X Z pn c st
@[irreducible] noncomputable def ShB (X:Cx) (Z:Fx0) (pn:List Nat) (c:Sm) (ss:List Stmt):Prop:=QSs X Z pn c ss
end Q
namespace Q
open PySem
def Vv:D->Option D:=λx=>match zY x with
 |some kv=>some (.int kv.length)|none=>none
end Q
namespace Srt
open PySem PySem.W PyProof.Rows
def Ev(key:Nat->Int)(n:Nat){α:Type}:KasT α->α->Prop
 |.ret a,b=>a=b|.ask i j k,b=>i<n/\j<n/\Ev key n (k (decide (key i<key j))) b
theorem zJ{key:Nat->Int}{n:Nat}{α β:Type}{f:α->KasT β}{a:α}{b:β}:∀{t:KasT α},Ev key n t a->Ev key n (f a) b->Ev key n (t.bind f) b
 |.ret _,h,g=>by
  have h:_=a:=h;subst h;exact g
 |.ask _ _ _,h,g=>⟨h.1,h.2.1,zJ h.2.2 g⟩
section
variable {key:Nat->Int}{n:Nat}
structure Ok (n:Nat)(p:Array Nat):Prop where
 sz:p.size=n
 pm:p.toList.Perm (List.range n)
def K(key:Nat->Int)(p:Array Nat)(k:Nat):Int:=key (p.getD k 0)
theorem Ok.at{p:Array Nat}(h:Ok n p){k:Nat}(hk:k<n):p[k]?=some (p.getD k 0)/\p.getD k 0<n:=by
 have hs:=h.sz;have e:p[k]?=some (p.getD k 0):=by
  rw[Yu,Xj ⋯];rfl
 refine⟨e,?_⟩;have hm:p.getD k 0∈p.toList:=Array.mem_toList_iff.mpr (Array.mem_of_getElem? e);exact List.mem_range.mp (h.pm.mem_iff.mp hm)
variable (ik:∀i j,i<n->j<n->key i=key j->i=j)
include ik
omit ik in
omit ik in
theorem Ok.bubble{p:Array Nat}(h:Ok n p)(k d:Nat):Ok n (bubble p k d):=⟨by rw[bubble_size];exact h.sz,((bubble_perm p k d).toList).trans h.pm⟩
omit ik in
theorem Ok.mirror{p:Array Nat}(h:Ok n p)(i j d:Nat):Ok n (mirror p i j d):=⟨by rw[mirror_size];exact h.sz,((mirror_perm p i j d).toList).trans h.pm⟩
omit ik in
theorem V1{p q:Array Nat}{i j:Nat}(h:p[i]?=q[j]?):K key p i=K key q j:=by
 unfold K;rw[Yu,Yu,h]
end
section
variable {key:Nat->Int}{n:Nat}
def AscW(key:Nat->Int)(p:Array Nat)(m:Nat):Prop:=∀k,k+1<m->K key p k<=K key p (k+1)
def Wk(key:Nat->Int)(p:Array Nat)(m:Nat):Prop:=∀k,k+1<m->K key p (k+1)<=K key p k
theorem AscW.le{p:Array Nat}{m:Nat}(h:AscW key p m):∀{i j:Nat},i<=j->j<m->K key p i<=K key p j
 | i,0,ji,_=>by
  have:i=0:=⋯
  subst this;exact Int.le_refl _
 | i,j+1,ji,hj=>by
  by_cases e:i=j+1
  ·subst e;exact Int.le_refl _
  ·have:=AscW.le h (i:=i) (j:=j) ⋯ ⋯;have:=h j hj;lia
theorem vx8{p:Array Nat}(h:Ok n p):∀(f m:Nat),1<=m->m+f<=n->AscW key p m->∃m',Ev key n (kas_asc p f m) m'/\m<=m'/\m'<=m+f/\AscW key p m'/\(m'<m+f->K key p m'<K key p (m' - 1))
 | 0,m,h1,h2,ha=>⟨m,rfl,Xa _,Xa _,ha,λh=>absurd h ⋯⟩
 | f + 1,m,h1,h2,ha=>by
  have a1:=h.at (k:=m) ⋯;have a2:=h.at (k:=m - 1) ⋯
  by_cases hc:key (p.getD m 0)<key (p.getD (m - 1) 0)
  ·refine⟨m,⟨a1.2,a2.2,?_⟩,Xa _,⋯,ha,λ_=>hc⟩;rw[Xb hc];rfl
  ·obtain⟨m',e1,e2,e3,e4,e5⟩:=vx8 h f (m+1) ⋯ ⋯ (λk hk=>by
    by_cases la:k+1<m
    ·exact ha k la
    ·have e:k=m - 1:=⋯
     subst e;have e':m - 1+1=m:=⋯
     rw[e'];have hc:¬K key p m<K key p (m - 1):=hc;lia)
   refine⟨m',⟨a1.2,a2.2,?_⟩,⋯,⋯,e4,λh=>e5 ⋯⟩;rw[Xi hc];exact e1
theorem kkc{p:Array Nat}{a b:Nat}{c:Int}(hb:b<=p.size)(h:∀i,a<=i->i<b->K key p i=c)(k:Nat):K key (kas_rev p a b) k=K key p k:=by
 have hr:=getElem?_mirror_all (xs:=p) (i:=a) hb k
 by_cases hk:a<=k/\k<b
 ·rw[X6 hk]at hr;have:K key (kas_rev p a b) k=K key p (a+b - 1 - k):=V1 hr;rw[this,h k hk.1 hk.2,h _ ⋯ ⋯]
 ·rw[X8 hk]at hr;exact V1 hr
theorem qj5:∀(f:Nat) {p:Array Nat} (m q:Nat),Ok n p->q+1<=m->m+f<=n->Wk key p m->(∀i,m - (q+1)<=i->i<m->K key p i=K key p (m - 1)) ->
  ∃ p' m' q',Ev key n (kas_desc f p m q) (p',m',q')/\m<=m'/\m'<=m+f/\Ok n p'/\Wk key p' m'/\∀i,m' - (q'+1)<=i->i<m'->K key p' i=K key p' (m' - 1)
 | 0,p,m,q,h,h1,h2,ha,hq=>⟨p,m,q,rfl,Xa _,Xa _,h,ha,hq⟩
 | f + 1,p,m,q,h,h1,h2,ha,hq=>by
  have a1:=h.at (k:=m) ⋯;have a2:=h.at (k:=m - 1) ⋯;have e':m - 1+1=m:=⋯
  by_cases hc:key (p.getD m 0)<key (p.getD (m - 1) 0)
  ·have hd:Wk key p (m+1):=λk hk=>by
    by_cases la:k+1<m
    ·exact ha k la
    ·have e:k=m - 1:=⋯
     subst e;rw[e'];have hc:K key p m<K key p (m - 1):=hc;lia
   have one:∀p':Array Nat,∀i,m+1 - (0+1)<=i->i<m+1->K key p' i=K key p' (m+1 - 1):=λp' i i1 i2=>by
    have:i=m+1 - 1:=⋯
    rw[this]
   by_cases hq0:q>0
   ·have sm:=λk=>kkc (key:=key) (p:=p) (a:=m - (q+1)) (b:=m) (c:=K key p (m - 1)) (by rw[h.sz];lia) hq k
    obtain⟨p',m',q',e1,e2,e3,e4,e5,e6⟩:=qj5 f (m+1) 0 (h.mirror (m - (q+1)) m ((m - (m - (q+1))) / 2)) ⋯ ⋯ (λk hk=>by
     have s1:=sm k;have s2:=sm (k+1);unfold kas_rev at s1 s2;rw[s1,s2];exact hd k hk) (one _)
    refine⟨p',m',q',⟨a1.2,a2.2,?_⟩,⋯,⋯,e4,e5,e6⟩;rw[Xb hc];dsimp only;rw[X6 rfl,X6 hq0];exact e1
   ·obtain⟨p',m',q',e1,e2,e3,e4,e5,e6⟩:=qj5 f (m+1) 0 h ⋯ ⋯ hd (one _);refine⟨p',m',q',⟨a1.2,a2.2,?_⟩,⋯,⋯,e4,e5,e6⟩;rw[Xb hc];dsimp only;rw[X6 rfl,X8 hq0];exact e1
  ·by_cases hd:key (p.getD (m - 1) 0)<key (p.getD m 0)
   ·refine⟨p,m,q,⟨a1.2,a2.2,?_⟩,Xa _,⋯,h,ha,hq⟩;rw[Xi hc];dsimp only;rw[X8 ⋯];refine⟨a2.2,a1.2,?_⟩;rw[Xb hd];rfl
   ·have eq:K key p m=K key p (m - 1):=by
     have hc:¬K key p m<K key p (m - 1):=hc;have hd:¬K key p (m - 1)<K key p m:=hd;lia
    obtain⟨p',m',q',e1,e2,e3,e4,e5,e6⟩:=qj5 f (m+1) (q+1) h ⋯ ⋯ (λk hk=>by
     by_cases la:k+1<m
     ·exact ha k la
     ·have e:k=m - 1:=⋯
      subst e;rw[e',eq];exact Int.le_refl _) (λi i1 i2=>by
     show K key p i=K key p m
     by_cases e:i=m
     ·rw[e]
     ·rw[eq];exact hq i ⋯ ⋯)
    refine⟨p',m',q',⟨a1.2,a2.2,?_⟩,⋯,⋯,e4,e5,e6⟩;rw[Xi hc];dsimp only;rw[X8 ⋯];refine⟨a2.2,a1.2,?_⟩;rw[Xi hd];dsimp only;rw[X8 ⋯];exact e1
theorem kwm{p:Array Nat}(h:Ok n p){k:Nat}(hk:k<n)(ha:AscW key p k):∀(f l r:Nat),l<=r->r<=k->r - l<=f->(∀i,i<l->K key p i<=K key p k)->(∀i,r<=i->i<k->K key p k<=K key p i) ->
  ∃ l',Ev key n (kas_place p k f l r) l'/\l'<=k/\(∀i,i<l'->K key p i<=K key p k)/\∀i,l'<=i->i<k->K key p k<=K key p i
 | 0,l,r,h1,h2,h3,h4,h5=>⟨l,rfl,⋯,h4,λi hi=>h5 i ⋯⟩
 | f + 1,l,r,h1,h2,h3,h4,h5=>by
  by_cases hlr:l>=r
  ·refine⟨l,?_,⋯,h4,λi hi=>h5 i ⋯⟩;unfold kas_place;rw[X6 hlr];rfl
  ·have a1:=h.at hk;have a2:=h.at (k:=(l+r) / 2) ⋯
   by_cases hc:key (p.getD k 0)<key (p.getD ((l+r) / 2) 0)
   ·obtain⟨l',e1,e2,e3,e4⟩:=kwm h hk ha f l ((l+r) / 2) ⋯ ⋯ ⋯ h4 (λi hi hik=>by
     have hc:K key p k<K key p ((l+r) / 2):=hc;have:=ha.le (i:=(l+r) / 2) (j:=i) hi hik;lia)
    refine⟨l',?_,e2,e3,e4⟩;unfold kas_place;rw[X8 hlr];refine⟨a1.2,a2.2,?_⟩;rw[Xb hc];exact e1
   ·obtain⟨l',e1,e2,e3,e4⟩:=kwm h hk ha f ((l+r) / 2+1) r ⋯ ⋯ ⋯ (λi hi=>by
     have hc:¬K key p k<K key p ((l+r) / 2):=hc;have:=ha.le (i:=i) (j:=(l+r) / 2) ⋯ ⋯;lia) h5
    refine⟨l',?_,e2,e3,e4⟩;unfold kas_place;rw[X8 hlr];refine⟨a1.2,a2.2,?_⟩;rw[Xi hc];exact e1
theorem wqp:∀(f:Nat) {p:Array Nat} (k:Nat),Ok n p->1<=k->k+f=n->AscW key p k->∃p',Ev key n (kas_bin f p k) p'/\Ok n p'/\AscW key p' n
 | 0,p,k,h,h1,h2,ha=>⟨p,rfl,h,by rw[<-h2];exact ha⟩
 | f + 1,p,k,h,h1,h2,ha=>by
  obtain⟨l,e1,e2,e3,e4⟩:=kwm h (k:=k) ⋯ ha k 0 k ⋯ ⋯ ⋯ (λi hi=>absurd hi ⋯) (λi hi hk=>absurd hi ⋯);have hb:=λi=>getElem?_bubble (xs:=p) (src:=k) (by rw[h.sz];lia) (k - l) ⋯ i
  have ek:k - (k - l)=l:=⋯
  rw [ek]at hb;obtain⟨p',g1,g2,g3⟩:=wqp f (k+1) (h.bubble k (k - l)) ⋯ ⋯ (λi hi=>by
   have q:∀i,K key (PyProof.Rows.bubble p k (k - l)) i=if i=l then K key p k else if l<i/\i<=k then K key p (i - 1)else K key p i:=λi=>by
    have:=hb i
    by_cases c1:i=l
    ·rw[X6 c1]at this ⊢;exact V1 this
    ·rw[X8 c1]at this ⊢
     by_cases c2:l<i/\i<=k
     ·rw[X6 c2]at this ⊢;exact V1 this
     ·rw[X8 c2]at this ⊢;exact V1 this
   rw [q i,q (i+1)]
   by_cases c1:i+1<l
   ·rw[X8 ⋯,X8 ⋯,X8 ⋯,X8 ⋯];exact ha i ⋯
   ·by_cases c2:i+1=l
    ·rw[X8 ⋯,X8 ⋯,X6 c2];exact e3 i ⋯
    ·by_cases c3:i=l
     ·rw[X6 c3,X8 ⋯,X6 ⋯];exact e4 _ ⋯ ⋯
     ·rw[X8 c3,X6 ⋯,X8 ⋯,X6 ⋯];exact ha.le ⋯ ⋯)
  exact⟨p',zJ e1 g1,g2,g3⟩
theorem vql{p:Array Nat}{q:Nat}(hq:q<=p.size)(hd:Wk key p q):AscW key (kas_rev p 0 q) q:=λk hk=>by
 have hr:=λk=>getElem?_mirror_all (xs:=p) (i:=0) (j:=q) hq k
 have at':∀k,k<q->K key (kas_rev p 0 q) k=K key p (q - 1 - k):=λk hk=>V1 (by
  have:=hr k;rw[X6 ⋯]at this;show _=p[q - 1 - k]?;rw[show q - 1 - k=0+q - 1 - k by lia];exact this)
 rw[at' k ⋯,at' (k+1) hk,show q - 1 - k=q - 1 - (k+1)+1 by lia];exact hd _ ⋯
theorem vkb{p:Array Nat}{m:Nat}(h:Ok n p)(h1:1<=m)(h2:m+1<=n)(hd:Wk key p (m+1)):∃m' p',Ev key n (kas_descPart m n p) (m',p')/\1<=m'/\m'<=n/\Ok n p'/\AscW key p' m':=by
 obtain⟨p',m',q',e1,e2,e3,e4,e5,e6⟩:=qj5 (n - (m+1)) (m+1) 0 h ⋯ ⋯ hd (λi i1 i2=>by
  have:i=m+1 - 1:=⋯
  rw[this])
 have tail:∀p2:Array Nat,Ok n p2->Wk key p2 m'->∃m2 p3,Ev key n (kas_tail3 m' n p2) (m2,p3)/\1<=m2/\m2<=n/\Ok n p3/\AscW key p3 m2:=λp2 ho hd=>by
  have hA:=vql (key:=key) (p:=p2) (q:=m') (by rw[ho.sz];lia) hd;obtain⟨m2,f1,f2,f3,f4,_⟩:=vx8 (ho.mirror 0 m' ((m' - 0) / 2)) (n - m') m' ⋯ ⋯ hA;exact⟨m2,kas_rev p2 0 m',zJ f1 rfl,⋯,⋯,ho.mirror 0 m' ((m' - 0) / 2),f4⟩
 by_cases hq0:q'>0
 ·have sm:=λk=>kkc (key:=key) (p:=p') (a:=m' - (q'+1)) (b:=m') (c:=K key p' (m' - 1)) (by rw[e4.sz];lia) e6 k
  obtain⟨m2,p3,g1,g2⟩:=tail (kas_rev p' (m' - (q'+1)) m') (e4.mirror _ _ _) λk hk=>by rw[sm k,sm (k+1)];exact e5 k hk
  refine⟨m2,p3,zJ e1 ?_,g2⟩;rw[X6 hq0];exact g1
 ·obtain⟨m2,p3,g1,g2⟩:=tail p' e4 e5;refine⟨m2,p3,zJ e1 ?_,g2⟩;rw[X8 hq0];exact g1
theorem vzf(h2:2<=n):∃p,Ev key n (kas_sort n) p/\Ok n p/\AscW key p n:=by
 have h0:Ok n (List.range n).toArray:=⟨by simp,by simp⟩;generalize hp0:(List.range n).toArray=p0 at h0;have cnt:∃m p,Ev key n (kas_count n p0) (m,p)/\1<=m/\m<=n/\Ok n p/\AscW key p m:=by
  obtain⟨m,e1,e2,e3,e4,e5⟩:=vx8 (key:=key) h0 (n - 1) 1 ⋯ ⋯ (λk hk=>absurd hk ⋯)
  by_cases hm:m=n
  ·refine⟨m,_,zJ e1 ?_,e2,⋯,h0,e4⟩;rw [X6 (by rw[hm];simp)];rfl
  ·have gf:¬(m==n)=true:=by simpa using hm
   have b7:=e5 ⋯
   by_cases h1:m>1
   ·by_cases hc:key (p0.getD 0 0)<key (p0.getD (m - 1) 0)
    ·refine⟨m,_,zJ e1 ?_,e2,⋯,h0,e4⟩;rw[X8 gf,X6 h1];refine⟨(h0.at ⋯).2,(h0.at ⋯).2,?_⟩;rw[Xb hc];rfl
    ·have fy:¬K key p0 0<K key p0 (m - 1):=hc;have same:∀i,0<=i->i<m->K key p0 i=K key p0 0:=λi _ hi=>by
      have x1:=e4.le (i:=0) (j:=i) ⋯ hi;have x2:=e4.le (i:=i) (j:=m - 1) ⋯ ⋯;lia
     have sm:=λk=>kkc (key:=key) (p:=p0) (a:=0) (b:=m) (c:=K key p0 0) (by rw[h0.sz];lia) same k
     obtain⟨m',p',g1,g2⟩:=vkb (key:=key) (p:=kas_rev p0 0 m) (m:=m) (h0.mirror _ _ _) ⋯ ⋯ (λk hk=>by
      rw[sm k,sm (k+1)]
      by_cases la:k+1<m
      ·rw[same k ⋯ ⋯,same (k+1) ⋯ la];exact Int.le_refl _
      ·have e:k=m - 1:=⋯
       subst e;rw[show m - 1+1=m by lia];lia)
     refine⟨m',p',zJ e1 ?_,g2⟩;rw[X8 gf,X6 h1];refine⟨(h0.at ⋯).2,(h0.at ⋯).2,?_⟩;rw[Xi hc];dsimp only;rw[X8 ⋯];exact g1
   ·have e:m=1:=⋯
    subst e;obtain⟨m',p',g1,g2⟩:=vkb (key:=key) (p:=p0) (m:=1) h0 ⋯ ⋯ (λk hk=>by
     have:k=0:=⋯
     subst this;exact Int.le_of_lt b7)
    refine⟨m',p',zJ e1 ?_,g2⟩;rw[X8 gf,X8 h1];exact g1
 obtain⟨m,p,e1,e2,e3,e4,e5⟩:=cnt;rw[<-hp0]at e1
 by_cases hm:m<n
 ·obtain⟨p',g1,g2,g3⟩:=wqp (n - m) m e4 e2 ⋯ e5;refine⟨p',zJ e1 ?_,g2,g3⟩;have:max m 1=m:=⋯
  show Ev key n (if m<n then kas_bin (n - max m 1) p (max m 1)else .ret p) p';rw[X6 hm,this];exact g1
 ·refine⟨p,zJ e1 ?_,e4,by rw[show n=m by lia];exact e5⟩;show Ev key n (if m<n then kas_bin (n - max m 1) p (max m 1)else .ret p) p;rw[X8 hm];rfl
end
theorem wqe{key:Nat->Int}{n:Nat}{α:Type}{cmp:Nat->Nat->(Bool->Shared->Prop)->Shared->Prop}{Q:α->Shared->Prop}{a:α}{s:Shared}(hc:∀i j C,i<n->j<n->C (decide (key i<key j)) s->cmp i j C s):
  ∀{t:KasT α},Ev key n t a->Q a s->KasT.kasWp cmp t Q s
 |.ret _,h,g=>by
  have h:_=a:=h;subst h;exact g
 |.ask _ _ _,h,g=>hc _ _ _ h.1 h.2.1 (wqe hc h.2.2 g)
end Srt
namespace Q
open PySem PySem.Spec PyProof.Rows L2 L3
inductive F2 {α β:Type}(R:α->β->Prop):List α->List β->Prop
 |nil:F2 R [] []
 |cons {a:α} {b:β} {l:List α} {m:List β}:R a b->F2 R l m->F2 R (a::l) (b::m)
end Q
namespace Q
open PySem PySem.Spec PyProof.Rows L2 L3 Srt
theorem wqc{α β:Type}{R:α->β->Prop}{f:Nat->α}{g:Nat->β}:∀{p:List Nat},(∀i∈p,R (f i) (g i))->F2 R (p.map f) (p.map g)
 |[],_=>.nil|i::p,h=>.cons (h i X5) (wqc λj hj=>h j (lc9 _ hj))
theorem wqd{α β:Type}{R:α->β->Prop}{l:List α}{m:List β}(h:F2 R l m):l.length=m.length:=by
 induction h with|nil=>rfl|cons _ _ ih=>simp[ih]
theorem kxo:∀(as:List Addr),Vals (as.map V.ref) (as.map Value.ref)
 |[]=>.nil|a::as=>.cons rfl (kxo as)
end Q
namespace Q
open PySem PySem.Spec PyProof.Rows L2 L3
theorem wws{kv:List (Int×Int)}:∀{vs:List (Key×Value)},KV (dkI kv) vs->vs.length=kv.length/\∀(i:Nat) k x,vs[i]?=some (k,x)->∃p,kv[i]?=some p/\k=Sum.inl p.1:=by
 induction kv with
 | nil=>intro vs h;cases h;exact⟨rfl,λi k x h=>by simp at h⟩
 | cons p r ih=>
  intro vs h;cases h with
  | cons h1 h2=>
   obtain⟨g1,g2⟩:=ih h2;refine⟨by simp[g1],λi k x e=>?_⟩;cases i with
   |zero=>
    cases oq9 e;exact⟨p,rfl,h1.1.symm⟩
   |succ i=>exact g2 i k x (by simpa using e)
def vzv:List V->Hp->VK->Prop:=λxs H Q=>∃(a:Addr) (kv:List (Int×Int)),xs=[.ref a]/\H a=some (.dK (dkI kv))/\Q (.int kv.length) H
theorem qx6{X:Cx}:CallR X (.builtin "len") vzv:=by
 intro pins s σ H xs us Q I r h;obtain⟨a,kv,rfl,hH,q⟩:=h;obtain⟨u,rfl,rx⟩:=x8 r;cases rx;obtain⟨hz,lo,vs,dw,o,es,ep,h1,h2,h3,h4,h5,h6⟩:=wqh I.hok hH;have hl:es.size=kv.length:=by
  have:=h5.length;rw[X7,(wws dw).1]at this;exact this
 have hz:kv.length<=sizeLine:=by simpa [dkI]using hz
 exact kjd (n:=kv.length) lo ⟨o,es,ep,h1,h2.1,h3,hl⟩ (by rw[Yr]at hz;lia) ⟨.int kv.length,H,I.tok _,⟨_,rfl⟩,q⟩
theorem vxb{K:Frag}:Ad1 K (λv H Q=>vzv [v] H Q) (pu1 Vv):=by
 intro H x s Q ok hf k;have hf:(Vv x.d).map (λd=>(Own.dp,d))=some s:=hf;unfold Vv at hf;cases hx:zY x.d with
 |none=>rw[hx]at hf;cases hf
 |some kv=>
  rw[hx]at hf;cases oq9 hf;obtain⟨a,ev,hH,_⟩:=qj4 ok hx;exact⟨a,kv,by rw[ev],hH,k ⟨.dp,.int kv.length,.int kv.length,[]⟩ H rfl rfl (jxw (λ_ _ h=>h) xk)⟩
end Q
namespace Tb
open PySem PySem.SetTable
def it{α:Type}(f:α->α):Nat->α->α
 |0,a=>a|n+1,a=>it f n (f a)
theorem K0{α:Type}(f:α->α):∀(m n:Nat) (a:α),it f (m+n) a=it f n (it f m a)
 |0,n,a=>by rw[Nat.zero_add];rfl|m+1,n,a=>by rw[Nat.succ_add];exact K0 f m n (f a)
theorem kkt{α:Type}(f:α->α)(n:Nat)(a:α):it f (n+1) a=f (it f n a):=K0 f n 1 a
def lp(mask:Nat)(q:Nat×Nat):Nat×Nat:=leap mask q.1 q.2
def f5(mask:Nat)(i:Nat):Nat:=(i*5+1) % (mask+1)
theorem vkh(mask:Nat):∀(k:Nat) (q:Nat×Nat),(it (lp mask) k q).2=q.2 / 32 ^ k
 |0,q=>by rw[Nat.pow_zero,Nat.div_one];rfl
 |k+1,q=>by
  show(it (lp mask) k (lp mask q)).2=_;rw[vkh mask k];show q.2 / 32 / 32 ^ k=_;rw[Nat.div_div_eq_div_mul,Nat.pow_succ,Nat.mul_comm]
theorem qvk(mask:Nat):∀(k i:Nat),it (lp mask) k (i,0)=(it (f5 mask) k i,0)
 |0,i=>rfl
 |k+1,i=>by
  show it (lp mask) k (leap mask i 0)=_;have:leap mask i 0=(f5 mask i,0):=by unfold leap f5;simp
  rw[this,qvk mask k];rfl
def vZ(mask:Nat):Prop:=mask=7\/mask=31\/mask=127
def VQ(mask:Nat):Nat->Nat->List Nat
 |0,_=>[]|n+1,i=>i::VQ mask n (f5 mask i)
theorem kqq{mask:Nat}:∀{n i e:Nat},e∈VQ mask n i->∃k,k<n/\it (f5 mask) k i=e
 | n+1,i,e,h=>by
  rcases aD h with rfl|h
  ·exact⟨0,Nat.succ_pos _,rfl⟩
  ·obtain⟨k,hk,e⟩:=kqq h;exact⟨k+1,Nat.succ_lt_succ hk,e⟩
theorem vxs:(List.range 32).all (λe=>(VQ 31 32 0).contains e)=true/\it (f5 31) 32 0=0:=by decide +kernel
theorem wvh:(List.range 8).all (λe=>(VQ 7 8 0).contains e)=true/\it (f5 7) 8 0=0:=by decide +kernel
theorem vq7:(List.range 128).all (λe=>(VQ 127 128 0).contains e)=true/\it (f5 127) 128 0=0:=by decide +kernel
theorem cyc{mask:Nat}(h:(List.range (mask+1)).all (λe=>(VQ mask (mask+1) 0).contains e)=true/\it (f5 mask) (mask+1) 0=0){i e:Nat}(hi:i<=mask)(he:e<=mask):∃k,k<=mask/\it (f5 mask) k i=e:=by
 obtain⟨h1,h2⟩:=h;rw[Y7]at h1;have g:∀e,e<=mask->∃k,k<mask+1/\it (f5 mask) k 0=e:=λe he=>kqq (by simpa using h1 e (List.mem_range.mpr ⋯))
 obtain⟨a,ha,ea⟩:=g i hi;obtain⟨b,hb,eb⟩:=g e he
 by_cases dm:a<=b
 ·refine⟨b - a,⋯,?_⟩;rw[<-ea,<-K0,show a+(b - a)=b by lia];exact eb
 ·refine⟨mask+1 - a+b,⋯,?_⟩;rw[<-ea,<-K0,show a+(mask+1 - a+b)=mask+1+b by lia,K0,h2];exact eb
theorem cyc'{mask:Nat}(hm:vZ mask){i e:Nat}(hi:i<=mask)(he:e<=mask):∃k,k<=mask/\it (f5 mask) k i=e:=by
 rcases hm with rfl|rfl|rfl
 ·exact cyc wvh hi he
 ·exact cyc vxs hi he
 ·exact cyc vq7 hi he
theorem wqm{mask i b e:Nat}(hm:vZ mask)(hi:i<=mask)(hb:b<2 ^ 64)(he:e<=mask):∃k,k<mask+15/\(it (lp mask) k (i,b)).1=e:=by
 have hp:(it (lp mask) 13 (i,b)).2=0:=by
  rw[vkh];exact Nat.div_eq_of_lt (Xn hb ⋯)
 have hl:(it (lp mask) 13 (i,b)).1<=mask:=by
  rw[show(13:Nat)=12+1 from rfl,kkt];show((it (lp mask) 12 (i,b)).1*5+1+(it (lp mask) 12 (i,b)).2 / 32) % (mask+1)<=mask;have:=Nat.mod_lt ((it (lp mask) 12 (i,b)).1*5+1+(it (lp mask) 12 (i,b)).2 / 32) (show 0<mask+1 by lia);lia
 obtain⟨k,hk,e1⟩:=cyc' hm hl he;refine⟨13+k,⋯,?_⟩;rw[K0];have:it (lp mask) 13 (i,b)=((it (lp mask) 13 (i,b)).1,0):=Prod.ext rfl hp;rw[this,qvk];exact e1
def adv(mask:Nat)(p:Probe):Probe:=
 if p.more>0 then { p with j:=p.j+1,more:=p.more - 1 }else { p with j:=(leap mask p.i p.perturb).1,more:=runEnd mask (leap mask p.i p.perturb).1 - (leap mask p.i p.perturb).1,i:=(leap mask p.i p.perturb).1,perturb:=(leap mask p.i p.perturb).2 }
theorem vq2(t:SetTable)(p:Probe):t.advance p=adv t.mask p:=rfl
def rs(mask:Nat)(q:Nat×Nat):Probe:=⟨q.1,runEnd mask q.1 - q.1,q.1,q.2,none⟩
def st0(mask:Nat)(h:Int):Nat×Nat:=(bits h % (mask+1),bits h)
theorem len9(mask i:Nat):runEnd mask i - i<=9:=by unfold runEnd;split<;>lia
theorem kxl(mask:Nat)(q:Nat×Nat):∀r,r<=runEnd mask q.1 - q.1->it (adv mask) r (rs mask q)=⟨q.1+r,runEnd mask q.1 - q.1 - r,q.1,q.2,none⟩
 |0,_=>rfl
 |r+1,h=>by
  rw[kkt,kxl mask q r ⋯];unfold adv;rw[X6 (by show runEnd mask q.1 - q.1 - r>0;lia)];simp only[Probe.mk.injEq,true_and,and_true];lia
theorem kq7(mask:Nat)(q:Nat×Nat):it (adv mask) (runEnd mask q.1 - q.1+1) (rs mask q)=rs mask (lp mask q):=by
 rw[kkt,kxl mask q _ (Xa _)];unfold adv;rw[X8 (by show ¬runEnd mask q.1 - q.1 - (runEnd mask q.1 - q.1)>0;lia)];rfl
theorem vjz(mask:Nat):∀(k:Nat) (q:Nat×Nat),∃s,s<=10*k/\it (adv mask) s (rs mask q)=rs mask (it (lp mask) k q)
 |0,q=>⟨0,Xa _,rfl⟩
 |k+1,q=>by
  obtain⟨s,hs,e⟩:=vjz mask k (lp mask q);refine⟨runEnd mask q.1 - q.1+1+s,by have:=len9 mask q.1;lia,?_⟩;rw[K0,kq7,e];rfl
def jk(mask:Nat)(h:Int)(m:Nat):Nat:=(it (adv mask) m (rs mask (st0 mask h))).j
theorem qxh(h:Int):bits h<2 ^ 64:=by
 unfold bits;have h1:=Y3 h (show(2 ^ 64:Int)≠0 by decide);have h2:=Xx h (show(0:Int)<2 ^ 64 by decide);lia
theorem qqf{mask:Nat}(hm:vZ mask)(h:Int){e:Nat}(he:e<=mask):∃m,m<10*turns mask/\jk mask h m=e:=by
 have hi:(st0 mask h).1<=mask:=by
  have:=Nat.mod_lt (bits h) (show 0<mask+1 by lia);show bits h % (mask+1)<=mask;lia
 obtain⟨k,hk,e1⟩:=wqm hm hi (qxh h) he;obtain⟨s,hs,e2⟩:=vjz mask k (st0 mask h);refine⟨s,by unfold turns;lia,?_⟩;unfold jk;rw[e2];exact e1
theorem wwq{P:Nat->Prop}:∀{N:Nat},(∃m,m<N/\P m)->∃M,M<N/\P M/\∀m,m<M->¬P m:=by
 intro N h;obtain⟨m,hm,hp⟩:=h
 induction m using Nat.strongRecOn with
 | _ m ih=>
  by_cases c:∃m',m'<m/\P m'
  ·obtain⟨m',h1,h2⟩:=c;exact ih m' h1 ⋯ h2
  ·exact⟨m,hm,hp,λm' h1 h2=>c ⟨m',h1,h2⟩⟩
theorem qk2{mask:Nat}{oc:Nat->Prop}(hm:vZ mask)(h:Int)(hf:∃e,e<=mask/\¬oc e):∃M,M<10*turns mask/\¬oc (jk mask h M)/\∀m,m<M->oc (jk mask h m):=by
 obtain⟨e,he,hn⟩:=hf;obtain⟨m,h1,h2⟩:=qqf hm h he;obtain⟨M,a,b,c⟩:=wwq (P:=λm=>¬oc (jk mask h m)) ⟨m,h1,by rw[h2];exact hn⟩;exact⟨M,a,b,λm hm=>Classical.not_not.mp (c m hm)⟩
theorem qqu:∀(N:Nat) (xs:List Nat),xs.length<N->∃j,j<N/\j∉xs
 | 0,_,h=>absurd h ⋯
 | N + 1,xs,h=>by
  by_cases c:N∈xs
  ·have hl:(xs.filter (λx=>x != N)).length<N:=by
    have:(xs.filter (λx=>x != N)).length<xs.length:=by
     refine List.length_filter_lt_length_iff_exists.mpr ⟨N,c,by simp⟩
    lia
   obtain⟨j,h1,h2⟩:=qqu N _ hl;refine⟨j,⋯,λz=>h2 (List.mem_filter.mpr ⟨z,?_⟩)⟩;simp;lia
  ·exact⟨N,⋯,c⟩
theorem kvd{mask:Nat}{owner:Array (Option Nat)}:∀{fuel:Nat} {q:Nat×Nat} {j:Nat},layClean.free mask owner fuel q.1 q.2=some j ->
  ∃ m,(it (adv mask) m (rs mask q)).j=j/\(owner.getD j (some 0)).isNone=true/\∀m',m'<m->(owner.getD (it (adv mask) m' (rs mask q)).j (some 0)).isNone=false
 | 0,q,j,h=>by cases h
 | fuel+1,q,j,h=>by
  unfold layClean.free at h;have run:∀r,r<=runEnd mask q.1 - q.1->(it (adv mask) r (rs mask q)).j=q.1+r:=λr hr=>by rw[kxl mask q r hr]
  have pd:runEnd mask q.1+1 - q.1=runEnd mask q.1 - q.1+1:=by
   have:q.1<=runEnd mask q.1:=by unfold runEnd;split<;>lia
   lia
  split at h
  ·rename_i k hk;cases oq9 h;obtain⟨h1,as,bs,h2,h3⟩:=List.find?_eq_some_iff_append.mp hk;have la:k<runEnd mask q.1 - q.1+1:=by
    have:k∈List.range (runEnd mask q.1+1 - q.1):=List.mem_of_find?_eq_some hk;rw[pd]at this;exact List.mem_range.mp this
   refine⟨k,run k ⋯,h1,λm' gf=>?_⟩;rw[run m' ⋯];have hl:as.length=k:=by
    have e:(List.range (runEnd mask q.1+1 - q.1))[as.length]?=(as++k::bs)[as.length]?:=by rw[h2]
    rw[List.getElem?_append_right (Xa _),Nat.sub_self,List.getElem?_cons_zero]at e;have b7:as.length<runEnd mask q.1+1 - q.1:=by
     have:=congrArg List.length h2;rw[Xu,Xp,Xk]at this;lia
    rw[List.getElem?_range b7]at e;exact oq9 e
   have hm:m'∈as:=by
    have e:(List.range (runEnd mask q.1+1 - q.1))[m']?=(as++k::bs)[m']?:=by rw[h2]
    rw[Ym ⋯,List.getElem?_range ⋯]at e;exact Xv e.symm
   exact Bool.eq_false_iff.mpr λz=>by
    have:=h3 m' hm;rw[z]at this;cases this
  ·rename_i hk;rw[List.find?_eq_none]at hk;have h:layClean.free mask owner fuel (lp mask q).1 (lp mask q).2=some j:=h;obtain⟨m,h1,h2,h3⟩:=kvd h;refine⟨runEnd mask q.1 - q.1+1+m,by rw[K0,kq7];exact h1,h2,λm' gf=>?_⟩
   by_cases c:m'<runEnd mask q.1 - q.1+1
   ·rw[run m' ⋯];exact Bool.eq_false_iff.mpr (hk m' (List.mem_range.mpr ⋯))
   ·have:=h3 (m' - (runEnd mask q.1 - q.1+1)) ⋯;rw[<-kq7,<-K0,show runEnd mask q.1 - q.1+1+(m' - (runEnd mask q.1 - q.1+1))=m' by lia]at this;exact this
theorem kve{mask:Nat}{owner:Array (Option Nat)}:∀{fuel:Nat} {q:Nat×Nat},layClean.free mask owner fuel q.1 q.2=none->∀k,k<fuel->(owner.getD (it (lp mask) k q).1 (some 0)).isNone=false
 | fuel+1,q,h,k,hk=>by
  unfold layClean.free at h
  split at h
  ·cases h
  ·rename_i hn;rw[List.find?_eq_none]at hn;have h:layClean.free mask owner fuel (lp mask q).1 (lp mask q).2=none:=h;cases k with
   | zero=>
    have pd:0<runEnd mask q.1+1 - q.1:=by
     have:q.1<=runEnd mask q.1:=by unfold runEnd;split<;>lia
     lia
    exact Bool.eq_false_iff.mpr (hn 0 (List.mem_range.mpr pd))
   |succ k=>exact kve h k ⋯
theorem vwl{mask:Nat}{owner:Array (Option Nat)}(hm:vZ mask)(h:Int)(hf:∃e,e<=mask/\(owner.getD e (some 0)).isNone=true):
  ∃j m,layClean.free mask owner (turns mask) (bits h % (mask+1)) (bits h)=some j/\jk mask h m=j/\(owner.getD j (some 0)).isNone=true/\∀m',m'<m->(owner.getD (jk mask h m') (some 0)).isNone=false:=by
 cases hj:layClean.free mask owner (turns mask) (bits h % (mask+1)) (bits h)with
 | none=>
  obtain⟨e,he,hn⟩:=hf;have hi:bits h % (mask+1)<=mask:=by
   have:=Nat.mod_lt (bits h) (show 0<mask+1 by lia);lia
  obtain⟨k,hk,e1⟩:=wqm hm hi (qxh h) he;have:=kve (q:=(bits h % (mask+1),bits h)) hj k (by unfold turns;lia);rw[e1,hn]at this;cases this
 |some j=>
  obtain⟨m,h1,h2,h3⟩:=kvd (q:=(bits h % (mask+1),bits h)) hj;exact⟨j,m,rfl,h1,h2,h3⟩
theorem kq5(xs:Array Nat)(j:Nat)(hp:xs.toList.Pairwise (· < ·)):∀(fuel lo hi:Nat),lo<=hi->hi<=xs.size->hi - lo<=fuel->(∀i (h:i<xs.size),i<lo->xs[i]<j)->(∀i (h:i<xs.size),hi<=i->j<=xs[i]) ->
  below.go xs j fuel lo hi<=xs.size/\(∀i (h:i<xs.size),i<below.go xs j fuel lo hi->xs[i]<j)/\(∀i (h:i<xs.size),below.go xs j fuel lo hi<=i->j<=xs[i])
 | 0,lo,hi,h1,h2,h3,h4,h5=>by
  have:lo=hi:=⋯
  subst this;exact⟨h2,h4,h5⟩
 | fuel+1,lo,hi,h1,h2,h3,h4,h5=>by
  unfold below.go
  by_cases hl:lo<hi
  ·rw[X6 hl];dsimp only;have hm:(lo+hi) / 2<xs.size:=⋯
   have mono:∀i k (hi:i<xs.size) (hk:k<xs.size),i<k->xs[i]<xs[k]:=λi k hi hk hik=>by
    have:=List.pairwise_iff_getElem.mp hp i k (by simpa using hi) (by simpa using hk) hik
    simpa using this
   by_cases hc:xs.getD ((lo+hi) / 2) j<j
   ·rw[X6 hc];have fy:xs[(lo+hi) / 2]<j:=by simpa [Array.getD,hm]using hc
    refine kq5 xs j hp fuel _ hi ⋯ h2 ⋯ (λi h i6=>?_) h5
    by_cases e:i=(lo+hi) / 2
    ·subst e;exact fy
    ·have:=mono i ((lo+hi) / 2) h hm ⋯;lia
   ·rw[X8 hc];have fy:j<=xs[(lo+hi) / 2]:=by
     have:¬xs[(lo+hi) / 2]<j:=by simpa [Array.getD,hm]using hc
     lia
    refine kq5 xs j hp fuel lo _ ⋯ ⋯ ⋯ h4 (λi h i6=>?_)
    by_cases e:i=(lo+hi) / 2
    ·subst e;exact fy
    ·have:=mono ((lo+hi) / 2) i hm h ⋯;lia
  ·rw[X8 hl];have:lo=hi:=⋯
   subst this;exact⟨h2,h4,h5⟩
theorem kq4{xs:Array Nat}(j:Nat)(hp:xs.toList.Pairwise (· < ·)):below xs j<=xs.size/\(∀i (h:i<xs.size),i<below xs j->xs[i]<j)/\(∀i (h:i<xs.size),below xs j<=i->j<=xs[i]):=
 kq5 xs j hp xs.size 0 xs.size ⋯ (Xa _) ⋯ (λi _ h=>absurd h ⋯) (λi h hi=>absurd h ⋯)
theorem qq0{t:SetTable}(hp:t.place.toList.Pairwise (· < ·))(hd:t.dummies=#[])(j:Nat):(∃i,t.slot j=.live i/\t.place[i]?=some j)\/(t.slot j=.empty/\j∉t.place.toList):=by
 unfold slot;dsimp only
 by_cases h:(t.place[below t.place j]? == some j)=true
 ·rw [X6 h];exact .inl ⟨_,rfl,by simpa using h⟩
 ·rw [X8 h,hd];have:has #[] j=false:=by
   unfold has;simp
  rw [this,X8 ⋯];refine .inr ⟨rfl,λhj=>h ?_⟩;obtain⟨i,hi,e⟩:=List.mem_iff_getElem.mp hj;have hi:i<t.place.size:=by simpa using hi
  have e:t.place[i]=j:=by simpa using e
  obtain⟨b1,b2,b3⟩:=kq4 j hp;have hb:below t.place j=i:=by
   by_cases c:i<below t.place j
   ·have:=b2 i hi c;lia
   ·by_cases c2:below t.place j<i
    ·have h1:=b3 (below t.place j) ⋯ (Xa _);have h2:=List.pairwise_iff_getElem.mp hp (below t.place j) i (by simp;lia) (by simpa using hi) c2;have h2:t.place[below t.place j]<t.place[i]:=by simpa using h2
     lia
    ·lia
  rw[hb,Xj hi,e];simp
theorem WV{α:Type}(xs:Array α)(p:Nat)(x:α):(insertAt xs p x).toList=xs.toList.take p++x::xs.toList.drop p:=by
 unfold insertAt;simp[Array.toList_extract,List.extract_eq_drop_take];exact Zh (by simp)
theorem kkv{α:Type}(xs:List α)(p:Nat)(x:α):(xs.take p++x::xs.drop p).Perm (x::xs):=by
 refine List.perm_middle.trans (.of_eq ?_);rw[Z9]
theorem wq2{xs:Array Nat}{j:Nat}(hp:xs.toList.Pairwise (· < ·))(hj:j∉xs.toList):(insertAt xs (below xs j) j).toList.Pairwise (· < ·):=by
 rw[WV];obtain⟨b1,b2,b3⟩:=kq4 j hp;have h1:∀a∈xs.toList.take (below xs j),a<j:=λa ha=>by
  obtain⟨i,hi,rfl⟩:=List.mem_iff_getElem.mp ha;rw[Y5]at hi;have:=b2 i (by simp at hi;lia) ⋯
  simpa using this
 have h2:∀a∈xs.toList.drop (below xs j),j<a:=λa ha=>by
  have hm:a∈xs.toList:=List.mem_of_mem_drop ha;obtain⟨i,hi,rfl⟩:=List.mem_iff_getElem.mp ha;rw[Zj]at hi;have:=b3 (below xs j+i) (by simp at hi;lia) ⋯;have e:(xs.toList.drop (below xs j))[i]=xs[below xs j+i]'(by simp at hi;lia):=by simp
  rw[e]at hm ⊢;have:j≠xs[below xs j+i]'(by simp at hi;lia):=λz=>hj (by rw[z];exact hm)
  lia
 refine List.pairwise_append.mpr ⟨hp.sublist (List.take_sublist _ _),List.pairwise_cons.mpr ⟨h2,hp.sublist (List.drop_sublist _ _)⟩,λa ha b hb=>?_⟩;rcases aD hb with rfl|hb
 ·exact h1 a ha
 ·exact Nat.lt_trans (h1 a ha) (h2 b hb)
theorem vwd{α β:Type}{xs:List α}{ys:List β}(p:Nat)(x:α)(y:β)(hl:xs.length=ys.length):((xs.take p++x::xs.drop p).zip (ys.take p++y::ys.drop p)).Perm ((x,y)::xs.zip ys):=by
 have hz:(xs.take p++x::xs.drop p).zip (ys.take p++y::ys.drop p)=(xs.zip ys).take p++(x,y)::(xs.zip ys).drop p:=by
  rw[List.zip_append (by rw[Y5,Y5,hl]),List.zip_cons_cons];unfold List.zip;rw[List.take_zipWith,List.drop_zipWith]
 rw[hz];exact kkv _ p _
abbrev Ent:=Int×Value
def Z(t:SetTable)(es:Array Ent):List (Nat×Ent):=t.place.toList.zip es.toList
structure TOk (t:SetTable)(es:Array Ent):Prop where
 m:vZ t.mask
 d:t.dummies=#[]
 sz:t.place.size=es.size
 pw:t.place.toList.Pairwise (· < ·)
 le:∀j∈t.place.toList,j<=t.mask
 few:es.size*5<t.mask*3
 good:∀z∈Z t es,∃m,jk t.mask z.2.1 m=z.1/\∀m',m'<m->jk t.mask z.2.1 m'∈t.place.toList
theorem TOk.empty{t:SetTable}{es:Array Ent}(h:TOk t es):∃e,e<=t.mask/\¬e∈t.place.toList:=by
 have hs:t.place.toList.length<t.mask+1:=by
  rw[X7,h.sz];have:=h.few;lia
 obtain⟨j,h1,h2⟩:=qqu _ _ hs;exact⟨j,⋯,h2⟩
def pr(mask:Nat)(h:Int)(m:Nat):Probe:=it (adv mask) m (rs mask (st0 mask h))
theorem kkf(mask:Nat)(h:Int)(m:Nat):adv mask (pr mask h m)=pr mask h (m+1):=(kkt _ _ _).symm
theorem kzc(mask:Nat)(h:Int):∀m,(pr mask h m).dummy=none
 |0=>rfl
 |m+1=>by
  rw[<-kkf];have:=kzc mask h m;unfold adv
  split<;>exact this
theorem kzb{t:SetTable}{es:Array Ent}(ok:TOk t es){g:Nat->Int}{h:Int}{M:Nat}(hM:jk t.mask h M∉t.place.toList)(hb:∀m,m<M->jk t.mask h m∈t.place.toList):
  ∀ (F m:Nat),m<=M->M - m<F ->
   (probe.go t g h F (pr t.mask h m)=some (.empty (jk t.mask h M) none)/\∀m' i,m<=m'->m'<M->t.place[i]?=some (jk t.mask h m')->g i≠h) \/
   ∃ m' i,m<=m'/\m'<M/\t.place[i]?=some (jk t.mask h m')/\g i=h/\probe.go t g h F (pr t.mask h m)=some (.candidate (jk t.mask h m') i (pr t.mask h (m'+1)))/\∀iy i',m<=iy->iy<m'->t.place[i']?=some (jk t.mask h iy)->g i'≠h
 | 0,m,_,h2=>absurd h2 ⋯
 | F + 1,m,h1,h2=>by
  have hj:(pr t.mask h m).j=jk t.mask h m:=rfl;unfold probe.go;rw [hj];rcases qq0 ok.pw ok.d (jk t.mask h m)with⟨i,e1,e2⟩|⟨e1,e2⟩
  ·rw [e1];dsimp only;have hmM:m<M:=by
    rcases Nat.lt_or_ge m M with c|c
    ·exact c
    ·have:m=M:=⋯
     subst this;exact absurd (Xv (by rw[Xw];exact e2)) hM
   have uni:∀i',t.place[i']?=some (jk t.mask h m)->i'=i:=λi' e3=>by
    have nd:t.place.toList.Nodup:=ok.pw.imp λh=>Xl h
    have i6:=(Array.getElem?_eq_some_iff.mp e3).1;refine(List.getElem?_inj (by simpa using i6) nd).mp ?_;rw[Xw,Xw,e3,e2]
   by_cases hg:g i=h
   ·rw[X6 (by simpa using hg),vq2,kkf];exact .inr ⟨m,i,Xa _,hmM,e2,hg,rfl,λiy i' a b=>absurd a ⋯⟩
   ·rw[X8 (by simpa using hg),vq2,kkf];rcases kzb ok hM hb F (m+1) ⋯ ⋯with⟨q1,q2⟩|⟨m',i',q1,q2,q3,q4,q5,q6⟩
    ·refine .inl ⟨q1,λm' i' a b c=>?_⟩
     by_cases e:m'=m
     ·subst e;rw[uni i' c];exact hg
     ·exact q2 m' i' ⋯ b c
    ·refine .inr ⟨m',i',⋯,q2,q3,q4,q5,λiy i'' a b c=>?_⟩
     by_cases e:iy=m
     ·subst e;rw[uni i'' c];exact hg
     ·exact q6 iy i'' ⋯ b c
  ·rw[e1];dsimp only;have hmM:m=M:=by
    rcases Nat.lt_or_ge m M with c|c
    ·exact absurd (hb m c) e2
    ·lia
   subst hmM;rw[kzc];exact .inl ⟨rfl,λm' i a b=>absurd a ⋯⟩
theorem wjm(mask:Nat)(h:Int):∀m,(pr mask h m).j+(pr mask h m).more<=mask
 | 0=>by
  show bits h % (mask+1)+(runEnd mask (bits h % (mask+1)) - bits h % (mask+1))<=mask;have:=Nat.mod_lt (bits h) (show 0<mask+1 by lia);unfold runEnd
  split<;>lia
 | m+1=>by
  have ih:=wjm mask h m;rw[<-kkf];unfold adv
  split
  ·show(pr mask h m).j+1+((pr mask h m).more - 1)<=mask;lia
  ·show(leap mask (pr mask h m).i (pr mask h m).perturb).1+(runEnd mask (leap mask (pr mask h m).i (pr mask h m).perturb).1 - (leap mask (pr mask h m).i (pr mask h m).perturb).1)<=mask;have:(leap mask (pr mask h m).i (pr mask h m).perturb).1<=mask:=by
    unfold leap;have:=Nat.mod_lt ((pr mask h m).i*5+1+(pr mask h m).perturb / 32) (show 0<mask+1 by lia);show((pr mask h m).i*5+1+(pr mask h m).perturb / 32) % (mask+1)<=mask;lia
   unfold runEnd
   split<;>lia
theorem kwn(mask:Nat)(h:Int)(m:Nat):jk mask h m<=mask:=by
 have:=wjm mask h m;have e:jk mask h m=(pr mask h m).j:=rfl;lia
structure OInv (mask:Nat)(hs:List Int)(owner:Array (Option Nat))(xs:List Nat):Prop where
 sz:owner.size=mask+1
 iff:∀(j k:Nat),owner[j]?=some (some k)↔xs[k]?=some j
 good:∀(k j:Nat),xs[k]?=some j->∃m,jk mask (hs.getD k 0) m=j/\∀m',m'<m->jk mask (hs.getD k 0) m'∈xs
theorem qzv{mask:Nat}{hs:List Int}{owner:Array (Option Nat)}{xs:List Nat}(hm:vZ mask)(o:OInv mask hs owner xs)(hl:xs.length<mask)(h:Int)(hh:hs.getD xs.length 0=h):
  ∃ j,layClean.free mask owner (turns mask) (bits h % (mask+1)) (bits h)=some j/\OInv mask hs (owner.setIfInBounds j (some xs.length)) (xs++[j]):=by
 have oz:∀j,j<=mask->(owner.getD j (some 0)).isNone=false->j∈xs:=λj hj hn=>by
  have jd:j<owner.size:=by rw[o.sz];lia
  cases e:owner[j]with
  | none=>simp[Array.getD,jd,e]at hn
  | some k=>
   have:=(o.iff j k).mp (by rw[Xj jd,e]);exact Xv this
 have hf:∃e,e<=mask/\(owner.getD e (some 0)).isNone=true:=by
  obtain⟨j,h1,h2⟩:=qqu (mask+1) xs ⋯;refine⟨j,⋯,?_⟩;cases hn:(owner.getD j (some 0)).isNone with| true=>rfl| false=>exact absurd (oz j ⋯ hn) h2
 obtain⟨j,m,h1,h2,h3,h4⟩:=vwl hm h hf;have hj:j<=mask:=by rw[<-h2];exact kwn mask h m
 have jd:j<owner.size:=by rw[o.sz];lia
 have hjn:owner[j]?=some none:=by
  rw [Xj jd];simp[Array.getD,jd]at h3;rw [h3]
 have hjx:j∉xs:=λz=>by
  obtain⟨k,hk⟩:=List.mem_iff_getElem?.mp z;rw [(o.iff j k).mpr hk]at hjn;cases hjn
 refine⟨j,h1,⟨by rw[Array.size_setIfInBounds];exact o.sz,λj' k=>?_,λk j' e=>?_⟩⟩
 ·rw [Array.getElem?_setIfInBounds]
  by_cases c:j=j'
  ·subst c;rw [X6 rfl,X6 jd];constructor
   ·intro e;have:xs.length=k:=by simpa using e
    subst this;simp
   ·intro e
    by_cases ck:k<xs.length
    ·rw[Ym ck]at e;exact absurd (Xv e) hjx
    ·have:k=xs.length:=by
      have:=(List.getElem?_eq_some_iff.mp e).1;simp at this;lia
     rw[this]
  ·rw [X8 c,o.iff];constructor
   ·intro e;rw[Ym (List.getElem?_eq_some_iff.mp e).1];exact e
   ·intro e
    by_cases ck:k<xs.length
    ·rw[Ym ck]at e;exact e
    ·have:k=xs.length:=by
      have:=(List.getElem?_eq_some_iff.mp e).1;simp at this;lia
     subst this;have:j=j':=by simpa using e
     exact absurd this c
 ·by_cases ck:k<xs.length
  ·rw[Ym ck]at e;obtain⟨m,g1,g2⟩:=o.good k j' e;exact⟨m,g1,λm' gf=>ll9 _ (g2 m' gf)⟩
  ·have:k=xs.length:=by
    have:=(List.getElem?_eq_some_iff.mp e).1;simp at this;lia
   subst this;have:j=j':=by simpa using e
   subst this;rw[hh];exact⟨m,h2,λm' gf=>ll9 _ (oz _ (kwn mask h m') (h4 m' gf))⟩
theorem kzs{mask:Nat}{hs:List Int}(hm:vZ mask)(hl:hs.length<=mask):∀(ab done:List Int) (owner:Array (Option Nat)) (xs:List Nat),hs=done++ab->xs.length=done.length->OInv mask hs owner xs ->
  ∃f9 xs',ab.foldl (λaa h=>do
   let (owner,k) <-aa
   let j <-layClean.free mask owner (turns mask) (bits h % (mask+1)) (bits h)
   pure (owner.setIfInBounds j (some k),k+1)) (some (owner,xs.length))=some (f9,hs.length)/\xs'.length=hs.length/\OInv mask hs f9 xs'
 |[],done,owner,xs,h1,h2,o=>by
  rw[Xq]at h1;subst h1;exact⟨owner,xs,by rw[h2];rfl,h2,o⟩
 |h::ab,done,owner,xs,h1,h2,o=>by
  have ag:hs.length=done.length+(ab.length+1):=by rw[h1];simp
  obtain⟨j,e1,e2⟩:=qzv hm o ⋯ h (by rw[h1,h2];simp);obtain⟨f9,xs',f1,f2,f3⟩:=kzs hm hl ab (done++[h]) _ (xs++[j]) (by rw[h1];simp) (by simp[h2]) e2;refine⟨f9,xs',?_,f2,f3⟩;rw[Z0];rw[Xp]at f1;rw[<-f1]
  congr 1
  show(layClean.free mask owner (turns mask) (bits h % (mask+1)) (bits h)).bind _=_;rw[e1];rfl
theorem wkl{mask:Nat}{hs:Array Int}(hm:vZ mask)(hl:hs.size<=mask):∃owner xs,layClean mask hs=some owner/\xs.length=hs.size/\OInv mask hs.toList owner xs:=by
 obtain⟨owner,xs,h1,h2,h3⟩:=kzs (hs:=hs.toList) hm (by simpa using hl) hs.toList [] (Array.replicate (mask+1) none) [] rfl rfl
  ⟨by simp,λj k=>by simp[Array.getElem?_replicate],λk j e=>by simp at e⟩
 refine⟨owner,xs,?_,by simpa using h2,h3⟩;unfold layClean;rw[<-Array.foldl_toList,show(some (Array.replicate (mask+1) none,0):Option (Array (Option Nat)×Nat))=some (Array.replicate (mask+1) none,([]:List Nat).length)from rfl];refine Eq.trans (congrArg (Option.map _) h1) ?_;rfl
theorem rng_getD{α:Type}(l:List α)(d:α):(List.range l.length).map (λi=>l.getD i d)=l:=by
 refine List.ext_getElem? λi=>?_
 by_cases hi:i<l.length
 ·simp[hi]
 ·simp[Nat.le_of_not_lt hi]
def qX(mask:Nat)(owner:Array (Option Nat)):List (Nat×Nat):=(List.range (mask+1)).filterMap λj=>(owner.getD j none).map (j,·)
theorem kzq{mask:Nat}{owner:Array (Option Nat)}(hs:owner.size=mask+1){j k:Nat}:(j,k)∈qX mask owner↔owner[j]?=some (some k):=by
 unfold qX;rw[List.mem_filterMap];constructor
 ·rintro ⟨j',h1,h2⟩;have h1:j'<owner.size:=by rw[hs];exact List.mem_range.mp h1
  cases e:owner.getD j' none with
  |none=>rw[e]at h2;cases h2
  |some k'=>
   rw[e]at h2;have h2:(j',k')=(j,k):=by simpa using h2
   cases h2;rw[Xj h1];simp[Array.getD,h1]at e;rw[e]
 ·intro h;have hj:=(Array.getElem?_eq_some_iff.mp h).1;refine⟨j,List.mem_range.mpr (by rw[<-hs];exact hj),?_⟩;have:owner.getD j none=some k:=by
   rw[Xj hj]at h;simp[Array.getD,hj];exact oq9 h
  rw[this];rfl
theorem kx3(owner:Array (Option Nat)):∀l:List Nat,l.Pairwise (· < ·)->((l.filterMap λj=>(owner.getD j none).map (j,·)).map (·.1)).Pairwise (· < ·)
 | [],_=>.nil
 | j :: l,h=>by
  obtain⟨h1,h2⟩:=List.pairwise_cons.mp h;rw [List.filterMap_cons]
  split
  ·exact kx3 owner l h2
  ·rename_i b hb;rw[List.map_cons];refine List.pairwise_cons.mpr ⟨λa ha=>?_,kx3 owner l h2⟩;obtain⟨p,hp,rfl⟩:=aE ha;obtain⟨j',jd,e⟩:=List.mem_filterMap.mp hp;cases e1:owner.getD j none with
   | none=>rw[e1]at hb;cases hb
   | some k=>
    rw[e1]at hb;cases oq9 hb;cases e2:owner.getD j' none with
    |none=>rw[e2]at e;cases e
    |some k'=>
     rw[e2]at e;cases oq9 e;exact h1 j' jd
theorem vvs{l:List Nat}{n:Nat}(h:l.Nodup)(hm:∀k,k∈l↔k<n):l.Perm (List.range n):=by
 refine(List.perm_ext_iff_of_nodup h List.nodup_range).mpr λk=>?_
 rw[hm,List.mem_range]
theorem vw8{mask:Nat}{es:Array Ent}(hm:vZ mask)(hl:es.size*5<mask*3)(fg mv:Nat)(led plain:Bool):
  ∃ t2 cb,laid mask fg mv led plain (es.map (·.1))=some (t2,cb)/\t2.led=led/\t2.plain=plain/\(cb.filterMap (es[·]?)).toList.Perm es.toList/\TOk t2 (cb.filterMap (es[·]?)):=by
 obtain⟨owner,xs,h1,h2,o⟩:=wkl (hs:=es.map (·.1)) hm (by rw[Array.size_map];lia);rw [Array.size_map]at h2;refine⟨_,_,by unfold laid;rw[h1];rfl,rfl,rfl,?_⟩;have hL:(List.range (mask+1)).filterMap (λj=>(owner.getD j none).map (j,·))=qX mask owner:=rfl;rw [hL];have mem:∀j k,(j,k)∈qX mask owner↔xs[k]?=some j:=λj k=>(kzq o.sz).trans (o.iff j k)
 have pw:((qX mask owner).map (·.1)).Pairwise (· < ·):=kx3 owner _ List.pairwise_lt_range;have nd2:((qX mask owner).map (·.2)).Nodup:=by
  rw[List.Nodup,Yc];rw[Yc]at pw;refine List.Pairwise.imp_of_mem (fun {p q} hp hq lt e=>?_) pw;obtain⟨j,k⟩:=p;obtain⟨j',k'⟩:=q;have e:k=k':=e;subst e;have a:=(mem j k).mp hp;have b:=(mem j' k).mp hq;rw[a]at b;have lt:j<j':=lt;have:=oq9 b;lia
 have pm:((qX mask owner).map (·.2)).Perm (List.range es.size):=vvs nd2 λk=>by
  rw[List.mem_map];constructor
  ·rintro ⟨⟨j,k'⟩,hp,rfl⟩;have:=(List.getElem?_eq_some_iff.mp ((mem j k').mp hp)).1;show k'<es.size;lia
  ·intro hk;exact⟨(xs[k]'⋯,k),(mem _ k).mpr (X2 ⋯),rfl⟩
 have gp:∀p∈qX mask owner,p.2<es.size:=λp hp=>by
  have:=(List.getElem?_eq_some_iff.mp ((mem p.1 p.2).mp hp)).1;lia
 have lc:((((qX mask owner).map (·.2)).toArray).filterMap (es[·]?)).toList=(qX mask owner).map λp=>es.getD p.2 (0,.none):=by
  rw[Array.toList_filterMap];show((qX mask owner).map (·.2)).filterMap (es[·]?)=_;have:∀l:List (Nat×Nat),(∀p∈l,p.2<es.size)->(l.map (·.2)).filterMap (es[·]?)=l.map λp=>es.getD p.2 (0,.none):=by
   intro l
   induction l with
   |nil=>intro _;rfl
   |cons p l ih=>
    intro hp;have h0:=hp p X5;rw[List.map_cons,List.filterMap_cons,List.map_cons,Xj h0,ih λq hq=>hp q (lc9 _ hq)];simp[Array.getD,h0]
  exact this _ gp
 have dj:((((qX mask owner).map (·.2)).toArray).filterMap (es[·]?)).toList.Perm es.toList:=by
  rw[lc];have e1:(qX mask owner).map (λp=>es.getD p.2 (0,.none))=((qX mask owner).map (·.2)).map λk=>es.toList.getD k (0,.none):=by
   rw[Xh];refine Yj λp _=>?_
   show es.getD p.2 (0,.none)=es.toList.getD p.2 (0,.none);simp[Yu]
  rw[e1];refine(pm.map _).trans (.of_eq ?_);have:=rng_getD es.toList ((0,.none):Ent);rw[X7]at this;exact this
 have hsz:((((qX mask owner).map (·.2)).toArray).filterMap (es[·]?)).size=es.size:=by
  rw[<-X7,dj.length_eq,X7]
 refine⟨dj,hm,rfl,?_,pw,λj hj=>?_,?_,λz hz=>?_⟩
 ·show(((qX mask owner).map (·.1)).toArray).size=_;rw[<-X7 (xs:=Array.filterMap _ _),lc];simp
 ·have hj:j∈(qX mask owner).map (·.1):=hj;obtain⟨⟨j',k⟩,hp,rfl⟩:=aE hj;have:=(Array.getElem?_eq_some_iff.mp ((kzq o.sz).mp hp)).1;rw[o.sz]at this;show j'<=mask;lia
 ·rw[hsz];exact hl
 ·unfold Z at hz;rw[lc]at hz;have hz:z∈((qX mask owner).map (·.1)).zip ((qX mask owner).map λp=>es.getD p.2 (0,.none)):=hz;rw[List.zip_map',List.mem_map]at hz;obtain⟨⟨j,k⟩,hp,rfl⟩:=hz;have hx:=(mem j k).mp hp;have hk:=gp _ hp;obtain⟨m,g1,g2⟩:=o.good k j hx;have eh:(es.map (·.1)).toList.getD k 0=(es.getD k (0,.none)).1:=by
   have hk:k<es.size:=hk;simp[Array.getD,hk]
  rw[eh]at g1 g2;refine⟨m,g1,λm' gf=>?_⟩;obtain⟨k',gy⟩:=List.mem_iff_getElem?.mp (g2 m' gf);exact List.mem_map.mpr ⟨_,(mem _ k').mpr gy,rfl⟩
theorem wjg{t:SetTable}(hd:t.dummies=#[])(j:Nat):t.put j=({ t with place:=insertAt t.place (below t.place j) j },below t.place j):=by
 unfold put;dsimp only;rw[hd];have:has #[] j=false:=by unfold has;simp
 rw[this];cases t;simp only at hd;subst hd;rfl
theorem wjf{t:SetTable}{es:Array Ent}(ok:TOk t es){h:Int}{x:Value}{M:Nat}(hM:jk t.mask h M∉t.place.toList)(hb:∀m,m<M->jk t.mask h m∈t.place.toList):
  (insertAt es (t.put (jk t.mask h M)).2 (h,x)).toList.Perm ((h,x)::es.toList)/\(t.put (jk t.mask h M)).1.mask=t.mask/\(t.put (jk t.mask h M)).1.led=t.led/\(t.put (jk t.mask h M)).1.plain=t.plain /\
   (t.put (jk t.mask h M)).1.fill=es.size+1/\(t.put (jk t.mask h M)).1.place.size=es.size+1/\∀pl:Bool,(es.size+1)*5<t.mask*3->TOk { (t.put (jk t.mask h M)).1 with plain:=pl } (insertAt es (t.put (jk t.mask h M)).2 (h,x)):=by
 rw[wjg ok.d];dsimp only;have hp:(insertAt es (below t.place (jk t.mask h M)) (h,x)).toList.Perm ((h,x)::es.toList):=by
  rw[WV];exact kkv _ _ _
 have hpp:(insertAt t.place (below t.place (jk t.mask h M)) (jk t.mask h M)).toList.Perm (jk t.mask h M::t.place.toList):=by
  rw[WV];exact kkv _ _ _
 have hsz:(insertAt es (below t.place (jk t.mask h M)) (h,x)).size=es.size+1:=by
  rw[<-X7,hp.length_eq,Xk,X7]
 have hpz:(insertAt t.place (below t.place (jk t.mask h M)) (jk t.mask h M)).size=es.size+1:=by
  rw[<-X7,hpp.length_eq,Xk,X7,ok.sz]
 refine⟨hp,rfl,rfl,rfl,?_,hpz,λpl hf=>⟨ok.m,ok.d,?_,wq2 ok.pw hM,λj hj=>?_,?_,λz hz=>?_⟩⟩
 ·unfold fill;rw[ok.d];show _+0=_;rw[hpz]
 ·rw[hsz];exact hpz
 ·rcases aD (hpp.mem_iff.mp hj)with rfl|hj
  ·exact kwn _ _ _
  ·exact ok.le j hj
 ·rw[hsz];exact hf
 ·unfold Z at hz;dsimp only at hz;rw[WV,WV]at hz;have hz:=(vwd (below t.place (jk t.mask h M)) (jk t.mask h M) (h,x) (by rw[X7,X7,ok.sz])).mem_iff.mp hz;rcases aD hz with rfl|hz
  ·exact⟨M,rfl,λm' gf=>hpp.mem_iff.mpr (lc9 _ (hb m' gf))⟩
  ·obtain⟨m,g1,g2⟩:=ok.good z hz;exact⟨m,g1,λm' gf=>hpp.mem_iff.mpr (lc9 _ (g2 m' gf))⟩
theorem grow{mask n:Nat}(hm:vZ mask)(h1:n*5<mask*3)(h2:mask*3<=(n+1)*5)(hn:n+1<=70):vZ (sizeAbove (grown (n+1)) - 1)/\(n+1)*5<(sizeAbove (grown (n+1)) - 1)*3/\sizeAbove (grown (n+1))<=128:=by
 rcases hm with rfl|rfl|rfl
 ·have:n=4:=⋯
  subst this;unfold vZ;decide
 ·have:n=18:=⋯
  subst this;unfold vZ;decide
 ·lia
theorem vji{t:SetTable}{es:Array Ent}(ok:TOk t es){h:Int}{M i:Nat}{e:Ent}(hM:jk t.mask h M∉t.place.toList)(hi:es[i]?=some e)(he:e.1=h):∃m,m<M/\t.place[i]?=some (jk t.mask h m):=by
 have i5:=(Array.getElem?_eq_some_iff.mp hi).1;have hip:i<t.place.size:=by rw[ok.sz];exact i5
 have hz:(t.place[i],e)∈Z t es:=by
  unfold Z;refine List.mem_iff_getElem?.mpr ⟨i,?_⟩;rw[List.getElem?_zip_eq_some];exact⟨by simp[hip],by simpa using hi⟩
 obtain⟨m,g1,g2⟩:=ok.good _ hz;rw[he]at g1 g2;refine⟨m,?_,by rw[Xj hip,g1]⟩;rcases Nat.lt_or_ge m M with c|c
 ·exact c
 ·rcases Nat.lt_or_ge M m with c2|c2
  ·exact absurd (g2 M c2) hM
  ·have:m=M:=⋯
   subst this;refine absurd ?_ hM;rw[g1];exact List.mem_iff_getElem.mpr ⟨i,by simpa using hip,by simp⟩
end Tb
namespace Tw
open PySem PyProof.Rows Tb Sw
section
variable {prog:Program}{w:World}{A:Around}{E:VP9}{s:Shared}{K:Type}[DecidableEq K]{knd:HeapKind prog w K}
structure KX (knd:HeapKind prog w K):Prop where
 keep:∀{h h':Heap} {k:K} {a:Addr},knd.is h k a->(∀b ob,h.get? b=some ob->ob.cls=.type "tuple"->h'.get? b=some ob)->knd.is h' k a
 cls:∀{A:Around} {E:VP9} {s:Shared} {k:K} {a:Addr} {Q:Bool->Shared->Prop},knd.is s.heap k a->Q false s->wpAny (model prog w) A (ofAClassStatement 8 (.ref a)) Q E s
theorem KX.keeps(X:KX knd){h h':Heap}{k:K}{a d:Addr}{o:Obj}(hk:knd.is h k a)(ho:h.get? d=some o)(hc:o.cls=.type "set")(hs:Heap.SameBut d h h'):knd.is h' k a:=X.keep hk λb ob hb ht=>hs.extBut b ob (λz=>by
 rw[z,ho]at hb;cases hb;rw[hc]at ht;exact absurd ht ⋯) hb
abbrev ent(knd:HeapKind prog w K)(p:K×Addr):Int×Value:=(knd.hash p.1,.ref p.2)
structure OkT (knd:HeapKind prog w K)(h:Heap)(o:Obj)(es:Array (Int×Value))(ep:Nat)(t:SetTable)(ks:List (K×Addr)):Prop where
 ex:o.ExactSet
 d:o.data=.set es ep t
 el:es.toList=ks.map (ent knd)
 is:∀p∈ks,knd.is h p.1 p.2
 nd:(ks.map (·.1)).Nodup
 tb:TOk t es
 led:t.led=!tx w
theorem OkT.f{h:Heap}{o:Obj}{es:Array (Int×Value)}{ep:Nat}{t:SetTable}{ks:List (K×Addr)}(ok:OkT knd h o es ep t ks):t.fits es.size=true:=by
 unfold SetTable.fits SetTable.fill;rw[ok.tb.d,ok.tb.sz];have:=ok.tb.few;simp;lia
theorem OkT.sz{h:Heap}{o:Obj}{es:Array (Int×Value)}{ep:Nat}{t:SetTable}{ks:List (K×Addr)}(ok:OkT knd h o es ep t ks):es.size=ks.length:=by rw[<-X7,ok.el,X1]
theorem OkT.at{h:Heap}{o:Obj}{es:Array (Int×Value)}{ep:Nat}{t:SetTable}{ks:List (K×Addr)}(ok:OkT knd h o es ep t ks){i:Nat}{e:Int×Value}(hi:es[i]?=some e):∃p,ks[i]?=some p/\e=ent knd p:=by
 rw[<-Xw,ok.el,Xe]at hi;cases hk:ks[i]? with|none=>rw[hk]at hi;cases hi|some p=>rw[hk]at hi;exact⟨p,rfl,(oq9 hi).symm⟩
theorem vj0{t:SetTable}(hm:vZ t.mask):t.gaveWay=false:=by
 unfold SetTable.gaveWay;rcases hm with e|e|e<;>rw[e]<;>rfl
theorem vqi(X:KX knd){b:Addr}{k:K}(hb:knd.is s.heap k b){Q:Bool->Shared->Prop}(h:Q false s):∀(vs:List Value),(∀v∈vs,∃k' b',v=.ref b'/\knd.is s.heap k' b')->wpAny (model prog w) A (searchCouldBeSeen (.ref b) vs) Q E s:=by
 intro vs hv;unfold searchCouldBeSeen;refine X0 ?_;refine Zp _ (λab r s'=>r.1=none/\s'=s/\∀v∈ab,∃k' b',v=.ref b'/\knd.is s.heap k' b') _ ?_ ?_ _ _ ⟨rfl,rfl,hv⟩
 ·rintro v ab r s' ⟨hr,rfl,hv⟩;obtain⟨k',b',rfl,cg⟩:=hv v X5;have fk:∀v∈ab,∃k' b',v=.ref b'/\knd.is s'.heap k' b':=λv hv'=>hv v (lc9 _ hv')
  dsimp only
  split
  ·exact X4 ⟨rfl,rfl,fk⟩
  ·refine X0 (knd.quiet hb ?_);simp only[Bool.not_true,Bool.false_eq_true,if_false];refine X0 (knd.quiet cg ?_);simp only[Bool.not_true,Bool.false_eq_true,if_false];refine X0 (X.cls hb ?_);simp only[Bool.false_eq_true,if_false];refine X0 (X.cls cg ?_);simp only[Bool.false_eq_true,if_false];exact X4 ⟨rfl,rfl,fk⟩
 ·rintro ⟨r1,r2⟩ s' ⟨hr,rfl,_⟩;simp only at hr;subst hr;exact X4 h
end
theorem kza{t:SetTable}{es:Array (Int×Value)}(ok:TOk t es){g:Nat->Int}{h:Int}{M m:Nat}(hM:jk t.mask h M∉t.place.toList)(hb:∀m,m<M->jk t.mask h m∈t.place.toList)(hl:M<10*SetTable.turns t.mask){p:SetTable.Probe}{r:Option SetTable.Met}
  (qi:t.probe g h p=r) (hp:p=pr t.mask h m) (hm:m<=M):
   (r=some (.empty (jk t.mask h M) none)/\∀m' i,m<=m'->m'<M->t.place[i]?=some (jk t.mask h m')->g i≠h) \/
   ∃m' i,m<=m'/\m'<M/\t.place[i]?=some (jk t.mask h m')/\g i=h/\r=some (.candidate (jk t.mask h m') i (pr t.mask h (m'+1)))/\∀iy i',m<=iy->iy<m'->t.place[i']?=some (jk t.mask h iy)->g i'≠h:=by
 subst hp qi;exact kzb ok hM hb (10*SetTable.turns t.mask) m hm ⋯
theorem qjo{t:SetTable}{es:Array (Int×Value)}(ok:TOk t es){g:Nat->Int}{h:Int}{M m:Nat}(hM:jk t.mask h M∉t.place.toList)(hb:∀m,m<M->jk t.mask h m∈t.place.toList)(hl:M<10*SetTable.turns t.mask){p:SetTable.Probe}
  (hp:p=pr t.mask h m) (hm:m<=M):∃met,t.probe g h p=some met:=by
 rcases kza ok hM hb hl (g:=g) rfl hp hm with⟨e1,_⟩|⟨m',i,_,_,_,_,e1,_⟩
 ·exact⟨_,e1⟩
 ·exact⟨_,e1⟩
theorem jzb{t:SetTable}(hp:t.place.toList.Pairwise (· < ·)){i j x:Nat}(h1:t.place[i]?=some x)(h2:t.place[j]?=some x):i=j:=by
 have nd:t.place.toList.Nodup:=hp.imp λh=>Xl h
 have i6:=(Array.getElem?_eq_some_iff.mp h1).1;refine(List.getElem?_inj (by simpa using i6) nd).mp ?_;rw[Xw,Xw,h1,h2]
theorem kqf{t:SetTable}(hp:t.place.toList.Pairwise (· < ·))(hd:t.dummies=#[]){i j:Nat}(h:t.place[i]?=some j):t.slot j=.live i:=by
 rcases qq0 hp hd j with⟨i',e1,e2⟩|⟨_,e2⟩
 ·rw[e1,jzb hp e2 h]
 ·exact absurd (Xv (by rw[Xw];exact h)) e2
theorem kz1{t:SetTable}:t.sameMemory t.moves t.mask=some true:=by
 unfold SetTable.sameMemory;rw[X6 (by simp)]
section
variable {prog:Program}{w:World}{A:Around}{E:VP9}{s:Shared}{K:Type}[DecidableEq K]{knd:HeapKind prog w K}
theorem kwa (X:KX knd) (hr:knd.room A) {a b:Addr} {k:K} {o:Obj} {es:Array (Int×Value)} {ep:Nat} {t:SetTable} {ks:List (K×Addr)} (ho:s.heap.get? a=some o) (ok:OkT knd s.heap o es ep t ks) (hb:knd.is s.heap k b)
  {M:Nat} (hM:jk t.mask (knd.hash k) M∉t.place.toList) (hbf:∀m,m<M->jk t.mask (knd.hash k) m∈t.place.toList) (hl:M<10*SetTable.turns t.mask) {Q:SetFound->Shared->Prop}
  (jf:k∈ks.map (·.1)->Q (.there none) s) (gz:k∉ks.map (·.1)->Q (.free (jk t.mask (knd.hash k) M) false) s):
  ∀ (fuel m:Nat) (gl:Option SetTable.Probe),m<=M->M - m<fuel->gl.getD (t.probeStart (knd.hash k))=pr t.mask (knd.hash k) m ->
   (∀ (i:Nat) p,ks[i]?=some p->p.1=k->∃m',m<=m'/\m'<M/\t.place[i]?=some (jk t.mask (knd.hash k) m')) ->
   wpAny (model prog w) A (setSearchFrom a (.ref b) (knd.hash k) true fuel gl) Q E s:=by
 intro fuel
 induction fuel with
 | zero=>intro m gl h1 h2;lia
 | succ fuel ih=>
  intro m gl h1 h2 ba gp;unfold setSearchFrom;refine X0 (Yl ho ok.d ok.f ?_);dsimp only;rw [vj0 ok.tb.m];simp only[Bool.false_eq_true,if_false]
  split
  ·rename_i met qi;have hg:∀(i:Nat) (e:Int×Value),es[i]?=some e->(es[i]?.map (·.1)).getD 0=e.1:=λi e he=>by rw[he];rfl
   rcases kza ok.tb hM hbf hl qi ba h1 with⟨e1,e2⟩|⟨m',i,q1,q2,q3,q4,q5,q6⟩
   ·cases oq9 e1;dsimp only;refine X4 (gz λhk=>?_);obtain⟨p,hp,rfl⟩:=aE hk;obtain⟨i,hi⟩:=List.mem_iff_getElem?.mp hp;obtain⟨m',a1,a2,a3⟩:=gp i p hi rfl;refine e2 m' i a1 a2 a3 ?_;have ma:es[i]?=some (ent knd p):=by rw[<-Xw,ok.el,Xe,hi];rfl
    exact hg i _ ma
   ·cases oq9 q5;dsimp only;have i5:i<es.size:=by rw[<-ok.tb.sz];exact(Array.getElem?_eq_some_iff.mp q3).1
    obtain⟨p,hp,he⟩:=ok.at (Xj i5);have hpk:=ok.is p (Xv hp)
    split
    ·refine X0 (vqi X hb ?_ _ λv hv=>?_)
     ·rw [X8 ⋯];rw [Xj i5,he];dsimp only;refine X0 (Y9 (knd.eqBool hr hpk hb ?_));refine X0 (Yl ho ok.d ok.f ?_);dsimp only
      by_cases hk:p.1=k
      ·rw[Xb hk,X6 (show(true&&true)=true from rfl)];exact X4 (jf (List.mem_map.mpr ⟨p,Xv hp,hk⟩))
      ·rw[Xi hk,X8 ⋯,kz1];dsimp only;rw[X6 rfl,kqf ok.tb.pw ok.tb.d q3];dsimp only;rw[Xj i5,he];dsimp only;refine X0 (wpAny_isSame_ref_self ?_);rw[X6 rfl];refine X0 (X4 ?_);dsimp only;rw[X8 ⋯];refine ih (m'+1) _ ⋯ ⋯ rfl λi2 p2 gw ir=>?_
       obtain⟨m2,a1,a2,a3⟩:=gp i2 p2 gw ir;refine⟨m2,?_,a2,a3⟩;rcases Nat.lt_or_ge m2 (m'+1)with c|c
       ·exfalso
        by_cases c2:m2=m'
        ·subst c2;have:=jzb ok.tb.pw a3 q3;subst this;rw[hp]at gw;cases oq9 gw;exact hk ir
        ·refine q6 m2 i2 a1 ⋯ a3 ?_;have ma:es[i2]?=some (ent knd p2):=by rw[<-Xw,ok.el,Xe,gw];rfl
         have this:_=knd.hash p2.1:=hg i2 _ ma;rw[ir]at this;exact this
       ·exact c
     ·obtain⟨e,he',rfl⟩:=aE hv;have he':e∈es.toList:=(Array.mem_toList_iff.mpr (Array.mem_filter.mp (Array.mem_toList_iff.mp he')).1);rw[ok.el]at he';obtain⟨p',hp',rfl⟩:=aE he';exact⟨p'.1,p'.2,rfl,ok.is p' hp'⟩
    ·rw [Xj i5,he];dsimp only;refine X0 (Y9 (knd.eqBool hr hpk hb ?_));refine X0 (Yl ho ok.d ok.f ?_);dsimp only
     by_cases hk:p.1=k
     ·rw[Xb hk,X6 (show(true&&true)=true from rfl)];exact X4 (jf (List.mem_map.mpr ⟨p,Xv hp,hk⟩))
     ·rw[Xi hk,X8 ⋯,kz1];dsimp only;rw[X6 rfl,kqf ok.tb.pw ok.tb.d q3];dsimp only;rw[Xj i5,he];dsimp only;refine X0 (wpAny_isSame_ref_self ?_);rw[X6 rfl];refine X0 (X4 ?_);dsimp only;rw[X8 ⋯];refine ih (m'+1) _ ⋯ ⋯ rfl λi2 p2 gw ir=>?_
      obtain⟨m2,a1,a2,a3⟩:=gp i2 p2 gw ir;refine⟨m2,?_,a2,a3⟩;rcases Nat.lt_or_ge m2 (m'+1)with c|c
      ·exfalso
       by_cases c2:m2=m'
       ·subst c2;have:=jzb ok.tb.pw a3 q3;subst this;rw[hp]at gw;cases oq9 gw;exact hk ir
       ·refine q6 m2 i2 a1 ⋯ a3 ?_;have ma:es[i2]?=some (ent knd p2):=by rw[<-Xw,ok.el,Xe,gw];rfl
        have this:_=knd.hash p2.1:=hg i2 _ ma;rw[ir]at this;exact this
      ·exact c
  ·rename_i qi;exact(Exists.elim (qjo ok.tb hM hbf hl ba h1) λmet hm=>qi met hm).elim
end
section
variable {prog:Program}{w:World}{A:Around}{E:VP9}{s:Shared}{K:Type}[DecidableEq K]{knd:HeapKind prog w K}
def HasT(knd:HeapKind prog w K)(h:Heap)(a:Addr)(ls:List K):Prop:=∃o es ep t ks,h.get? a=some o/\OkT knd h o es ep t ks/\(ks.map (·.1)).Perm ls
def ByV(knd:HeapKind prog w K):Prop:=∀{A:Around} {E:VP9} {s:Shared} {k:K} {a:Addr} {Q:Bool->Shared->Prop},knd.is s.heap k a->(∀b,Q b s)->wpAny (model prog w) A (hashByValue 8 (.ref a)) Q E s
theorem qvz{es:List (Int×Value)}{ks:List (K×Addr)}(h:es.Perm (ks.map (ent knd))):∃bp:List (K×Addr),bp.Perm ks/\es=bp.map (ent knd):=by
 have:∀{es' es:List (Int×Value)},es.Perm es'->∀ks:List (K×Addr),es'=ks.map (ent knd)->∃bp:List (K×Addr),bp.Perm ks/\es=bp.map (ent knd):=by
  intro es' es h
  induction h with
  | nil=>intro ks e;exact⟨ks,.refl _,e⟩
  | cons x _ ih=>
   intro ks e;cases ks with
   | nil=>cases e
   | cons k ks=>
    rw[List.map_cons]at e;injection e with e1 e2;obtain⟨bp,p1,p2⟩:=ih ks e2;exact⟨k::bp,p1.cons k,by rw[List.map_cons,p2,e1]⟩
  | swap x y l=>
   intro ks e;cases ks with
   | nil=>cases e
   | cons k ks=>
    cases ks with
    |nil=>cases e
    |cons k2 ks=>
     rw[List.map_cons,List.map_cons]at e;injection e with e1 e2;injection e2 with e2 e3;exact⟨k2::k::ks,.swap _ _ _,by rw[List.map_cons,List.map_cons,e1,e2,e3]⟩
  |trans _ _ ih1 ih2=>
   intro ks e;obtain⟨k1,p1,e1⟩:=ih2 ks e;obtain⟨k2,p2,e2⟩:=ih1 k1 e1;exact⟨k2,p2.trans p1,e2⟩
 exact this h ks rfl
theorem add(X:KX knd)(V:ByV knd)(hr:knd.room A){a b:Addr}{k:K}{ls:List K}{Q:Bool->Shared->Prop}(hS:HasT knd s.heap a ls)(hb:knd.is s.heap k b)(hl:ls.length+1<=60)
  (h:∀bb h',Heap.SameBut a s.heap h'->HasT knd h' a (if k∈ls then ls else ls++[k])->Q bb { s with heap:=h' }):wpAny (model prog w) A (setAddHashed a (.ref b) (knd.hash k)) Q E s:=by
 obtain⟨o,es,ep,t,ks,ho,ok,hp⟩:=hS;have hsz:es.size=ls.length:=by rw[ok.sz,<-hp.length_eq,X1]
 obtain⟨M,m1,m2,m3⟩:=qk2 (oc:=λj=>j∈t.place.toList) ok.tb.m (knd.hash k) ok.tb.empty;have hmem:k∈ks.map (·.1)↔k∈ls:=hp.mem_iff;have hturn:10*SetTable.turns t.mask<=1420:=by
  unfold SetTable.turns;rcases ok.tb.m with e|e|e<;>rw[e]<;>decide
 unfold setAddHashed setAddHashedIn;refine Y9 (X0 (Yl ho ok.d ok.f ?_));dsimp only;rw [show byScan (.ref b) es=false from rfl];simp only[Bool.false_eq_true,if_false];unfold setSearch;refine X0 (kwa X hr ho ok hb m2 m3 m1 (λhk=>?_) (λhk=>?_) 100000 0 none (Yd _) ⋯ rfl λi p hi hpk=>?_)
 ·dsimp only;have gy:=hmem.mp hk;have:=h false s.heap (Heap.SameBut.refl a s.heap);rw [X6 gy]at this;exact X4 (this ⟨o,es,ep,t,ks,ho,ok,hp⟩)
 ·dsimp only;have gy:k∉ls:=λz=>hk (hmem.mpr z)
  rw [X8 gy]at h;refine X0 (Yl ho ok.d ok.f ?_);dsimp only;obtain⟨p1,p2,p3,p4,p5,p6,p7⟩:=wjf (x:=.ref b) ok.tb m2 m3;generalize t.put (jk t.mask (knd.hash k) M)=tp at p1 p2 p3 p4 p5 p6 p7 ⊢;obtain⟨t1,pl⟩:=tp;dsimp only at p1 p2 p3 p4 p5 p6 p7 ⊢;generalize hes1:SetTable.insertAt es pl (knd.hash k,Value.ref b)=es1 at p1 p7 ⊢;have i9:es1.size=es.size+1:=by rw[<-X7,p1.length_eq,Xk,X7]
  have ko:es1.size<=sizeLine:=by rw[Yr];lia
  obtain⟨mo,q1,q2⟩:=qvz (knd:=knd) (ks:=(k,b)::ks) (es:=es1.toList) (by rw[List.map_cons,<-ok.el];exact p1);have km:(mo.map (·.1)).Perm (ls++[k]):=(q1.map (·.1)).trans (by
   rw [List.map_cons];exact(hp.cons k).trans (List.perm_append_singleton k ls).symm)
  have da:(mo.map (·.1)).Nodup:=((q1.map (·.1)).nodup_iff).mpr (by
   rw [List.map_cons];exact List.nodup_cons.mpr ⟨hk,ok.nd⟩)
  have his:∀p∈mo,knd.is s.heap p.1 p.2:=λp hpp=>by
   rcases aD (q1.mem_iff.mp hpp)with rfl|hpp
   ·exact hb
   ·exact ok.is p hpp
  have fin:∀me:Bool,wpAny (model prog w) A (do
    storeSet a es1 (if me=true then t1 else { t1 with plain:=false })
    if(!false&&(if me=true then t1 else { t1 with plain:=false }).tooFull)=true then do
      setRelay a (SetTable.grown (es.size+1))
      pure true
     else pure true) Q E s:=λme=>by
   obtain⟨pp,ht2⟩:∃pp:Bool,(if me=true then t1 else { t1 with plain:=false })={ t1 with plain:=pp }:=by
    cases me
    ·exact⟨false,rfl⟩
    ·exact⟨t1.plain,rfl⟩
   rw[ht2];have dv:=vza (es':=es1) (t':={ t1 with plain:=pp }) ho ok.d;have gq:=Yx s.heap a (Obj.putSet es1 { t1 with plain:=pp });refine X0 (wpAny_storeSet_of ho ok.d ?_ ko);have oi:∀p∈mo,knd.is (s.heap.update a (Obj.putSet es1 { t1 with plain:=pp })) p.1 p.2:=λp hpp=>X.keeps (his p hpp) ho ok.ex.1 gq
   by_cases hfull:({ t1 with plain:=pp }:SetTable).tooFull=true
   ·rw[hfull,X6 (by rfl)];have e5:({ t1 with plain:=pp }:SetTable).fill=es.size+1:=p5;have e6:({ t1 with plain:=pp }:SetTable).mask=t.mask:=p2;have nj:t.mask*3<=(es.size+1)*5:=by
     unfold SetTable.tooFull at hfull;rw[e5,e6]at hfull
     simpa using hfull
    obtain⟨g1,g2,g3⟩:=grow ok.tb.m ok.tb.few nj ⋯;obtain⟨t3,cb,r1,r2,r3,r4,r5⟩:=vw8 (es:=es1) g1 (by rw[i9];exact g2) ({ t1 with plain:=pp }:SetTable).finger (({ t1 with plain:=pp }:SetTable).movedTo (SetTable.sizeAbove (SetTable.grown (es.size+1)) - 1)) ({ t1 with plain:=pp }:SetTable).led pp;have fm:({ t1 with plain:=pp }:SetTable).fits es1.size=true:=by
     have e7:({ t1 with plain:=pp }:SetTable).place.size=es.size+1:=p6;unfold SetTable.fits;rw[e5,e6,e7,i9];have:=ok.tb.few;have hm3:7<=t.mask:=by rcases ok.tb.m with e|e|e<;>rw[e]<;>decide
     simp;lia
    unfold setRelay;refine X0 (X0 (Yl (s:={ s with heap:=s.heap.update a (Obj.putSet es1 { t1 with plain:=pp }) }) dv rfl fm ?_));dsimp only;rw[X8 (by rw[Yr];lia)];have er:({ t1 with plain:=pp }:SetTable).relaid (es1.map (·.1)) (SetTable.grown (es.size+1))=some (t3,cb):=r1;rw[er];refine X0 ?_;have o6:(cb.filterMap (es1[·]?)).size=es1.size:=by rw[<-X7,r4.length_eq,X7]
    show wpAny _ _ (ite (((cb.filterMap (es1[·]?)).size != es1.size)=true) _ _) _ _ _;rw[o6,X8 (by simp)];refine X4 ?_;dsimp only;have mz:=Yx (s.heap.update a (Obj.putSet es1 { t1 with plain:=pp })) a (Obj.putSet (cb.filterMap (es1[·]?)) t3);refine wpAny_storeSet_of (s:={ s with heap:=s.heap.update a (Obj.putSet es1 { t1 with plain:=pp }) }) dv rfl ?_ (by rw[o6];exact ko);obtain⟨ks3,c1,c2⟩:=qvz (knd:=knd) (ks:=mo) (es:=(cb.filterMap (es1[·]?)).toList) (by rw[<-q2];exact r4);refine X4 (h true _ (gq.trans mz) ⟨_,_,_,t3,ks3,vza dv rfl,⟨ok.ex,rfl,c2,λp hpp=>X.keeps (oi p (c1.mem_iff.mp hpp)) dv ok.ex.1 mz,((c1.map (·.1)).nodup_iff).mpr da,r5,r2.trans (p3.trans ok.led)⟩,(c1.map (·.1)).trans km⟩)
   ·rw[Bool.eq_false_iff.mpr hfull,X8 ⋯];have bi:(es.size+1)*5<t.mask*3:=by
     have e5:({ t1 with plain:=pp }:SetTable).fill=es.size+1:=p5;unfold SetTable.tooFull at hfull;rw[e5]at hfull;have e6:({ t1 with plain:=pp }:SetTable).mask=t.mask:=p2;rw[e6]at hfull
     simpa using hfull
    exact X4 (h true _ gq ⟨_,es1,_,_,mo,dv,⟨ok.ex,rfl,q2,oi,da,p7 pp bi,p3.trans ok.led⟩,km⟩)
  split
  ·refine X0 (V hb λme=>?_);exact fin me
  ·exact X0 (X4 (fin true))
 ·have ma:es[i]?=some (ent knd p):=by rw[<-Xw,ok.el,Xe,hi];rfl
  obtain⟨m',a1,a2⟩:=vji ok.tb m2 ma (show knd.hash p.1=knd.hash k by rw[hpk]);exact⟨m',Yd _,a1,a2⟩
end
section
variable {prog:Program}{w:World}{A:Around}{E:VP9}{s:Shared}{K:Type}[DecidableEq K]{knd:HeapKind prog w K}
def stepK(ls:List K)(k:K):List K:=if k∈ls then ls else ls++[k]
def ddK(ss:List K):List K:=ss.foldl stepK []
theorem vjo{ss:List K}{i:Nat}{x:K}(h:ss[i]?=some x):ddK (ss.take (i+1))=stepK (ddK (ss.take i)) x:=by
 unfold ddK;rw[List.take_succ,h,Ze];rfl
theorem vks:∀(ss ls:List K),ls.length<=(ss.foldl stepK ls).length
 |[],ls=>Xa _
 |k::ss,ls=>by
  rw[Z0];refine Yn ?_ (vks ss (stepK ls k));unfold stepK
  split
  ·exact Xa _
  ·simp
theorem vwv(ss:List K)(i:Nat):(ddK (ss.take i)).length<=(ddK ss).length:=by
 have:ddK ss=(ss.drop i).foldl stepK (ddK (ss.take i)):=by
  unfold ddK;rw[<-Ze,Z9]
 rw[this];exact vks _ _
theorem HasT.same(X:KX knd){h h':Heap}{a:Addr}{ls:List K}(x:HasT knd h a ls)(e:∀o,h.get? a=some o->h'.get? a=some o)(et:∀b ob,h.get? b=some ob->ob.cls=.type "tuple"->h'.get? b=some ob):HasT knd h' a ls:=by
 obtain⟨o,es,ep,t,ks,ho,r,hp⟩:=x;exact⟨o,es,ep,t,ks,e _ ho,⟨r.ex,r.d,r.el,λp hpp=>X.keep (r.is p hpp) et,r.nd,r.tb,r.led⟩,hp⟩
theorem loop(X:KX knd)(V:ByV knd)(hr:knd.room A.in1){R:Result->Shared->Prop}{I:Addr}{fp wr:List Addr}{G:Array GenState->Array GenState->Prop}{n:Nat}{P:Nat->Value->Prop}{St:Nat->Shared->Prop}(W:WalksS prog w A.in1 I fp wr G n P St)(S:Addr)(kg:S∉fp)
  (oj:∀i s,St i s->∀b∈wr,∀ob,s.heap.get? b=some ob->ob.cls≠.type "tuple")
  {ss:List K} (hn:ss.length=n) (hb:(ddK ss).length<=59):∀(k i:Nat) (s:Shared),n - i=k->i<=n->St i s->HasT knd s.heap S (ddK (ss.take i))->(∀i v,P i v->∃b x,v=.ref b/\ss[i]?=some x/\knd.is s.heap x b) ->
   (∀s',Moved (S::wr) G s s'->HasT knd s'.heap S (ddK ss)->R (.ok (.ret .none)) s')->codeAny (model prog w) A (.builtin "set.update.loop" ⟨[.ref S,.ref I],[]⟩) R s:=by
 have rq:S∉wr:=λh=>kg (W.sub _ h)
 have ft:∀b∈wr,b∈S::wr:=λb hb=>lc9 _ hb
 intro k
 induction k with
 | zero=>
  intro i s hk hi ba hS en hR;cases(show i=n by lia);refine Yq F.entry_set_update_loop ?_;rw[Yb F.plain_set_update_loop _];show wpAny _ A.in1 (pyNext (.ref I) >>= _) _ _ s;refine X0 (W.done s _ _ ba λs' hm=>?_);refine X4 (hR s' (hm.mono ft) ?_);rw[<-hn,Zk]at hS;exact hS.same X (λo e=>hm.heap S _ rq e) λb ob hb ht=>hm.heap b ob (λz=>oj _ _ ba b z ob hb ht) hb
 | succ k ih=>
  intro i s hk hi ba hS en hR;refine Yq F.entry_set_update_loop ?_;rw[Yb F.plain_set_update_loop _];show wpAny _ A.in1 (pyNext (.ref I) >>= _) _ _ s;refine X0 (W.item i s _ _ ⋯ ba λv s' hP ld hm=>?_);have tm:∀b ob,s.heap.get? b=some ob->ob.cls=.type "tuple"->s'.heap.get? b=some ob:=λb ob hb ht=>hm.heap b ob (λz=>oj _ _ ba b z ob hb ht) hb
  obtain⟨b,x,rfl,hx,dg⟩:=en i v hP;have rf:knd.is s'.heap x b:=X.keep dg tm;have fc:HasT knd s'.heap S (ddK (ss.take i)):=hS.same X (λo e=>hm.heap S _ rq e) tm;show wpAny _ A.in1 (holding [Value.ref b] (setAdd S (.ref b)) >>= _) _ _ s';refine X0 (Y9 ?_);unfold setAdd;refine Y9 ?_;refine X0 (knd.pyHash hr rf ?_);have db:(ddK (ss.take i)).length+1<=60:=by
   have:=vwv ss i;lia
  have hset:∃o,s'.heap.get? S=some o/\o.cls=.type "set":=by
   obtain⟨o,es,ep,t,ks,ho,r,_⟩:=fc;exact⟨o,ho,r.ex.1⟩
  obtain⟨oS,hoS,hcS⟩:=hset;refine add (s:={ s' with toks:=s'.toks+knd.draws x }) X V hr fc rf db λbb h' a1 a2=>?_
  have a1:Heap.SameBut S s'.heap h':=a1;have a2:HasT knd h' S (stepK (ddK (ss.take i)) x):=a2;rw[<-vjo hx]at a2;refine X4 ⟨Zi F.plain_set_update_loop _,ih (i+1) _ ⋯ ⋯ (W.frame _ s' _ _ ld (Nat.le_add_right _ _) λb hb o e=>?_) a2 (λi v hP=>?_) λig lq lh=>?_⟩
  ·rw[a1.2 b (λh:b=S=>kg (by rw[<-h];exact hb))];exact e
  ·obtain⟨b,x,rfl,hx,dg⟩:=en i v hP;exact⟨b,x,rfl,hx,X.keeps (X.keep dg tm) hoS hcS a1⟩
  ·refine hR ig (Moved.trans W.gtrans ((hm.mono ft).then_heap (Nat.le_add_right _ _) λb o hb e=>?_) lq) lh;rw[a1.2 b (λh:b=S=>hb (by rw[h];exact X5))];exact e
theorem qk1{h:Heap}{a:Addr}(e:h.get? a=some (fresh w)):HasT knd h a []:=
 ⟨_,#[],0,.fresh 0 0 (!tx w),[],e,⟨⟨rfl,rfl,rfl⟩,rfl,rfl,(λp hp=>nomatch hp),Yf,⟨.inl rfl,rfl,rfl,.nil,(λj hj=>(nomatch hj)),by show 0*5<7*3;decide,(λz hz=>(nomatch hz))⟩,rfl⟩,.refl _⟩
set_option maxHeartbeats 8000000 in
theorem qx5(X:KX knd)(V:ByV knd)(hr:knd.room A.in1.in1.in1){l:Addr}{items:Array Value}{ss:List K}{Q:VP9}(hh:A.handled=none)(hl:s.heap.IsList l items)(hn:ss.length=items.size)(hi:∀(i:Nat) v,items[i]?=some v->∃b x,v=.ref b/\ss[i]?=some x/\knd.is s.heap x b)(hb:(ddK ss).length<=59)
  (h:∀(h':Heap) (tk:Nat),HasT knd h' s.heap.objs.size (ddK ss)->(∀b o,b<s.heap.objs.size->s.heap.get? b=some o->h'.get? b=some o)->Q (.ref s.heap.objs.size) { s with heap:=h',toks:=tk }):
  wpAny (model prog w) A (call (.type "set") [.ref l]) Q E s:=by
 obtain⟨c,tl,hmro⟩:=F.called_set.mro;have hmade:=F.called_set.made;have ft:=F.called_set.sub;refine wpAny_call (codeAny_of_tree ?_);show wpAny _ _ (callAny (.type "set") _) _ _ _;refine X4 ⟨Code.quiet_builtin _ (by decide +kernel),Yq F.entry_type_call ?_⟩;rw [Around.under_plain (weight_type_call_type "set" [.ref l] []) rfl];have h1:=F.called_set.notType;have h2:=F.called_set.canCreate;have hct:=F.typeCall_set_1 (.ref l)
 repeat (any_goals (first|assumption|wp_step))
 refine codeAny_mono (made (.ref l) (E:=E) (Q₁:=λobj s₁=>obj=.ref s.heap.objs.size/\s₁={ s with heap:=s.heap.push (fresh w) }) ⟨rfl,rfl⟩) λr s₁ hr=>?_
 cases r with
 | error e=>exact hr
 | ok fl=>
 cases fl with
 | ret obj=>
  obtain⟨rfl,rfl⟩:=hr;have hS:(s.heap.push (fresh w)).get? s.heap.objs.size=some (fresh w):=Xg _ rfl;have hT:Shared.TypeIs { s with heap:=s.heap.push (fresh w) } (.ref s.heap.objs.size) "set":=⟨_,hS,rfl⟩;have hli:=F.called_set.init.lookup;have hbi:=F.called_set.init.bind (.ref s.heap.objs.size)
  repeat (any_goals (first|assumption|wp_step))
  refine codeAny_mono (codeAny_call_builtin (R:=wants (λr s₂=>r=.none/\∃h' tk,s₂={ s with heap:=h',toks:=tk }/\HasT knd h' s.heap.objs.size (ddK ss) /\
    (∀b o,b<s.heap.objs.size->s.heap.get? b=some o->h'.get? b=some o)) E) F.called_set.init.plain F.entry_set_init (check_set_init_1 hT ?_)) λr₂ s₂ hr₂=>?_
  ·obtain⟨ol,hol,c9,nl,hdl⟩:=hl;obtain⟨ocls,rm,odata,lm⟩:=ol;simp only at c9 hdl;subst c9;subst hdl;have hol':(s.heap.push (fresh w)).get? l=some { cls:=.type "list",dict:=rm,data:=.seq items nl,slots:=lm }:=X3 _ hol;have hsls:=F.sub_list_set;have hslf:=F.sub_list_frozenset;have dl:(Value.type "list" == Value.type "dict")=false:=⋯
   have mi:(s.heap.push (fresh w)).IsList l items:=⟨_,hol',rfl,nl,rfl⟩;have pc:l<s.heap.objs.size:=Xd hol;have mt:({ cls:=.type "set",dict:=none,data:=.set #[] 0 (.fresh 0 0 (!tx w)) }:Obj)=fresh w:=rfl;unfold Builtin.«set.__init__» noKeywords Builtin.Frozenset.updateFrom;generalize hPI:pyIter=PI
   wp_walk
   subst hPI;refine wpAny_pyIter_list mi ?_;refine X0 (wpAny_runValue ?_);have hh3:A.in1.in1.in1.handled=none:=by simp[hh]
   have hsz:(s.heap.push (fresh w)).objs.size=s.heap.objs.size+1:=Heap.size_push ..;refine loop X V hr ((Walks.list hh3 _ l (by rw[hsz];exact Xl (Yt pc)) items).toS) s.heap.objs.size (by rw[hsz];simp only[Xz,Y8,or_false,not_or];exact⟨Xl (Nat.lt_succ_self _),Nat.ne_of_gt pc⟩) (λi s ba b hbm ob d9=>?_) (ss:=ss) hn hb (items.size - 0) 0 _ ⋯ (Yd _)
    ⟨⟨_,Xg _ rfl,rfl,rfl⟩,mi.push _⟩ ?_ (λi v hv=>?_) ?_
   ·rw[aC hbm]at d9;obtain⟨⟨o',dq,fy,_⟩,_⟩:=ba;rw[dq]at d9;cases d9;rw[fy];decide
   ·exact qk1 (X3 _ hS)
   ·obtain⟨b,x,e1,e2,e3⟩:=hi i v hv;exact⟨b,x,e1,e2,X.keep e3 λb ob hb _=>X3 _ (X3 _ hb)⟩
   ·intro s' hm fc;obtain⟨h',g',d',n6,ri⟩:=s';have eg:g'=s.gens:=hm.gens;have ed:d'=s.drawn:=hm.drawn;have eo:ri=s.os:=hm.os;subst eg;subst ed;subst eo;show wpAny _ _ _ _ _ _;refine X4 ?_;show wpAny _ _ (ret Value.none) _ _ _;refine X4 ⟨rfl,h',n6,rfl,fc,λb o hb e=>?_⟩;exact hm.heap b o (by simp only[Xz,Y8,or_false,not_or];rw[hsz];exact⟨Xl hb,Xl (Yt hb)⟩) (X3 _ (X3 _ e))
  ·cases r₂ with
   | error e=>exact hr₂
   | ok fl₂=>
    cases fl₂ with
    |ret r=>
     obtain⟨rfl,h',tk,rfl,fc,gy⟩:=hr₂
     repeat (any_goals (first|assumption|wp_step))
     exact h _ _ fc gy
    |_=>exact hr₂.elim
 |_=>exact hr.elim
end
section
variable {prog:Program}{w:World}{A:Around}{E:VP9}{s:Shared}
structure IT (w:World)(o:Obj)(es:Array (Int×Value))(ep:Nat)(t:SetTable):Prop where
 c:o.cls=.type "set"
 d:o.data=.set es ep t
 f:t.fits es.size=true
 led:t.led=!tx w
 pw:t.place.toList.Pairwise (· < ·)
 z:es.size<=sizeLine
def slP(t:SetTable)(i:Nat):Nat:=if i=0 then 0 else t.place.getD (i - 1) 0+1
theorem vju{xs:Array Nat}(hp:xs.toList.Pairwise (· < ·)){i:Nat}(hi:i<=xs.size):SetTable.below xs (if i=0 then 0 else xs.getD (i - 1) 0+1)=i:=by
 obtain⟨b1,b2,b3⟩:=kq4 (xs:=xs) (if i=0 then 0 else xs.getD (i - 1) 0+1) hp;generalize hb:SetTable.below xs (if i=0 then 0 else xs.getD (i - 1) 0+1)=b at b1 b2 b3
 by_cases h0:i=0
 ·subst h0;rw[X6 rfl]at b2;rcases Nat.eq_zero_or_pos b with c|c
  ·exact c
  ·have:=b2 0 ⋯ c;lia
 ·rw[X8 h0]at b2 b3;have hg:xs.getD (i - 1) 0=xs[i - 1]'⋯:=by simp[Array.getD,show i - 1<xs.size by lia]
  rw[hg]at b2 b3;rcases Nat.lt_trichotomy b i with c|c|c
  ·have:=b3 (i - 1) ⋯ ⋯;lia
  ·exact c
  ·have h1:=b2 i ⋯ c;have h2:=List.pairwise_iff_getElem.mp hp (i - 1) i (by simp;lia) (by simp;lia) ⋯;have h2:xs[i - 1]'⋯<xs[i]'⋯:=by simpa using h2
   lia
theorem qjy(jr:tx w=false){a:Addr}{o:Obj}{es:Array (Int×Value)}{ep:Nat}{t:SetTable}(hk:IT w o es ep t)(bn:t.plain=false->¬1<es.size):
  ∀(i:Nat) (s:Shared) (A':Around) (E':VP9) (R:Option (Value×Nat)->Shared->Prop),s.heap.get? a=some o->i<=es.size->R ((es.toList.map (·.2))[i]?.map λv=>(v,slP t (i+1))) s->wpAny (model prog w) A' (setNext a (slP t i) i ep) R E' s:=by
 intro i s A' E' R ho hi hR;have hsz:=qwh hk.f;unfold setNext;refine X0 (Yl ho hk.d hk.f ?_);unfold setsByText;refine X0 (X0 (Zq (X4 ?_)));show wpAny _ _ (if tx w=true then _ else _) _ _ _;rw[X8 (by rw[jr];decide)];show wpAny _ _ (if(!t.plain&&decide (es.size>1))=true then _ else _) _ _ _;rw[X8 (by
  cases hp:t.plain with
  |true=>simp
  |false=>simpa using bn hp)]
 show wpAny _ _ ((if(!t.led && !es.isEmpty)=true then _ else pure ()) >>= _) _ _ _;rw[X8 (by rw[hk.led,jr];simp)];refine X0 (X4 ?_);refine X4 ?_;have hbl:SetTable.below t.place (slP t i)=i:=vju hk.pw (by rw[hsz];exact hi);show R (match es[SetTable.below t.place (slP t i)]?,t.place[SetTable.below t.place (slP t i)]? with|some (_,x),some j=>some (x,j+1)|_,_=>none) s;rw[hbl]
 by_cases b7:i<es.size
 ·have ql:i<t.place.size:=by rw[hsz];exact b7
  rw[Xj b7,Xj ql];rw[Xe,Xw,Xj b7]at hR;have hs:slP t (i+1)=t.place[i]+1:=by unfold slP;simp[Array.getD,ql]
  rw[hs]at hR;exact hR
 ·rw[Array.getElem?_eq_none ⋯];rw[Yi (by rw[X1,X7];lia)]at hR;exact hR
theorem wqg{a:Addr}{o:Obj}{es:Array (Int×Value)}{ep:Nat}{t:SetTable}(ho:s.heap.get? a=some o)(hk:IT w o es ep t){Q:Bool->Shared->Prop}(h:Q (!tx w&&(!t.plain&&decide (es.size>1))) s):wpAny (model prog w) A (setDrawn a) Q E s:=by
 unfold setDrawn;refine X0 (Yl ho hk.d hk.f ?_);unfold setsByText;refine X0 (X0 (Zq (X4 ?_)));exact X4 h
theorem wwu{a:Addr}{o:Obj}{es:Array (Int×Value)}{ep:Nat}{t:SetTable}{Q:VP9}(ho:s.heap.get? a=some o)(hk:IT w o es ep t)
  (h:∀(h':Heap) (d:Drawn) (I:Addr) (fp:List Addr) (bq:List Value) (St:Nat->Heap->Prop),(∀b o,s.heap.get? b=some o->h'.get? b=some o)->s.heap.objs.size<=I->(∀b∈fp,b=a\/s.heap.objs.size<=b) ->
   (∀A':Around,A'.handled=none->Walks prog w A' I fp [I] es.size (λi v=>bq[i]?=some v) St)->St 0 h'->bq.Perm (es.toList.map (·.2))->Q (.ref I) { s with heap:=h',drawn:=d }):wpAny (model prog w) A (pyIter (.ref a)) Q E s:=by
 have hT:s.TypeIs (.ref a) "set":=⟨o,ho,hk.c⟩;have iz:a<s.heap.objs.size:=Xd ho;refine wpAny_pyIter_slot hT F.slot_set_iter (Y6 F.slot_set_iter hT qk5 ?_ (qxj _));unfold Builtin.«frozenset.__iter__» Builtin.Frozenset.slot0 slotArgs;simp only[List.isEmpty_nil,Bool.not_true,Bool.false_eq_true,↓reduceIte,bind_assoc,List.length_nil,bne_self_eq_false];unfold Builtin.Frozenset.addrOf Builtin.Frozenset.sizeOf;refine X0 (X4 ?_)
 try dsimp only
 refine X0 (X4 ?_);refine X0 (X0 (wpAny_setEntries_of ho hk.d hk.f (X4 ?_)));refine X0 (wqg ho hk ?_)
 by_cases hdr:(!tx w&&(!t.plain&&decide (es.size>1)))=true
 ·rw [X6 hdr];refine X0 (drawn es.size _ s (by simp) λpl d hp=>?_);refine X0 (wpAny_newTuple ?_ (hsz:=by rw[X1,hp.length_eq,Xu];exact hk.z));refine X0 (wpAny_setEpoch_of (X3 _ ho) hk.d hk.f ?_);refine X0 (Y1 (X4 ⟨_,rfl,"set_iterator",_,⟨_,Xg _ rfl,rfl⟩,slot_next.lookup,?_⟩));have hsz:(s.heap.push (seqObj "tuple" (pl.map λ(i:Nat)=>rawInt i).toArray 0)).objs.size=s.heap.objs.size+1:=Heap.size_push ..;refine h _ d _ [_,a,s.heap.objs.size] (pl.map λj=>(es.getD j (0,.none)).2) _ (λb o e=>X3 _ (X3 _ e)) (by rw[hsz];exact Nat.le_succ _) (λb hb=>?_)
   (λA' hh=>vq8 hh _ a s.heap.objs.size (by rw[hsz];exact Xl (Yt iz)) (by rw[hsz];exact Xl (Nat.lt_succ_self _)) (o:=o) (oT:=seqObj "tuple" (pl.map λ(i:Nat)=>rawInt i).toArray 0) hk.d hk.f hp rfl)
   ⟨⟨_,Xg _ rfl,rfl,rfl⟩,X3 _ (X3 _ ho),X3 _ (Xg _ rfl)⟩ (qkp hp)
  rcases aD hb with rfl|hb
  ·exact .inr (by rw[hsz];exact Nat.le_succ _)
  rcases aD hb with rfl|hb
  ·exact .inl rfl
  ·rw[aC hb];exact .inr (Xa _)
 ·rw [X8 hdr];refine X0 (X4 ?_);refine X0 (wpAny_setEpoch_of ho hk.d hk.f ?_);refine X0 (Y1 (X4 ⟨_,rfl,"set_iterator",_,⟨_,Xg _ rfl,rfl⟩,slot_next.lookup,?_⟩));have hfp:∀b∈[s.heap.objs.size,a],b=a\/s.heap.objs.size<=b:=λb hb=>by
   rcases aD hb with rfl|hb
   ·exact .inr (Xa _)
   ·exact .inl (aC hb)
  cases jr:tx w with
  | true=>
   refine h _ s.drawn _ [_,a] ((pickOrder (w.params.setOrder a ep) es).toList.map (·.2)) _ (λb o e=>X3 _ e) (Xa _) hfp
    (λA' hh=>qkn hh _ a (Xl iz) (o:=o) hk.d hk.f (by rw[X1,(kqo _ es).length_eq,X7]) (λ_=>0) (qv4 jr hk.d hk.f))
    ⟨⟨_,Xg _ rfl,rfl,rfl⟩,X3 _ ho⟩ ((kqo _ es).map _)
  | false=>
   refine h _ s.drawn _ [_,a] (es.toList.map (·.2)) _ (λb o e=>X3 _ e) (Xa _) hfp
    (λA' hh=>qkn hh _ a (Xl iz) (o:=o) hk.d hk.f (by rw[X1,X7]) (slP t) (qjy jr hk (by
     rw[jr]at hdr
     simpa using hdr)))
    ⟨⟨_,Xg _ rfl,rfl,rfl⟩,X3 _ ho⟩ (.refl _)
theorem vjp{a:Addr}{o:Obj}{es:Array (Int×Value)}{ep:Nat}{t:SetTable}{Q:List Value->Shared->Prop}(hh:A.handled=none)(ho:s.heap.get? a=some o)(hk:IT w o es ep t)
  (h:∀(h':Heap) (d:Drawn) (tk:Nat) (vs:List Value),(∀b o,s.heap.get? b=some o->h'.get? b=some o)->s.heap.objs.size<h'.objs.size->vs.Perm (es.toList.map (·.2))->Q vs { s with heap:=h',drawn:=d,toks:=tk }):
  wpAny (model prog w) A (collect (.ref a)) Q E s:=by
 have iz:a<s.heap.objs.size:=Xd ho;unfold collect;refine X0 (wpAny_runValue (Yq F.entry_proto_collect ?_));rw[Yb F.plain_proto_collect _];show wpAny _ A.in1 (newList [] >>= λl=>again (.builtin "list.__iadd__" ⟨[l,.ref a],[]⟩)) _ _ s;refine X0 (Y1 ?_);refine X4 ⟨Zi F.plain_list_iadd _,Yq F.entry_list_iadd ?_⟩;rw[Yb F.plain_list_iadd _];have dv:(s.heap.push { cls:=.type "list",data:=.seq ([]:List Value).toArray }).get? a=some o:=X3 _ ho;have hT1:Shared.TypeIs { s with heap:=s.heap.push { cls:=.type "list",data:=.seq ([]:List Value).toArray } } (.ref a) "set":=⟨o,dv,hk.c⟩;show wpAny _ A.in1 (Builtin.List.listExtendWith (.ref s.heap.objs.size) (.ref a) (.ref s.heap.objs.size)) _ _ _;unfold Builtin.List.listExtendWith;refine X0 (Zb hT1 ?_);have h1:Builtin.List.listSameRef (.ref s.heap.objs.size) (.ref a)=false:=by simp[Builtin.List.listSameRef];exact Nat.ne_of_gt iz
 have h2:(Value.type "set" == Value.type "list")=false:=⋯
 have h3:(Value.type "set" == Value.type "tuple")=false:=⋯
 simp only[h1,h2,h3,Bool.or_false,Bool.false_eq_true,if_false];refine X0 (wwu dv hk λh' d I fp bq St ci hI hfp W st0 hv=>?_);refine X0 (Y9 (vwk ⟨o,ci _ _ dv,hk.c⟩ ?_));show wpAny _ A.in1 (PySem.rule "list.extend.makes-room" >>= λ_=>Builtin.List.listTouch (.ref s.heap.objs.size) >>= λ_=>
  again (.builtin "list.extend.loop" ⟨[.ref s.heap.objs.size,.ref I,.ref s.heap.objs.size],[]⟩)) _ _ _
 refine X0 (wpAny_rule ?_);have hsz:(s.heap.push { cls:=.type "list",data:=.seq ([]:List Value).toArray }).objs.size=s.heap.objs.size+1:=Heap.size_push ..;have hI':s.heap.objs.size+1<=I:=by rw[<-hsz];exact hI
 have kg:s.heap.objs.size∉fp:=λhm=>by
  rcases hfp _ hm with e|e
  ·exact absurd e (Nat.ne_of_gt iz)
  ·have e:s.heap.objs.size+1<=s.heap.objs.size:=by rw[<-hsz];exact e
   exact absurd e (Nat.not_succ_le_self _)
 have hS₁:h'.get? s.heap.objs.size=some { cls:=.type "list",data:=.seq ([]:List Value).toArray }:=ci _ _ (Xg _ rfl);refine X0 ?_;show wpAny _ A.in1 (updateSeq s.heap.objs.size (·.push .none) >>= λ_=>updateSeq s.heap.objs.size (·.pop)) _ _ _;refine X0 (wpAny_updateSeq hS₁ rfl ?_);have hS₂:=Yh (Obj.mapSeq (·.push Value.none)) hS₁ rfl;refine wpAny_updateSeq hS₂ rfl ?_;have hS₃:=Yh (Obj.mapSeq (·.pop)) hS₂ rfl;have oz:∀b o,b≠s.heap.objs.size->h'.get? b=some o->((h'.update s.heap.objs.size (Obj.mapSeq (·.push Value.none))).update s.heap.objs.size (Obj.mapSeq (·.pop))).get? b=some o:=
  λb o hb e=>(Zg _ _ (Ne.symm hb)).trans ((Zg _ _ (Ne.symm hb)).trans e)
 have WW:=W A.in1 hh;have ag:bq.length=es.size:=by rw[hv.length_eq,X1,X7]
 refine X4 ⟨Zi F.plain_extend_loop _,codeAny_extend_loopS WW.toS hk.z _ kg _ es.size 0 _ _ _ rfl (Yd _) (WW.frame 0 h' _ st0 λb hb o e=>oz b o (λe'=>kg (e'▸hb)) e) hS₃ (ItemsOf.nil _) λs' bj c' hm fc cu=>?_⟩;show wpAny _ A (load s.heap.objs.size >>= _) _ _ s';refine X0 (wpAny_load fc ?_);have hac:bj.toList=bq:=by
  apply List.ext_getElem?;intro j
  by_cases hj:j<es.size
  ·have hj1:j<bj.size:=by rw[cu.1];exact hj
   rw[Xw,Xj hj1];exact(cu.2 j _ (Xj hj1)).symm
  ·rw[Yi (by rw[X7,cu.1];lia),Yi ⋯]
 refine X4 ?_;rw[hac,Moved.eq_with hm];refine h _ d _ bq (λb o e=>?_) (Xd fc) hv;have hb:b<s.heap.objs.size:=Xd e;have hbS:b≠s.heap.objs.size:=Xl hb;refine hm.heap b o (λhmem=>?_) (oz b o hbS (ci b o (X3 _ e)));rcases aD hmem with e'|hmem
 ·exact hbS e'
 ·rw[aC hmem]at hb;exact absurd hb (Nat.not_lt.mpr (Nat.le_of_succ_le hI'))
end
end Tw
namespace Tl
open Q
mutual
noncomputable def ltD:D->D->Option Bool
 |.int i,.int j=>some (decide (i<j))|.str x,.str y=>some (decide (x.cps.toList<y.cps.toList))|.tup xs,.tup ys=>ltDs xs ys|_,_=>none
noncomputable def ltDs:List D->List D->Option Bool
 |[],[]=>some false|[],_::_=>some true|_::_,[]=>some false|a::x,b::y=>if a=b then ltDs x y else ltD a b
end
def Jv(a:D):List D->List D
 |[]=>[a]|b::r=>if ltD b a=some true then b::Jv a r else a::b::r
def wv:List D->List D
 |[]=>[]|a::r=>Jv a (wv r)
def V7:D->Bool
 |.tup (.int _::_)=>true|_=>false
def okT(ds:List D):Bool:=ds.all (λd=>jq 6 d&&V7 d)&&ds.all λa=>ds.all λb=>(ltD a b).isSome
def vw(l:List D)(d:D):List D:=if d∈l then l else l++[d]
def ddT(ds:List D):List D:=ds.foldl vw []
end Tl
namespace Q
open Tl
def Vq:Sd->Option Sd:=λx=>match x.2 with
 |.lst ds=>if(ddT ds).length<=59/\okT ds=true then some (.rt,.lst (wv (ddT ds)))else none|_=>none
end Q
namespace Tl
open PySem PyProof.Rows SeqAt
def W9(A:Around)(s:Shared)(y x:Value)(b:Bool):Prop:=
 ∀(prog:Program) (w:World) (E:VP9) (Q:VP9),Q (.bool b) s->wpAny (model prog w) A (richCompare .Lt y x) Q E s
inductive Lx (A:Around)(s:Shared):List Value->List Value->Bool->Prop
 |nn:Lx A s [] [] false
 |nc (y:Value) (ys:List Value):Lx A s [] (y::ys) true
 |cn (x:Value) (xs:List Value):Lx A s (x::xs) [] false
 |eq {x y:Value} {xs ys:List Value} {b:Bool}:EqAt A s x y true->Lx A s xs ys b->Lx A s (x::xs) (y::ys) b
 |lt {x y:Value} {xs ys:List Value} {b:Bool}:EqAt A s x y false->W9 A s x y b->Lx A s (x::xs) (y::ys) b
theorem vvz {prog:Program} {w:World} {A:Around} {s:Shared} {E:VP9} {xs ys:List Value} {k:Bool} (h:Lx A s xs ys k):∀{R:Option Fin×Unit->Shared->Prop},(R (some (.done (.ret (.bool k))),()) s)->(k=decide (xs.length<ys.length)->R (none,()) s) ->
  wpAny (model prog w) A (forIn (xs.zip ys) ((none,()):Option Fin×Unit) λx __s=>do
      let __do_lift <-eqBool x.fst x.snd
      if(!__do_lift)=true then do
        PySem.rule "tuple.compare.by-the-first-pair-that-differs"
        let __do_lift <-richCompare CmpOp.Lt x.fst x.snd
        let __do_lift <-ret __do_lift
        pure (ForInStep.done (some __do_lift,()))
       else pure (ForInStep.yield (none,()))) R E s:=by
 induction h with
 |nn=>intro R h1 h2;exact X4 (h2 rfl)|nc y ys=>intro R h1 h2;exact X4 (h2 (by simp))|cn x xs=>intro R h1 h2;exact X4 (h2 (by simp))
 |eq he _ ih=>
  intro R h1 h2;rw[List.zip_cons_cons,List.forIn_cons];refine X0 (X0 (he prog w _ _ ?_));rw[X8 ⋯];refine X4 ?_;exact ih h1 λe=>h2 (by rw[e,Xk,Xk];simp)
 |lt he hl=>
  intro R h1 h2;rw[List.zip_cons_cons,List.forIn_cons];refine X0 (X0 (he prog w _ _ ?_));rw[X6 ⋯];refine X0 (wpAny_rule (X0 (hl prog w _ _ ?_)));exact X0 (X4 (X4 (X4 h1)))
theorem qxv{prog:Program}{w:World}{A:Around}{s:Shared}{E:VP9}{l b:Addr}{items af:Array Value}{k:Bool}{Q:VP9}(hl:s.heap.IsTuple l items)(hb:s.heap.IsTuple b af)(h:Lx A s items.toList af.toList k)(hq:Q (.bool k) s):
  wpAny (model prog w) A (Builtin.«tuple.__lt__» ⟨[.ref l,.ref b],[]⟩) (λfin s'=>∃v,fin=.done (.ret v)/\Q v s') E s:=by
 have tyb:=hb.typeIs;obtain⟨ol,hol,c9,nl,hdl⟩:=hl;obtain⟨ob,d9,hcb,nb,fj⟩:=hb;unfold Builtin.«tuple.__lt__»;show wpAny _ _ (isInstance (.ref b) (.type "tuple") >>= _) _ _ _;refine X0 (wpAny_isInstance tyb isSubtype_tuple_tuple ?_);simp only[Bool.not_true,Bool.false_eq_true,if_false];refine X0 (wpAny_tupleItemsOf hol hdl (X0 (wpAny_tupleItemsOf d9 fj ?_)));refine X0 (vvz h ?_ λe=>?_)
 ·exact X4 ⟨_,rfl,hq⟩
 ·refine X4 ⟨_,rfl,?_⟩;have:Builtin.Tuple.tupleCompareSizes CmpOp.Lt items.size af.size=.bool k:=by
   rw[e,X7,X7];rfl
  rw[this];exact hq
theorem qve{A:Around}{s:Shared}{l b:Addr}{items af:Array Value}{k:Bool}(hl:s.heap.IsTuple l items)(hb:s.heap.IsTuple b af)(hu:A.units<cLine)(h:Lx A.in1 s items.toList af.toList k):W9 A s (.ref l) (.ref b) k:=λprog w E Q hq=>by
 have t1:=hl.typeIs;have t2:=hb.typeIs;exact richCompare_meets_room (op:=.Lt) t1 t2 PySem.F.slot_tuple_lt PySem.F.entry_tuple_lt (PySem.F.args_tuple_lt_2 _ _)
  (Meets.of_wp (S:=λA R s=>s.heap.IsTuple l items/\s.heap.IsTuple b af/\Lx A.in1 s items.toList af.toList k/\R (.ok (.ret (.bool k))) s) λprog w A R s hs=>qxv (Q:=λv s'=>R (.ok (.ret v)) s') hs.1 hs.2.1 hs.2.2.1 hs.2.2.2) ⟨hl,hb,h,⟨(λx=>nomatch x),hq⟩⟩ hu
open Q
theorem vw0{A:Around}{s:Shared}(x y:Str)(t u:Tok):W9 A s (.str x t) (.str y u) (decide (x.cps.toList<y.cps.toList)):=λprog w E Q h=>PyProof.Rows.lt_str h
theorem lt_int{A:Around}{s:Shared}(i j:Int)(t u:Tok):W9 A s (.int i t) (.int j u) (decide (i<j)):=λprog w E Q h=>wpAny_lt_int h
theorem vvy{s:Shared}{A:Around}{n:Nat}(hu:A.units+2*n+1<cLine)(b7:∀(d d':D) (u w:Value) (b:Bool),jq n d=true->jq n d'=true->j9 s.heap d u->j9 s.heap d' w->ltD d d'=some b->W9 A s u w b):∀(xs ys:List D) (us jm:List Value) (b:Bool),keyDs n xs=true->keyDs n ys=true->CReps s.heap xs us->CReps s.heap ys jm->ltDs xs ys=some b->Lx A s us jm b:=by
 intro xs
 induction xs<;>intro ys us jm b kx ky q1 q2 h<;>cases ys<;>unfold CReps at q1 q2<;>unfold ltDs at h
 ·cases h;subst q1 q2;exact .nn
 ·obtain⟨u,r,rfl,_,_⟩:=q2;cases h;subst q1;exact .nc _ _
 ·obtain⟨u,r,rfl,_,_⟩:=q1;cases h;subst q2;exact .cn _ _
 ·rename_i x xs ihx y ys;obtain⟨u,r,rfl,g1,g2⟩:=q1;obtain⟨u',r',rfl,g3,g4⟩:=q2;unfold keyDs at kx ky;rw[Bool.and_eq_true]at kx ky;have he:=Kz (s:=s) n (A:=A) (kks kx.1) g1 g3 ⋯;rw[kkr kx.1 ky.1]at he
  by_cases e:x=y
  ·rw[X6 e]at h;rw[Xb e]at he;exact .eq he (ihx ys r r' b kx.2 ky.2 g2 g4 h)
  ·rw[X8 e]at h;rw[Xi e]at he;exact .lt he (b7 _ _ _ _ _ kx.1 ky.1 g1 g3 h)
theorem wze{s : Shared}: ∀(n : Nat) {d d' : D} {u w : Value} {A : Around} {b : Bool}, jq n d = true -> jq n d' = true -> j9 s.heap d u -> j9 s.heap d' w -> A.units+2*n<cLine -> ltD d d' = some b -> W9 A s u w b:= by
  intro n
  induction n <;> intro d d' u w A b k1 k2 r1 r2 hu h <;> cases d <;> unfold jq at k1 <;> (try (cases k1; done)) <;> cases d' <;> unfold ltD at h <;> (try (cases h; done)) <;> unfold j9 at r1 r2 <;> first
    |(obtain⟨t, rfl⟩:= r1; obtain⟨t', rfl⟩:= r2; cases h; first|exact lt_int _ _ _ _|exact vw0 _ _ _ _)
    |skip
  rename_i n ih xs ys;unfold jq at k2;obtain⟨a, us, rfl, h1, q1⟩:= r1;obtain⟨a', jm, rfl, h2, q2⟩:= r2;have gp:= L3.in1_units A;exact qve h1 h2 ⋯ (vvy ⋯ (λ_ _ _ _ _ a1 a2 a3 a4 a5=>ih a1 a2 a3 a4 ⋯ a5) xs ys us jm b k1 k2 q1 q2 h)
end Tl
namespace Tl
open Q
theorem text_tot{x y:List Nat}(h:¬x<y)(ne:x≠y):y<x:=by
 have h1:y<=x:=List.not_lt.mp h;rcases Decidable.em (y<x)with h2|h2
 ·exact h2
 ·exact absurd (List.le_antisymm (List.not_lt.mp h2) h1) ne
mutual
theorem jzg{a b:D}(h:ltD a b=some true):ltD b a=some false:=by
 cases a<;>cases b<;>unfold ltD at h ⊢<;>first
  |cases h;done
  |exact lts_asym h
  |rw[Xi (List.lt_asymm (Ys (oq9 h)))]
  |have:=Ys (oq9 h);rw[Xi ⋯]
theorem lts_asym{x y:List D}(h:ltDs x y=some true):ltDs y x=some false:=by
 cases x<;>cases y<;>unfold ltDs at h ⊢<;>first
  |cases h;done
  |rfl
  |skip
 rename_i a x b y
 by_cases e:a=b
 ·rw[X6 e]at h;rw[X6 e.symm];exact lts_asym h
 ·rw[X8 e]at h;rw[X8 λz=>e z.symm];exact jzg h
end
theorem qvg(a:D)(h:ltD a a=some true):False:=by
 have:=jzg h;rw[h]at this;cases this
mutual
theorem ZW{a b : D}(h : ltD a b = some false)(ne : a≠b): ltD b a = some true:= by
  cases a <;> cases b <;> unfold ltD at h ⊢ <;> first
    |cases h; done
    |exact lts_tot h λz=>ne (by rw[z])|(rename_i x y; rw[Xb (text_tot (of_decide_eq_false (oq9 h)) λz=>ne (by cases x; cases y; cases Array.toList_inj.mp z; rfl))])|(rename_i i j; have:= of_decide_eq_false (oq9 h); have : i≠j:= λz=>ne (by rw[z]); rw[Xb ⋯])
theorem lts_tot{x y:List D}(h:ltDs x y=some false)(ne:x≠y):ltDs y x=some true:=by
 cases x<;>cases y<;>unfold ltDs at h ⊢<;>first
  |cases h;done
  |rfl
  |exact absurd rfl ne
  |skip
 rename_i a x b y
 by_cases e:a=b
 ·rw[X6 e]at h;rw[X6 e.symm];exact lts_tot h λz=>ne (by rw[e,z])
 ·rw[X8 e]at h;rw[X8 λz=>e z.symm];exact ZW h e
end
mutual
theorem lt_trans{a b c:D}(h1:ltD a b=some true)(h2:ltD b c=some true):ltD a c=some true:=by
 cases a<;>cases b<;>(try (unfold ltD at h1;cases h1;done))<;>cases c<;>unfold ltD at h1 h2 ⊢<;>first
  |cases h2;done
  |exact lts_trans h1 h2
  |rw[Xb (List.lt_trans (Ys (oq9 h1)) (Ys (oq9 h2)))]
  |(have:=Ys (oq9 h1);have:=Ys (oq9 h2);rw[Xb ⋯])
theorem lts_trans{x y z:List D}(h1:ltDs x y=some true)(h2:ltDs y z=some true):ltDs x z=some true:=by
 cases x<;>cases y<;>(try (unfold ltDs at h1;cases h1;done))<;>cases z<;>unfold ltDs at h1 h2 ⊢<;>first
  |cases h2;done
  |rfl
  |skip
 rename_i a x b y c z
 by_cases e1:a=b
 ·subst e1;rw[X6 rfl]at h1
  by_cases e2:a=c
  ·rw[X6 e2]at h2 ⊢;exact lts_trans h1 h2
  ·rw[X8 e2]at h2 ⊢;exact h2
 ·rw[X8 e1]at h1
  by_cases e2:b=c
  ·rw[<-e2,X8 e1];exact h1
  ·rw[X8 e2]at h2;have ht:=lt_trans h1 h2;rw[X8 λe=>by rw[e]at ht;exact qvg c ht];exact ht
end
end Tl
namespace Tl
open PySem PySem.W PyProof.Rows Srt Q
abbrev Ls(a b:D):Prop:=ltD a b=some true
def Cmp(ds:List D):Prop:=∀a∈ds,∀b∈ds,∃k,ltD a b=some k
theorem kvo{ds:List D}(h:Cmp ds){a b:D}(ha:a∈ds)(hb:b∈ds)(ne:a≠b):Ls a b\/Ls b a:=by
 obtain⟨k,hk⟩:=h a ha b hb;cases k with|true=>exact .inl hk|false=>exact .inr (ZW hk ne)
theorem kvm{α:Type}{p q:α->Bool}:∀{l:List α},(∀a∈l,p a=true->q a=true)->(∃x∈l,q x=true/\p x=false)->l.countP p<l.countP q
 | [],_,h=>by obtain⟨x,hx,_⟩:=h;cases hx
 | a::l,hi,h=>by
  have mono:l.countP p<=l.countP q:=List.countP_mono_left λb hb hp=>hi b (lc9 _ hb) hp
  rw[List.countP_cons,List.countP_cons];obtain⟨x,hx,q1,q2⟩:=h;rcases aD hx with rfl|hx
  ·rw[X6 q1,X8 (by rw[q2];decide)];lia
  ·have:=kvm (l:=l) (λb hb hp=>hi b (lc9 _ hb) hp) ⟨x,hx,q1,q2⟩;have e:=hi a X5
   by_cases c:p a=true
   ·rw[X6 c,X6 (e c)];lia
   ·rw[X8 c]
    split<;>lia
def rk(ds:List D)(d:D):Int:=((ds.countP λe=>decide (Ls e d):Nat):Int)
theorem qze{ds:List D}{a b:D}(ha:a∈ds)(h:Ls a b):rk ds a<rk ds b:=by
 unfold rk;have:=kvm (l:=ds) (p:=λe=>decide (Ls e a)) (q:=λe=>decide (Ls e b)) (λe _ he=>Xb (lt_trans (Ys he) h)) ⟨a,ha,Xb h,Xi (qvg a)⟩;lia
theorem vqk{ds:List D}(hc:Cmp ds){a b:D}(ha:a∈ds)(hb:b∈ds):ltD a b=some (decide (rk ds a<rk ds b)):=by
 obtain⟨k,hk⟩:=hc a ha b hb;rw[hk];cases k with
 | true=>rw[Xb (qze ha hk)]
 | false=>
  rw[Xi]
  by_cases e:a=b
  ·subst e;lia
  ·have:=qze hb (ZW hk e);lia
theorem vzo{ds:List D}(hc:Cmp ds){a b:D}(ha:a∈ds)(hb:b∈ds)(h:rk ds a=rk ds b):a=b:=by
 by_cases e:a=b
 ·exact e
 ·rcases kvo hc ha hb e with z|z
  ·have:=qze ha z;lia
  ·have:=qze hb z;lia
structure TT (h:Heap)(vs:List Value)(ds:List D):Prop where
 len:vs.length=ds.length
 at':∀(i:Nat) v d,vs[i]?=some v->ds[i]?=some d->∃b x r,v=.ref b/\d=.tup (.int x::r)/\j9 h d v/\jq 6 d=true
theorem TT.tail{h:Heap}{v:Value}{vs:List Value}{d:D}{ds:List D}(t:TT h (v::vs) (d::ds)):TT h vs ds:=⟨by have:=t.len;simpa using this,λi v d e1 e2=>t.at' (i+1) v d (by simpa using e1) (by simpa using e2)⟩
theorem TT.kat{h:Heap}:∀{vs:List Value} {ds:List D},TT h vs ds->∃fs:List Value,KatTups h vs fs/\fs.length=vs.length/\∀v∈fs,∃x t,v=Value.int x t
 |[],_,_=>⟨[],.nil,rfl,λv h=>nomatch h⟩|v::vs,[],t=>by have:=t.len;simp at this
 |v::vs,d::ds,t=>by
  obtain⟨b,x,r,rfl,rfl,hr,hk⟩:=t.at' 0 v d rfl rfl;obtain⟨fs,g1,g2,g3⟩:=TT.kat t.tail;unfold j9 at hr;obtain⟨a,us,e,⟨ob,d9,hc,nn,fv⟩,hi⟩:=hr;cases e;unfold CReps at hi;obtain⟨u,rr,rfl,hu,_⟩:=hi;unfold j9 at hu;obtain⟨tk,rfl⟩:=hu;refine⟨.int x tk::fs,.cons d9 hc fv rfl g1,by simp[g2],λv hv=>?_⟩;rcases aD hv with rfl|hv
  ·exact⟨_,_,rfl⟩
  ·exact g3 v hv
section
variable {prog:Program}{w:PySem.World}{A:Around}{E:VP9}{s:Shared}
theorem wkf{us jm:List Value}{b:Bool}{Q:Bool->Shared->Prop}(h:Lx A s us jm b)(hq:Q b s):∀{fin:Bool} {i:Nat},fin=decide (us.length<jm.length)->KatLex prog w A true fin Q (us.zip jm) (i+1) s:=by
 induction h<;>intro f i e
 ·rw[e];exact kat_nil hq
 ·rw[e];exact kat_nil (by simpa using hq)
 ·rw[e];exact kat_nil (by simpa using hq)
 ·rename_i he _ ih;exact kat_cons (he prog w _ _ (kat_yes (ih hq (by rw[e];simp))))
 ·rename_i he hl;refine kat_cons (he prog w _ _ (kat_no ?_));rw[show(true&&(i+1==0))=false by simp];exact kat_one _ _ (hl prog w _ _ hq)
theorem wxn{vs:List Value}{ds:List D}{i j:Nat}{C:Bool->Shared->Prop}{b:Bool}(hu:A.units+20<cLine)(t:TT s.heap vs ds)(hi:i<vs.length)(hj:j<vs.length)(hb:ltD (ds[i]'(by rw[<-t.len];exact hi)) (ds[j]'(by rw[<-t.len];exact hj))=some b)(h:C b s):kas_ask prog w A (tuples' true) vs i j C s:=by
 have li:i<ds.length:=by rw[<-t.len];exact hi
 have lj:j<ds.length:=by rw[<-t.len];exact hj
 unfold kas_ask;have ei:vs.getD i Value.none=vs[i]:=by simp[hi]
 have ej:vs.getD j Value.none=vs[j]:=by simp[hj]
 rw[ei,ej];obtain⟨b1,x1,r1,e1,f1,c1,k1⟩:=t.at' i _ _ (X2 hi) (X2 li);obtain⟨b2,x2,r2,e2,f2,c2,k2⟩:=t.at' j _ _ (X2 hj) (X2 lj);rw[f1,f2]at hb;rw[f1]at c1 k1;rw[f2]at c2 k2;rw[e1]at c1 ⊢;rw[e2]at c2 ⊢;unfold j9 at c1 c2;obtain⟨a1,us1,q1,⟨o1,dv,hc1,n1,jb⟩,i1⟩:=c1;obtain⟨a2,us2,q2,⟨o2,ho2,ja,n2,du⟩,i2⟩:=c2;cases q1;cases q2;unfold jq at k1 k2;unfold CReps at i1 i2;obtain⟨u1,v1,rfl,p1,w1⟩:=i1;obtain⟨u2,v2,rfl,p2,w2⟩:=i2;have kd1:=k1;have kd2:=k2;unfold keyDs at kd1 kd2;rw[Bool.and_eq_true]at kd1 kd2;unfold j9 at p1 p2;obtain⟨t1,rfl⟩:=p1;obtain⟨t2,rfl⟩:=p2;unfold ltD ltDs at hb;refine kat_lt dv jb ho2 du ?_;show KatLex prog w A true _ C ((Value.int x1 t1,Value.int x2 t2)::v1.zip v2) 0 s;refine kat_cons (wpAny_eqBool_int ?_)
 by_cases e:x1=x2
 ·subst e;rw[X6 rfl]at hb;rw[beq_self_eq_true];exact kat_yes (wkf (vvy (n:=5) ⋯ (λ_ _ _ _ _ a1 a2 a3 a4 a5=>wze 5 a1 a2 a3 a4 ⋯ a5) r1 r2 v1 v2 b kd1.2 kd2.2 w1 w2 hb) h (by simp))
 ·rw[X8 (λz=>e (by injection z))]at hb;unfold ltD at hb;cases oq9 hb;rw[Ye e];exact kat_no (oneLt_int h)
end
theorem jzn(a:D):∀r:List D,(Jv a r).Perm (a::r)
 |[]=>.refl _
 |b::r=>by
  unfold Jv
  split
  ·exact((jzn a r).cons b).trans (.swap _ _ _)
  ·exact .refl _
theorem z9:∀r:List D,(wv r).Perm r
 |[]=>.refl _|a::r=>(jzn a _).trans ((z9 r).cons a)
theorem qw7{a:D}:∀{r:List D},r.Pairwise Ls->a∉r->(∀b∈r,∃k,ltD b a=some k)->(Jv a r).Pairwise Ls
 | [],_,_,_=>List.pairwise_singleton _ _
 | b::r,hp,hn,hc=>by
  obtain⟨h1,h2⟩:=List.pairwise_cons.mp hp;unfold Jv
  split
  ·rename_i hb;refine List.pairwise_cons.mpr ⟨λc hcm=>?_,qw7 h2 (λz=>hn (lc9 _ z)) λc hcm=>hc c (lc9 _ hcm)⟩;rcases aD ((jzn a r).mem_iff.mp hcm)with rfl|hcm
   ·exact hb
   ·exact h1 c hcm
  ·rename_i hb;have dm:Ls a b:=by
    obtain⟨k,hk⟩:=hc b X5;cases k with|true=>exact absurd hk hb|false=>exact ZW hk λz=>hn (by rw[z];exact X5)
   refine List.pairwise_cons.mpr ⟨λc hcm=>?_,hp⟩;rcases aD hcm with rfl|hcm
   ·exact dm
   ·exact lt_trans dm (h1 c hcm)
theorem jxs:∀{ds:List D},Cmp ds->ds.Nodup->(wv ds).Pairwise Ls
 |[],_,_=>.nil
 |a::r,hc,hn=>by
  obtain⟨h1,h2⟩:=List.nodup_cons.mp hn;unfold wv;exact qw7 (jxs (λx hx y hy=>hc x (lc9 _ hx) y (lc9 _ hy)) h2) (λz=>h1 ((z9 r).mem_iff.mp z)) λb hb=>hc b (lc9 _ ((z9 r).mem_iff.mp hb)) a X5
theorem kxw{ds p:List D}(hc:Cmp ds)(hn:ds.Nodup)(hp:p.Perm ds)(h:p.Pairwise Ls):p=wv ds:=
 List.Perm.eq_of_pairwise (λa b _ _ h1 h2=>by
  have h2:ltD b a=some true:=h2;rw[jzg h1]at h2;cases h2) h (jxs hc hn) (hp.trans (z9 ds).symm)
abbrev Q9(s:Shared)(a:Addr)(vs:List Value):Shared:={ s with heap:=((s.heap.update a (Obj.mapSeq λ_=>#[])).push (seqObj "tuple" vs.toArray 0)).push (seqObj "list" #[] 0) }
section
variable {prog:Program}{w:PySem.World}{A:Around}{E:VP9}{s:Shared}{vs:List Value}{ds:List D}{a:Addr}{n:Nat}{P:Fin->Shared->Prop}
theorem TT.keep{h h':Heap}(t:TT h vs ds)(et:∀b ob,h.get? b=some ob->ob.cls=.type "tuple"->h'.get? b=some ob):TT h' vs ds:=⟨t.len,λi v d e1 e2=>by
 obtain⟨b,x,r,g1,g2,g3,g4⟩:=t.at' i v d e1 e2;exact⟨b,x,r,g1,g2,jvj (λb ob _ _ e c _=>et b ob e c) g4 g3,g4⟩⟩
theorem jzh{κ:SortKind}{key:Nat->Int}{G:List Nat->Prop}(ho:s.heap.get? a=some (seqObj "list" vs.toArray n))(qe:vs.length<64)
  (hk:2<=vs.length->∀Q:SortKind->Shared->Prop,Q κ (Q9 s a vs)->wpAny (model prog w) A (keyKind' vs.toArray) Q E (Q9 s a vs))
  (hask:∀i j (C:Bool->Shared->Prop),i<vs.length->j<vs.length->C (decide (key i<key j)) (Q9 s a vs)->kas_ask prog w A κ vs i j C (Q9 s a vs))
  (fin:∀p:List Nat,p.Perm (List.range vs.length)->(p.map key).Pairwise (·<=·)->G p)
  (h:∀p:List Nat,p.Perm (List.range vs.length)->G p->P (.done (.ret .none)) { s with heap:=sortedHeap s.heap a vs (p.map λi=>vs.getD i .none).toArray }):
  wpAny (model prog w) A (Builtin.«list.sort» ⟨[.ref a],[]⟩) P E s:=by
 rw[list_sort_plain];have iz:a<s.heap.objs.size:=Xd ho;refine X0 (listItems_at ho rfl ?_);refine X0 (listUpdate_at ho rfl ?_ (by rw[X9,Yr];lia) (Yd _));obtain⟨e1,dv⟩:∃e1,(s.heap.update a (Obj.mapSeq λ_=>#[])).get? a=some (seqObj "list" #[] e1):=⟨_,get?_update_seq ho (λ_=>#[])⟩;refine X0 (seqEpoch_at dv rfl ?_);refine X0 (wpAny_newTuple ?_ (by show vs.length<=_;rw[Yr];lia));refine X0 (wpAny_newList ?_ (Yd _));refine Y9 ?_;have ho6:(((s.heap.update a (Obj.mapSeq λ_=>#[])).push (seqObj "tuple" vs.toArray 0)).push (seqObj "list" #[] 0)).get? a=some (seqObj "list" #[] e1):=X3 _ (X3 _ dv);show wpAny (model prog w) A _ P E (Q9 s a vs);dsimp only;have hsz:vs.toArray.size=vs.length:=by simp
 by_cases h2:vs.toArray.size<2
 ·rw[X6 h2,X6 h2];refine X0 (X4 ?_);rw[StateT.run_pure];refine X0 (X4 ?_);dsimp only;have es:(arrOf (SortSt.mk' general' (vs.toArray.zip vs.toArray) #[] 7 none)).map (·.2)=((List.range vs.length).map λi=>vs.getD i .none).toArray:=by
   show(vs.toArray.zip vs.toArray).map (·.2)=_;apply Array.toList_inj.mp;refine List.ext_getElem? λi=>?_
   by_cases hi:i<vs.length
   ·simp[hi]
   ·simp[Nat.le_of_not_lt hi]
  rw[es];refine X0 (seqEpoch_at ho6 rfl ?_);refine X0 (listUpdate_at ho6 rfl ?_ (Yd _) (by rw[X9,X1,Xu,Yr];lia));simp only[bne_self_eq_false,Bool.false_eq_true,if_false];refine X4 (h _ (.refl _) (fin _ (.refl _) ?_));rw[hsz]at h2;rcases(show vs.length=0\/vs.length=1 by lia)with e|e<;>rw[e]<;>simp[List.range_succ]
 ·rw[X8 h2,X8 h2];rw[hsz]at h2;refine X0 (hk ⋯ _ ?_);obtain⟨p,q1,q2,q3⟩:=vzf (key:=key) (n:=vs.length) ⋯;refine X0 (wpAny_mono (kat_run (ks:=vs) (vs:=vs) (G:=λp' s'=>p'=p/\s'=(Q9 s a vs))
   (Q:=λdn s'=>arrOf dn=p.map (kas_item (vs.toArray.zip vs.toArray))/\failedOf dn=none/\s'=(Q9 s a vs))
   rfl ⋯ qe (λp' dn s' a1 a2 a3 a4=>⟨by rw[a2,a4.1],a3,a4.2⟩) (wqe (λi j C hi hj hC=>hask i j C hi hj hC) q1 ⟨rfl,rfl⟩)) ?_ λ_ _ e=>e)
  rintro ⟨⟨⟩,dn⟩ s' ⟨har,hf,rfl⟩;dsimp only;rw[kat_snds rfl har];refine X0 (seqEpoch_at ho6 rfl ?_);refine X0 (listUpdate_at ho6 rfl ?_ (Yd _) (by rw[X9,X1,X7,q2.sz,Yr];lia));rw[hf];simp only[bne_self_eq_false,Bool.false_eq_true,if_false];refine X4 (h p.toList q2.pm (fin _ q2.pm ?_));rw[Yc];refine List.pairwise_iff_getElem.mpr λi j hi hj ji=>?_
  rw[X7,q2.sz]at hi hj;have:=q3.le (Nat.le_of_lt ji) hj;unfold Srt.K at this;rw[Array.getElem_toList,Array.getElem_toList]
  simpa [Array.getD,q2.sz,hi,hj]using this
theorem kx4(hu:A.units+20<cLine)(ho:s.heap.get? a=some (seqObj "list" vs.toArray n))(ht:TT s.heap vs ds)(hc:Cmp ds)(da:ds.Nodup)(qe:vs.length<64)
  (h:∀p:List Nat,p.Perm (List.range vs.length)->(p.map λi=>ds.getD i .non)=wv ds->P (.done (.ret .none)) { s with heap:=sortedHeap s.heap a vs (p.map λi=>vs.getD i .none).toArray }):
  wpAny (model prog w) A (Builtin.«list.sort» ⟨[.ref a],[]⟩) P E s:=by
 have o8:TT (((s.heap.update a (Obj.mapSeq λ_=>#[])).push (seqObj "tuple" vs.toArray 0)).push (seqObj "list" #[] 0)) vs ds:=ht.keep λb ob hb c9=>X3 _ (X3 _ (by
  rw[Zg _ _ (λz=>by
   rw[<-z,ho]at hb;cases hb;exact absurd (show Value.type "list"=Value.type "tuple" from c9) ⋯)]
  exact hb))
 have hnn:ds.length=vs.length:=ht.len.symm;have gd:∀(i:Nat) (hi:i<vs.length),ds.getD i .non=ds[i]'⋯:=λi hi=>by simp[show i<ds.length by lia]
 have key:∀i j,i<vs.length->j<vs.length->rk ds (ds.getD i .non)=rk ds (ds.getD j .non)->i=j:=λi j hi hj e=>by
  rw[gd i hi,gd j hj]at e;have:=vzo hc (Y2 _) (Y2 _) e;exact(List.getElem?_inj ⋯ da).mp (by rw[X2 ⋯,X2 ⋯,this])
 have fin:∀p:List Nat,p.Perm (List.range vs.length)->(p.map λi=>rk ds (ds.getD i .non)).Pairwise (·<=·)->(p.map λi=>ds.getD i .non)=wv ds:=λp hp r9=>by
  have pp:(p.map λi=>ds.getD i .non).Perm ds:=by
   refine(hp.map _).trans (.of_eq ?_);rw[<-hnn];exact Tb.rng_getD ds .non
  refine kxw hc da pp ?_;rw[Yc]at r9 ⊢;refine List.Pairwise.imp_of_mem (fun {i j} hi hj le=>?_) (r9.and (hp.nodup_iff.mpr List.nodup_range));have hi:=List.mem_range.mp (hp.mem_iff.mp hi);have hj:=List.mem_range.mp (hp.mem_iff.mp hj);have:=vqk hc (a:=ds.getD i .non) (b:=ds.getD j .non) (by rw[gd i hi];exact Y2 _) (by rw[gd j hj];exact Y2 _);have ne:=λe=>le.2 (key i j hi hj e)
  have le:=le.1;rw[Xb ⋯]at this;exact this
 refine jzh (κ:=tuples' true) (key:=λi=>rk ds (ds.getD i .non)) ho qe (λh2 Q hq=>?_) (λi j C hi hj hC=>wxn hu o8 hi hj (by
    have:=vqk hc (a:=ds.getD i .non) (b:=ds.getD j .non) (by rw[gd i hi];exact Y2 _) (by rw[gd j hj];exact Y2 _);rw[<-gd i hi,<-gd j hj];exact this) hC) fin h
 obtain⟨fs,g1,g2,g3⟩:=o8.kat;refine kat_kind (T:=.type "int") g1 ⋯ (λv hv=>?_) rfl ?_
 ·obtain⟨x,t,rfl⟩:=g3 v hv;exact .now
 have eb:(Value.type "int" != Value.type "tuple")=true:=⋯
 rw[eb];exact hq
end
end Tl
namespace Tl
open PySem PySem.W PyProof.Rows Srt Q Tw Tb
def trP(prog:Program)(w:PySem.World)(Pd:D->Addr->Prop):HeapKind prog w Kd where
 is:=λh k a=>j9 h k.1 (.ref a)/\Pd k.1 a
 hash:=λk=>KQ w k.1
 draws:=λk=>Q7 k.1
 room:=λA=>A.units+40<cLine
 inj:=λhx hy=>(Kq prog w).inj hx.1 hy.1
 keeps:=λx ho hd hs=>⟨(Kq prog w).keeps x.1 ho hd hs,x.2⟩
 pyHash:=λhu hk h=>(Kq prog w).pyHash hu hk.1 h
 eqBool:=λhu hx hy h=>(Kq prog w).eqBool hu hx.1 hy.1 h
 quiet:=λhk h=>(Kq prog w).quiet hk.1 h
section
variable {prog:Program}{w:PySem.World}{A:Around}{E:VP9}{s:Shared}{Pd:D->Addr->Prop}
theorem wxh(n m:Nat){d:D}{u:Value}{A:Around}{s:Shared}{Q:Bool->Shared->Prop}(hm:n<=m)(hk:jq n d=true)(hr:j9 s.heap d u)(h:Q false s):wpAny (model prog w) A (ofAClassStatement m u) Q E s:=by
 refine kx8 (P:=λn u=>∀m (Q:Bool->Shared->Prop),n<=m->Q false s->wpAny (model prog w) A (ofAClassStatement m u) Q E s) ?_ (λn a us ht hi m Q hm h=>?_) n hk hr m Q hm h
 ·rintro n u (rfl|⟨i,t,rfl⟩|⟨i,t,rfl⟩) m Q _ h<;>(unfold ofAClassStatement;exact X4 h)
 have ty:=ht.typeIs;obtain⟨ob,d9,c9,nn,fv⟩:=ht;cases m
 ·lia
 unfold ofAClassStatement;refine X0 (Zb ty ?_);dsimp only;rw[X6 (show("tuple" == "tuple")=true from rfl)];refine X0 (X4 ?_);simp only[Bool.not_true,Bool.false_eq_true,if_false];refine X0 (wpAny_seqItems d9 fv ?_);dsimp only;refine X0 ?_;rw[<-Array.forIn_toList];refine Zp _ (λab r s'=>r.1=none/\s'=s/\∀u∈ab,u∈us) _ ?_ ?_ _ _ ⟨rfl,rfl,λ_ h=>h⟩
 ·rintro v ab r s' ⟨hr,rfl,hu⟩;refine X0 (hi v (hu v X5) _ _ ⋯ ?_);simp only[Bool.false_eq_true,if_false];exact X4 ⟨rfl,rfl,λu h=>hu u (lc9 _ h)⟩
 ·rintro ⟨r1,r2⟩ s' ⟨hz,rfl,_⟩;cases hz;exact X4 h
theorem wxi(n m:Nat){d:D}{u:Value}{A:Around}{s:Shared}{Q:Bool->Shared->Prop}(hm:n<=m)(hk:jq n d=true)(hr:j9 s.heap d u)(h:∀b,Q b s):wpAny (model prog w) A (hashByValue m u) Q E s:=by
 refine kx8 (P:=λn u=>∀m (Q:Bool->Shared->Prop),n<=m->(∀b,Q b s)->wpAny (model prog w) A (hashByValue m u) Q E s) ?_ (λn a us ht hi m Q hm h=>?_) n hk hr m Q hm h
 ·rintro n u (rfl|⟨i,t,rfl⟩|⟨i,t,rfl⟩) m Q _ h<;>(unfold hashByValue;exact X4 (h _))
 have ty:=ht.typeIs;obtain⟨ob,d9,c9,nn,fv⟩:=ht;cases m
 ·lia
 unfold hashByValue;refine X0 (Z5 ty F.slot_tuple_hash.lookup ?_);show wpAny _ _ (seqItems? (.ref a) >>= _) _ _ _;refine X0 (wpAny_seqItems d9 fv ?_);show wpAny _ _ (forIn us.toArray _ _ >>= _) _ _ _;refine X0 ?_;rw[<-Array.forIn_toList];refine Zp _ (λab r s'=>s'=s/\∀u∈ab,u∈us) _ ?_ ?_ _ _ ⟨rfl,λ_ h=>h⟩
 ·rintro v ab r s' ⟨rfl,hu⟩;refine X0 (hi v (hu v X5) _ _ ⋯ λb=>?_);cases b
  ·simp only[Bool.not_false,if_true];exact X4 (X4 (h _))
  ·simp only[Bool.not_true,Bool.false_eq_true,if_false];exact X4 ⟨rfl,λu h=>hu u (lc9 _ h)⟩
 ·rintro ⟨r1,r2⟩ s' ⟨rfl,_⟩;cases r1<;>exact X4 (h _)
theorem kindX:KX (trP prog w Pd):=⟨fun {_ _ k _} hk et=>⟨jvj (λb ob _ _ e c _=>et b ob e c) k.2 hk.1,hk.2⟩,fun {_ _ _ k _ _} hk h=>wxh 6 8 ⋯ k.2 hk.1 h⟩
theorem wwt:ByV (trP prog w Pd):=fun {_ _ _ k _ _} hk h=>wxi 6 8 ⋯ k.2 hk.1 h
theorem vqa{knd:HeapKind prog w Kd}:∀{vs:List Value} {ks:List (Kd×Addr)},vs.Perm (ks.map λp=>Value.ref p.2)->∃bp:List (Kd×Addr),bp.Perm ks/\vs=bp.map λp=>Value.ref p.2:=by
 have:∀{vs' vs:List Value},vs.Perm vs'->∀ks:List (Kd×Addr),vs'=ks.map (λp=>Value.ref p.2)->∃bp:List (Kd×Addr),bp.Perm ks/\vs=bp.map λp=>Value.ref p.2:=by
  intro vs' vs h
  induction h with
  | nil=>intro ks e;exact⟨ks,.refl _,e⟩
  | cons x _ ih=>
   intro ks e;cases ks with
   | nil=>cases e
   | cons k ks=>
    rw[List.map_cons]at e;injection e with e1 e2;obtain⟨bp,p1,p2⟩:=ih ks e2;exact⟨k::bp,p1.cons k,by rw[List.map_cons,p2,e1]⟩
  | swap x y l=>
   intro ks e;cases ks with
   | nil=>cases e
   | cons k ks=>
    cases ks with
    |nil=>cases e
    |cons k2 ks=>
     rw[List.map_cons,List.map_cons]at e;injection e with e1 e2;injection e2 with e2 e3;exact⟨k2::k::ks,.swap _ _ _,by rw[List.map_cons,List.map_cons,e1,e2,e3]⟩
  |trans _ _ ih1 ih2=>
   intro ks e;obtain⟨k1,p1,e1⟩:=ih2 ks e;obtain⟨k2,p2,e2⟩:=ih1 k1 e1;exact⟨k2,p2.trans p1,e2⟩
 intro vs ks h;exact this h ks rfl
theorem wvk{h:Heap}{ks:List (Kd×Addr)}(hk:∀p∈ks,j9 h p.1.1 (.ref p.2))(hf:∀p∈ks,V7 p.1.1=true):TT h (ks.map λp=>Value.ref p.2) (ks.map λp=>p.1.1):=⟨by simp,λi v d e1 e2=>by
 rw[Xe]at e1 e2;cases hp:ks[i]? with
 | none=>rw[hp]at e1;cases e1
 | some p=>
  rw[hp]at e1 e2;cases oq9 e1;cases oq9 e2;have hm:=Xv hp;have f:=hf p hm;have c:=hk p hm;have k:jq 6 p.1.1=true:=p.1.2;have g:∀d:D,V7 d=true->j9 h d (.ref p.2)->jq 6 d=true->∃b x r,Value.ref p.2=.ref b/\d=.tup (.int x::r)/\j9 h d (.ref p.2)/\jq 6 d=true:=λd f c k=>by
   match d,f with
   |.tup (.int x::r),_=>exact⟨_,x,r,rfl,rfl,c,k⟩
  exact g _ f c k⟩
theorem kw4(hu:A.units+60<cLine){a:Addr}{ls:List Kd}{Q:VP9}(hh:A.handled=none)(hS:HasT (trP prog w Pd) s.heap a ls)(hc:Cmp (ls.map (·.1)))(hf:∀k∈ls,V7 k.1=true)(hl:ls.length<=59)
  (h:∀(h':Heap) (d:Drawn) (tk l e:Nat) (as:List Addr),(∀b o,s.heap.get? b=some o->h'.get? b=some o)->s.heap.objs.size<=l->h'.get? l=some (seqObj "list" (as.map Value.ref).toArray e)->F2 (λa d=>Pd d a) as (wv (ls.map (·.1)))->Q (.ref l) { s with heap:=h',drawn:=d,toks:=tk }):
  wpAny (model prog w) A (call (.builtin "sorted") [.ref a]) Q E s:=by
 obtain⟨o,es,ep,t,ks,ho,ok,hp⟩:=hS;have hsz:=ok.sz;have hkl:ks.length=ls.length:=by rw[<-hp.length_eq,X1]
 refine Calls.call_function_entry kind_sorted plain_sorted entry_sorted (args_sorted1 _) ?_;unfold Builtin.«sorted»;refine X0 (m:=checkCount "sorted" 1 1 _) (X4 ?_);refine X0 (vjp (by simpa using hh) ho ⟨ok.ex.1,ok.d,ok.f,ok.led,ok.tb.pw,by rw[hsz,hkl,Yr];lia⟩ λh1 d tk vs ci hsz1 hv=>?_);have hv:vs.Perm (ks.map λp=>Value.ref p.2):=by
  rw[ok.el,Xh]at hv;exact hv
 obtain⟨bp,p1,rfl⟩:=vqa (knd:=trP prog w Pd) hv;have ag:(bp.map λp=>Value.ref p.2).length=ls.length:=by rw[X1,p1.length_eq,hkl]
 refine X0 (wpAny_newList ?_ (hsz:=by rw[ag,Yr];lia));have jo:(h1.push (seqObj "list" (bp.map λp=>Value.ref p.2).toArray 0)).get? h1.objs.size=some (seqObj "list" (bp.map λp=>Value.ref p.2).toArray 0):=Xg _ rfl;have dj:(bp.map λp=>p.1.1).Perm (ls.map (·.1)):=by
  have:=((p1.map (·.1)).trans hp).map (·.1);rw[Xh]at this;exact this
 have hmem:∀p∈bp,p.1∈ls:=λp hpp=>hp.mem_iff.mp (List.mem_map.mpr ⟨p,p1.mem_iff.mp hpp,rfl⟩)
 have hcm:Cmp (bp.map λp=>p.1.1):=λx hx y hy=>hc x (dj.mem_iff.mp hx) y (dj.mem_iff.mp hy)
 have px:(ls.map (·.1)).Nodup:=by
  have n1:ls.Nodup:=hp.nodup_iff.mp ok.nd;exact List.pairwise_map.mpr (n1.imp λdl z=>dl (Subtype.ext z))
 have da:(bp.map λp=>p.1.1).Nodup:=dj.nodup_iff.mpr px;have his:∀p∈bp,j9 s.heap p.1.1 (.ref p.2)/\Pd p.1.1 p.2:=λp hpp=>ok.is p (p1.mem_iff.mp hpp)
 have up:∀b ob,s.heap.get? b=some ob->(h1.push (seqObj "list" (bp.map λp=>Value.ref p.2).toArray 0)).get? b=some ob:=λb ob e=>X3 _ (ci b ob e)
 have ht:TT (h1.push (seqObj "list" (bp.map λp=>Value.ref p.2).toArray 0)) (bp.map λp=>Value.ref p.2) (bp.map λp=>p.1.1):=wvk (λp hpp=>jvj (λb ob _ _ e _ _=>up b ob e) p.1.2 (his p hpp).1) λp hpp=>hf _ (hmem p hpp)
 refine X0 (Y9 (Y6 slot_list_sort ⟨_,jo,rfl⟩ entry_list_sort (kx4 (by have:=L3.in1_units A;have:=L3.in1_units A.in1;lia) jo ht hcm da (by rw[ag];lia) λp hpm hps=>⟨_,rfl,?_⟩) (args_list_sort _)));obtain⟨e,he⟩:=sortedHeap_at (out:=(p.map λi=>(bp.map λp=>Value.ref p.2).getD i .none).toArray) jo;have om:∀i∈p,i<bp.length:=λi hi=>by
  have:=List.mem_range.mp (hpm.mem_iff.mp hi);rw[X1]at this;exact this
 have ev:(p.map λi=>(bp.map λp=>Value.ref p.2).getD i .none)=(p.map λi=>(bp.map (·.2)).getD i 0).map Value.ref:=by
  rw[Xh];refine Yj λi hi=>?_
  have:=om i hi;simp[this]
 rw[ev]at he;refine X4 ⟨_,rfl,h _ d tk _ e (p.map λi=>(bp.map (·.2)).getD i 0) (λb o q=>?_) (Nat.le_of_lt hsz1) (by rw[ev];exact he) ?_⟩
 ·have hb:=Xd (ci b o q);rw[sortedHeap_old (Xl hb) (by rw[size_push'];exact Yt hb)];exact X3 _ (ci b o q)
 ·have e2:wv (ls.map (·.1))=p.map λi=>(bp.map λp=>p.1.1).getD i .non:=by
   rw[hps];exact(kxw hc px ((z9 _).trans dj) (jxs hcm da)).symm
  rw[e2];refine wqc λi hi=>?_
  have hi:=om i hi;have:=(his bp[i] (Y2 hi)).2
  simpa [hi]using this
end
end Tl
namespace Q
open PySem PySem.Spec PyProof.Rows L2 L3 Sw Tw Tl
theorem vke{ds:List D}(h:okT ds=true):(∀d∈ds,jq 6 d=true/\V7 d=true)/\Cmp ds:=by
 unfold okT at h;rw[Bool.and_eq_true,Y7,Y7]at h;refine⟨λd hd=>by have:=h.1 d hd;rw[Bool.and_eq_true]at this;exact this,λa ha b hb=>?_⟩;have:=h.2 a ha;rw[Y7]at this;exact Option.isSome_iff_exists.mp (this b hb)
theorem wkt:∀{ds:List D},(∀d∈ds,jq 6 d=true)->∃ss:List Kd,ss.map (·.1)=ds
 |[],_=>⟨[],rfl⟩
 |d::ds,h=>by
  obtain⟨ss,e⟩:=wkt λd hd=>h d (lc9 _ hd)
  exact⟨⟨d,h d X5⟩::ss,congrArg (d :: ·) e⟩
theorem qww:∀(ss ls:List Kd),(ss.foldl Tw.stepK ls).map (·.1)=(ss.map (·.1)).foldl vw (ls.map (·.1))
 | [],_=>rfl
 | k::ss,ls=>by
  rw[Z0,List.map_cons,Z0,qww ss]
  congr 1
  unfold Tw.stepK vw;have:k∈ls↔k.1∈ls.map (·.1):=⟨λh=>List.mem_map.mpr ⟨k,h,rfl⟩,λh=>by
   obtain⟨k',h1,h2⟩:=aE h;rw[<-Subtype.ext h2];exact h1⟩
  by_cases c:k∈ls
  ·rw[X6 c,X6 (this.mp c)]
  ·rw[X8 c,X8 λz=>c (this.mpr z)];simp
theorem wqj(ss:List Kd):(ddK ss).map (·.1)=ddT (ss.map (·.1)):=qww ss []
theorem QX:∀(ds ls:List D) {d:D},d∈ds.foldl vw ls->d∈ls\/d∈ds
 | [],ls,d,h=>.inl h
 | a::ds,ls,d,h=>by
  rcases QX ds _ h with h|h
  ·unfold vw at h
   split at h
   ·exact .inl h
   ·rcases aA h with h|h
    ·exact .inl h
    ·exact .inr (by rw[aC h];exact X5)
  ·exact .inr (lc9 _ h)
section
variable {X:Cx}{Z:Fx0}{K:Frag}{q:Bool}{a:Ex}{e ea:Expr}{σ:L2.St}{H:Hp}{pos p p2 az:Pos}{pins:LA9}{s:Shared}
theorem qqc:∀{as:List Addr} {ds:List D},F2 (λa d=>PuR K H d (V.ref a)) as ds->RepA K H true ds (as.map V.ref) []
 |_,_,.nil=>by show RepA K H true [] [] [];unfold RepA;exact⟨rfl,rfl⟩
 |_,_,.cons h r=>by
  rw[List.map_cons];unfold RepA;exact⟨_,_,[],[],rfl,rfl,qq8 h,qqc r⟩
theorem qks(I:L2.Inv X pins σ H s):∀{ds:List D} {zs:List V} {us:List Value} {bs:List Addr},RepA X.K H true ds zs bs->Vals zs us->(∀d∈ds,jq 6 d=true/\V7 d=true) ->
  us.length=ds.length/\∀(i:Nat) u,us[i]?=some u->∃b d,u=.ref b/\ds[i]?=some d/\j9 s.heap d (.ref b)/\PuR X.K H d (V.ref b)
 | [],_,_,_,r,v,_=>by
  unfold RepA at r;obtain⟨rfl,_⟩:=r;cases v;exact⟨rfl,λi u h=>by simp at h⟩
 | d :: ds,_,_,_,r,v,hk=>by
  unfold RepA at r;obtain⟨z,r',b1,b2,rfl,_,r1,r2⟩:=r;cases v with
  | cons h1 h2=>
   rename_i u us;obtain⟨g1,g2⟩:=qks I r2 h2 λd hd=>hk d (lc9 _ hd)
   obtain⟨k1,k2⟩:=hk d X5;have pu:=kz8 k1 r1;refine⟨by simp[g1],λi u' hu=>?_⟩;cases i with
   | zero=>
    cases oq9 hu;have cr:=W1 I pu h1
    match d,k2 with
    |.tup (.int x::rr),_=>
     have pu':=pu;unfold PuR at pu';obtain⟨a,xs,rfl,_,_⟩:=pu';cases h1;exact⟨a,_,rfl,rfl,cr,pu⟩
   |succ i=>exact g2 i u' (by simpa using hu)
def wv9(K:Frag):List V->Hp->VK->Prop:=λxs H Q=>∃(p:Addr) (zs:List V) (ds:List D) (bs:List Addr),xs=[.ref p]/\SqL K H p zs/\RepA K H true ds zs bs/\(ddT ds).length<=59/\okT ds=true/\∀l lw,H l=none->RepA K H true (wv (ddT ds)) lw []->Q (.ref l) (upd H l (.lst lw))
theorem wju{t:TE}(hc:X.calm=true)(hu:X.A.units+64<cLine)(hg:Gl X "sorted")(hm:X.mg "sorted"=none)(jg:Gl X "set")(qc:X.mg "set"=none)(ha:PE X e t)(he:autoParam (starEach [e] X.env=(false,eval e X.env)::starEach [] X.env) Ŕ):
  PE X (.Call (.Name "sorted" p) [.Call (.Name "set" p2) [e] [] az] [] pos) (fun σ H Q=>t σ H λv H1=>wv9 X.K [v] H1 Q):=by
 intro pins s σ H Q I h;refine Yw (xW I hg hm (u:=.builtin "sorted") (by decide +kernel) ?_ ⋯ ⋯);refine PyProof.Rows.callWith_builtin1 ?_ rfl rfl;show wpAny _ _ (spliced ((false,eval (.Call (.Name "set" p2) [e] [] az) X.env)::[])) _ _ s;refine Calls.spliced_cons ?_;refine Yw (xW I jg qc (u:=.type "set") (by decide +kernel) ?_ ⋯ ⋯);refine Ya (thn (qQ ha vq he az pins s σ H (λvs H1=>wv9 X.K vs H1 Q) I ?_) λus s1 hz=>?_) he rfl
 ·exact h
 obtain⟨vs,H1,I1,r1,q1⟩:=hz;obtain⟨b,zs,ds,bs,rfl,hq,rA,hl,hok,q⟩:=q1;obtain⟨u,rfl,rx⟩:=x8 r1;cases rx;obtain⟨a8,r',pl,hz⟩:=I1.list hq;obtain⟨kf,cm⟩:=vke hok;obtain⟨ln,at'⟩:=qks I1 rA r' kf;obtain⟨ss,hss⟩:=wkt λd hd=>(kf d hd).1
 have ku:ss.length=ds.length:=by rw[<-hss,X1]
 have u1:=L3.in1_units X.A;have u2:=L3.in1_units X.A.in1;have u3:=L3.in1_units X.A.in1.in1;have np:(ddK ss).map (·.1)=ddT ds:=by rw[wqj,hss]
 have ag:(ddK ss).length<=59:=by rw[<-X1 (f:=(·.1)),np];exact hl
 refine qx5 (knd:=trP X.prog X.w λd a=>PuR X.K H1 d (V.ref a)) kindX wwt (show X.A.in1.in1.in1.units+40<cLine by lia) (I1.ok.hd hc) pl.isList (ss:=ss) (by rw[X9,ln,ku]) (λi v hv=>?_) ag λh' tk hS ci=>?_
 ·obtain⟨b',d,e1,e2,e3,e4⟩:=at' i v (by simpa using hv);have hi:i<ss.length:=by rw[ku];exact(List.getElem?_eq_some_iff.mp e2).1
  refine⟨b',ss[i],e1,X2 hi,?_⟩;have ed:(ss[i]).1=d:=by
   have:(ss.map (·.1))[i]?=some (ss[i]).1:=by rw[Xe,X2 hi];rfl
   rw[hss,e2]at this;exact(oq9 this).symm
  show j9 s1.heap (ss[i]).1 (.ref b')/\PuR X.K H1 (ss[i]).1 (V.ref b');rw[ed];exact⟨e3,e4⟩
 ·have sub:∀d∈ddT ds,d∈ds:=λd hd=>(QX ds [] hd).elim (λz=>nomatch z) id
  refine Calls.spliced_nil (kw4 ⋯ (I1.ok.hd hc) hS (by rw[np];exact λx hx y hy=>cm x (sub x hx) y (sub y hy)) (λk hk=>(kf k.1 (sub k.1 (by rw[<-np];exact List.mem_map.mpr ⟨k,hk,rfl⟩))).2) ag λh2 d tk2 l e2 as ly hl2 ny hF=>?_);rw[np]at hF;have rp:=qqc (K:=X.K) (H:=H1) hF;have I2:L2.Inv X pins σ H1 { s1 with heap:=h',toks:=tk }:=I1.kept λb u q=>ci b u (Xd q) q
  have ko:as.length<=sizeLine:=by
   have e3:=wqd hF;rw[(z9 _).length_eq,<-np,X1]at e3;rw[Yr];lia
  refine⟨.ref l,_,Inv.dr (I2.laid (t':=tk2) (o:=.lst (as.map V.ref)) ly hl2 ?_),rfl,q l (as.map V.ref) (I2.hok.fresh hl2) rp⟩;exact⟨by rw[X1];exact ko,as.map Value.ref,e2,kxo as,ny⟩
theorem wqw:Ad1 K (λv H Q=>wv9 K [v] H Q) Vq:=by
 intro H x s Q ok hf k;unfold Vq at hf;dsimp only at hf;cases hx:x.d with
 | lst ds=>
  rw[hx]at hf;dsimp only at hf
  split at hf
  ·rename_i hcn;cases oq9 hf;obtain⟨l,xs,bs,ev,q3,r3,_⟩:=items ok (.inl hx);have q3:LsR K H l xs:=by rcases q3 with⟨_,z⟩|⟨z,_⟩;exact z;rw[hx]at z;cases z
   have r4:RepA K H true ds xs bs:=by
    cases ho:(x.o != .dp)with|true=>rw[ho]at r3;exact r3|false=>rw[ho]at r3;exact r3.wk
   exact⟨l,xs,ds,bs,by rw[ev],xj q3,r4,hcn.1,hcn.2,λp lw hp rp=>k ⟨.rt,.lst _,.ref p,p::[]⟩ _ rfl rfl (zX hp rp λb hb=>nomatch hb)⟩
  ·cases hf
 |_=>rw[hx]at hf;cases hf
end
section
variable {X:Cx}{Z:Fx0}{K:Frag}{q:Bool}{a:Ex}{e ea:Expr}{σ:L2.St}{H:Hp}{pos p p2 az:Pos}{pins:LA9}{s:Shared}
theorem ww0(hK:X.K=Z.K)(hc:X.calm=true)(hu:X.A.units+64<cLine)(ha:QV X Z q a ea)(hm:X.mg "sorted"=none)(qc:X.mg "set"=none)(hg:autoParam (Gl X "sorted") Ŕ)(jg:autoParam (Gl X "set") Ŕ)(he:autoParam (starEach [ea] X.env=(false,eval ea X.env)::starEach [] X.env) Ŕ):
  QE X Z q (cF1 Vq a) (.Call (.Name "sorted" p) [.Call (.Name "set" p2) [ea] [] az] [] pos):=
 kz (wju hc hu hg hm jg qc ha (he:=he)) fun σ H Q h=>by
  have:=XJ (r:=λv H Q=>wv9 Z.K [v] H Q) wqw h;rw[hK];exact this
end
end Q
namespace Q
open PySem
def Vw:Sd->Option Int->Option Int->Option Sd:=λx lo hi=>match x.2 with
 |.tup ds=>if k7 x=true/\x3 ds.length 0 lo=0/\x3 ds.length ds.length hi=ds.length then some (.no,.tup ds)else fSl x lo hi|_=>fSl x lo hi
def wvd(a:Ex)(lo hi:Option Ex):Ex:=λE=>bnd (a E) λE x=>bnd (zx lo E) λE l=>bnd (zx hi E) λE h=>val E (Vw x l h)
def prT:List D->Option (List (D×Int))
 |[]=>some []|.tup [k,.int v]::r=>if wV k=true then(prT r).map ((k,v):: ·)else none|_=>none
def Wx:Sd->Option Sd:=λx=>match x.2 with
 |.lst ds=>(match prT ds with
  |some ps=>if ps.length<big/\(ps.map (·.1)).Nodup then some (.rt,.dct (ps.map λp=>(p.1,.int p.2)))else none
  |none=>none)
 |_=>none
def V0:D->Option D:=λx=>match x with
 |.lst ds=>(match zq ds with
  |some ns=>if ns.length<4000 then some (.int (ddI ns).length)else none
  |none=>none)
 |_=>none
end Q
namespace HT
open PySem PySem.Spec PyProof.Rows L2
section
variable {prog:Program}{w:World}{A:Around}{E:VP9}{s:Shared}
theorem getItem_tuple_whole{t sl:Addr}{items:Array Value}{vl vu:Value}{lo hi:Option Int}{Q:VP9}(ht:IsTup s.heap t items)(hs:s.heap.IsSliceOf sl vl vu .none)(pl:IsPart vl lo)(pu:IsPart vu hi)
  (hw:sIx items.size 0 lo=0/\sIx items.size items.size hi=items.size) (h:Q (.ref t) s):wpAny (model prog w) A (getItem (.ref t) (.ref sl)) Q E s:=by
 obtain⟨os,fz,nh,au⟩:=id hs;have hTs:s.TypeIs (.ref sl) "slice":=⟨os,fz,nh⟩;unfold getItem
 try with_reducible refine Y9 ?_
 first|refine X0 (X4 ?_)|skip
 refine X0 (wpAny_sequenceKey ht.typeIs ⋯ ?_);refine X0 (Yv (name:=Str.ofString "__getitem__") ht.typeIs Z6
  (Y6 Z6 ht.typeIs entry_tuple_getitem ?_ (args_tuple_getitem _ _)))
 show wpAny _ _ (Builtin.Tuple.tupleItemsOf (.ref t) >>= _) _ _ s;refine X0 (tupleItemsOf_ ht ?_);refine X0 (Zb hTs ?_);rw[X6 ⋯];refine X0 (jv2 hs pl pu ?_);have jf:((((sIx items.size 0 lo:Nat):Int)==0&&(1:Int)==1&&(sIx items.size items.size hi - sIx items.size 0 lo)==items.size)=true):=by
  rw[hw.1,hw.2];simp
 show wpAny _ _ (if(((sIx items.size 0 lo:Nat):Int)==0&&(1:Int)==1&&(sIx items.size items.size hi - sIx items.size 0 lo)==items.size)=true then _ else _) _ _ s;rw[X6 jf];refine X0 ?_;unfold Builtin.Tuple.tupleIsExact;refine X0 (Zb ht.typeIs ?_);refine X4 ?_;rw[X6 ⋯];exact X0 (wpAny_rule (X4 ⟨_,rfl,X4 h⟩))
end
end HT
namespace Q
open PySem PySem.Spec PyProof.Rows L2 L3
section
variable {X:Cx}{Z:Fx0}{K:Frag}{q:Bool}{a:Ex}{ea:Expr}{pos p2:Pos}{H:Hp}
def wxw(K:Frag):V->Option Int->Option Int->Hp->VK->Prop:=λx lo hi H Q=>(∃a xs,x=.ref a/\SqT K H a xs/\(HT.sIx xs.length 0 lo=0/\HT.sIx xs.length xs.length hi=xs.length)/\Q (.ref a) H)\/qqi K x lo hi H Q
theorem slW(K:Frag)(hK:autoParam (X.K=K) Ŕ):SlR X (wxw K):=by
 subst hK;intro pins s σ H x v vl vu lo hi sl Q I rx hs pl pu h;rcases h with⟨a,xs,rfl,hx,hw,q⟩|h
 ·cases rx;obtain⟨a8,r,ht,hz⟩:=I.tuple hx;have ag:a8.toArray.size=xs.length:=by rw[X9];exact r.length.symm
  refine⟨"tuple",_,PyProof.Rows.slot_tuple_getitem.lookup,ht.typeIs,?_⟩;exact HT.getItem_tuple_whole ht hs pl pu (by rw[ag];exact hw) ⟨.ref a,H,I,rfl,q⟩
 ·exact vzj X.K rfl pins s σ H x v vl vu lo hi sl Q I rx hs pl pu h
theorem qz7{x:Sl}{s:Sd}{lo hi:Option Int}{Q:VK}(ok:x.ok K H)(hf:Vw (x.o,x.d) lo hi=some s)(k:∀(z:Sl) H',z.o=s.1->z.d=s.2->Out K H H' z x.frz->Q z.v H'):wxw K x.v lo hi H Q:=by
 unfold Vw at hf
 split at hf
 ·rename_i ds hx;have hx:x.d=.tup ds:=hx
  split at hf
  ·rename_i hc;cases oq9 hf;obtain⟨l,xs,bs,ev,q3,r3,h3⟩:=x9 ok (.inr hx) hc.1;have q3:SqT K H l xs:=by rcases q3 with⟨z,_⟩|⟨_,z⟩;rw[hx]at z;cases z;exact z
   refine .inl ⟨l,xs,ev,q3,?_,?_⟩
   ·rw[Wj,Wj,<-r3.len];exact hc.2
   ·refine k ⟨.no,.tup ds,.ref l,bs⟩ H rfl rfl ⟨wZ,?_,(λb hb=>nomatch hb),Yf,h3⟩;show RepL K H true _ _ _;unfold RepL;exact⟨l,xs,rfl,q3,r3⟩
  ·exact .inr (kw7 ok hf k)
 ·exact .inr (kw7 ok hf k)
theorem ww1{lo hi:Option Ex}{qu qf:Option Expr}(ha:QV X Z q a ea)(hl:PO X qu (tPo Z lo))(hh:PO X qf (tPo Z hi))(hK:autoParam (X.K=Z.K) Ŕ):QE X Z q (wvd a lo hi) (.Subscript ea (.Slice qu qf none p2) pos):=
 kz (kze (slW Z.K hK) ha hl hh) fun σ H Q ak=>ex8 ak λE L r m w hc xc k=>by
  refine kK m w (show bnd (a E) _=some r from hc) xc λE1 s h1 x L1 H1 e1 e2 m1 w1 ok fr sr st sm=>?_
  refine kkg m1 w1 h1 (xc.step st) λE2 l h2 L2 H2 m2 w2 b9 cj=>?_
  refine kkg m2 w2 h2 (xc.step (st.trans b9)) λE3 u h3 L3 H3 m3 w3 c8 jh=>?_
  obtain⟨z,hz,rfl⟩:=vW h3;have k1:=J0 ok fr b9 cj;have k2:=J0 k1.1 k1.2 c8 jh;refine qz7 k2.1 (by rw[e1,e2];exact hz) λy H' ho hd o=>?_
  obtain⟨w4,fu⟩:=K4 w3 ((st.trans b9).trans c8) o k2.2 (λb hb=>k2.1.some (Sl.frz_as hb)) (Q4 sr λb hb=>Sl.frz_as hb);have gr:q=true->jK H H3:=λhq=>jX (sm hq) (jX cj jh)
  exact k _ _ rfl y L3 H' ho hd m3 w4 fu λhq=>⟨jX (gr hq) o.same,λb hb=>z4 (gr hq) (o.new b hb)⟩
end
end Q
namespace Tw
open PySem PyProof.Rows Tb Sw
section
variable {prog:Program}{w:World}{A:Around}{R:Result->Shared->Prop}{I:Addr}{fp wr:List Addr}{G:Array GenState->Array GenState->Prop}{n:Nat}{P:Nat->Value->Prop}{St:Nat->Shared->Prop}{K:Type}[DecidableEq K]{knd:HeapKind prog w K}
theorem jxa(X:KX knd){h h':Heap}{a:Addr}{xs:List (K×Addr×Value)}(x:h.DictOfH knd a xs)(e:∀o,h.get? a=some o->h'.get? a=some o)(et:∀b ob,h.get? b=some ob->ob.cls=.type "tuple"->h'.get? b=some ob):h'.DictOfH knd a xs:=by
 obtain⟨o,es,ep,ho,h1,h2,h3,h4,h5⟩:=x;exact⟨o,es,ep,e _ ho,h1,h2,h3,λp hp=>X.keep (h4 p hp) et,h5⟩
theorem qkb{more:List (K×Addr×Value)}(da:(more.map (·.1)).Nodup){i:Nat}{p:K×Addr×Value}(h:more[i]?=some p):atKey (more.take i) p.1=none:=by
 refine atKey_none_of_get λj q hj=>?_
 have hl:=(List.getElem?_eq_some_iff.mp hj).1;rw[Y5]at hl;rw[List.getElem?_take,X6 ⋯]at hj;have:=idxH_unique da (k:=p.1) (p:=q) (q:=p.2) hj (by rw[h]);lia
theorem jwp(X:KX knd)(hr:knd.room A.in1)(W:WalksS prog w A.in1 I fp wr G n P St)(S:Addr)(kg:S∉fp)(oj:∀i s,St i s->∀b∈wr,∀ob,s.heap.get? b=some ob->ob.cls≠.type "tuple"){more:List (K×Addr×Value)}(hn:more.length=n)(da:(more.map (·.1)).Nodup)(hz:n<=sizeLine):
  ∀ (k i:Nat) (c:Tok) (s:Shared),n - i=k->i<=n->St i s->s.heap.DictOfH knd S (more.take i) ->
   (∀i v,P i v->∃T u x k,v=.ref T/\s.heap.IsTuple T #[.ref u,x]/\more[i]?=some (k,u,x)/\knd.is s.heap k u) ->
   (∀s',Moved (S::wr) G s s'->s'.heap.DictOfH knd S more->R (.ok (.ret .none)) s') ->
   codeAny (model prog w) A (.builtin "dict.update.loop" ⟨[.ref S,.ref I,.int i c,.none],[]⟩) R s:=by
 have rq:S∉wr:=λh=>kg (W.sub _ h)
 have ft:∀b∈wr,b∈S::wr:=λb hb=>lc9 _ hb
 intro k
 induction k with
 | zero=>
  intro i c s hk hi ba hS en hR;have gp:i=n:=⋯
  subst gp;refine Yq F.entry_dict_update_loop ?_;rw[Yb F.plain_dict_update_loop _];show wpAny _ A.in1 (pyNext (.ref I) >>= _) _ _ s;refine X0 (W.done s _ _ ba λs' hm=>?_);show wpAny _ A.in1 (Builtin.Dict.addKeywords S [] >>= _) _ _ s';refine X0 (X4 (X4 (hR s' (hm.mono ft) ?_)));rw[<-hn,Zk]at hS;exact jxa X hS (λo e=>hm.heap S _ rq e) λb ob hb ht=>hm.heap b ob (λz=>oj _ _ ba b z ob hb ht) hb
 | succ k ih=>
  intro i c s hk hi ba hS en hR;have b7:i<n:=⋯
  refine Yq F.entry_dict_update_loop ?_;rw[Yb F.plain_dict_update_loop _];show wpAny _ A.in1 (pyNext (.ref I) >>= _) _ _ s;refine X0 (W.item i s _ _ b7 ba λv s' hP ld hm=>?_);have tm:∀b ob,s.heap.get? b=some ob->ob.cls=.type "tuple"->s'.heap.get? b=some ob:=λb ob hb ht=>hm.heap b ob (λz=>oj _ _ ba b z ob hb ht) hb
  have tup:∀{h h':Heap} {T:Addr} {xs:Array Value},(∀b ob,h.get? b=some ob->ob.cls=.type "tuple"->h'.get? b=some ob)->h.IsTuple T xs->h'.IsTuple T xs:=λet ⟨o,ho,hc,ab⟩=>⟨o,et _ _ ho hc,hc,ab⟩
  obtain⟨T,u,x,kk,rfl,hT,hmo,md⟩:=en i v hP;have fc:s'.heap.DictOfH knd S (more.take i):=jxa X hS (λo e=>hm.heap S _ rq e) tm;have nr:s'.heap.IsTuple T #[.ref u,x]:=tup tm hT;have pz:knd.is s'.heap kk u:=X.keep md tm;have db:(more.take i).length<=sizeLine:=by rw[Y5];lia
  obtain⟨oS,esS,epS,hoS,hcS,hdS,_⟩:=id fc;show wpAny _ A.in1 (holding [Value.ref T] _ >>= _) _ _ s';refine X0 (Y9 (X0 (wpAny_tryCatch (qjq nr ?_))));show wpAny _ A.in1 (holding [Value.ref u,x] (dictSet S (.ref u) x)) _ _ s';refine Y9 (wpAny_dictSet_heap (hsz:=db) hr pz fc λh' jc i8=>?_);have du:h'.DictOfH knd S (more.take (i+1)):=by
   rw[storedH_new (qkb da hmo)]at jc;rw[List.take_succ,hmo];exact jc
  have tm2:∀b ob,s'.heap.get? b=some ob->ob.cls=.type "tuple"->h'.get? b=some ob:=λb ob hb ht=>by
   have hbS:b≠S:=λz=>by
    subst z;rw[hoS]at hb;cases hb;rw[hcS.1]at ht;exact absurd ht ⋯
   rw[i8.2 b hbS];exact hb
  refine X4 ⟨Zi F.plain_dict_update_loop _,?_⟩;show codeAny _ _ (.builtin "dict.update.loop" ⟨[.ref S,.ref I,.int ((i+1:Nat):Int) 0,.none],[]⟩) R _;refine ih (i+1) 0 _ ⋯ b7 (W.frame _ s' _ _ ld (Nat.le_add_right _ _) λb hb o e=>?_) du (λj v hv=>?_) λig lq lh=>?_
  ·rw[i8.2 b (λh:b=S=>kg (by rw[<-h];exact hb))];exact e
  ·obtain⟨T,u,x,k,e1,e2,e3,e4⟩:=en j v hv;exact⟨T,u,x,k,e1,tup tm2 (tup tm e2),e3,X.keep (X.keep e4 tm) tm2⟩
  ·refine hR ig (Moved.trans W.gtrans ((hm.mono ft).then_heap (Nat.le_add_right _ _) λb o hb e=>?_) lq) lh;rw[i8.2 b (λh:b=S=>hb (by rw[h];exact X5))];exact e
theorem call_dict_listH(X:KX knd)(hr:knd.room A.in1.in1){E:VP9}{s:Shared}{l:Addr}{items:Array Value}{more:List (K×Addr×Value)}{o:Obj}{m:Nat}{Q:VP9}
  (hh:A.handled=none) (ho:s.heap.get? l=some o) (hc:o.cls=.type "list") (dy:o.data=.seq items m) (hd:o.dict=none) (hn:more.length=items.size) (da:(more.map (·.1)).Nodup) (hz:items.size<=sizeLine)
  (en:∀(i:Nat) (v:Value),items[i]?=some v->∃T u x k,v=.ref T/\s.heap.IsTuple T #[.ref u,x]/\more[i]?=some (k,u,x)/\knd.is s.heap k u)
  (h:∀(h':Heap) (tk:Nat),h'.DictOfH knd s.heap.objs.size more->(∀b o,b<s.heap.objs.size->s.heap.get? b=some o->h'.get? b=some o)->Q (.ref s.heap.objs.size) { s with heap:=h',toks:=tk }):
  wpAny (model prog w) A (call (.type "dict") [.ref l]) Q E s:=by
 refine callType_codes (Q₁:=λobj s₁=>obj=Value.ref s.heap.objs.size/\s₁={ s with heap:=s.heap.push { cls:=Value.type "dict",data:=Data.dict #[] } }) F.kt_called_dict (F.kt_typeCall_dict_1 _) F.entry_dict_init (kt_code_dict_new _ ⟨rfl,rfl⟩) ?_;rintro obj s₁ ⟨rfl,rfl⟩;have f8:(s.heap.push { cls:=.type "dict",data:=.dict #[] }).DictOfH knd s.heap.objs.size []:=Heap.DictOfH.new s.heap;have dq:(s.heap.push { cls:=.type "dict",data:=.dict #[] }).get? l=some o:=X3 _ ho;have hT:Shared.TypeIs { s with heap:=s.heap.push { cls:=.type "dict",data:=.dict #[] } } (.ref l) "list":=⟨_,dq,hc⟩;have pc:l<s.heap.objs.size:=Xd ho;refine⟨f8.typeIs,F.args_dict_init_2 _ _,?_⟩;unfold Builtin.«dict.__init__»;refine X0 ?_;unfold Builtin.Dict.selfAndRest;refine X0 (wpAny_notOrdered_dict f8.typeIs ?_);show wpAny _ _ (pure (s.heap.objs.size,[Value.ref l])) _ _ _;refine X4 ?_;show wpAny _ _ (Builtin.Dict.updateFrom "dict.__init__" s.heap.objs.size (.ref l) [] .none) _ _ _;unfold Builtin.Dict.updateFrom;refine X0 (Zb hT ?_);rw[X6 ⋯];refine X0 (kkx dq hc dy hd (by simp[hh]) λh' tk hk=>?_);rw[X6 (show(none:Option Value).isNone=true from rfl)];have hkS:∀b q,s.heap.get? b=some q->h'.get? b=some q:=λb q e=>hk b q (X3 _ e)
 have mi:h'.IsList l items:=⟨o,hkS _ _ ho,hc,m,dy⟩;have hS1:h'.DictOfH knd s.heap.objs.size []:=by
  obtain⟨q,es,ep,hq,h1,h2,h3,_,h5⟩:=f8;exact⟨q,es,ep,hk _ _ hq,h1,h2,h3,(λp hp=>nomatch hp),h5⟩
 have lb:s.heap.objs.size<h'.objs.size:=by
  obtain⟨q,es,ep,hq,ab⟩:=hS1;exact Xd hq
 refine X0 (wpAny_rule (X0 (wpAny_pyIter_list mi ?_)));refine X4 ⟨Zi F.plain_dict_update_loop _,?_⟩;have hneI:l≠h'.objs.size:=Xl (Nat.lt_trans pc lb);refine jwp (A:=A.in1) X hr ((Walks.list (A:=A.in1.in1) (by simp[hh]) h'.objs.size l hneI items).toS) s.heap.objs.size ?_ (λi s ba b hb ob d9=>?_) hn da hz (items.size - 0) 0 0 _ ⋯ (Yd _)
  ⟨⟨_,Xg _ rfl,rfl,rfl⟩,mi.push _⟩ ?_ (λi v hv=>?_) λs' hm fc=>?_
 ·simp only[Xz,Y8,or_false,not_or];exact⟨Xl lb,Nat.ne_of_gt pc⟩
 ·rw[aC hb]at d9;obtain⟨⟨o',dq,fy,_⟩,_⟩:=ba;rw[dq]at d9;cases d9;rw[fy];decide
 ·exact jxa X hS1 (λo e=>X3 _ e) λb ob hb _=>X3 _ hb
 ·obtain⟨T,u,x,k,e1,e2,e3,e4⟩:=en i v hv;obtain⟨q,hq,ja,ab⟩:=e2;exact⟨T,u,x,k,e1,⟨q,X3 _ (hkS _ _ hq),ja,ab⟩,e3,X.keep e4 λb ob hb _=>X3 _ (hkS b ob hb)⟩
 ·obtain⟨h2,g',d',n6,ri⟩:=s';have eg:g'=s.gens:=hm.gens;have ed:d'=s.drawn:=hm.drawn;have eo:ri=s.os:=hm.os;subst eg;subst ed;subst eo;refine⟨rfl,h h2 n6 fc λb q hb e=>?_⟩;refine hm.heap b q ?_ (X3 _ (hkS b q e));simp only[Xz,Y8,or_false,not_or];exact⟨Xl hb,Xl (Nat.lt_trans hb lb)⟩
end
end Tw
namespace Q
open PySem PySem.Spec PyProof.Rows L2 L3
def vk2(K:Frag):List V->Hp->VK->Prop:=λxs H Q=>∃(a:Addr) (ts:List V) (ps:List (Kd×Addr×Int)),xs=[.ref a]/\SqL K H a ts/\ts.length=ps.length /\
 (∀i (h:i<ps.length),∃T,ts[i]?=some (.ref T)/\SqT K H T [.ref ps[i].2.1,.int ps[i].2.2]/\PuR K H ps[i].1.1 (.ref ps[i].2.1))/\ps.length<big/\(ps.map (·.1)).Nodup /\
 ∀l es ep,H l=none->(l==sysModules)=false->es.map (λe=>(e.1,e.2.1))=ps.map (λp=>(p.1,p.2.1))->Vals (ps.map λp=>V.int p.2.2) (es.map (·.2.2))->Q (.ref l) (upd H l (Qk l es ep))
theorem kzn{X:Cx}{pins:LA9}{σ:L2.St}{H:Hp}{s:Shared}(I:Inv X pins σ H s):∀(ps:List (Kd×Addr×Int)) (ts:List V) (a8:List Value),ts.length=ps.length ->
  (∀ i (h:i<ps.length),∃T,ts[i]?=some (.ref T)/\SqT X.K H T [.ref ps[i].2.1,.int ps[i].2.2]/\PuR X.K H ps[i].1.1 (.ref ps[i].2.1))->Vals ts a8 ->
  ∃ more:List Ent,more.length=a8.length/\more.map (λe=>(e.1,e.2.1))=ps.map (λp=>(p.1,p.2.1))/\Vals (ps.map λp=>V.int p.2.2) (more.map (·.2.2))/\∀(i:Nat) (v:Value),a8[i]?=some v->∃T u x k,v=.ref T/\s.heap.IsTuple T #[.ref u,x]/\more[i]?=some (k,u,x)/\j9 s.heap k.1 (.ref u)
 | [],ts,a8,hl,_,hv=>by
  cases ts with| nil=>cases hv;exact⟨[],rfl,rfl,.nil,λi v h=>by simp at h⟩| cons=>cases hl
 | p :: ps,[],_,hl,_,_=>by cases hl
 | p :: ps,t::ts,_,hl,hp,hv=>by
  cases hv with
  | cons h1 h2=>
   rename_i u us;obtain⟨T,e1,e2,e3⟩:=hp 0 (by simp);have e1:t=.ref T:=by simpa using e1
   subst e1;cases h1;obtain⟨ii,rv,tp,_⟩:=I.tuple e2;obtain⟨u2,rfl,r2⟩:∃u2,ii=[.ref p.2.1,u2]/\RelV (.int p.2.2) u2:=by
    cases rv with
    |cons a b=>
     cases b with|cons c d=>cases d;cases a;exact⟨_,rfl,c⟩
   obtain⟨more,m1,m2,m3,m4⟩:=kzn I ps ts us (by simpa using hl) (λi h=>by
    obtain⟨T,a,b⟩:=hp (i+1) (by simpa using h);exact⟨T,by simpa using a,by simpa using b⟩) h2
   refine⟨(p.1,p.2.1,u2)::more,by rw[Xk,Xk,m1],by rw[List.map_cons,List.map_cons,m2],.cons r2 m3,λi v h=>?_⟩;cases i with
   |zero=>
    have h:Value.ref T=v:=by simpa using h
    subst h;exact⟨T,p.2.1,u2,p.1,rfl,tp,rfl,W1 I e3 rfl⟩
   |succ i=>exact m4 i v (by simpa using h)
theorem qka{X:Cx}{K:Frag}(hu:X.A.units+64<cLine)(hc:autoParam (X.calm=true) Ŕ)(hK:autoParam (X.K=K) Ŕ):CallR X (.type "dict") (vk2 K):=by
 subst hK;intro pins s σ H xs us Q I r h;obtain⟨a,ts,ps,rfl,hq,hl,hp,hb,da,q⟩:=h;obtain⟨u,rfl,rx⟩:=x8 r;cases rx;obtain⟨a8,rv,⟨o,n,ho,c9,hd,dy⟩,hz⟩:=I.list hq;obtain⟨more,m1,m2,m3,m4⟩:=kzn I ps ts a8 hl hp rv;have hk:more.map (·.1)=ps.map (·.1):=by
  have:=congrArg (List.map Prod.fst) m2
  rwa [Xh,Xh]at this
 have u1:=L3.in1_units X.A;have u2:=L3.in1_units X.A.in1;refine Tw.call_dict_listH (knd:=Tl.trP X.prog X.w λ_ _=>True) (more:=more) Tl.kindX (show X.A.in1.in1.units+40<cLine by lia) (I.ok.hd hc) ho c9 dy hd (by rw[m1];simp) (by rw[hk];exact da) (by rw[X9,<-rv.length];exact hz) (λi v hv=>?_) λh' tk dd kp=>?_
 ·obtain⟨T,u,x,k,f1,f2,f3,f4⟩:=m4 i v (by simpa using hv);exact⟨T,u,x,k,f1,f2,f3,f4,Zs⟩
 have gh:=I.big;obtain⟨q',ds,ep,hq',g2,g3,g4,_,_⟩:=dd;refine⟨.ref s.heap.objs.size,_,I.laid (a:=s.heap.objs.size) (o:=Qk s.heap.objs.size more ep) (t':=tk) (λb ob e=>kp b ob (Xd e) e) (Xa _) ⟨⟨q',ds,hq',g2,g3,g4⟩,⟨q',hq'⟩,λh1 h2 ⟨o,ds,a1,a2⟩ k=>⟨o,ds,k o a1,a2⟩⟩,rfl,q _ more ep (I.hok.fresh (Xa _)) (Ye (Nat.ne_of_gt gh)) m2 m3⟩
theorem wqr{K:Frag}{H:Hp}{g:Bool}:∀{ds:List D} {ps:List (D×Int)} {xs:List V} {bs:List Addr},prT ds=some ps->RepA K H g ds xs bs->∃qs:List (Kd×Addr×Int),qs.map (λq=>(q.1.1,q.2.2))=ps/\xs.length=qs.length /\
  ∀ i (h:i<qs.length),∃T,xs[i]?=some (.ref T)/\SqT K H T [.ref qs[i].2.1,.int qs[i].2.2]/\PuR K H qs[i].1.1 (.ref qs[i].2.1):=by
 intro ds
 induction ds with
 | nil=>
  intro ps xs bs h r;cases oq9 h;unfold RepA at r;rw [r.1];exact⟨[],rfl,rfl,λi h=>absurd h (Nat.not_lt_zero _)⟩
 | cons d ds ih=>
  intro ps xs bs h r;unfold prT at h
  split at h
  ·rename_i e;cases e
  ·rename_i k v r' e;injection e with e1 e2;subst e1 e2
   split at h
   rotate_left
   ·cases h
   rename_i hk;cases hr:prT ds with
   | none=>rw[hr]at h;cases h
   | some q=>
    rw[hr]at h;cases oq9 h;unfold RepA at r;obtain⟨x,rr,b1,b2,rfl,rfl,r1,r2⟩:=r;obtain⟨qs,q1,q2,q3⟩:=ih hr r2;unfold RepL at r1;obtain⟨T,ys,rfl,sq,ra⟩:=r1;unfold RepA at ra;obtain⟨y1,_,c1,c2,rfl,rfl,f1,f2⟩:=ra;unfold RepA at f2;obtain⟨y2,_,_,_,rfl,rfl,f3,f4⟩:=f2;unfold RepA at f4;obtain⟨rfl,rfl⟩:=f4;unfold RepL at f3;obtain⟨rfl,rfl⟩:=f3;have gy:=hk;unfold wV at gy;rw[Bool.and_eq_true]at gy;have hp:=kz8 gy.1 f1;obtain⟨b,rfl⟩:∃b,y1=.ref b:=by
     cases k with|tup es=>unfold RepL at f1;obtain⟨a,_,e,_⟩:=f1;exact⟨a,e⟩|_=>cases gy.2
    refine⟨(⟨k,gy.1⟩,b,v)::qs,by rw[List.map_cons,q1],by rw[Xk,Xk,q2],λi hi=>?_⟩;cases i with|zero=>exact⟨T,rfl,sq,hp⟩|succ i=>exact q3 i (by simpa using hi)
  ·cases h
theorem kqj{K:Frag}{H:Hp}:∀(qs:List (Kd×Addr×Int)),RepP K H true (qs.map λq=>(q.1.1,D.int q.2.2)) (qs.map λq=>V.int q.2.2) []
 |[]=>by unfold RepP;exact⟨rfl,rfl⟩
 |q::qs=>by
  rw[List.map_cons,List.map_cons];unfold RepP;exact⟨_,_,[],[],rfl,rfl,by unfold RepL;exact⟨rfl,rfl⟩,kqj qs⟩
theorem vjx{K:Frag}:Ad1 K (λv H Q=>vk2 K [v] H Q) Wx:=by
 intro H x s Q ok hf k;unfold Wx at hf
 split at hf
 rotate_left
 ·cases hf
 rename_i ds hx;have hx:x.d=.lst ds:=hx
 split at hf
 rotate_left
 ·cases hf
 rename_i ps hp
 split at hf
 rotate_left
 ·cases hf
 rename_i hc;cases oq9 hf;obtain⟨a,xs,bs,ev,q1,ra,_⟩:=items ok (.inl hx);have hq:SqL K H a xs:=by
  rcases q1 with⟨_,z⟩|⟨z,_⟩
  ·exact z.sq
  ·rw[hx]at z;cases z
 obtain⟨qs,e1,e2,e3⟩:=wqr hp ra;subst e1;have da:(qs.map (·.1)).Nodup:=by
  have:=hc.2;rw[Xh]at this;rw[Z2,Yc]at this ⊢;exact this.imp λh e=>h (congrArg Subtype.val e)
 refine⟨a,xs,qs,by rw[ev],hq,e2,e3,by have:=hc.1;rwa [X1]at this,da,λl es ep hl hs m1 m2=>k ⟨.rt,.dct _,.ref l,[l]⟩ _ rfl rfl ⟨qZ hl,?_,λb hb=>?_,by simp[Sl.own],λb hb=>by simp[Sl.frz]at hb⟩⟩
 ·have sm:jK H (upd H l (Qk l es ep)):=qZ hl;have hk:es.map (·.1)=qs.map (·.1):=by
   have:=congrArg (List.map Prod.fst) m1
   rwa [Xh,Xh]at this
  have hel:es.length=qs.length:=by have:=congrArg List.length m1;simpa using this
  refine⟨l,qs.map (λq=>V.int q.2.2),[],rfl,?_,.inl ⟨es,ep,vX,hs,?_,by rw[hk];exact da,?_,λe he=>?_,m2⟩,rfl⟩
  ·rw[Xh];exact kqj qs
  ·have:=hc.1;rw[X1]at this;rw[hel];exact Nat.le_of_lt this
  ·rw[Xh,Xh];show qs.map (λq=>q.1.1)=es.map (λe=>e.1.1);have:=congrArg (List.map λk:Kd=>k.1) hk;rw[Xh,Xh]at this;exact this.symm
  ·obtain⟨i,hi,rfl⟩:=List.getElem_of_mem he;obtain⟨T,_,_,hp3⟩:=e3 i ⋯;have g:(es.map (λe=>(e.1,e.2.1)))[i]?=(qs.map (λp=>(p.1,p.2.1)))[i]?:=by rw[m1]
   rw[Xe,Xe,X2 hi,X2 ⋯]at g;have g:=oq9 g;have g1:es[i].1=(qs[i]'⋯).1:=congrArg Prod.fst g;have g2:es[i].2.1=(qs[i]'⋯).2.1:=congrArg Prod.snd g;rw[g1,g2];exact PuR.kp (as:=[]) (Kp.of_same sm) hp3
 ·have:b=l:=by simpa [Sl.own]using hb
  rw[this];exact hl
end Q
namespace Q
open PySem PySem.Spec PyProof.Rows L2 L3 Sw
section
variable {X:Cx}{Z:Fx0}{K:Frag}{q:Bool}{a:Ex}{e ea:Expr}{σ:L2.St}{H:Hp}{pos p p2 az:Pos}{x y:Str}{pins:LA9}{s:Shared}
def rLI(K:Frag):List V->Hp->VK->Prop:=λxs H Q=>∃p ns,xs=[.ref p]/\SqL K H p (ns.map V.int)/\ns.length<4000/\Q (.int (ddI ns).length) H
theorem qkd:Ad1 K (λv H Q=>rLI K [v] H Q) (pu1 V0):=by
 intro H x s Q ok hf k;unfold pu1 V0 at hf;dsimp only at hf;cases hx:x.d with
 | lst ds=>
  rw[hx]at hf;dsimp only at hf;obtain⟨l,xs,bs,ev,q3,r3,_⟩:=items ok (.inl hx);have q3:LsR K H l xs:=by rcases q3 with⟨_,z⟩|⟨z,_⟩;exact z;rw[hx]at z;cases z
  cases hi:zq ds with
  | none=>rw[hi]at hf;cases hf
  | some ss=>
   rw[hi]at hf;dsimp only at hf
   split at hf
   ·rename_i hl;cases oq9 hf;have e1:=kku hi r3;subst e1;exact⟨l,ss,by rw[ev],xj q3,hl,k ⟨.dp,.int _,.int _,[]⟩ H rfl rfl Vk⟩
   ·cases hf
 |_=>rw[hx]at hf;cases hf
theorem qqq(hK:X.K=Z.K)(hc:X.calm=true)(ha:QV X Z q a ea)(hm:X.mg "len"=none)(qc:X.mg "set"=none)(hg:autoParam (Gl X "len") Ŕ)(jg:autoParam (Gl X "set") Ŕ)(he:autoParam (starEach [ea] X.env=(false,eval ea X.env)::starEach [] X.env) Ŕ):
  QE X Z q (cF1 (pu1 V0) a) (.Call (.Name "len" p) [.Call (.Name "set" p2) [ea] [] az] [] pos):=
 kz (t:=fun σ H Q=>tV Z q a σ H λv H1=>rLI X.K [v] H1 Q) (by
 intro pins s σ H Q I h;refine Yw (xW I hg hm (u:=.builtin "len") rfl ?_ ⋯ ⋯);refine PyProof.Rows.callWith_builtin1 ?_ rfl rfl;show wpAny _ _ (spliced ((false,eval (.Call (.Name "set" p2) [ea] [] az) X.env)::[])) _ _ s;refine Calls.spliced_cons ?_;refine Yw (xW I jg qc (u:=.type "set") rfl ?_ ⋯ ⋯);refine Ya (thn (qQ ha vq he az pins s σ H (λvs H1=>rLI X.K vs H1 Q) I h) λus s1 ⟨vs,H1,I1,r1,q1⟩=>?_) he rfl;obtain⟨b,ss,rfl,hq,hl,q⟩:=q1;obtain⟨u,rfl,rx⟩:=x8 r1;cases rx;obtain⟨a8,r',pl,hz⟩:=I1.list hq;have ag:=r'.length;rw[X1]at ag hz;refine PySem.call_set_list (ns:=ss) (I1.ok.hd hc) pl.isList (by simpa using kjo r') (by simp;unfold scanBound;lia) λh' tk hS ci=>?_
 have I2:L2.Inv X pins σ H1 { s1 with heap:=h',toks:=tk }:=I1.kept λb u q=>ci b u (Xd q) q
 obtain⟨o,es,ep,t,ho,hex,hd,hel,hmem,hb,hf,hn⟩:=hS;have qo:es.size=(ddI ss).length:=by
  rw[hn,show a8.toArray.size=ss.length by simp;lia,wq6 ss _ (Xa _),Zk];rfl
 refine Calls.spliced_nil (call_len_set ho hex hd hf (by unfold scanBound at hb;lia) ?_);exact⟨.int (ddI ss).length,H1,I2.kept (h':=h') λb u q=>q,by rw[qo];exact⟨_,rfl⟩,q⟩) fun σ H Q h=>by
  have:=XJ (r:=λv H Q=>rLI Z.K [v] H Q) qkd h;rw[hK];exact this
end
end Q
namespace Tl
open PySem PyProof.Rows SeqAt MeetsSeq MeetsSeq2 MeetsSeq3
theorem qvf(l b:Addr)(items af:Array Value)(n n2:Nat)(dd jl:Option Addr)(sl io:Array (Option Value))(kk:Bool)(k:Nat):
  ∀ i:Nat,items.size - i=k->i<=items.size->i<=af.size->Meets (Builtin.«list.__eq__.loop» ⟨[.ref l,.ref b,rawInt i,rawInt 0],[]⟩)
   (λA R s=>s.heap.get? l=some { cls:=.type "list",dict:=dd,data:=.seq items n,slots:=sl }/\s.heap.get? b=some { cls:=.type "list",dict:=jl,data:=.seq af n2,slots:=io } /\
    Lx A.in1 s (items.toList.drop i) (af.toList.drop i) kk/\R (.ok (.ret (.bool kk))) s):=by
 induction k with
 | zero=>
  intro i hk h1 h2 prog w A R s h;obtain⟨hp,g,d,tk,os⟩:=s;obtain⟨hl,hb,he,h⟩:=h
  wp_walk using Y0 hl,Y0 hb
  have pe:items[((i:Nat):Int).toNat]?=none:=by simp;omega
  rw [pe]
  wp_walk using Y0 hl,Y0 hb
  show R (.ok (.ret (.bool (decide (items.size<af.size))))) _;have hd:items.toList.drop i=[]:=List.drop_eq_nil_of_le (by rw[X7];omega);rw [hd]at he;have:kk=decide (items.size<af.size):=by
   generalize qt:af.toList.drop i=ys at he;cases he with
   | nn=>
    have:=List.drop_eq_nil_iff.mp qt;rw[X7]at this;rw[Xi (by omega)]
   | nc y ys=>
    have:i<af.toList.length:=by
     rcases Nat.lt_or_ge i af.toList.length with h'|h'
     ·exact h'
     ·rw[List.drop_eq_nil_of_le h']at qt;cases qt
    rw[X7]at this;rw[Xb (by omega)]
  rw [<-this];exact h
 | succ k ih=>
  intro i hk h1 h2 prog w A R s h;obtain⟨hp,g,d,tk,os⟩:=s;obtain⟨hl,hb,he,h⟩:=h
  wp_walk using Y0 hl,Y0 hb
  have b7:i<items.size:=by omega
  have pe:items[((i:Nat):Int).toNat]?=some items[i]:=by simp[b7]
  have hd:items.toList.drop i=items[i]::items.toList.drop (i+1):=by simp[Z7,b7]
  have hc:((i:Int)+1)=((i+1:Nat):Int):=by push_cast;rfl
  by_cases hlt2:i<af.size
  ·have gw:af[((i:Nat):Int).toNat]?=some af[i]:=by simp[hlt2]
   have du:af.toList.drop i=af[i]::af.toList.drop (i+1):=by simp[Z7,hlt2]
   rw[hd,du]at he;rw[pe,gw];cases he with
   | eq e1 e2=>
    refine X0 (e1 prog w _ _ ?_)
    wp_walk
    rw[hc];exact⟨Zi plain_eq_loop _,Yq entry_eq_loop (by
     rw[Yb plain_eq_loop _];exact ih (i+1) (by omega) (by omega) (by omega) prog w A R _ ⟨hl,hb,e2,h⟩)⟩
   |lt e1 e2=>
    refine X0 (e1 prog w _ _ ?_)
    wp_walk using Y0 hl,Y0 hb
    rw[pe,gw];refine X0 (e2 prog w _ _ ?_)
    wp_walk
    exact h
  ·have gw:af[((i:Nat):Int).toNat]?=none:=by simp;omega
   have du:af.toList.drop i=[]:=List.drop_eq_nil_of_le (by rw[X7];omega);rw[hd,du]at he;rw[pe,gw]
   wp_walk using Y0 hl,Y0 hb
   show R (.ok (.ret (.bool (decide (items.size<af.size))))) _;cases he;rw[Xi (by omega)];exact h
theorem qvo(l b:Addr)(items af:Array Value)(n n2:Nat)(dd jl:Option Addr)(sl io:Array (Option Value))(kk:Bool):
  Meets (Builtin.«list.__lt__» ⟨[.ref l,.ref b],[]⟩)
   (λA R s=>s.heap.get? l=some { cls:=.type "list",dict:=dd,data:=.seq items n,slots:=sl }/\s.heap.get? b=some { cls:=.type "list",dict:=jl,data:=.seq af n2,slots:=io } /\
    Lx A.in1 s items.toList af.toList kk/\R (.ok (.ret (.bool kk))) s):=by
 intro prog w A R s h;obtain⟨hp,g,d,tk,os⟩:=s;obtain⟨hl,hb,he,h⟩:=h;have f3:=AutoSeq1.sub_list_list
 wp_walk using Y0 hl,Y0 hb
 exact⟨Zi plain_eq_loop _,Yq entry_eq_loop (by
  rw[Yb plain_eq_loop _];exact qvf l b items af n n2 dd jl sl io kk _ 0 rfl (Yd _) (Yd _) prog w A R _ ⟨hl,hb,by simpa using he,h⟩)⟩
end Tl
namespace Tl
open Q
def ltL:D->D->Option Bool
 |.lst xs,.lst ys=>ltDs xs ys|_,_=>none
def V3(a:D):List D->List D
 |[]=>[a]|b::r=>if ltL b a=some true then b::V3 a r else a::b::r
def J9:List D->List D
 |[]=>[]|a::r=>V3 a (J9 r)
def kZ:D->Bool
 |.lst xs=>keyDs 5 xs|_=>false
def okL(ds:List D):Bool:=ds.all kZ&&ds.all λa=>ds.all λb=>(ltL a b).isSome
end Tl
namespace Q
open Tl
def YJ:Sd->Option Sd:=λx=>match x.2 with
 |.lst ds=>if k7 x=true/\ds.length<64/\okL ds=true then some (.rt,.lst (J9 ds))else none|_=>none
end Q
namespace Tl
open PySem PySem.W PyProof.Rows Srt Q
def toT:D->D
 |.lst xs=>.tup xs|d=>d
theorem J8{a b:D}(ha:kZ a=true)(hb:kZ b=true):ltL a b=ltD (toT a) (toT b):=by
 cases a<;>first|(unfold kZ at ha;cases ha;done)|skip
 cases b<;>first|(unfold kZ at hb;cases hb;done)|skip
 unfold toT ltD ltL;rfl
theorem vqf{a b:D}(ha:kZ a=true)(hb:kZ b=true)(h:toT a=toT b):a=b:=by
 cases a<;>first|(unfold kZ at ha;cases ha;done)|skip
 cases b<;>first|(unfold kZ at hb;cases hb;done)|skip
 unfold toT at h;injection h with h;rw[h]
structure CmpL (ds:List D):Prop where
 k:∀d∈ds,kZ d=true
 c:∀a∈ds,∀b∈ds,∃k,ltL a b=some k
theorem vkf{ds:List D}(h:okL ds=true):CmpL ds:=by
 unfold okL at h;rw[Bool.and_eq_true,Y7,Y7]at h;refine⟨h.1,λa ha b hb=>?_⟩;have:=List.all_eq_true.mp (h.2 a ha) b hb;exact Option.isSome_iff_exists.mp this
theorem CmpL.cmp{ds:List D}(h:CmpL ds):Cmp (ds.map toT):=λa ha b hb=>by
 obtain⟨x,hx,rfl⟩:=aE ha;obtain⟨y,hy,rfl⟩:=aE hb;rw[<-J8 (h.k x hx) (h.k y hy)];exact h.c x hx y hy
abbrev LeL(a b:D):Prop:=ltL b a≠some true
theorem jzp(a:D):∀r:List D,(V3 a r).Perm (a::r)
 |[]=>.refl _
 |b::r=>by
  unfold V3
  split
  ·exact((jzp a r).cons b).trans (.swap _ _ _)
  ·exact .refl _
theorem VJ:∀r:List D,(J9 r).Perm r
 |[]=>.refl _|a::r=>(jzp a _).trans ((VJ r).cons a)
theorem qvs{ds:List D}(h:CmpL ds){a b c:D}(ha:a∈ds)(hb:b∈ds)(hc:c∈ds)(h1:LeL a b)(h2:LeL b c):LeL a c:=λz=>by
 unfold LeL at h1 h2;rw[J8 (h.k _ hb) (h.k _ ha)]at h1;rw[J8 (h.k _ hc) (h.k _ hb)]at h2;rw[J8 (h.k _ hc) (h.k _ ha)]at z;obtain⟨k,hk⟩:=h.c c hc b hb;rw[J8 (h.k _ hc) (h.k _ hb)]at hk;cases k with
 |true=>exact h2 hk
 |false=>
  by_cases e:toT c=toT b
  ·rw[e]at z;exact h1 z
  ·exact h1 (lt_trans (ZW hk e) z)
theorem qw9{ds:List D}(h:CmpL ds){a:D}(ha:a∈ds):∀{r:List D},(∀b∈r,b∈ds)->r.Pairwise LeL->(V3 a r).Pairwise LeL
 | [],_,_=>List.pairwise_singleton _ _
 | b::r,hr,hp=>by
  obtain⟨h1,h2⟩:=List.pairwise_cons.mp hp;have hb:=hr b X5;unfold V3
  split
  ·rename_i hl;refine List.pairwise_cons.mpr ⟨λc hc=>?_,qw9 h ha (λx hx=>hr x (lc9 _ hx)) h2⟩;rcases aD ((jzp a r).mem_iff.mp hc)with rfl|hc
   ·intro z;rw[J8 (h.k _ hb) (h.k _ ha)]at hl;rw[J8 (h.k _ ha) (h.k _ hb),jzg hl]at z;cases z
   ·exact h1 c hc
  ·rename_i hl;refine List.pairwise_cons.mpr ⟨λc hc=>?_,hp⟩;rcases aD hc with rfl|hc
   ·exact hl
   ·exact qvs h ha hb (hr c (lc9 _ hc)) hl (h1 c hc)
theorem kk7{ds:List D}(h:CmpL ds):∀{r:List D},(∀b∈r,b∈ds)->(J9 r).Pairwise LeL
 |[],_=>.nil
 |a::r,hr=>by
  unfold J9;exact qw9 h (hr a X5) (λb hb=>hr b (lc9 _ ((VJ r).mem_iff.mp hb))) (kk7 h λb hb=>hr b (lc9 _ hb))
theorem qz3{ds p:List D}(h:CmpL ds)(hp:p.Perm ds)(hw:p.Pairwise LeL):p=J9 ds:=
 List.Perm.eq_of_pairwise (λa b ha hb h1 h2=>by
  have ha:a∈ds:=hp.mem_iff.mp ha;have hb:b∈ds:=(VJ ds).mem_iff.mp hb;have ka:=h.k _ ha;have kb:=h.k _ hb;unfold LeL at h1 h2;rw[J8 kb ka]at h1;rw[J8 ka kb]at h2
  by_cases e:toT a=toT b
  ·exact vqf ka kb e
  ·rcases kvo h.cmp (List.mem_map.mpr ⟨a,ha,rfl⟩) (List.mem_map.mpr ⟨b,hb,rfl⟩) e with z|z
   ·exact absurd z h2
   ·exact absurd z h1) hw (kk7 h λ_ z=>z) (hp.trans (VJ ds).symm)
structure LL (h:Heap)(vs:List Value)(ds:List D):Prop where
 len:vs.length=ds.length
 at':∀(i:Nat) v d,vs[i]?=some v->ds[i]?=some d->j9 h d v/\kZ d=true
theorem qk7{h h':Heap}(et:∀b ob,h.get? b=some ob->h'.get? b=some ob){d:D}{u:Value}(k:kZ d=true)(r:j9 h d u):j9 h' d u:=by
 cases d<;>first|(unfold kZ at k;cases k;done)|skip
 unfold kZ at k;unfold j9 at r ⊢;obtain⟨a,us,e,⟨ob,d9,hc,fv⟩,hi⟩:=r;exact⟨a,us,e,⟨ob,et a ob d9,hc,fv⟩,creps_keep (λb ob _ _ hb _ _=>et b ob hb) k hi⟩
theorem LL.keep{h h':Heap}{vs:List Value}{ds:List D}(t:LL h vs ds)(et:∀b ob,h.get? b=some ob->h'.get? b=some ob):LL h' vs ds:=⟨t.len,λi v d e1 e2=>by
 obtain⟨g1,g2⟩:=t.at' i v d e1 e2;exact⟨qk7 et g2 g1,g2⟩⟩
section
variable {prog:Program}{w:PySem.World}{A:Around}{E:VP9}{s:Shared}
theorem kws{l b:Addr}{items af:Array Value}{k:Bool}{Q:Bool->Shared->Prop}(hu:A.units<cLine)(hl:s.heap.IsList l items)(hb:s.heap.IsList b af)(h:Lx A.in1 s items.toList af.toList k)(hq:Q k s):wpAny (model prog w) A (oneLt' true (.ref l) (.ref b)) Q E s:=by
 have t1:=hl.typeIs;obtain⟨⟨c1,d1,da1,s1⟩,dv,hc1,n1,jb⟩:=hl;obtain⟨⟨c2,d2,da2,s2⟩,ho2,ja,n2,du⟩:=hb;cases hc1;cases jb;cases ja;cases du;rw[oneLt'_eq];simp only[if_true];refine X0 (wpAny_cRoomFor hu ?_);refine X0 (wpAny_callSpecialIfBound?_slot t1 PySem.F.slot_list_lt (call_meets PySem.F.slot_list_lt t1 PySem.F.entry_list_lt (PySem.F.args_list_lt_2 _ _) (qvo l b items af n1 n2 d1 d2 s1 s2 k) ⟨dv,ho2,h,?_⟩));exact Zm hq
theorem wxo{vs:List Value}{ds:List D}{i j:Nat}{C:Bool->Shared->Prop}{b:Bool}(hu:A.units+20<cLine)(t:LL s.heap vs ds)(hi:i<vs.length)(hj:j<vs.length)(hb:ltL (ds[i]'(by rw[<-t.len];exact hi)) (ds[j]'(by rw[<-t.len];exact hj))=some b)(h:C b s):kas_ask prog w A oneType' vs i j C s:=by
 have li:i<ds.length:=by rw[<-t.len];exact hi
 have lj:j<ds.length:=by rw[<-t.len];exact hj
 unfold kas_ask;have ei:vs.getD i Value.none=vs[i]:=by simp[hi]
 have ej:vs.getD j Value.none=vs[j]:=by simp[hj]
 rw[ei,ej,keyLt'_oneType];obtain⟨c1,k1⟩:=t.at' i _ _ (X2 hi) (X2 li);obtain⟨c2,k2⟩:=t.at' j _ _ (X2 hj) (X2 lj);generalize ds[i]=x at hb c1 k1;generalize ds[j]=y at hb c2 k2;cases x<;>first|(unfold kZ at k1;cases k1;done)|skip
 cases y<;>first|(unfold kZ at k2;cases k2;done)|skip
 unfold kZ at k1 k2;unfold j9 at c1 c2;obtain⟨a1,us1,q1,h1,i1⟩:=c1;obtain⟨a2,us2,q2,h2,i2⟩:=c2;rw[q1,q2];unfold ltL at hb;have:=L3.in1_units A;exact kws ⋯ h1 h2 (vvy (A:=A.in1) (n:=5) ⋯ (λ_ _ _ _ _ a1 a2 a3 a4 a5=>wze 5 a1 a2 a3 a4 ⋯ a5) _ _ _ _ _ k1 k2 i1 i2 hb) h
end
section
variable {prog:Program}{w:PySem.World}{A:Around}{E:VP9}{s:Shared}{vs:List Value}{ds:List D}{a:Addr}{n:Nat}{P:Fin->Shared->Prop}
theorem kx5{h0:Heap}(hu:A.units+20<cLine)(ho:s.heap.get? a=some (seqObj "list" vs.toArray n))(ht:LL h0 vs ds)(h0k:∀b ob,h0.get? b=some ob->b≠a/\s.heap.get? b=some ob)(hc:CmpL ds)(qe:vs.length<64)
  (h:∀p:List Nat,p.Perm (List.range vs.length)->(p.map λi=>ds.getD i .non)=J9 ds->P (.done (.ret .none)) { s with heap:=sortedHeap s.heap a vs (p.map λi=>vs.getD i .none).toArray }):
  wpAny (model prog w) A (Builtin.«list.sort» ⟨[.ref a],[]⟩) P E s:=by
 have o8:LL (((s.heap.update a (Obj.mapSeq λ_=>#[])).push (seqObj "tuple" vs.toArray 0)).push (seqObj "list" #[] 0)) vs ds:=ht.keep λb ob hb=>X3 _ (X3 _ (by
  rw[Zg _ _ (h0k b ob hb).1.symm];exact(h0k b ob hb).2))
 have hnn:ds.length=vs.length:=ht.len.symm;have gd:∀(i:Nat) (hi:i<vs.length),ds.getD i .non=ds[i]'⋯:=λi hi=>by simp[show i<ds.length by lia]
 have gm:∀(i:Nat),i<vs.length->ds.getD i .non∈ds:=λi hi=>by rw[gd i hi];exact Y2 _
 have rki:∀i j,i<vs.length->j<vs.length->ltL (ds.getD i .non) (ds.getD j .non)=some (decide (rk (ds.map toT) (toT (ds.getD i .non))<rk (ds.map toT) (toT (ds.getD j .non)))):=λi j hi hj=>by
  rw[J8 (hc.k _ (gm i hi)) (hc.k _ (gm j hj))];exact vqk hc.cmp (List.mem_map.mpr ⟨_,gm i hi,rfl⟩) (List.mem_map.mpr ⟨_,gm j hj,rfl⟩)
 have fin:∀p:List Nat,p.Perm (List.range vs.length)->(p.map λi=>rk (ds.map toT) (toT (ds.getD i .non))).Pairwise (·<=·)->(p.map λi=>ds.getD i .non)=J9 ds:=λp hp r9=>by
  have pp:(p.map λi=>ds.getD i .non).Perm ds:=by
   refine(hp.map _).trans (.of_eq ?_);rw[<-hnn];exact Tb.rng_getD ds .non
  refine qz3 hc pp ?_;rw[Yc]at r9 ⊢;refine List.Pairwise.imp_of_mem (fun {i j} hi hj le=>?_) r9;have hi:=List.mem_range.mp (hp.mem_iff.mp hi);have hj:=List.mem_range.mp (hp.mem_iff.mp hj);unfold LeL;rw[rki j i hj hi,Xi ⋯];simp
 refine jzh (κ:=oneType') (key:=λi=>rk (ds.map toT) (toT (ds.getD i .non))) ho qe (λh2 Q hq=>kas_kind (T:=.type "list") h2 (λv hv=>?_) ⋯ ⋯ hq) (λi j C hi hj hC=>wxo hu o8 hi hj (by
    have:=rki i j hi hj;rw[<-gd i hi,<-gd j hj];exact this) hC) fin h
 obtain⟨i,hi,rfl⟩:=List.getElem_of_mem hv;obtain⟨g1,g2⟩:=o8.at' i _ _ (X2 hi) (X2 ⋯);generalize ds[i]'⋯=d at g1 g2;cases d<;>first|(unfold kZ at g2;cases g2;done)|skip
 unfold j9 at g1;obtain⟨b,us,e,⟨ob,d9,c9,fv⟩,_⟩:=g1;rw[e];exact λA Q E s k q=>Zb ⟨ob,k _ _ d9,c9⟩ q
end
end Tl
namespace Q
open PySem PySem.Spec PyProof.Rows L2 L3 Sw Tw Tl
section
variable {X:Cx}{Z:Fx0}{K:Frag}{σ:L2.St}{H:Hp}{pins:LA9}{s:Shared}
theorem qqd{g:Bool}:∀{ds:List D} {zs:List V} {bs:List Addr},RepA K H g ds zs bs->zs.length=ds.length/\∀i,i<ds.length->∃cs,RepL K H g (ds.getD i .non) (zs.getD i .non) cs/\∀b∈cs,b∈bs
 | [],zs,bs,r=>by
  unfold RepA at r;obtain⟨rfl,_⟩:=r;exact⟨rfl,λi hi=>absurd hi (Nat.not_lt_zero _)⟩
 | d::ds,zs,bs,r=>by
  unfold RepA at r;obtain⟨z,r',b1,b2,rfl,rfl,r1,r2⟩:=r;obtain⟨g1,g2⟩:=qqd r2;refine⟨by simp[g1],λi hi=>?_⟩;cases i with
  |zero=>exact⟨b1,r1,λb hb=>ll9 _ hb⟩
  |succ i=>
   obtain⟨cs,h1,h2⟩:=g2 i (by simpa using hi);exact⟨cs,by simpa using h1,λb hb=>lr9 _ (h2 b hb)⟩
theorem kql{g:Bool}{ds:List D}{zs:List V}{bs:List Addr}(h:∀i,i<ds.length->∃cs,RepL K H g (ds.getD i .non) (zs.getD i .non) cs/\∀b∈cs,b∈bs):∀p:List Nat,(∀i∈p,i<ds.length)->∃cs,RepA K H g (p.map λi=>ds.getD i .non) (p.map λi=>zs.getD i .non) cs/\∀b∈cs,b∈bs
 |[],_=>⟨[],by unfold RepA;exact⟨rfl,rfl⟩,λ_ z=>nomatch z⟩
 |i::p,hp=>by
  obtain⟨c1,e1,e2⟩:=h i (hp i X5);obtain⟨c2,f1,f2⟩:=kql h p λj hj=>hp j (lc9 _ hj)
  refine⟨c1++c2,by unfold RepA;exact⟨_,_,c1,c2,rfl,rfl,e1,f1⟩,λb hb=>?_⟩;rcases aA hb with z|z
  ·exact e2 b z
  ·exact f2 b z
def rSL(K:Frag):List V->Hp->VK->Prop:=λxs H Q=>∃(p:Addr) (zs:List V) (ds:List D) (bs:List Addr),xs=[.ref p]/\SqL K H p zs/\RepA K H true ds zs bs/\(ds.length<64/\okL ds=true)/\∀l lw cp,H l=none->RepA K H true (J9 ds) lw cp->(∀b∈cp,b∈bs)->Q (.ref l) (upd H l (.lst lw))
theorem qw4{d:D}(h:kZ d=true):d.flat 6=true:=by
 cases d<;>first|(unfold kZ at h;cases h;done)|skip
 unfold kZ at h;unfold D.flat;exact keys_flat h
theorem qk9(hu:X.A.units+64<cLine):CallR X (.builtin "sorted") (rSL X.K):=by
 intro pins s σ H xs us Q I r h;obtain⟨b,zs,ds,bs,rfl,hq,rA,⟨hl,hok⟩,q⟩:=h;obtain⟨u,rfl,rx⟩:=x8 r;cases rx;obtain⟨a8,r',pl,hz⟩:=I.list hq;have cm:=vkf hok;obtain⟨zl,at'⟩:=qqd rA;have ln:a8.length=ds.length:=by rw[<-r'.length];exact zl
 have u1:=L3.in1_units X.A;have u2:=L3.in1_units X.A.in1;have ht:LL s.heap a8 ds:=⟨ln,λi v d e1 e2=>by
  have k:=cm.k d (Xv e2);have hi:=(List.getElem?_eq_some_iff.mp e2).1;obtain⟨cs,g1,_⟩:=at' i hi;have i9:i<zs.length:=by rw[zl];exact hi
  obtain⟨u,my,hu2⟩:=r'.get (X2 i9);rw[e1]at my;cases oq9 my;have ed:ds.getD i .non=d:=by rw[Xr,e2];rfl
  have ez:zs.getD i .non=zs[i]:=by simp[i9]
  rw[ed,ez]at g1;exact⟨Jz I g1 (qw4 k) hu2,k⟩⟩
 refine Calls.call_function_entry kind_sorted plain_sorted entry_sorted (args_sorted1 _) ?_;unfold Builtin.«sorted»;refine X0 (m:=checkCount "sorted" 1 1 _) (X4 ?_);refine X0 (collect_list pl.isList ?_ (by rw[ln,Yr];lia));refine X0 (wpAny_newList ?_ (by rw[ln,Yr];lia));have hsz:((s.heap.push (seqObj "list" #[] 0)).update s.heap.objs.size (Obj.mapSeq (·++a8.toArray))).objs.size=s.heap.objs.size+1:=by
  rw[Heap.size_update,size_push']
 obtain⟨hS,hSe⟩:∃hS,((s.heap.push (seqObj "list" #[] 0)).update s.heap.objs.size (Obj.mapSeq (·++a8.toArray))).push (seqObj "list" a8.toArray 0)=hS:=⟨_,rfl⟩;have jo:hS.get? (s.heap.objs.size+1)=some (seqObj "list" a8.toArray 0):=by
  rw[<-hSe,<-hsz];exact Xg _ rfl
 have keep:∀b o,s.heap.get? b=some o->hS.get? b=some o:=λb o q=>by
  have b7:b<s.heap.objs.size:=Xd q;rw[<-hSe,Heap.get?_push_ne _ _ _ (by rw[hsz];exact Xl (Yt b7)),Z4 _ _ _ _ (Xl b7),Heap.get?_push_ne _ _ _ (Xl b7)];exact q
 have hzz:hS.objs.size=s.heap.objs.size+2:=by rw[<-hSe,Heap.size_push,hsz]
 show wpAny _ _ _ _ _ { s with heap:=((s.heap.push (seqObj "list" #[] 0)).update s.heap.objs.size (Obj.mapSeq (·++a8.toArray))).push (seqObj "list" a8.toArray 0) };rw[hsz,hSe];refine X0 (Y9 (Y6 slot_list_sort ⟨_,jo,rfl⟩ entry_list_sort (kx5 ⋯ jo ht (λb ob hb=>⟨Xl (Yt (Xd hb)),keep b ob hb⟩) cm (by rw[ln];exact hl) λp hpm hps=>⟨_,rfl,?_⟩) (args_list_sort _)));obtain⟨e,he⟩:=sortedHeap_at (out:=(p.map λi=>a8.getD i .none).toArray) jo;have om:∀i∈p,i<a8.length:=λi hi=>List.mem_range.mp (hpm.mem_iff.mp hi)
 obtain⟨cs,c1,c2⟩:=kql at' p λi hi=>by rw[<-ln];exact om i hi
 rw[hps]at c1;have hv:Vals (p.map λi=>zs.getD i .non) (p.map λi=>a8.getD i .none):=kjz (by simp) λi x u e1 e2=>by
  rw[Xe]at e1 e2;cases hp:p[i]? with
  |none=>rw[hp]at e1;cases e1
  |some j=>
   rw[hp]at e1 e2;cases oq9 e1;cases oq9 e2;have hj:=om j (Xv hp);have i9:j<zs.length:=⋯
   obtain⟨u,my,hu2⟩:=r'.get (X2 i9);have e3:a8.getD j .none=u:=by rw[Xr,my];rfl
   have e4:zs.getD j .non=zs[j]:=by simp[i9]
   show RelV (zs.getD j .non) (a8.getD j .none);rw[e3,e4];exact hu2
 have ly:∀b o,s.heap.get? b=some o->(sortedHeap hS (s.heap.objs.size+1) a8 (p.map λi=>a8.getD i .none).toArray).get? b=some o:=λb o q=>by
  have hb:=Xd q;rw[sortedHeap_old (Xl (Yt hb)) (by rw[hzz];exact Yt (Yt hb))];exact keep b o q
 refine X4 ⟨_,rfl,⟨.ref (s.heap.objs.size+1),_,I.laid (t':=s.toks) (o:=.lst (p.map λi=>zs.getD i .non)) ly (Nat.le_succ _) ?_,rfl,q _ _ _ (I.hok.fresh (Nat.le_succ _)) c1 c2⟩⟩;refine⟨?_,(p.map λi=>a8.getD i .none),e,hv,he⟩;rw[X1,hpm.length_eq,Xu,ln,Yr];lia
theorem wxq:Ad1 K (λv H Q=>rSL K [v] H Q) YJ:=by
 intro H x s Q ok hf k;unfold YJ at hf;dsimp only at hf;cases hx:x.d with
 | lst ds=>
  rw[hx]at hf;dsimp only at hf
  split at hf
  ·rename_i hcn;cases oq9 hf;obtain⟨l,xs,bs,ev,q3,r3,h3⟩:=x9 ok (.inl hx) (by rw[hx];exact hcn.1);have q3:LsR K H l xs:=by rcases q3 with⟨_,z⟩|⟨z,_⟩;exact z;rw[hx]at z;cases z
   exact⟨l,xs,ds,bs,by rw[ev],xj q3,r3,hcn.2,λp lw cp hp rp hb=>k ⟨.rt,.lst _,.ref p,p::cp⟩ _ rfl rfl (zX hp rp λb cg=>h3 b (hb b cg))⟩
  ·cases hf
 |_=>rw[hx]at hf;cases hf
theorem qxa(hu:X.A.units+64<cLine)(K:Frag)(hK:autoParam (X.K=K) Ŕ):CallR X (.builtin "sorted") (rSL K):=by subst hK;exact qk9 hu
end
end Q
namespace Q
open PySem
theorem wkd(n:Nat)(h:300<=n):(10:Nat) ^ 70<2 ^ n:=Xn (show(10:Nat) ^ 70<2 ^ 240 by decide) (Nat.pow_le_pow_right ⋯ ⋯)
theorem mul_l{o1 o2:Own}{a b:Int}(h1:-18446744073709551616<a)(h2:a<18446744073709551616):W2 (o1,.int a) (o2,.int b)=some (.dp,.int (a*b)):=by
 have:K7 a b=true:=by
  have:qq1 a=true:=by unfold qq1;rw[Xb (show -(2 ^ 64)<a by lia),Xb (show a<2 ^ 64 by lia)];rfl
  unfold K7;rw[this];rfl
 show(if K7 a b=true then _ else _)=_;rw[X6 this]
theorem vvt{o1 o2:Own}{a b:Int}(ha:a.natAbs.log2<2000000)(hb:b.natAbs.log2<2000000):W2 (o1,.int a) (o2,.int b)=some (.dp,.int (a*b)):=by
 have:K7 a b=true:=by unfold K7;rw[Xb ha,Xb hb];simp
 show(if K7 a b=true then _ else _)=_;rw[X6 this]
theorem add_i{o1 o2:Own}{a b:Int}:jQ (o1,.int a) (o2,.int b)=some (.dp,.int (a+b)):=rfl
theorem sub_i{a b:Int}:Q8 (.int a) (.int b)=some (.int (a - b)):=rfl
theorem div_i{a b:Int}(h:0<b)(h2:b<10 ^ 70):wK (.int a) (.int b)=some (.int (a / b)):=by
 have hb:b.natAbs.log2<9000:=by
  exact(Nat.log2_lt ⋯).mpr (Nat.lt_trans (show b.natAbs<10 ^ 70 by lia) (wkd 9000 ⋯))
 show(if 0<b/\b.natAbs.log2<9000 then some (a / b)else none).map _=_;rw[X6 ⟨h,hb⟩];rfl
theorem mod_i{a b:Int}(h:0<b):k8 (.int a) (.int b)=some (.int (a % b)):=by
 show(if 0<b then some (a % b)else none).map _=_;rw[X6 h];rfl
theorem pow_i{a b:Int}(h1:0<=b)(h2:b<=1000)(h3:-1000000<a)(h4:a<1000000):KJ (.int a) (.int b)=some (.int (a ^ b.toNat)):=by
 show(if 0<=b/\b<=1000000/\a.natAbs<2 ^ 64 then some (a ^ b.toNat)else none).map _=_;rw[X6 ⟨h1,⋯,⋯⟩];rfl
theorem WX{a b:Int}:fEq (.int a) (.int b)=some (.bl (a==b)):=rfl
theorem lt_ii{a b:Int}:fLt (.int a) (.int b)=some (.bl (decide (a<b))):=rfl
theorem le_ii{a b:Int}:fLe (.int a) (.int b)=some (.bl (decide (a<=b))):=rfl
theorem Q3{xs:List D}{i:Int}{d:D}(h0:0<=i)(h:xs[i.toNat]?=some d):kq (.lst xs) (.int i)=some d:=by
 show((ixN xs.length i).bind λj=>xs[j]?)=some d;have hl:i.toNat<xs.length:=(List.getElem?_eq_some_iff.mp h).1;unfold ixN;rw[X6 h0,X6 ⋯];exact h
theorem ix_t{xs:List D}{i:Int}{d:D}(h0:0<=i)(h:xs[i.toNat]?=some d):kq (.tup xs) (.int i)=some d:=by
 show((ixN xs.length i).bind λj=>xs[j]?)=some d;have hl:i.toNat<xs.length:=(List.getElem?_eq_some_iff.mp h).1;unfold ixN;rw[X6 h0,X6 ⋯];exact h
theorem len_l{xs:List D}:v8 (.lst xs)=some (.int xs.length):=rfl
theorem len_t{xs:List D}:v8 (.tup xs)=some (.int xs.length):=rfl
theorem wqv{o1 o2:Own}{a b:List D}(h1:o1≠.dp)(h2:o2≠.dp)(hl:a.length+b.length<10000):jQ (o1,.lst a) (o2,.lst b)=some (.rt,.lst (a++b)):=by
 show(if a.length+b.length<=big/\k7 (o1,.lst a)/\k7 (o2,.lst b)then _ else _)=_;rw[X6 ⟨by unfold big;lia,by cases o1<;>simp_all [k7],by cases o2<;>simp_all [k7]⟩]
theorem vqc{o:Own}{xs:List D}(h:o≠.dp):QZ (o,.lst xs)=some (.no,.tup xs):=by
 show(if k7 (o,.lst xs)then _ else _)=_;rw[X6 (by cases o<;>simp_all [k7])]
abbrev XP:=Str->Prop
theorem nd{α:Sort _}{a b:α}(h:a=b):a=b:=h
@[irreducible] noncomputable def Eo {α:Type} (m:Option (Res α)) (P:En->α->Prop) (X:XP):Prop:=match m with
 |some (.ok E a)=>P E a|some (.exc _ c)=>X c|none=>False
@[irreducible] noncomputable def Vo {α:Type} (m:Option α) (P:α->Prop):Prop:=match m with
 |some a=>P a|none=>False
@[irreducible] noncomputable def Oo (f:Fn) (xs:List Sd) (P:Sd->Prop) (X:XP):Prop:=match f xs with
 |some (.ok _ y)=>P y|some (.exc _ c)=>X c|none=>False
@[irreducible] noncomputable def Po (r:Option Fl) (N C:En->Prop) (R:Sd->Prop) (X:XP):Prop:=match r with
 |some (.nx E)=>N E|some (.ct E)=>C E|some (.rt _ x)=>R x|some (.xc _ c)=>X c|_=>False
abbrev noX:XP:=λ_=>False
section
variable {α β:Type}{P:En->α->Prop}{X:XP}{N C:En->Prop}{R:Sd->Prop}{E:En}
theorem qwn{a:α}:Eo (some (.ok E a)) P X=P E a:=nd (by ac_rfl)
theorem jJ{m:Option (Res β)}{f:En->β->Option (Res α)}:Eo (bnd m f) P X=Eo m (λE a=>Eo (f E a) P X) X:=by
 cases m with|none=>ac_rfl|some r=>cases r<;>ac_rfl
theorem vo_some{a:α}{P:α->Prop}:Vo (some a) P=P a:=nd (by ac_rfl)
theorem vo_map{x:Option β}{f:β->α}{P:α->Prop}:Vo (x.map f) P=Vo x (λa=>P (f a)):=by cases x<;>ac_rfl
theorem wq{x:Option α}:Eo (val E x) P X=Vo x (P E):=by cases x<;>ac_rfl
theorem vv6{E:En}:Po (some (.nx E)) N C R X=N E:=nd (by ac_rfl)
theorem J4{m:Option (Res α)}{f:En->α->Option Fl}:Po (ofE m f) N C R X=Eo m (λE a=>Po (f E a) N C R X) X:=by
 cases m with|none=>ac_rfl|some r=>cases r<;>ac_rfl
theorem wjp{a b:Sm}:Po (j6 a b E) N C R X=Po (a E) (λE=>Po (b E) N C R X) C R X:=by
 unfold j6 Po;cases a E with|none=>ac_rfl|some r=>cases r<;>ac_rfl
theorem Eo.mono{m:Option (Res α)}{P':En->α->Prop}(h:Eo m P X)(k:∀E a,P E a->P' E a):Eo m P' X:=by
 cases m with
 |none=>exists h
 |some r=>cases r with|ok E a=>exists k E a h|exc E c=>exists h
theorem Oo.mono{f:Fn}{xs:List Sd}{P P':Sd->Prop}(h:Oo f xs P X)(k:∀y,P y->P' y):Oo f xs P' X:=by
 unfold Oo at h ⊢;cases hf:f xs with
 |none=>rw[hf]at h;exists h
 |some r=>rw[hf]at h;cases r with|ok E a=>exists k a h|exc E c=>exists h
theorem Oo.out{f:Fn}{xs:List Sd}{P:Sd->Prop}(h:Oo f xs P noX):∃E y,f xs=some (.ok E y)/\P y:=by
 unfold Oo at h;cases hf:f xs with
 |none=>rw[hf]at h;exists (show False from h).elim
 |some r=>rw[hf]at h;cases r with|ok E a=>with_unfolding_all exact⟨E,a,rfl,h⟩|exc E c=>exists (show False from h).elim
theorem kY{n:Nat}{b:Sm}{xs:List Sd}{P:Sd->Prop}(h:Po (b (xs.map some++List.replicate (n - xs.length) none)) (λ_=>P (.dp,.non)) (λ_=>False) P X):Oo (fn n b) xs P X:=by
 unfold Oo fn;unfold Po at h;cases hb:b (xs.map some++List.replicate (n - xs.length) none)with|none=>rw[hb]at h;exists h|some r=>rw[hb]at h;cases r<;>exists h
theorem vwn{f:Fn}{cs:List Ex}{P:En->Sd->Prop}:Eo (jW f cs E) P X=Eo (qw cs E) (λE xs=>Oo f (letAll xs) (P E) X) X:=by
 unfold jW;rw[jJ]
 congr 1
 funext E xs;unfold Oo;cases f (letAll xs)with|none=>ac_rfl|some r=>cases r<;>ac_rfl
theorem kwl{tg:Tg}{b:Sm}(I:En->List D->Prop)(hs:∀E d ds,I E (d::ds)->Vo (tg.put d E) λE1=>Po (b E1) (λE2=>I E2 ds) (λE2=>I E2 ds) R X)(h1:∀E,I E []->N E):∀ds E,I E ds->Po (J5 tg b ds E) N C R X
 | [],E,h=>by exists h1 E h
 | d::ds,E,h=>by
  have h2:=hs E d ds h;unfold J5;cases hp:tg.put d E with
  | none=>rw[hp]at h2;exists (show False from h2).elim
  | some E1=>
   rw[hp]at h2;have h2:Po (b E1) (λE2=>I E2 ds) (λE2=>I E2 ds) R X:=by exists h2
   dsimp only;cases hb:b E1 with
   |none=>rw[hb]at h2;exists (show False from h2).elim
   |some r=>
    rw[hb]at h2;cases r with|nx E2=>exists kwl I hs h1 ds E2 h2|ct E2=>exists kwl I hs h1 ds E2 h2|rt E2 x=>exists h2|xc E2 c=>exists h2|bk E2=>exists (show False from h2).elim
theorem x4{it:Ev (List D)}{tg:Tg}{b:Sm}(I:En->List D->Prop)(h0:Eo (it E) I X)(hs:∀E d ds,I E (d::ds)->Vo (tg.put d E) λE1=>Po (b E1) (λE2=>I E2 ds) (λE2=>I E2 ds) R X)(h1:∀E,I E []->N E):Po (v6 it tg b E) N C R X:=by
 show Po (ofE (it E) λE ds=>J5 tg b ds E) N C R X;rw[J4]
 exists h0.mono λE ds h=>kwl I hs h1 ds E h
theorem qwo{tg:Tg}{t:Ts}{c:Ex}{P:En->List Sd->Prop}(J:En->List D->List Sd->Prop)(hs:∀B d ds aa,J B (d::ds) aa->Vo (tg.put d B) λB1=>Eo (t B1) (λB2 k=>if k=true then Eo (c B2) (λB3 y=>J B3 ds (aa++[y])) X else J B2 ds aa) X)(h1:∀B aa,J B [] aa->P B aa):∀ds B aa,J B ds aa->Eo (lcL tg t c ds B aa) P X
 | [],B,aa,h=>by exists h1 B aa h
 | d::ds,B,aa,h=>by
  have h2:=hs B d ds aa h;unfold lcL;cases hp:tg.put d B with
  | none=>rw[hp]at h2;exists (show False from h2).elim
  | some B1=>
   rw[hp]at h2;have h2:Eo (t B1) (λB2 k=>if k=true then Eo (c B2) (λB3 y=>J B3 ds (aa++[y])) X else J B2 ds aa) X:=by exists h2
   dsimp only;rw[jJ];refine h2.mono λB2 k h3=>?_
   cases k with
   |false=>exists qwo J hs h1 ds B2 aa h3
   |true=>
    show Eo (bnd (c B2) _) P X;rw[jJ]
    exists Eo.mono (P:=λB3 y=>J B3 ds (aa++[y])) h3 λB3 y h4=>qwo J hs h1 ds B3 _ h4
theorem xY{o:Own}{k:Nat}{r:List Nat}{it:Ev (List D)}{tg:Tg}{t:Ts}{c:Ex}{P:En->Sd->Prop}(J:En->En->List D->List Sd->Prop)(h0:Eo (it E) (λE1 ds=>J E1 (JJ k r E1) ds []) X)
  (hs:∀E1 B d ds aa,J E1 B (d::ds) aa->Vo (tg.put d B) λB1=>Eo (t B1) (λB2 k=>if k=true then Eo (c B2) (λB3 y=>J E1 B3 ds (aa++[y])) X else J E1 B2 ds aa) X) (h1:∀E1 B aa,J E1 B [] aa->Eo (mkL o (wY k r B E1) aa) P X):Eo (cLC o k r it tg t c E) P X:=by
 unfold cLC;rw[jJ];refine h0.mono λE1 ds hJ=>?_
 have:=qwo (P:=λB aa=>Eo (mkL o (wY k r B E1) aa) P X) (J E1) (hs E1) (h1 E1) ds _ _ hJ;cases hl:lcL tg t c ds (JJ k r E1) []with|none=>rw[hl]at this;exists (show False from this).elim|some q=>rw[hl]at this;cases q<;>exists this
end
theorem mulT_i{o1:Own}{a:Int}{y:Sd}:vJ (o1,.int a) y=W2 (o1,.int a) y:=by
 unfold vJ;ac_rfl
def sl(q:Option (Option Sd)):Option Sd:=match q with
 |some (some x)=>some x|_=>none
theorem sl_some{x:Sd}:sl (some (some x))=some x:=nd (by ac_rfl)
def wzo(d:D)(a b:Prop):Prop:=match d with
 |.bl k=>if k=true then a else b|_=>False
theorem andP_bl{k:Bool}{a b:Prop}:wzo (.bl k) a b=if k=true then a else b:=nd (by ac_rfl)
def Wo{α:Type}(m:Option α)(E:En)(P:En->α->Prop):Prop:=Vo m (P E)
theorem wo_some{α:Type}{a:α}{E:En}{P:En->α->Prop}:Wo (some a) E P=P E a:=by unfold Wo;exact vo_some
theorem wo_map{α β:Type}{x:Option β}{f:β->α}{E:En}{P:En->α->Prop}:Wo (x.map f) E P=Wo x E (λE a=>P E (f a)):=by unfold Wo;exact vo_map
def Oe(f:Fn)(xs:List Sd)(E:En)(P:En->Sd->Prop)(X:XP):Prop:=Oo f xs (P E) X
def intP(d:D)(P:Int->Prop):Prop:=match d with
 |.int i=>P i|_=>False
def Ie(d:D)(E:En)(P:En->Int->Prop):Prop:=intP d (P E)
theorem ie_i{i:Int}{E:En}{P:En->Int->Prop}:Ie (.int i) E P=P E i:=nd (by ac_rfl)
section
variable {P:En->Sd->Prop}{T:En->Bool->Prop}{X:XP}{N C:En->Prop}{R:Sd->Prop}{E:En}{e:Option Sd}{a b c:Ex}{t u:Ts}{i:Nat}
theorem w_seq{a b:Sm}:Po (j6 a b (e::E)) N C R X=Po (a (e::E)) (λE=>Po (b E) N C R X) C R X:=wjp
theorem w_asg:Po (jv i c (e::E)) N C R X=Eo (c (e::E)) (λE x=>N (E.set i (some x))) X:=by unfold jv;rw[J4];ac_rfl
theorem w_ret:Po (k6 c (e::E)) N C R X=Eo (c (e::E)) (λ_ x=>R x) X:=by unfold k6;rw[J4];ac_rfl
theorem w_pass:Po (vj (e::E)) N C R X=N (e::E):=nd (by ac_rfl)
theorem w_if{a b:Sm}:Po (sIf t a b (e::E)) N C R X=Eo (t (e::E)) (λE k=>if k=true then Po (a E) N C R X else Po (b E) N C R X) X:=by
 unfold sIf;rw[J4];congr 1;funext E k;cases k<;>ac_rfl
theorem w_vV:Eo (vV i (e::E)) P X=Wo (sl (e::E)[i]?) (e::E) P:=by
 unfold vV Wo;cases(e::E)[i]? with|none=>ac_rfl|some q=>cases q<;>ac_rfl
theorem w_cV:Eo (cV i (e::E)) P X=Wo (sl (e::E)[i]?) (e::E) (λE x=>P (E.set i (some (.no,x.2))) (.no,x.2)):=by
 unfold cV Wo;cases(e::E)[i]? with|none=>ac_rfl|some q=>cases q<;>ac_rfl
theorem w_cMv:Eo (cMv i (e::E)) P X=Wo (sl (e::E)[i]?) (e::E) (λE x=>P (E.set i none) x):=by
 unfold cMv Wo;cases(e::E)[i]? with|none=>ac_rfl|some q=>cases q<;>ac_rfl
theorem w_cC{d:D}:Eo (cC d (e::E)) P X=P (e::E) (.dp,d):=nd (by ac_rfl)
theorem w_vE:Eo (vE c (e::E)) P X=Eo (c (e::E)) (λE x=>P E (.no,x.2)) X:=by unfold vE;rw[jJ];ac_rfl
theorem w_cH:Eo (cH c (e::E)) P X=Eo (c (e::E)) (λE x=>if x.1=.no then P E (.no,x.2)else if x.2.pure=true then P E (.dp,x.2)else False) X:=by
 unfold cH;rw[jJ]
 congr 1
 funext E x
 by_cases h:x.1=.no
 ·rw[X6 h,X6 h];ac_rfl
 ·rw[X8 h,X8 h]
  by_cases h2:x.2.pure=true
  ·rw[X6 h2,X6 h2];ac_rfl
  ·rw[X8 h2,X8 h2];ac_rfl
theorem w_f1{f:Sd->Option Sd}:Eo (cF1 f a (e::E)) P X=Eo (a (e::E)) (λE x=>Wo (f x) E P) X:=by
 unfold cF1;rw[jJ];congr 1;funext E x;exact wq
theorem w_f2{f:Sd->Sd->Option Sd}:Eo (cF2 f a b (e::E)) P X=Eo (a (e::E)) (λE x=>Eo (b E) (λE y=>Wo (f x y) E P) X) X:=by
 unfold cF2;rw[jJ];congr 1;funext E x;rw[jJ];congr 1;funext E y;exact wq
theorem w_ix:Eo (jZ a b (e::E)) P X=Eo (a (e::E)) (λE x=>Eo (b E) (λE y=>Wo (kq x.2 y.2) E (λE d=>P E (sub x.1,d))) X) X:=by
 unfold jZ;rw[jJ];congr 1;funext E x;rw[jJ];congr 1;funext E y;rw[wq];exact vo_map
theorem w_tE:Eo (tE c (e::E)) T X=Eo (c (e::E)) (λE x=>Wo (truth x.2) E T) X:=by
 unfold tE;rw[jJ];congr 1;funext E x;exact wq
theorem w_tEQ:Eo (tEQ c (e::E)) T X=Eo (c (e::E)) (λE x=>Wo (truthQ x.2) E T) X:=by
 unfold tEQ;rw[jJ];congr 1;funext E x;exact wq
theorem w_tNot:Eo (tNot t (e::E)) T X=Eo (t (e::E)) (λE k=>T E (!k)) X:=by unfold tNot;rw[jJ];ac_rfl
theorem w_tAnd:Eo (tAnd t u (e::E)) T X=Eo (t (e::E)) (λE k=>if k=true then Eo (u E) T X else T E false) X:=by
 unfold tAnd;rw[jJ];congr 1;funext E k;cases k<;>ac_rfl
theorem w_tOr:Eo (tOr t u (e::E)) T X=Eo (t (e::E)) (λE k=>if k=true then T E true else Eo (u E) T X) X:=by
 unfold tOr;rw[jJ];congr 1;funext E k;cases k<;>ac_rfl
theorem w_tYes:Eo (tYes (e::E)) T X=T (e::E) true:=nd (by ac_rfl)
theorem w_cIf:Eo (cIf t a b (e::E)) P X=Eo (t (e::E)) (λE k=>if k=true then Eo (a E) P X else Eo (b E) P X) X:=by
 unfold cIf;rw[jJ];congr 1;funext E k;cases k<;>ac_rfl
theorem w_call{f:Fn}{cs:List Ex}:Eo (jW f cs (e::E)) P X=Eo (qw cs (e::E)) (λE xs=>Oe f (letAll xs) E P X) X:=by exists vwn
theorem w_partN{P:En->Option Int->Prop}:Eo (zx none (e::E)) P X=P (e::E) none:=nd (by ac_rfl)
theorem w_partS{P:En->Option Int->Prop}:Eo (zx (some c) (e::E)) P X=Eo (c (e::E)) (λE x=>Ie x.2 E (λE i=>P E (some i))) X:=by
 show Eo (bnd (c (e::E)) _) P X=_;rw[jJ];congr 1;funext E x;unfold Ie;cases x.2<;>ac_rfl
theorem w_sl{lo hi:Option Ex}:Eo (cSl a lo hi (e::E)) P X=Eo (a (e::E)) (λE x=>Eo (zx lo E) (λE l=>Eo (zx hi E) (λE h=>Wo (fSl x l h) E P) X) X) X:=by
 unfold cSl;rw[jJ];congr 1;funext E x;rw[jJ];congr 1;funext E l;rw[jJ];congr 1;funext E h;exact wq
theorem w_idx:Eo (W6 a b (e::E)) P X=Eo (a (e::E)) (λE x=>if isSq x.2=true then Eo (b E) (λE y=>Wo (QJ x.2 y.2) E (λE d=>P E (.dp,d))) X else False) X:=by
 unfold W6;rw[jJ];congr 1;funext E x;cases isSq x.2 with
 |false=>ac_rfl
 |true=>
  show Eo (bnd (b E) _) P X=_;rw[jJ];rw[X6 rfl]
  congr 1;funext E y;rw[wq];unfold pu2;exact vo_map
theorem w_itS{P:En->List D->Prop}:Eo (itS c (e::E)) P X=Eo (c (e::E)) (λE x=>Wo (seqOf x.2) E P) X:=by
 unfold itS;rw[jJ]
 congr 1
 funext E x;exact wq
theorem w_itEn{P:En->List D->Prop}:Eo (wvb c (e::E)) P X=Eo (c (e::E)) (λE x=>Wo (lstOf x.2) E (λE ds=>P E (xQ 0 ds))) X:=by
 unfold wvb;rw[jJ]
 congr 1
 funext E x;rw[wq];exact vo_map
end
theorem args_nil{e:Option Sd}{E:En}{P:En->List Sd->Prop}{X:XP}:Eo (qw [] (e::E)) P X=P (e::E) []:=nd (by ac_rfl)
theorem args_cons{e:Option Sd}{E:En}{c:Ex}{cs:List Ex}{P:En->List Sd->Prop}{X:XP}:Eo (qw (c::cs) (e::E)) P X=Eo (c (e::E)) (λE x=>Eo (qw cs E) (λE xs=>P E (x::xs)) X) X:=by
 show Eo (bnd (c (e::E)) λE x=>bnd (qw cs E) λE xs=>some (.ok E (x::xs))) P X=_;rw[jJ]
 congr 1
 funext E x;rw[jJ]
 ac_rfl
theorem eo_tup{e:Option Sd}{E:En}{cs:List Ex}{P:En->Sd->Prop}{X:XP}:Eo (kW .no cs (e::E)) P X=Eo (qw cs (e::E)) (λE xs=>P E (.no,.tup (xs.map (·.2)))) X:=by
 unfold kW;rw[jJ]
 ac_rfl
theorem eo_lst{e:Option Sd}{E:En}{cs:List Ex}{P:En->Sd->Prop}{X:XP}:Eo (qz .rt cs (e::E)) P X=Eo (qw cs (e::E)) (λE xs=>P E (.rt,.lst (xs.map (·.2)))) X:=by
 unfold qz;rw[jJ]
 ac_rfl
theorem W5{c:Ex}{E:En}{P:En->List D->Prop}{X:XP}(h:Eo (c E) (λE x=>∃n:Int,x.2=.int n/\n<=1000/\-1000<=n/\P E (jV 0 n)) X):Eo (x5 c E) P X:=by
 unfold x5;rw[jJ];refine h.mono ?_;rintro E ⟨o,d⟩ ⟨n,rfl,h1,h2,h3⟩;have:vK n=true:=by unfold vK;rw[Xb ⋯,Xb ⋯];ac_rfl
 show Eo (if vK n=true/\n.toNat<=big then _ else _) P X;rw[X6 ⟨this,by unfold big;lia⟩]
 exists h3
theorem wqs{i:Nat}{c:Ex}{E:En}{o:Own}{xs:List D}{N C:En->Prop}{R:Sd->Prop}{X:XP}(h0:E[i]?=some (some (o,.lst xs)))
  (h:Eo (c E) (λE1 x=>∃o ys,E1[i]?=some (some (o,.lst ys))/\o≠.no/\ys.length<10000/\N (E1.set i (some (if o=.dp/\vY x then .dp else .rt,.lst (ys++[x.2]))))) X):Po (v3 vQ i c E) N C R X:=by
 unfold v3;rw[h0,X6 (show J7 (some (some (o,.lst xs)))=true from rfl),J4];refine h.mono ?_;rintro E1 x ⟨o,ys,h1,h2,h3,h4⟩;rw[h1];dsimp only;have hg:vQ ys x.2=some (ys++[x.2]):=by unfold vQ;rw[X6 (by unfold big;lia)]
 rw[X8 h2,hg]
 exists h4
theorem zW{i:Nat}{c:Ex}{E:En}{xs:List D}{N C:En->Prop}{R:Sd->Prop}{X:XP}(h0:E[i]?=some (some (.rt,.lst xs)))
  (h:Eo (c E) (λE1 x=>∃ys,E1[i]?=some (some (.rt,.lst ys))/\ys.length<10000/\N (E1.set i (some (.rt,.lst (ys++[x.2]))))) X):Po (v3 vQ i c E) N C R X:=
 wqs h0 (h.mono λE1 x ⟨ys,h1,h2,h3⟩=>⟨.rt,ys,h1,⋯,h2,by rw[X8 (by rintro ⟨z,_⟩;cases z)];exists h3⟩)
theorem rng_ok{n:Int}(h1:-1000<=n)(h2:n<=1000):(vK n=true/\n.toNat<=big)=True:=by
 have:vK n=true:=by unfold vK;rw[Xb ⋯,Xb ⋯];ac_rfl
 with_unfolding_all exact eq_true ⟨this,by unfold big;lia⟩
theorem kxe{α:Type}{p:Prop}[Decidable p]{a:Option (Res α)}{P:En->α->Prop}{X:XP}:Eo (if p then a else none) P X=(p/\Eo a P X):=by
 by_cases h:p
 ·rw[X6 h];with_unfolding_all exact propext ⟨λz=>⟨h,z⟩,λz=>z.2⟩
 ·rw[X8 h];with_unfolding_all exact propext ⟨λz=>z.elim,λz=>h z.1⟩
theorem w_R1{c:Ex}{e:Option Sd}{E:En}{P:En->List D->Prop}{X:XP}:Eo (x5 c (e::E)) P X=Eo (c (e::E)) (λE x=>Ie x.2 E λE n=>(vK n=true/\n.toNat<=big)/\P E (jV 0 n)) X:=by
 unfold x5;rw[jJ];congr 1;funext E x;cases x.2 with|int n=>exists kxe|_=>ac_rfl
theorem w_LR1{c:Ex}{e:Option Sd}{E:En}{P:En->Sd->Prop}{X:XP}:Eo (XW c (e::E)) P X=Eo (c (e::E)) (λE x=>Ie x.2 E λE n=>(vK n=true/\n.toNat<=big)/\P E (.rt,.lst (jV 0 n))) X:=by
 unfold XW;rw[jJ];congr 1;funext E x;cases x.2 with|int n=>exists kxe|_=>ac_rfl
theorem sub_no:sub .no=.no:=nd (by ac_rfl)
theorem sub_rt:sub .rt=.no:=nd (by ac_rfl)
theorem sub_dp:sub .dp=.dp:=nd (by ac_rfl)
theorem Oo.use{ι:Sort _}{f:Fn}{xs:List Sd}{g:ι->Sd}{S:ι->Prop}{E:En}{P:En->Sd->Prop}{X:XP}(h:Oo f xs (λy=>∃i,y=g i/\S i) X)(k:∀i,S i->P E (g i)):Oe f xs E P X:=h.mono λy ⟨i,e,s⟩=>e▸k i s
theorem Oo.via{f:Fn}{xs:List Sd}{S:Sd->Prop}{E:En}{P:En->Sd->Prop}{X:XP}(h:Oo f xs S X)(k:∀y,S y->P E y):Oe f xs E P X:=h.mono k
theorem qx{E:En}{ys:List Sd}{P:En->Sd->Prop}{X:XP}:Eo (mkL .rt E ys) P X=P E (.rt,.lst (ys.map (·.2))):=nd (by ac_rfl)
theorem w_chain{f g:D->D->Option D}{a b c:Ex}{e:Option Sd}{E:En}{P:En->Sd->Prop}{X:XP}:Eo (Q6 f g a b c (e::E)) P X=Eo (a (e::E)) (λE x=>Eo (b E) (λE y=>Wo (f x.2 y.2) E λE d=>wzo d (Eo (c E) (λE z=>Wo (g y.2 z.2) E λE d=>P E (.dp,d)) X) (P E (.dp,.bl false))) X) X:=by
 unfold Q6;rw [jJ]
 congr 1
 funext E x;rw [jJ]
 congr 1
 funext E y;cases f x.2 y.2 with
 | none=>ac_rfl
 | some d=>
  rw[wo_some];cases d with
  | bl k=>
   rw[andP_bl];cases k with
   |false=>ac_rfl
   |true=>
    rw[X6 rfl];dsimp only;rw[jJ]
    congr 1
    funext E z;rw[wq];exact vo_map
  |_=>ac_rfl
section
variable {a b c kc vc:Ex}{e:Option Sd}{E:En}{X:XP}{N C:En->Prop}{R:Sd->Prop}{P:En->Sd->Prop}
theorem vxv:Eo (wv7 a b (e::E)) P X=Eo (a (e::E)) (λE x=>Eo (b E) (λE y=>Wo (Wz x.2 y.2) E (λE d=>P E (.dp,d))) X) X:=by
 unfold wv7;rw[jJ];congr 1;funext E x;rw[jJ];congr 1;funext E y;rw[wq];exact vo_map
theorem vxu{z:Str}:Eo (vjs z c (e::E)) P X=Eo (c (e::E)) (λE x=>Wo (qwj z x.2) E (λE d=>P E (.dp,d))) X:=by
 unfold vjs;rw[jJ];congr 1;funext E x;rw[wq];exact vo_map
theorem vxx:Eo (vx2 (e::E)) P X=P (e::E) (.rt,wW []):=nd (by ac_rfl)
theorem vwb{i:Nat}(h:Eo (vc E) (λE1 v=>vwc E1[i]?=true/\Eo (kc E1) (λE2 k=>∃(kv:List (Int×Int)) (x y:Int),E2[i]?=some (some (.rt,wW kv))/\k.2=.int x/\v.2=.int y/\kv.length<10000/\N (E2.set i (some (.rt,wW (zK kv x y))))) X) X):Po (qzd i kc vc E) N C R X:=by
 unfold qzd;rw[J4];refine h.mono ?_;rintro E1 v ⟨e1,h1⟩;rw[X6 e1,J4];refine h1.mono ?_;rintro E2 k ⟨kv,x,y,e2,hk,hv,hl,h4⟩;rw[e2,hk,hv];dsimp only;rw[kzz];dsimp only;rw[X6 (by unfold big;lia),vv6];exact h4
end
theorem wkw{k v:Int}{kv:List (Int×Int)}(h:v7 kv k=some v):Wz (wW kv) (.int k)=some (.int v):=by
 unfold Wz;rw[kzz];dsimp only;rw[h];rfl
section
variable {a b c kc vc:Ex}{e:Option Sd}{E:En}{X:XP}{N C:En->Prop}{R:Sd->Prop}{P:En->Sd->Prop}
theorem vxw:Eo (vjt a b (e::E)) P X=Eo (a (e::E)) (λE x=>kzw x.2=true/\Eo (b E) (λE y=>Wo (Zx x.2 y.2) E (λE d=>P E (.dp,d))) X) X:=by
 unfold vjt;rw[jJ];congr 1;funext E x;rw[kxe];congr 1;rw[jJ];congr 1;funext E y;rw[wq];exact vo_map
end
end Q
namespace C
open PySem Q
noncomputable def m_read_by:Fn:=fn 8
  (j6 (sIf (tOr (tE (cF2 (f2First fIsNon) (vV 1) (vE (cC .non)))) (tE (cF2 (pu2 xK) (vV 2) (jZ (vV 0) (C9 0))))) (k6 (cC .non)) vj)
  (j6 (jv 4 (cH (jZ (vV 1) (C9 1))))
  (j6 (jv 5 (cH (jZ (jZ (jZ (jZ (vV 0) (C9 1)) (jZ (vV 1) (C9 0))) (C9 2)) (vE (W6 (jZ (vV 0) (C9 0)) (vV 2))))))
  (j6 (jv 6 (cH (jZ (vV 5) (vE (cIf (tE (cF2 (pu2 xV) (vV 3) (vV 4))) (W6 (vV 4) (vV 3)) (cF1 (pu1 v8) (vV 4)))))))
  (j6 (sIf (tE (cF2 (f2First fIsNon) (vV 6) (vE (cC .non)))) (k6 (cC .non)) vj)
  (j6 (jv 7 (cF2 jQ (vV 4) (vE (kW .no [(cV 3)]))))
  (k6 (kW .no [(cH (jZ (vV 6) (C9 0))),(cF1 QZ (vE (cLC .rt 1 [7] (itS (cH (jZ (vV 6) (C9 1)))) (.n 0) tYes (cH (jZ (vV 1) (vV 0))))))]))))))))
end C
local macro_rules
 | `(tactic| simp![$ts,*])=>`(tactic| simp(config:={ maxSteps:=1000000,failIfUnchanged:=false,implicitDefEqProofs:=true }) (disch:=lia) only[↓Q.w_seq,↓Q.w_asg,↓Q.w_ret,↓Q.w_pass,↓Q.w_if,↓Q.w_vV,↓Q.w_cV,↓Q.w_cMv,↓Q.w_cC,↓Q.w_vE,↓Q.w_cH,↓Q.w_f1,↓Q.w_f2,↓Q.w_ix,↓Q.w_tE,↓Q.w_tEQ,↓Q.w_tNot,↓Q.w_tAnd,↓Q.w_tOr,↓Q.w_tYes,↓Q.w_cIf,↓Q.w_call,↓Q.w_partN,↓Q.w_partS,↓Q.w_sl,↓Q.w_idx,↓Q.w_itS,↓Q.w_itEn,↓Q.w_chain,↓Q.w_R1,↓Q.w_LR1,Q.rng_ok,true_and,↓Q.ie_i,Q.isSq,Q.sl_some,↓Q.andP_bl,↓Q.vo_some,↓Q.vo_map,↓Q.wo_some,↓Q.wo_map,↓Q.args_nil,↓Q.args_cons,↓Q.eo_tup,↓Q.eo_lst,Q.letAll,Q.pu2,Q.pu1,Q.f2First,Q.fIsNon,Q.fNotNon,Q.isNon,List.map_cons,List.map_nil,List.cons_append,List.nil_append,Xk,List.length_nil,X1,Nat.reduceAdd,Nat.reduceSub,List.replicate,List.set_cons_zero,List.set_cons_succ,List.getElem?_cons_zero,List.getElem?_cons_succ,Q.len_l,Q.len_t,Q.lt_ii,Q.le_ii,Q.add_i,Q.sub_i,Q.div_i,Q.mod_i,Q.pow_i,Q.mulT_i,Q.mul_l,Option.map_some,Q.truth,Q.truthQ,Q.D.pure,↓reduceIte,if_true,if_false,ite_true,ite_false,Q.sub_no,Q.sub_rt,Q.sub_dp,Bool.false_eq_true,reduceCtorEq,Bool.not_true,Bool.not_false,Q.Tg.put,Q.setAll,Q.seqOf,Q.lstOf,$ts,*])
namespace C
open Q PySem
abbrev most:Int:=1000*10 ^ 64
abbrev iL(ns:List Int):D:=.lst (ns.map D.int)
def Each(G:D->Sd->Prop):List D->List Sd->Prop
 |[],[]=>True|d::ds,y::ys=>G d y/\Each G ds ys|_,_=>False
theorem Each.snoc{G:D->Sd->Prop}{d:D}{y:Sd}(h:G d y):∀{ds:List D} {ys:List Sd},Each G ds ys->Each G (ds++[d]) (ys++[y])
 |[],[],_=>⟨h,trivial⟩|_::_,_::_,r=>⟨r.1,Each.snoc h r.2⟩
theorem K8{X:XP}{E:En}{o:Own}{r:List Nat}{it:Ev (List D)}{c:Ex}{P:En->Sd->Prop}(ab:En)(G:D->Sd->Prop)(h0:Eo (it E) (λE1 ds=>r.map (at' E1)=ab/\(∀d∈ds,Eo (c (some (.no,d)::ab)) (λB y=>(∃q,B=q::ab)/\G d y) X)/\∀ys,Each G ds ys->Eo (mkL o (back r ab (clr r E1)) ys) P X) X):Eo (cLC o 1 r it (.n 0) tYes c E) P X:=by
 refine xY (λE1 B ds2 aa=>∃ds ds1 q,ds=ds1++ds2/\B=q::ab/\Each G ds1 aa/\(∀d∈ds,Eo (c (some (.no,d)::ab)) (λB y=>(∃q,B=q::ab)/\G d y) X)/\∀ys,Each G ds ys->Eo (mkL o (back r ab (clr r E1)) ys) P X) ?_ ?_ ?_
 ·refine h0.mono λE1 ds ⟨h1,h2,h3⟩=>⟨ds,[],none,rfl,by rw[<-h1];rfl,trivial,h2,h3⟩
 ·rintro E1 B d ds2 aa ⟨ds,ds1,q,e,rfl,hE,h2,h3⟩;have hp:(Tg.n 0).put d (q::ab)=some (some (.no,d)::ab):=rfl;rw[hp,vo_some,show tYes (some (Own.no,d)::ab)=some (.ok (some (Own.no,d)::ab) true)from rfl,qwn,X6 rfl];refine(h2 d (by rw[e];simp)).mono ?_;rintro B y ⟨⟨q',rfl⟩,hG⟩;exact⟨ds,ds1++[d],q',by rw[e];simp,rfl,hE.snoc hG,h2,h3⟩
 ·rintro E1 B aa ⟨ds,ds1,q,e,rfl,hE,h2,h3⟩;rw[Xq]at e;subst e;exact h3 aa hE
theorem qqg{n:Int}:jV n n=[]:=by unfold jV;rw[Int.sub_self];rfl
theorem kji{k n:Int}(h:k<n):jV k n=.int k::jV (k+1) n:=by
 unfold jV;have:(n - k).toNat=(n - (k+1)).toNat+1:=by
  obtain⟨m,hm⟩:=Zf (show 0<=n - (k+1)by lia);rw[hm,show n - k=(m+1:Nat)by lia];rfl
 rw[this,List.range_succ_eq_map,List.map_cons,Xh]
 congr 1
 ·simp
 ·apply Yj;intro i _;simp only[Function.comp]
  congr 1
  lia
theorem V2{k n:Int}{d:D}{ds:List D}(hk:k<=n)(h:d::ds=jV k n):k<n/\d=.int k/\ds=jV (k+1) n:=by
 by_cases hl:k<n
 ·rw[kji hl]at h;injection h with h1 h2;exact⟨hl,h1,h2⟩
 ·have:k=n:=⋯
  subst this;rw[qqg]at h;cases h
theorem jz9{k n:Int}(hk:k<=n)(h:[]=jV k n):k=n:=by
 by_cases hl:k<n
 ·rw[kji hl]at h;cases h
 ·lia
theorem kx1{k n:Int}{d:D}(h:d∈jV k n):∃i:Int,k<=i/\i<n/\d=.int i:=by
 unfold jV at h;obtain⟨j,hj,rfl⟩:=aE h;have:=List.mem_range.mp hj;exact⟨k+j,⋯,⋯,rfl⟩
theorem qxl{o1 o2:Own}{a b:Str}(h:a.cps.size+b.cps.size<=10000):jQ (o1,.str a) (o2,.str b)=some (.dp,.str (a++b)):=by
 show(if a.cps.size+b.cps.size<=big then _ else _)=_;rw[X6 (by unfold big;lia)]
theorem qz8(a b:Str):(a++b).cps.size=a.cps.size+b.cps.size:=by
 show(a.cps++b.cps).size=_;exact Array.size_append
theorem kw3:∀(ss:List Str),zV (ss.map D.str)=some ss
 |[]=>rfl|s::ss=>by rw[List.map_cons,zV,kw3 ss];rfl
theorem qz1{o:Own}{ss:List Str}(h:ss.length<64):jzu (o,.lst (ss.map D.str))=some (.rt,.lst ((zj ss).map D.str)):=by
 unfold jzu;dsimp only;rw[kw3];dsimp only;rw[X6 h]
theorem kzx(a:Str):∀r,(K5 a r).length=r.length+1
 |[]=>rfl|b::r=>by unfold K5;split<;>simp[kzx a r]
theorem jz3:∀r,(zj r).length=r.length
 |[]=>rfl|a::r=>by rw[zj,kzx,jz3 r];rfl
abbrev sL(ss:List Str):D:=.lst (ss.map D.str)
theorem qk{n:Nat}:∀{ks:List D},(∀k∈ks,k.flat n=true)->D.flats n ks=true
 |[],_=>by cases n<;>simp[D.flats]|k::ks,h=>by rw[D.flats,h k X5,qk λe he=>h e (lc9 _ he)];rfl
mutual
theorem VY:∀{n:Nat} (d:D),d.flat n=true->peq d d=true
 |n,.non,_=>by simp[peq]|n,.bl b,_=>by simp[peq]|n,.int b,_=>by simp[peq]|n,.str b,_=>by simp[peq]|0,.tup xs,h=>by simp[D.flat]at h|0,.lst xs,h=>by simp[D.flat]at h|n+1,.tup xs,h=>by rw[peq];exact peqs_refl xs (by simpa [D.flat]using h)|n+1,.lst xs,h=>by rw[peq];exact peqs_refl xs (by simpa [D.flat]using h)|n,.dct _,h=>by cases n<;>simp[D.flat]at h|n,.obj _ _,h=>by cases n<;>simp[D.flat]at h
theorem peqs_refl:∀{n:Nat} (ds:List D),D.flats n ds=true->peqs ds ds=true
 |_,[],_=>by simp[peqs]
 |n,d::ds,h=>by
  rw[D.flats,Bool.and_eq_true]at h;rw[peqs,VY d h.1,peqs_refl ds h.2];rfl
end
theorem eq_self{d:D}(h:d.flat 40=true):fEq d d=some (.bl true):=by unfold fEq;rw[h,VY d h];rfl
theorem vvr{d:D}(h:d.flat 40=true):fNe d d=some (.bl false):=by unfold fNe;rw[h,VY d h];rfl
theorem p0(a b:D):kq (.tup [a,b]) (.int 0)=some a:=rfl
theorem p1(a b:D):kq (.tup [a,b]) (.int 1)=some b:=rfl
theorem t0(a b c:D):kq (.tup [a,b,c]) (.int 0)=some a:=rfl
theorem t1(a b c:D):kq (.tup [a,b,c]) (.int 1)=some b:=rfl
theorem t2(a b c:D):kq (.tup [a,b,c]) (.int 2)=some c:=rfl
theorem K1{G:D->Sd->Prop}{h:D->D}(hG:∀d y,G d y->y.2=h d):∀{ds:List D} {ys:List Sd},Each G ds ys->ys.map (·.2)=ds.map h
 |[],[],_=>rfl|d::ds,y::ys,r=>by rw[List.map_cons,List.map_cons,hG d y r.1,K1 hG r.2]
abbrev vz(ss:List Str)(rs:List D):D:=.tup [sL ss,.lst rs]
theorem kko{α:Type}[DecidableEq α]:∀{l m:List α},l.Nodup->(∀x∈l,x∈m)->l.length<=m.length
 |[],_,_,_=>Yd _
 |a::l,m,nd,h=>by
  rw[List.nodup_cons]at nd;have ha:=h a X5;have:=kko (l:=l) (m:=m.erase a) nd.2 λx hx=>(List.mem_erase_of_ne (by rintro rfl;exact nd.1 hx)).mpr (h x (lc9 _ hx))
  have hl:=List.length_erase_of_mem ha;have:0<m.length:=List.length_pos_of_mem ha;simp only[Xk];lia
theorem ZX{o:Own}{xs:List D}(h:o≠.dp):KY (o,.lst xs)=some (.rt,.lst xs):=by
 show(if k7 (o,.lst xs)then _ else _)=_;rw[X6 (by cases o<;>simp_all [k7])]
theorem WY{z:Str}{ss:List Str}:xK (.str z) (sL ss)=some (.bl (!ss.any λw=>w==z)):=by
 show QK (.str z) (sL ss)=_;unfold QK;have:fIn (.str z) (sL ss)=some (.bl (ss.any λw=>w==z)):=by
  show(if(D.str z).flat 30&&D.flats 30 (ss.map D.str)then some (D.bl ((ss.map D.str).any λw=>peq w (.str z)))else none)=_;rw[show(D.str z).flat 30=true from rfl,qk (ks:=ss.map D.str) (λk hk=>by obtain⟨w,_,rfl⟩:=aE hk;rfl),Zt];rfl
 rw[this];rfl
theorem in_s{z:Str}{ss:List Str}:xV (.str z) (sL ss)=some (.bl (ss.any λw=>w==z)):=by
 show(if(D.str z).flat 30&&D.flats 30 (ss.map D.str)then some (D.bl ((ss.map D.str).any λw=>peq w (.str z)))else none)=_;rw[show(D.str z).flat 30=true from rfl,qk (ks:=ss.map D.str) (λk hk=>by obtain⟨w,_,rfl⟩:=aE hk;rfl),Zt];rfl
theorem in_i{p:Int}{ks:List Int}:xV (.int p) (iL ks)=some (.bl (ks.any λw=>w==p)):=by
 show(if(D.int p).flat 30&&D.flats 30 (ks.map D.int)then some (D.bl ((ks.map D.int).any λw=>peq w (.int p)))else none)=_;rw[show(D.int p).flat 30=true from rfl,qk (ks:=ks.map D.int) (λk hk=>by obtain⟨w,_,rfl⟩:=aE hk;rfl),Zt];rfl
theorem vja{p:Int}{ks:List Int}:xV (.int p) (.tup (ks.map D.int))=some (.bl (ks.any λw=>w==p)):=by
 show(if(D.int p).flat 30&&D.flats 30 (ks.map D.int)then some (D.bl ((ks.map D.int).any λw=>peq w (.int p)))else none)=_;rw[show(D.int p).flat 30=true from rfl,qk (ks:=ks.map D.int) (λk hk=>by obtain⟨w,_,rfl⟩:=aE hk;rfl),Zt];rfl
theorem kxk{p:Int}{ks:List Int}:(ks.any λw=>w==p)=decide (p∈ks):=by
 rw[Bool.eq_iff_iff];simp
def KZ(own k:Int):Int:=own+(if k=own then 1 else 0)
def Cs(b5:List Int)(b:Int)(c:D):Prop:=c=.non\/∃(to:Int) (fs:List Int),c=.tup [.int to,.tup (fs.map D.int)]/\0<=to/\to<b5.length/\(∀f∈fs,0<=f/\f<b)/\fs.Nodup/\(fs.length:Int)=b5.getD to.toNat 0
def Pr(b5:List Int)(n:Nat)(own:Int)(d:D):Prop:=∃(gd:Bool) (st:List D),d=.tup [.int own,.bl gd,.lst st]/\st.length=n/\∀c∈st,∃cs:List D,c=.lst cs/\(cs.length:Int)=own+1/\∀k:Nat,k<cs.length->∃z,cs[k]?=some z/\Cs b5 (KZ own k) z
def Prs(b5:List Int)(n:Nat)(rs:List D):Prop:=rs.length=b5.length/\∀i:Nat,i<b5.length->∃r,rs[i]?=some r/\Pr b5 n (b5.getD i 0) r
theorem kkz{α:Type}{p:α->Bool}:∀{l:List α},l.any p=true->l.findIdx? p=some (l.findIdx p)
 | [],h=>by cases h
 | a::l,h=>by
  rw[List.findIdx?_cons,List.findIdx_cons];cases hp:p a with
  |true=>simp
  |false=>
   rw[List.any_cons,hp,Bool.false_or]at h;rw[kkz h];simp
theorem wx6{α:Type}{p:α->Bool}{l:List α}(h:l.any p=true):l.findIdx p<l.length:=by
 obtain⟨x,hx,hp⟩:=List.any_eq_true.mp h;exact List.findIdx_lt_length_of_exists ⟨x,hx,hp⟩
theorem wx5{α:Type}{p:α->Bool}{l:List α}(h:l.any p=false):l.findIdx p=l.length:=by
 rw[List.findIdx_eq_length];intro x hx;cases hp:p x with|false=>rfl|true=>rw[List.any_eq_true.mpr ⟨x,hx,hp⟩]at h;cases h
theorem wwy{z:Str}{ss:List Str}(h:(ss.any λw=>w==z)=true):QJ (sL ss) (.str z)=some (.int (ss.findIdx λw=>w==z:Nat)):=by
 show(if(D.str z).flat 30&&D.flats 30 (ss.map D.str)then((ss.map D.str).findIdx? λw=>peq w (.str z)).map λ(j:Nat)=>D.int (j:Int)else none)=_;rw[show(D.str z).flat 30=true from rfl,qk (ks:=ss.map D.str) (λk hk=>by obtain⟨w,_,rfl⟩:=aE hk;rfl),List.findIdx?_map];have:ss.findIdx? ((λw=>peq w (.str z))∘D.str)=ss.findIdx? λw=>w==z:=rfl
 rw[this,kkz h];rfl
theorem wwz{p:Int}{ks:List Int}(h:(ks.any λw=>w==p)=true):QJ (.tup (ks.map D.int)) (.int p)=some (.int (ks.findIdx λw=>w==p:Nat)):=by
 show(if(D.int p).flat 30&&D.flats 30 (ks.map D.int)then((ks.map D.int).findIdx? λw=>peq w (.int p)).map λ(j:Nat)=>D.int (j:Int)else none)=_;rw[show(D.int p).flat 30=true from rfl,qk (ks:=ks.map D.int) (λk hk=>by obtain⟨w,_,rfl⟩:=aE hk;rfl),List.findIdx?_map];have:ks.findIdx? ((λw=>peq w (.int p))∘D.int)=ks.findIdx? λw=>w==p:=rfl
 rw[this,kkz h];rfl
theorem vq3{a b:List D}(hl:a.length+b.length<=10000):jQ (.no,.tup a) (.no,.tup b)=some (.no,.tup (a++b)):=by
 show(if a.length+b.length<=big/\k7 (.no,.tup a)/\k7 (.no,.tup b)then _ else _)=_;rw[X6 ⟨by unfold big;lia,rfl,rfl⟩]
abbrev iT(ks:List Int):D:=.tup (ks.map D.int)
def nameAt(ks:List Int)(p:Int)(f:Int):Int:=(ks++[p]).getD f.toNat 0
def vx0(ks:List Int)(p:Int)(c:D):D:=match c with
 |.tup [to,.tup fs]=>.tup [to,.tup (fs.map λf=>match f with|.int i=>.int (nameAt ks p i)|_=>.non)]
 |_=>.non
theorem caseD_is{ks fs:List Int}{p to:Int}:vx0 ks p (.tup [.int to,iT fs])=.tup [.int to,iT (fs.map (nameAt ks p))]:=by
 unfold vx0 iT;simp[Xh,Function.comp]
def Jw(ss:List Str)(st:List D)(ks:List Int)(z:Str)(p:Int):D:=match st[ss.findIdx λw=>w==z]? with
 |some (.lst cs)=>cs.getD (ks.findIdx λw=>w==p) .non|_=>.non
def JK(ss:List Str)(st:List D)(ks:List Int)(z:Str)(p:Int):D:=if(ss.any λw=>w==z)=true then vx0 ks p (Jw ss st ks z p)else .non
def Cas(b5:List Int)(n:Nat)(own:Int)(st:List D):Prop:=st.length=n/\∀c∈st,∃cs:List D,c=.lst cs/\(cs.length:Int)=own+1/\∀k:Nat,k<cs.length->∃z,cs[k]?=some z/\Cs b5 (KZ own k) z
theorem wx7{ks:List Int}{p:Int}:(ks.findIdx λw=>w==p)<=ks.length:=List.findIdx_le_length
theorem vku{b5:List Int}{ss:List Str}{st:List D}{ks:List Int}{z:Str}(p:Int)(h:Cas b5 ss.length ks.length st)(hz:(ss.any λw=>w==z)=true):∃cs,st[ss.findIdx λw=>w==z]?=some (.lst cs)/\(cs.length:Int)=ks.length+1/\cs[ks.findIdx λw=>w==p]?=some (Jw ss st ks z p)/\Cs b5 (KZ ks.length (ks.findIdx λw=>w==p:Nat)) (Jw ss st ks z p):=by
 have hj:(ss.findIdx λw=>w==z)<st.length:=by rw[h.1];exact wx6 hz
 obtain⟨cs,e,hl,hc⟩:=h.2 st[ss.findIdx λw=>w==z] (Y2 hj);have hg:st[ss.findIdx λw=>w==z]?=some (.lst cs):=by rw[X2 hj,e]
 have db:=wx7 (ks:=ks) (p:=p);obtain⟨c,e2,hC⟩:=hc (ks.findIdx λw=>w==p) ⋯;have hca:Jw ss st ks z p=c:=by unfold Jw;rw[hg];dsimp only;rw[Xr,e2];rfl
 exact⟨cs,hg,hl,by rw[hca];exact e2,by rw[hca];exact hC⟩
theorem qv7{ks:List Int}{p f:Int}(h0:0<=f)(h1:f<=ks.length):kq (.tup (ks.map D.int++[.int p])) (.int f)=some (.int (nameAt ks p f)):=by
 refine ix_t h0 ?_;rw[show ks.map D.int++[D.int p]=(ks++[p]).map D.int by simp,Xe];unfold nameAt;rw[Xr,X2 (by simp;lia)];rfl
theorem vx4{own:Int}{k:Int}:KZ own k<=own+1:=by unfold KZ;split<;>lia
theorem vqm{b5:List Int}{ss:List Str}{rs st:List D}{kp gd:D}{room:Int}{ks:List Int}{z:Str}{p:Int}(h0:0<=room)(hr:rs[room.toNat]?=some (.tup [kp,gd,.lst st]))(hc:Cas b5 ss.length ks.length st)(hl:ks.length<=1000):
  Oo m_read_by [(.no,vz ss rs),(.no,.tup [.int room,iT ks]),(.no,.str z),(.no,.int p)] (λy=>y.2=JK ss st ks z p) noX:=by
 have hi:kq (.lst rs) (.int room)=some (.tup [kp,gd,.lst st]):=Q3 h0 hr;unfold JK;cases hz:(ss.any λw=>w==z)with
 | false=>
  unfold m_read_by;refine kY ?_;simp![p0,WY,hz]
 | true=>
  obtain⟨cs,g1,g2,g3,g4⟩:=vku p hc hz;have hx:kq (.lst st) (.int (ss.findIdx λw=>w==z:Nat))=some (.lst cs):=Q3 ⋯ (by rw[Xy];exact g1);have hy:kq (.lst cs) (.int (ks.findIdx λw=>w==p:Nat))=some (Jw ss st ks z p):=Q3 ⋯ (by rw[Xy];exact g3);have nw:=vq3 (a:=ks.map D.int) (b:=[.int p]) (by simp;lia);have jp:=wwy hz;generalize Jw ss st ks z p=c at g4 hy;have fin:∀(to:Int) (fs:List Int) (E:En) (hE:JJ 1 [7] E=none::[some (.no,.tup (ks.map D.int++[.int p]))]) (hb:back [7] [some (Own.no,D.tup (ks.map D.int++[.int p]))] (clr [7] E)=E) (hi:itS (cH (jZ (vV 6) (C9 1))) E=some (.ok E (fs.map D.int))) (P:En->Sd->Prop),(∀f∈fs,0<=f/\f<KZ ks.length (ks.findIdx λw=>w==p:Nat))->P E (.rt,.lst ((fs.map (nameAt ks p)).map D.int))->Eo (cLC .rt 1 [7] (itS (cH (jZ (vV 6) (C9 1)))) (.n 0) tYes (cH (jZ (vV 1) (vV 0))) E) P noX:=by
   intro to fs E hE hb hi P pq hP;refine K8 [some (.no,.tup (ks.map D.int++[.int p]))] (λf y=>y.2=match f with|.int i=>.int (nameAt ks p i)|_=>.non) ?_;rw[hi,qwn];refine⟨by have:=hE;unfold JJ at this;simpa using this,λf hf=>?_,λys hy=>?_⟩
   ·obtain⟨i,i6,rfl⟩:=aE hf;have hb:=vx4 (own:=ks.length) (k:=(ks.findIdx λw=>w==p:Nat));have:=pq i i6;simp![qv7 (ks:=ks) (p:=p) (f:=i) this.1 ⋯];exact⟨⟨_,rfl⟩,trivial⟩
   ·rw[qx,K1 (h:=λf=>match f with|.int i=>.int (nameAt ks p i)|_=>.non) (λd y h=>h) hy,hb];rw[Xh]at hP ⊢;exact hP
  rw[X6 rfl];cases hp:(ks.any λw=>w==p)with
  | true=>
   have hii:=wwz hp;unfold m_read_by;refine kY ?_;rcases g4 with rfl|⟨to,fs,rfl,t0',t1',pq,_⟩
   ·simp![p0,p1,WY,hz,hi,t2,jp,hx,vja,hp,hii,hy];rfl
   ·simp![p0,p1,WY,hz,hi,t2,jp,hx,vja,hp,hii,hy,nw];refine fin to fs _ rfl rfl rfl _ pq ?_;simp![vqc (o:=.no) (xs:=(fs.map (nameAt ks p)).map D.int) ⋯];exact caseD_is.symm
  | false=>
   rw[wx5 hp]at hy;unfold m_read_by;refine kY ?_;rcases g4 with rfl|⟨to,fs,rfl,t0',t1',pq,_⟩
   ·simp![p0,p1,WY,hz,hi,t2,jp,hx,vja,hp,hy];rfl
   ·simp![p0,p1,WY,hz,hi,t2,jp,hx,vja,hp,hy,nw];refine fin to fs _ rfl rfl rfl _ pq ?_;simp![vqc (o:=.no) (xs:=(fs.map (nameAt ks p)).map D.int) ⋯];exact caseD_is.symm
def Ok2(b5:List Int)(s:D):Prop:=s=.non\/∃(room:Int) (ks:List Int),s=.tup [.int room,iT ks]/\0<=room/\room<b5.length/\(ks.length:Int)=b5.getD room.toNat 0
def Rd(b5:List Int)(ss:List Str)(rs:List D)(s:D)(w:Str×Int)(s':D):Prop:=(s=.non/\s'=.non)\/∃(room:Int) (ks:List Int) (st:List D) (kp gd:D),s=.tup [.int room,iT ks]/\0<=room/\rs[room.toNat]?=some (.tup [kp,gd,.lst st])/\Cas b5 ss.length ks.length st/\ks.length<=3/\s'=JK ss st ks w.1 w.2
theorem qzh{b5:List Int}{ss:List Str}{rs:List D}{s:D}(w:Str×Int)(hP:Prs b5 ss.length rs)(hk:∀p∈b5,0<=p/\p<=3)(h:Ok2 b5 s):∃s',Rd b5 ss rs s w s'/\Ok2 b5 s'/\((ss.any λz=>z==w.1)=false->s'=.non):=by
 rcases h with rfl|⟨room,ks,rfl,r0,r1,hl⟩
 ·exact⟨.non,.inl ⟨rfl,rfl⟩,.inl rfl,λ_=>rfl⟩
 ·obtain⟨r,er,gd,st,rfl,ku,ba⟩:=hP.2 room.toNat ⋯;have n8:=hk (b5.getD room.toNat 0) (by rw[Xr,X2 ⋯];exact Y2 _);have oq:Cas b5 ss.length ks.length st:=⟨ku,by rw[hl];exact ba⟩;refine⟨JK ss st ks w.1 w.2,.inr ⟨room,ks,st,_,_,rfl,r0,er,oq,⋯,rfl⟩,?_,λhz=>?_⟩
  ·unfold JK;cases hz:(ss.any λz=>z==w.1)with
   |false=>exact .inl rfl
   |true=>
    obtain⟨cs,g1,g2,g3,g4⟩:=vku w.2 oq hz;rw[X6 rfl];rcases g4 with e|⟨to,fs,e,t0,t1,_,_,mq⟩
    ·rw[e];exact .inl rfl
    ·rw[e,caseD_is];exact .inr ⟨to,_,rfl,t0,t1,by rw[X1];exact mq⟩
  ·unfold JK;rw[hz];rfl
theorem qzg{b5:List Int}{ss:List Str}{rs:List D}{s s':D}{w:Str×Int}(h:Rd b5 ss rs s w s'):Oo m_read_by [(.no,vz ss rs),(.no,s),(.no,.str w.1),(.no,.int w.2)] (λy=>y.2=s') noX:=by
 rcases h with⟨rfl,rfl⟩|⟨room,ks,st,kp,gd,rfl,r0,er,hc,hl,rfl⟩
 ·unfold m_read_by;refine kY ?_;simp![]
 ·exact vqm r0 er hc ⋯
noncomputable section
end
abbrev rwD(ws:List (Str×Int)):List D:=ws.map λw=>.tup [.str w.1,.int w.2]
noncomputable section
end
end C
namespace B
open Q PySem C
abbrev Sn:=Option (Int×List Int)
def stn:Sn->D
 |none=>.non|some p=>.tup [.int p.1,iT p.2]
theorem eqi{a b:Int}{k:Bool}(h:(a==b)=k):fEq (.int a) (.int b)=some (.bl k):=by rw[<-h];rfl
section
variable {f:Int->Int}
def SnOk(b5:List Int)(s:Sn):Prop:=∀room ks,s=some (room,ks)->0<=room/\room<b5.length/\(ks.length:Int)=b5.getD room.toNat 0
end
end B
namespace B
open PySem Q
def m__law_cell_at:Fn:=fn 2
  (j6 (sIf (tE (cF2 (pu2 fLt) (vV 1) (vE (cF1 (pu1 v8) (vV 0))))) (k6 (cH (jZ (vV 0) (vV 1)))) vj)
  (k6 (cC (.int 0))))
end B
namespace B
open Q PySem C
def cellAt(ns:List Int)(k:Nat):Int:=ns.getD k 0
theorem cell_ok(ns:List Int)(k:Nat)(hn:ns.length<=10000):Oo m__law_cell_at [(.no,iL ns),(.no,.int k)] (λy=>∃o':Own,y=(o',.int (cellAt ns k))/\True) noX:=by
 unfold m__law_cell_at;refine kY ?_;simp![]
 by_cases h:(k:Int)<ns.length
 ·have hx:kq (iL ns) (.int k)=some (.int (cellAt ns k)):=by
   refine Q3 ⋯ ?_;unfold cellAt;rw[Xy,Xe,X2 ⋯,Xr,X2 ⋯];rfl
  have hd:decide ((k:Int)<ns.length)=true:=Xb h;rw[X6 hd];simp![hx];exact⟨_,rfl,trivial⟩
 ·have hd:¬decide ((k:Int)<ns.length)=true:=by rw[Xi h];decide
  rw[X8 hd];refine⟨.dp,?_,trivial⟩;rw[show cellAt ns k=0 by unfold cellAt;rw[Xr,Yi ⋯];rfl]
theorem kxu:∀{ps:List Str},(∀p∈ps,p.length=1)->(ps.map (·.length)).sum=ps.length
 |[],_=>rfl|p::ps,h=>by rw[List.map_cons,List.sum_cons,h p X5,kxu λq hq=>h q (lc9 _ hq),Xk];lia
theorem sl_s{o:Own}{z:Str}{lo hi:Option Int}(h:z.cps.size<=100):fSl (o,.str z) lo hi=some (.dp,.str (Txt.slice z lo hi)):=by
 have hl:(Txt.slice z lo hi).length<=z.length:=Txt.slice_le z lo hi;have h:z.length<=100:=h;show(if(Txt.slice z lo hi).length<=big then _ else none)=_;rw[X6 (by unfold big;lia)]
theorem flats_mach{b5:List Int}{ss:List Str}{rs:List D}(hP:Prs b5 ss.length rs)(n:Nat):(vz ss rs).flat (n+8)=true:=by
 show D.flats (n+7) [sL ss,.lst rs]=true;refine qk λd hd=>?_
 simp only[Xz,Y8,or_false]at hd;rcases hd with rfl|rfl
 ·show D.flats (n+6) (ss.map D.str)=true;exact qk λk hk=>by obtain⟨w,_,rfl⟩:=aE hk;rfl
 ·show D.flats (n+6) rs=true;refine qk λr hr=>?_
  obtain⟨i,hi,e⟩:=List.mem_iff_getElem.mp hr;obtain⟨r',er,gd,st,rfl,_,ba⟩:=hP.2 i (by have:=hP.1;lia);rw [X2 hi,e]at er;injection er with er;subst er;show D.flats (n+5) [_,_,.lst st]=true;refine qk λd hd=>?_
  simp only[Xz,Y8,or_false]at hd;rcases hd with rfl|rfl|rfl
  ·rfl
  ·rfl
  ·show D.flats (n+4) st=true;refine qk λc hc=>?_
   obtain⟨cs,rfl,_,nh⟩:=ba c hc;show D.flats (n+3) cs=true;refine qk λz hz=>?_
   obtain⟨j,hj,ej⟩:=List.mem_iff_getElem.mp hz;obtain⟨z',ez,hcs'⟩:=nh j hj;rw[X2 hj,ej]at ez;injection ez with ez;subst ez;rcases hcs' with rfl|⟨to,fs,rfl,_⟩
   ·rfl
   ·show D.flats (n+2) [.int to,.tup (fs.map D.int)]=true;refine qk λd hd=>?_
    simp only[Xz,Y8,or_false]at hd;rcases hd with rfl|rfl
    ·rfl
    ·show D.flats (n+1) (fs.map D.int)=true;exact qk λk hk=>by obtain⟨w,_,rfl⟩:=aE hk;rfl
end B
namespace A
open PySem Q
noncomputable def m__law_mixed:Fn:=fn 3
  (j6 (sIf (tE (cF2 (pu2 fEq) (vE (cF2 (pu2 k8) (vV 0) (C9 2))) (C9 0))) (k6 (cF2 (pu2 wK) (vV 0) (vE (cF2 (pu2 wx8) (C9 2) (vE (cF2 vJ (C9 8) (vV 1))))))) vj)
  (j6 (jv 2 (cF2 (pu2 k8) (vE (cF2 vJ (vE (cF2 jQ (vE (cF2 jQ (vE (cF2 (pu2 k8) (vV 0) (C9 2147483647))) (vE (cF2 vJ (C9 69621) (vV 1))))) (C9 7919))) (C9 48271))) (C9 2147483647)))
  (j6 (jv 2 (cF2 (pu2 k8) (vE (cF2 vJ (vV 2) (vV 2))) (C9 2147483629)))
  (k6 (cF2 (pu2 k8) (vE (cF2 jQ (vE (cF2 vJ (vV 2) (vV 2))) (vE (cF2 vJ (C9 16807) (vV 1))))) (C9 2147483587))))))
noncomputable def m__law_words:Fn:=fn 9
  (j6 (jv 2 (cC (.str "abcdefghijklmnopqrstuvwxyz")))
  (j6 (jv 3 (vjs "" (vE (cLC .rt 1 [2,0] (x5 (C9 8)) (.n 0) tYes (cH (jZ (vV 1) (vE (cF2 (pu2 k8) (vE (jW m__law_mixed [(cV 2),(cV 0)])) (C9 26)))))))))
  (j6 (sIf (tE (cF2 (pu2 fEq) (vE (cF2 (pu2 k8) (vV 0) (C9 3))) (C9 1))) (k6 (cLC .rt 1 [3,0] (x5 (vV 1)) (.n 0) tYes (cSl (vV 1) none (some (vE (cF2 jQ (C9 1) (vE (cF2 (pu2 k8) (vE (cF2 jQ (vV 0) (vE (cF2 (pu2 wK) (vV 2) (C9 3))))) (C9 8))))))))) vj)
  (j6 (jv 4 (cF2 jQ (C9 1) (vE (cF2 (pu2 k8) (vE (cF2 (pu2 wK) (vV 0) (C9 3))) (C9 8)))))
  (j6 (jv 5 (cF2 (pu2 k8) (vE (cF2 (pu2 wK) (vV 0) (C9 24))) (vV 4)))
  (j6 (jv 6 (qz .rt []))
  (j6 (v6 (x5 (vV 1)) (.n 7) (j6 (jv 8 (cF2 (pu2 k8) (vE (cF2 jQ (vE (vjt (vV 2) (jZ (vV 3) (vV 5)))) (vE (cF2 vJ (vV 7) (vE (cF2 jQ (C9 1) (vE (cF2 (pu2 k8) (vE (cF2 (pu2 wK) (vV 0) (C9 192))) (C9 5))))))))) (C9 26)))
  (v3 vQ 6 (cF2 jQ (vE (cF2 jQ (vE (cSl (vV 3) none (some (vV 5)))) (jZ (vV 2) (vV 8)))) (vE (cSl (vV 3) (some (vE (cF2 jQ (vV 5) (C9 1)))) (some (vV 4))))))))
  (k6 (cMv 6)))))))))
def m__law_number:Fn:=fn 1
  (j6 (sIf (tE (cF2 (pu2 fEq) (vE (cF2 (pu2 k8) (vV 0) (C9 3))) (C9 0))) (k6 (cF2 (pu2 Q8) (vE (cF2 (pu2 k8) (vE (cF2 (pu2 wK) (vV 0) (C9 3))) (C9 19))) (C9 9))) vj)
  (k6 (cF2 jQ (vE (cF2 (pu2 Q8) (vE (cF2 (pu2 k8) (vE (cF2 vJ (vV 0) (vE (cF2 (pu2 KJ) (C9 7919) (C9 15))))) (vE (cF2 (pu2 Q8) (vE (cF2 vJ (C9 2) (vE (cF2 (pu2 KJ) (C9 10) (C9 60))))) (C9 1))))) (vE (cF2 (pu2 KJ) (C9 10) (C9 60))))) (C9 1))))
end A
namespace A
open Q PySem C B
theorem wjo{n:Nat}(h:n<=8000):((2:Int)*2 ^ n).natAbs.log2<9000:=by
 have e:((2:Int)*2 ^ n).natAbs=2 ^ (n+1):=by
  rw[Int.natAbs_mul,Int.natAbs_pow,Nat.pow_succ,Nat.mul_comm];rfl
 rw[e,Nat.log2_two_pow];lia
theorem wvs{n:Int}(h0:0<=n)(h1:n<=8000):wx8 (.int 2) (.int n)=some (.int (2*2 ^ n.toNat)):=by
 show(if 0<=n/\n<=1000000/\(2:Int).natAbs<2 ^ 64 then some (2*2 ^ n.toNat)else none).map D.int=_;rw[X6 ⟨h0,⋯,⋯⟩];rfl
theorem wxe{c n:Int}(h1:n<=8000):wK (.int c) (.int (2*2 ^ n.toNat))=some (.int (c / (2*2 ^ n.toNat))):=by
 show(if 0<(2:Int)*2 ^ n.toNat/\((2:Int)*2 ^ n.toNat).natAbs.log2<9000 then some (c / (2*2 ^ n.toNat))else none).map D.int=_;rw[X6 ⟨Int.mul_pos ⋯ (Int.pow_pos ⋯),wjo ⋯⟩];rfl
theorem mixed_ok(c k:Int)(h0:0<=k)(h1:k<=100):Oo m__law_mixed [(.no,.int c),(.no,.int k)] (λy=>∃v:Int,y=(.dp,.int v)/\True) noX:=by
 unfold m__law_mixed;refine kY ?_
 by_cases h:c % 2=0
 ·have hd:(c % 2==0)=true:=by simp[h]
  simp![eqi hd,wvs (n:=8*k) ⋯ ⋯,wxe (c:=c) (n:=8*k) ⋯];exact⟨_,rfl,trivial⟩
 ·have hd:(c % 2==0)=false:=Ye h;have m0:=Y3 c (show(2147483647:Int)≠0 by decide);have m1:=Xx c (show(0:Int)<2147483647 by decide);generalize hu:c % 2147483647=u at m0 m1;have e1:=mul_l (o1:=.no) (o2:=.no) (a:=u+69621*k+7919) (b:=48271) ⋯ ⋯;have n0:=Y3 ((u+69621*k+7919)*48271) (show(2147483647:Int)≠0 by decide);have n1:=Xx ((u+69621*k+7919)*48271) (show(0:Int)<2147483647 by decide);simp![eqi hd,hu,e1];generalize (u+69621*k+7919)*48271 % 2147483647=w at n0 n1;have e2:=mul_l (o1:=.no) (o2:=.no) (a:=w) (b:=w) ⋯ ⋯;have e2':=mul_l (o1:=.dp) (o2:=.dp) (a:=w) (b:=w) ⋯ ⋯;have p0:=Y3 (w*w) (show(2147483629:Int)≠0 by decide);have p1:=Xx (w*w) (show(0:Int)<2147483629 by decide);simp![e2,e2'];generalize w*w % 2147483629=t at p0 p1;have e3:=mul_l (o1:=.no) (o2:=.no) (a:=t) (b:=t) ⋯ ⋯;have e3':=mul_l (o1:=.dp) (o2:=.dp) (a:=t) (b:=t) ⋯ ⋯;simp![e3,e3'];exact⟨_,rfl,trivial⟩
def Sh(c:Int):Prop:=c.natAbs.log2<1100000
theorem number_ok(c:Int)(hc:Sh c):Oo m__law_number [(.no,.int c)] (λy=>∃v:Int,y=(.dp,.int v)/\True) noX:=by
 have hp:((10:Int) ^ (Int.toNat 60))=10 ^ 60:=rfl;have ir:((7919:Int) ^ (Int.toNat 15))=7919 ^ 15:=rfl;unfold m__law_number;refine kY ?_
 by_cases h:c % 3=0
 ·have hd:(c % 3==0)=true:=by simp[h]
  simp![eqi hd];exact⟨_,rfl,trivial⟩
 ·have hd:(c % 3==0)=false:=Ye h;have e1:=vvt (o1:=.no) (o2:=.no) (a:=c) (b:=7919 ^ 15) (by unfold Sh at hc;lia) ⋯;have hm:k8 (.int (c*7919 ^ 15)) (.int (2*10 ^ 60 - 1))=some (.int (c*7919 ^ 15 % (2*10 ^ 60 - 1))):=mod_i ⋯;simp![eqi hd,hp,ir,e1,hm];exact⟨_,rfl,trivial⟩
abbrev AZ:Str:="abcdefghijklmnopqrstuvwxyz"
theorem az_found:∀ch∈AZ.cps.toList,∃i:Nat,Zx (.str AZ) (.str ⟨#[ch]⟩)=some (.int i):=by
 have h:∀ch∈AZ.cps.toList,(Builtin.Str.occurrences AZ ⟨#[ch]⟩ 0 AZ.length 1).isEmpty=false:=by decide +kernel
 intro ch hc;have:=h ch hc;unfold Zx;dsimp only;cases e:Builtin.Str.occurrences AZ ⟨#[ch]⟩ 0 AZ.length 1 with|nil=>rw[e]at this;cases this|cons i r=>exact⟨i,rfl⟩
theorem ix_strM(z:Str)(i:Int)(h0:0<=i)(h1:i<z.cps.size):∃c∈z.cps.toList,kq (.str z) (.int i)=some (.str ⟨#[c]⟩):=by
 have:i.toNat<z.cps.toList.length:=by rw[X7];lia
 refine⟨z.cps.toList[i.toNat],Y2 _,?_⟩;show((Q.ixN z.cps.size i).bind λj=>(z.cps.toList[j]?).map λc=>D.str ⟨#[c]⟩)=_;unfold Q.ixN;rw[X6 h0,X6 h1];show((z.cps.toList[i.toNat]?).map λc=>D.str ⟨#[c]⟩)=_;rw[X2 this];rfl
theorem list_app(a b:Str):(a++b).cps.toList=a.cps.toList++b.cps.toList:=by
 show(a.cps++b.cps).toList=_;exact Array.toList_append
theorem kzu{L:List Nat}:∀{ps:List Str},(∀p∈ps,∃c∈L,p=⟨#[c]⟩)->(Str.join "" ps).cps.toList.length=ps.length/\∀c∈(Str.join "" ps).cps.toList,c∈L
 | [],_=>⟨rfl,λc h=>by exact absurd h (by simp[Str.join,Str.empty])⟩
 | [x],h=>by
  obtain⟨c,hc,rfl⟩:=h x X5;refine⟨rfl,λd hd=>?_⟩;have:d=c:=by simpa [Str.join]using hd
  rw[this];exact hc
 | x::y::r,h=>by
  obtain⟨c,hc,rfl⟩:=h x X5;obtain⟨i1,i2⟩:=kzu (ps:=y::r) λp hp=>h p (lc9 _ hp)
  have e:(Str.join "" ((⟨#[c]⟩:Str)::y::r)).cps.toList=c::(Str.join "" (y::r)).cps.toList:=by
   show((⟨#[c]⟩:Str)++""++Str.join "" (y::r)).cps.toList=_;rw[list_app,list_app];rfl
  rw[e];refine⟨by rw[Xk,i1];rfl,λd hd=>?_⟩;rcases aD hd with rfl|hd
  ·exact hc
  ·exact i2 d hd
theorem each_one{L:List Nat}{G:D->Sd->Prop}(hG:∀d y,G d y->∃c∈L,y.2=.str ⟨#[c]⟩):∀{ds:List D} {ys:List Sd},Each G ds ys->∃ps:List Str,ys.map (·.2)=ps.map D.str/\ps.length=ds.length/\∀p∈ps,∃c∈L,p=⟨#[c]⟩
 |[],[],_=>⟨[],rfl,rfl,λ_ h=>nomatch h⟩
 |d::ds,y::ys,r=>by
  obtain⟨i,hi,e⟩:=hG d y r.1;obtain⟨ps,h1,h2,h3⟩:=each_one hG r.2;exact⟨⟨#[i]⟩::ps,by simp[e,h1],by simp[h2],λp hp=>(aD hp).elim (λz=>z▸⟨i,hi,rfl⟩) (h3 p)⟩
theorem join_az{ps:List Str}(h:∀p∈ps,∃c∈AZ.cps.toList,p=⟨#[c]⟩)(h1:ps.length<=100):∃z:Str,qwj "" (.lst (ps.map D.str))=some (.str z)/\z.cps.size=ps.length/\∀c∈z.cps.toList,c∈AZ.cps.toList:=by
 have hz:("":Str).length=0:=rfl;have hs:=kxu (ps:=ps) λp hp=>by obtain⟨c,_,rfl⟩:=h p hp;rfl
 obtain⟨j1,j2⟩:=kzu h;refine⟨Txt.join "" ps,?_,?_,?_⟩
 ·unfold qwj;dsimp only;rw[kw3];dsimp only;rw[X6 (by rw[hs,hz];lia)]
 ·unfold Txt.join;rw[StrLaws.glued_eq_join,<-j1,X7]
 ·unfold Txt.join;rw[StrLaws.glued_eq_join];exact j2
end A
namespace F
open Q PySem C
theorem nin_il{p:Int}{ks:List Int}:xK (.int p) (iL ks)=some (.bl (!decide (p∈ks))):=by
 have h:=in_i (p:=p) (ks:=ks);rw[kxk]at h;have h:fIn (.int p) (iL ks)=some (.bl (decide (p∈ks))):=h;show(fIn (.int p) (iL ks)).bind _=_;rw[h];rfl
theorem idx_il{p:Int}{ks:List Int}(h:(ks.any λw=>w==p)=true):QJ (iL ks) (.int p)=some (.int (ks.findIdx λw=>w==p:Nat)):=by
 show(if(D.int p).flat 30&&D.flats 30 (ks.map D.int)then((ks.map D.int).findIdx? λw=>peq w (.int p)).map λ(j:Nat)=>D.int (j:Int)else none)=_;rw[show(D.int p).flat 30=true from rfl,qk (ks:=ks.map D.int) (λk hk=>by obtain⟨w,_,rfl⟩:=aE hk;rfl),List.findIdx?_map];have:ks.findIdx? ((λw=>peq w (.int p))∘D.int)=ks.findIdx? λw=>w==p:=rfl
 rw[this,kkz h];rfl
end F
namespace J
open Q PySem C B F
def intOf:D->Int
 |.int i=>i|_=>0
def VZ:D->Sn
 |.tup [.int r,.tup ks]=>some (r,ks.map intOf)|_=>none
def rdF(ss:List Str)(rs:List D)(S:Sn)(z:Str)(c:Int):Sn:=match S with
 |none=>none
 |some (room,ks)=>(match rs[room.toNat]? with
  |some (.tup [_,_,.lst st])=>VZ (JK ss st ks z c)
  |_=>none)
theorem vzb{b5:List Int}{d:D}(h:Ok2 b5 d):stn (VZ d)=d/\SnOk b5 (VZ d):=by
 rcases h with rfl|⟨room,ks,rfl,r0,r1,hl⟩
 ·exact⟨rfl,λ_ _ e=>nomatch e⟩
 ·have e:VZ (.tup [.int room,iT ks])=some (room,ks):=by
   show some (room,(ks.map D.int).map intOf)=_;rw[Xh]
   congr 2
   exact List.map_id ks
  rw[e];refine⟨rfl,λa b e=>?_⟩;cases e;exact⟨r0,r1,hl⟩
theorem wkb{b5:List Int}{S:Sn}(h:SnOk b5 S):Ok2 b5 (stn S):=by
 cases S with|none=>exact .inl rfl|some x=>obtain⟨a,b,c⟩:=h x.1 x.2 rfl;exact .inr ⟨x.1,x.2,rfl,a,b,c⟩
theorem rdF_ok{b5:List Int}{ss:List Str}{rs:List D}{S:Sn}(z:Str)(c:Int)(hP:Prs b5 ss.length rs)(hk:∀p∈b5,0<=p/\p<=3)(hS:SnOk b5 S):Rd b5 ss rs (stn S) (z,c) (stn (rdF ss rs S z c))/\SnOk b5 (rdF ss rs S z c):=by
 obtain⟨s',h1,h2,_⟩:=qzh (z,c) hP hk (wkb hS);obtain⟨g1,g2⟩:=vzb h2;have e:rdF ss rs S z c=VZ s':=by
  rcases id h1 with⟨h3,rfl⟩|⟨room,ks,st,kp,gd,h3,_,hr,_,_,h4⟩
  ·cases S with| none=>rfl| some x=>cases h3
  ·cases S with
   | none=>cases h3
   | some x=>
    have h3:(D.tup [.int x.1,iT x.2])=.tup [.int room,iT ks]:=h3;injection h3 with h3;injection h3 with e1 h3;injection h3 with e2 _;injection e1 with e1;injection e2 with e2;have e2:x.2=ks:=(List.map_inj_right λa b h=>by injection h).mp e2;show(match rs[x.1.toNat]? with
     |some (.tup [_,_,.lst st])=>VZ (JK ss st x.2 z c)
     |_=>none)=_
    rw[e1,hr,e2,h4]
 rw[e,g1];exact⟨h1,g2⟩
end J
namespace Kp
open Q PySem C
theorem bk(E:En):back [] [] (clr [] E)=E:=rfl
end Kp
namespace U
open Q PySem C B J
section
variable {b5 kps':List Int}{ss:List Str}{rs rs':List D}
def run(ss:List Str)(rs:List D)(S:Sn)(w:List (Str×Int)):Sn:=w.foldl (λS x=>rdF ss rs S x.1 x.2) S
abbrev S0:Sn:=some (0,[])
end
section
variable {b5 kps':List Int}{ss:List Str}{rs rs':List D}
theorem run_snoc{S:Sn}{w:List (Str×Int)}{z:Str}{c:Int}:run ss rs S (w++[(z,c)])=rdF ss rs (run ss rs S w) z c:=by
 unfold run;rw[Ze];rfl
end
theorem qj7:∀(l aa:List Int),aa.Nodup->(l.foldl (λl k=>if l.any (· == k)then l else l++[k]) aa).Nodup/\∀x,x∈l.foldl (λl k=>if l.any (· == k)then l else l++[k]) aa↔x∈aa\/x∈l
 | [],aa,h=>⟨h,λx=>by simp⟩
 | a::l,aa,h=>by
  rw[Z0]
  by_cases ha:a∈aa
  ·rw[X6 (by rw[kxk];exact Xb ha)];obtain⟨h1,h2⟩:=qj7 l aa h;refine⟨h1,λx=>?_⟩;rw[h2,Xz];constructor
   ·exact λz=>z.imp id .inr
   ·rintro (z|rfl|z)
    ·exact .inl z
    ·exact .inl ha
    ·exact .inr z
  ·rw[X8 (by rw[kxk];simpa using ha)];obtain⟨h1,h2⟩:=qj7 l (aa++[a]) (List.nodup_append.mpr ⟨h,by simp,λx hx y hy e=>by rw[aC hy]at e;exact ha (e▸hx)⟩);refine⟨h1,λx=>?_⟩;rw[h2,List.mem_append,List.mem_singleton,Xz];constructor
   ·rintro ((z|z)|z)
    ·exact .inl z
    ·exact .inr (.inl z)
    ·exact .inr (.inr z)
   ·rintro (z|z|z)
    ·exact .inl (.inl z)
    ·exact .inl (.inr z)
    ·exact .inr z
theorem ddI_nd(l:List Int):(ddI l).Nodup:=(qj7 l [] Yf).1
theorem ddI_mem{l:List Int}{x:Int}:x∈ddI l↔x∈l:=by
 have:=(qj7 l [] Yf).2 x;rw[show x∈ddI l↔_ from this];simp
theorem ints_is:∀l:List Int,zq (l.map D.int)=some l
 |[]=>rfl
 |a::l=>by
  rw[List.map_cons,zq,ints_is l];rfl
end U
namespace V
open Q PySem C
def m_shape_of:Fn:=fn 5
  (j6 (jv 1 vx2)
  (j6 (jv 2 (qz .rt []))
  (j6 (v6 (itS (cV 0)) (.t [3,4]) (j6 (sIf (tE (cF2 (pu2 K2) (vV 4) (vV 1))) (qzd 1 (vV 4) (cF1 (pu1 Vv) (vV 1))) vj)
  (v3 vQ 2 (kW .no [(cV 3),(cH (wv7 (vV 1) (vV 4)))]))))
  (k6 (cMv 2)))))
def m_names_in:Fn:=fn 1
  (k6 (cF1 (pu1 V0) (vE (cLC .rt 2 [] (itS (cV 0)) (.t [0,1]) tYes (cV 1)))))
def m_case_to:Fn:=fn 2
  (j6 (sIf (tE (cF2 (pu2 K6) (vV 0) (vV 1))) (k6 (cC .non)) vj)
  (k6 (kW .no [(cH (wv6 (vV 1) (vV 0))),(wvc (vE (jW m_names_in [(cV 0)])))])))
def m_steps_at:Fn:=fn 6
  (j6 (jv 3 (XW (vE (cF2 jQ (vE (jW m_names_in [(cV 0)])) (C9 1)))))
  (j6 (jv 4 (qz .rt []))
  (j6 (v6 (itS (cV 1)) (.n 5) (v3 vQ 4 (cLC .rt 1 [0,5,2] (itS (cV 3)) (.n 0) tYes (jW m_case_to [(cF2 jQ (vV 1) (vE (kW .no [(kW .no [(cV 2),(cV 0)])]))),(cV 3)]))))
  (k6 (cMv 4)))))
def m_signs_in:Fn:=fn 3
  (j6 (jv 1 (qz .rt []))
  (j6 (v6 (itS (cV 0)) (.n 2) (Kk 1 (cLC .rt 2 [] (itS (cV 2)) (.t [0,1]) tYes (cV 0))))
  (k6 (cMv 1))))
def m_beginnings_of:Fn:=fn 3
  (j6 (jv 1 (qz .rt [(kW .no [(cC (.int 0)),(kW .no [])])]))
  (j6 (v6 (itS (cV 0)) (.n 2) (Kk 1 (cLC .rt 1 [2] (x5 (vE (cF2 jQ (vE (cF1 (pu1 v8) (vV 2))) (C9 1)))) (.n 0) tYes (kW .no [(cV 0),(wvd (vV 1) none (some (vV 0)))]))))
  (k6 (cLC .rt 2 [] (itS (cF1 Vq (vV 1))) (.t [0,1]) tYes (cV 1)))))
noncomputable def m_plain_by:Fn:=fn 5
  (j6 (jv 2 (cLC .rt 1 [] (itS (cV 1)) (.n 0) tYes (cF1 QZ (vE (jW m_shape_of [(cV 0)])))))
  (j6 (sIf (tNot (tEQ (vE (cF1 (pu1 wqb) (vE (cLC .rt 1 [0] (itS (jW m_signs_in [(cV 2)])) (.n 0) tYes (cF2 (pu2 xV) (vV 0) (vV 1)))))))) qzc vj)
  (j6 (sIf (tNot (tEQ (vE (cF1 (pu1 wqb) (vE (cLC .rt 1 [] (itS (cV 2)) (.n 0) tYes (cF2 (pu2 fLe) (vE (jW m_names_in [(cV 0)])) (C9 3)))))))) qzc vj)
  (j6 (jv 3 (jW m_beginnings_of [(cV 2)]))
  (j6 (jv 4 (cF1 Wx (vE (cLC .rt 2 [] (wvb (cV 3)) (.t [0,1]) tYes (kW .no [(cV 1),(cV 0)])))))
  (k6 (kW .no [(cF1 KY (vV 0)),(cLC .rt 1 [2,0,4] (itS (cV 3)) (.n 0) tYes (kW .no [(jW m_names_in [(cV 0)]),(cF2 (pu2 xV) (vV 0) (vV 1)),(jW m_steps_at [(cV 0),(cV 2),(cV 3)])]))])))))))
theorem vj3{l:List Int}(h:l.length<4000):V0 (.lst (l.map D.int))=some (.int (ddI l).length):=by
 unfold V0;dsimp only;rw[U.ints_is];exact X6 h
theorem xw(a:List Int)(x:Int):ddI (a++[x])=if x∈ddI a then ddI a else ddI a++[x]:=by
 unfold ddI;rw[Ze,Z0,List.foldl_nil]
 by_cases h:x∈a.foldl (λl k=>if l.any (· == k)then l else l++[k]) []
 ·rw[X6 h,X6 (by simpa using h)]
 ·rw[X8 h,X8 (by simpa using h)]
theorem qwu:∀(b a:List Int) (x:Int),x∈ddI a\/x∈b->x∈ddI (a++b)
 | [],a,x,h=>by rw[Xq];exact h.elim id λz=>nomatch z
 | y::b,a,x,h=>by
  rw[show a++y::b=(a++[y])++b by simp];refine qwu b _ x ?_;rw[xw];rcases h with h|h
  ·left
   split
   ·exact h
   ·exact ll9 _ h
  ·rcases aD h with rfl|h
   ·left
    split
    ·assumption
    ·simp
   ·exact .inr h
def idx(S:List Int)(n:Int):Int:=(S.idxOf n:Nat)
def kvS(S:List Int):List (Int×Int):=S.zipIdx.map λp=>(p.1,(p.2:Int))
theorem vj6(S:List Int)(x:Int):kvS (S++[x])=kvS S++[(x,(S.length:Int))]:=by
 unfold kvS;rw[List.zipIdx_append];simp
theorem qvy(S:List Int):(kvS S).length=S.length:=by unfold kvS;simp
theorem kxp(n:Int):∀(S:List Int) (k:Nat),v7 ((S.zipIdx k).map λp=>(p.1,(p.2:Int))) n=if n∈S then some ((S.idxOf n+k:Nat):Int)else none
 | [],k=>rfl
 | x::S,k=>by
  rw[List.zipIdx_cons,List.map_cons];unfold v7;rw[Yp]
  by_cases e:x=n
  ·subst e;simp
  ·have:=kxp n S (k+1);unfold v7 at this;dsimp only;rw[Xi e];dsimp only;rw[this]
   by_cases hm:n∈S
   ·rw[X6 hm,X6 (lc9 _ hm),List.idxOf_cons,Ye e];simp;lia
   ·rw[X8 hm,X8 (by simp[hm,Ne.symm e])]
theorem kk0(S:List Int)(n:Int):v7 (kvS S) n=if n∈S then some (idx S n)else none:=kxp n S 0
theorem vqy{S:List Int}{x:Int}(h:x∉S):zK (kvS S) x S.length=kvS (S++[x]):=by
 have hv:=kk0 S x;rw[X8 h]at hv;unfold zK;rw[X8 ?_,vj6];intro ha;rw[List.any_eq_true]at ha;obtain⟨p,hp,e⟩:=ha;unfold v7 at hv;rw[Option.map_eq_none_iff,List.find?_eq_none]at hv;exact hv p hp e
theorem vwj{S:List Int}{x n:Int}(h:n∈S):idx (S++[x]) n=idx S n:=by
 unfold idx;rw[List.idxOf_append,X6 h]
abbrev ns2(ws:List (Str×Int)):List Int:=ws.map (·.2)
def shW(ws:List (Str×Int)):List (Str×Int):=ws.map λw=>(w.1,idx (ddI (ns2 ws)) w.2)
theorem J3(ws:List (Str×Int)):(shW ws).length=ws.length:=by unfold shW;rw[X1]
theorem kzj{k:Int}{kv:List (Int×Int)}:K2 (.int k) (wW kv)=some (.bl (!(v7 kv k).isSome)):=by
 unfold K2;rw[kzz]
theorem wkg{kv:List (Int×Int)}:Vv (wW kv)=some (.int kv.length):=by
 unfold Vv;rw[kzz]
theorem qj6(b:List Int):∀a:List Int,(ddI (a++b)).length<=(ddI a).length+b.length:=by
 induction b with
 | nil=>intro a;rw[Xq];exact Xa _
 | cons y b ih=>
  intro a;rw[show a++y::b=(a++[y])++b by simp];have:=ih (a++[y]);have e:(ddI (a++[y])).length<=(ddI a).length+1:=by
   rw[xw]
   split
   ·lia
   ·simp
  rw[Xk];lia
theorem jxt(f:List (Str×Int))(w:Str×Int):rwD (shW (f++[w]))=rwD (shW f)++[.tup [.str w.1,.int (idx (ddI (ns2 f++[w.2])) w.2)]]:=by
 have hn:ns2 (f++[w])=ns2 f++[w.2]:=by simp
 unfold shW;rw[hn,Xf];unfold rwD;rw[Xf]
 congr 1
 refine congrArg (List.map _) (Yj λa ha=>?_);have hm:a.2∈ddI (ns2 f):=qwu (ns2 f) [] a.2 (.inr (List.mem_map.mpr ⟨a,ha,rfl⟩));rw[xw]
 split
 ·rfl
 ·rw[vwj hm]
theorem qzb(ws:List (Str×Int))(hw:ws.length<=1000):Oo m_shape_of [(.no,.lst (rwD ws))] (λy=>y=(.rt,.lst (rwD (shW ws)))) noX:=by
 unfold m_shape_of;refine kY ?_;simp![↓vxx];refine x4 (λE ab=>∃(f1 f2:List (Str×Int)) (l3 l4:Option Sd),E=[some (.no,.lst (rwD ws)),some (.rt,wW (kvS (ddI (ns2 f1)))),some (.rt,.lst (rwD (shW f1))),l3,l4]/\ws=f1++f2/\ab=rwD f2) ?_ ?_ ?_
 ·simp![];exact⟨[],ws,_,_,rfl,rfl,rfl⟩
 ·rintro E d ds ⟨f1,f2,l3,l4,rfl,hf,hr⟩;cases f2 with
  | nil=>cases hr
  | cons w f2=>
   have hr:d::ds=.tup [.str w.1,.int w.2]::rwD f2:=hr;injection hr with e1 e2;subst e1 e2;have ag:f1.length+(f2.length+1)=ws.length:=by rw[hf];simp
   have hn:ns2 (f1++[w])=ns2 f1++[w.2]:=by simp
   have gc:=xw (ns2 f1) w.2
   by_cases hm:w.2∈ddI (ns2 f1)
   ·rw[X6 hm]at gc;have hv:v7 (kvS (ddI (ns2 f1))) w.2=some (idx (ddI (ns2 f1)) w.2):=by rw[kk0,X6 hm]
    have ml:K2 (.int w.2) (wW (kvS (ddI (ns2 f1))))=some (.bl false):=by rw[kzj,hv];rfl
    simp![ml];refine zW rfl ?_;simp![↓vxv,wkw hv];refine⟨_,rfl,by rw[X1,J3];lia,f1++[w],f2,some (.no,.str w.1),some (.no,.int w.2),?_,by rw[hf];simp,rfl⟩;rw[jxt,hn,gc]
   ·rw[X8 hm]at gc;have hv:v7 (kvS (ddI (ns2 f1))) w.2=none:=by rw[kk0,X8 hm]
    have ml:K2 (.int w.2) (wW (kvS (ddI (ns2 f1))))=some (.bl true):=by rw[kzj,hv];rfl
    have hv2:v7 (kvS (ddI (ns2 f1)++[w.2])) w.2=some (idx (ddI (ns2 f1)++[w.2]) w.2):=by rw[kk0,X6 (by simp)]
    simp![ml];refine vwb ?_;simp![wkg];refine⟨rfl,?_⟩;simp![];refine⟨_,_,_,rfl,rfl,rfl,?_,?_⟩
    ·rw[qvy];have:=qj6 (ns2 f1) [];rw[List.nil_append,X1]at this;have e:(ddI []).length=0:=rfl;lia
    rw[qvy,vqy hm];simp![];refine zW rfl ?_;simp![↓vxv,wkw hv2];refine⟨_,rfl,by rw[X1,J3];lia,f1++[w],f2,some (.no,.str w.1),some (.no,.int w.2),?_,by rw[hf];simp,rfl⟩;rw[jxt,hn,gc]
 ·rintro E ⟨f1,f2,l3,l4,rfl,hf,hr⟩;have hf2:f2=[]:=by cases f2 with|nil=>rfl|cons=>cases hr
  subst hf2;rw[Xq]at hf;subst hf;simp![]
theorem qwl{i:Nat}{c:Ex}{E:En}{xs:List D}{N Cc:En->Prop}{R:Sd->Prop}{X:XP}(h0:E[i]?=some (some (.rt,.lst xs)))(h:Eo (c E) (λE1 x=>∃ys zs,E1[i]?=some (some (.rt,.lst ys))/\x=(.rt,.lst zs)/\ys.length+zs.length<big/\N (E1.set i (some (.rt,.lst (ys++zs))))) X):Po (Kk i c E) N Cc R X:=by
 unfold Kk;rw[h0];show Po (if true=true then _ else _) N Cc R X;rw[X6 rfl,J4];refine h.mono ?_;rintro E1 x ⟨ys,zs,h1,rfl,hb,hN⟩;rw[h1];dsimp only;rw[X8 (λz=>by rcases z with z|z|z;cases z;cases z;exact z hb),vv6];exact hN
theorem wvi{a:Ex}{lo hi:Option Ex}{e:Option Sd}{E:En}{P:En->Sd->Prop}{X:XP}:Eo (wvd a lo hi (e::E)) P X=Eo (a (e::E)) (λE x=>Eo (zx lo E) (λE l=>Eo (zx hi E) (λE h=>Wo (Vw x l h) E P) X) X) X:=by
 unfold wvd;rw[jJ];congr 1;funext E x;rw[jJ];congr 1;funext E l;rw[jJ];congr 1;funext E h;exact wq
abbrev Sh:=List (Str×Int)
abbrev tD(s:Sh):D:=.tup (rwD s)
def nk(s:Sh):Nat:=(ddI (ns2 s)).length
theorem YW:∀{a b:Sh},rwD a=rwD b->a=b:=by
 intro a
 induction a with
 | nil=>intro b h;cases b with|nil=>rfl|cons=>cases h
 | cons x a ih=>
  intro b h;cases b with
  |nil=>cases h
  |cons y b=>
   simp only[rwD,List.map_cons,List.cons.injEq,D.tup.injEq,D.str.injEq,D.int.injEq,and_true]at h;rw[Prod.ext h.1.1 h.1.2,ih h.2]
theorem kxt{a b:Sh}(h:tD a=tD b):a=b:=YW (D.tup.inj h)
theorem kqx{s:Sh}{d:D}(hd:d=tD s\/d=.lst (rwD s))(hl:s.length<=1000):Oo m_names_in [(.no,d)] (λy=>∃o:Own,y=(o,.int (nk s))/\True) noX:=by
 rcases hd with rfl|rfl
 all_goals
  unfold m_names_in;refine kY ?_;simp![];refine xY (λE1 B ds aa=>∃(q0 q1:Option Sd) (s1 s2:Sh),B=[q0,q1]/\ds=rwD s2/\s=s1++s2/\aa.map (·.2)=(ns2 s1).map D.int) ?_ ?_ ?_
  ·simp![];exact⟨_,_,[],s,rfl,rfl,rfl,rfl⟩
  ·rintro E1 B d ds aa ⟨q0,q1,s1,s2,rfl,au,hs,ha⟩;cases s2 with
   |nil=>cases au
   |cons w s2=>
    injection au with e1 e2;subst e1 e2;simp![];exact⟨_,_,s1++[w],s2,rfl,rfl,by rw[hs];simp,by rw[Xf,ha];simp⟩
  ·rintro E1 B aa ⟨q0,q1,s1,s2,rfl,au,hs,ha⟩;have:s2=[]:=by cases s2 with|nil=>rfl|cons=>cases au
   subst this;rw[Xq]at hs;subst hs;rw[qx,ha];simp only[wY,back,clr];simp![vj3 (l:=ns2 s) (by rw[X1];lia)];exact⟨_,rfl,trivial⟩
theorem jxx(s:Sh)(hl:s.length<=1000):Oo m_names_in [(.no,tD s)] (λy=>∃o:Own,y=(o,.int (nk s))/\True) noX:=kqx (.inl rfl) hl
end V
namespace V
open Q PySem C Tl
abbrev pD(s:Sh):D:=.tup [.int s.length,tD s]
def pre(s:Sh):List Sh:=(List.range (s.length+1)).map s.take
def qv(shs:List Sh):List Sh:=[]::shs.flatMap pre
theorem kzg{a b:Sh}(h:pD a=pD b):a=b:=by
 simp only[pD,D.tup.injEq,List.cons.injEq,and_true]at h;exact YW h.2
theorem kka(n:Nat):jV 0 (n:Int)=(List.range n).map λ(k:Nat)=>D.int k:=by
 unfold jV;rw[Int.sub_zero,Xy];exact Yj λk _=>by rw[Int.zero_add]
theorem qz6{s:Sh}{e:Nat}(h:e<=s.length):Vw (.no,tD s) none (some (e:Int))=some (.no,tD (s.take e)):=by
 have hl:(rwD s).length=s.length:=X1 _;have h1:x3 (rwD s).length 0 none=0:=rfl;have h2:x3 (rwD s).length (rwD s).length (some (e:Int))=e:=by
  unfold x3;dsimp only;rw[X8 ⋯,hl];simp;lia
 unfold Vw;dsimp only
 by_cases he:e=s.length
 ·subst he;rw[X6 ⟨rfl,h1,by rw[h2,hl]⟩,Zk]
 ·rw[X8 (λz=>he (by have:=z.2.2;rw[h2,hl]at this;exact this))];unfold fSl;dsimp only;rw[X6 ⟨rfl,λz=>he (by have:=z.2;rw[h2,hl]at this;exact this)⟩];unfold wql;rw[h1,h2,List.drop_zero,Nat.sub_zero];show some (Own.no,D.tup ((rwD s).take e))=_;rw[show(rwD s).take e=rwD (s.take e)from List.map_take.symm]
theorem kx2:∀(a b:Sh),(ltDs (rwD a) (rwD b)).isSome=true:=by
 intro a
 induction a with
 | nil=>intro b;cases b<;>rfl
 | cons x a ih=>
  intro b;cases b with
  | nil=>rfl
  | cons y b=>
   show(ltDs (.tup [.str x.1,.int x.2]::rwD a) (.tup [.str y.1,.int y.2]::rwD b)).isSome=true;unfold ltDs
   split
   ·exact ih b
   ·unfold ltD ltDs
    split
    ·unfold ltDs
     split
     ·rfl
     ·rfl
    ·rfl
theorem wwh(a b:Sh):(ltD (pD a) (pD b)).isSome=true:=by
 unfold ltD ltDs
 split
 ·unfold ltDs
  split
  ·rfl
  ·unfold ltD;exact kx2 a b
 ·rfl
theorem qw0{n:Nat}:∀s:Sh,keyDs (n+1) (rwD s)=true:=by
 intro s
 induction s with
 |nil=>rfl
 |cons x s ih=>
  show(jq (n+1) (.tup [.str x.1,.int x.2])&&keyDs (n+1) (rwD s))=true;rw[ih,Bool.and_true];unfold jq;simp[keyDs,jq]
theorem WK(s:Sh):wV (tD s)=true:=by
 show(jq 6 (.tup (rwD s))&&true)=true;unfold jq;rw[qw0];rfl
theorem qv1(L:List Sh):okT (L.map pD)=true:=by
 unfold okT;rw[Bool.and_eq_true,Y7,Y7];refine⟨λd hd=>?_,λd hd=>List.all_eq_true.mpr λe he=>?_⟩
 ·obtain⟨s,_,rfl⟩:=aE hd;show(jq 6 (.tup [.int s.length,.tup (rwD s)])&&true)=true;unfold jq keyDs;simp only[jq,keyDs];rw[qw0];rfl
 ·obtain⟨s,_,rfl⟩:=aE hd;obtain⟨t,_,rfl⟩:=aE he;exact wwh s t
theorem vjm:∀(ds ls:List D),ls.Nodup->(ds.foldl vw ls).Nodup:=by
 intro ds
 induction ds with
 | nil=>exact λls h=>h
 | cons d ds ih=>
  intro ls h;refine ih _ ?_;unfold vw
  split
  ·exact h
  ·rename_i hn;exact List.nodup_append.mpr ⟨h,by simp,λa ha b hb e=>hn (by rw[List.mem_singleton]at hb;rw[<-hb,<-e];exact ha)⟩
theorem qwv:∀(ds ls:List D) {d:D},d∈ls\/d∈ds->d∈ds.foldl vw ls:=by
 intro ds
 induction ds with
 | nil=>exact λls d h=>h.elim id λz=>nomatch z
 | cons a ds ih=>
  intro ls d h;refine ih _ ?_;unfold vw;rcases h with h|h
  ·left
   split
   ·exact h
   ·exact ll9 _ h
  ·rcases aD h with rfl|h
   ·left
    split
    ·assumption
    ·simp
   ·exact .inr h
theorem vwu:∀(ds ls:List D),(ds.foldl vw ls).length<=ls.length+ds.length:=by
 intro ds
 induction ds with
 | nil=>intro ls;simp
 | cons d ds ih=>
  intro ls;refine Yn (ih _) ?_;have:(vw ls d).length<=ls.length+1:=by
   unfold vw
   split
   ·lia
   ·simp
  rw[Xk];lia
theorem qxw:∀(shs:List Sh) (ls:List D),pD []∈ls->(∀s∈shs,s.length<=5)->(((shs.flatMap pre).map pD).foldl vw ls).length<=ls.length+5*shs.length:=by
 intro shs
 induction shs with
 | nil=>intro ls _ _;simp
 | cons s shs ih=>
  intro ls h0 hl;rw[Yy,Xf,Ze];have e:(pre s).map pD=pD []::((List.range s.length).map λi=>pD (s.take (i+1))):=by
   unfold pre;rw[List.range_succ_eq_map,List.map_cons,List.map_cons,List.take_zero,Xh,Xh];rfl
  have h1:(((pre s).map pD).foldl vw ls).length<=ls.length+5:=by
   rw[e,Z0,show vw ls (pD [])=ls from X6 h0];have:=vwu ((List.range s.length).map λi=>pD (s.take (i+1))) ls;rw[X1,Xu]at this;have:=hl s X5;lia
  have:=ih (((pre s).map pD).foldl vw ls) (qwv _ _ (.inl h0)) λt ht=>hl t (lc9 _ ht)
  rw[Xk];lia
theorem kzh(b:Sh)(h:b≠[]):ltD (pD []) (pD b)=some true/\ltD (pD b) (pD [])=some false:=by
 have hl:0<b.length:=List.length_pos_iff.mpr h;have ne:∀{x y:Int},x≠y->D.int x≠D.int y:=λh e=>h (D.int.inj e)
 constructor
 ·unfold ltD ltDs;rw[X8 (ne (by simp;lia))];show some (decide (((0:Nat):Int)<b.length))=_;rw[Xb ⋯]
 ·unfold ltD ltDs;rw[X8 (ne (by simp;lia))];show some (decide ((b.length:Int)<((0:Nat):Int)))=_;rw[Xi ⋯]
theorem qjk:∀(l:List D),(∀d∈l,∃x,d=pD x)->l.Nodup->pD []∈l->∃t,wv l=pD []::t:=by
 intro l
 induction l with
 | nil=>exact λ_ _ h=>nomatch h
 | cons a r ih=>
  intro ha nd h0;rw[List.nodup_cons]at nd;obtain⟨x,rfl⟩:=ha a X5;show ∃t,Jv (pD x) (wv r)=pD []::t
  by_cases hx:x=[]
  ·subst hx;cases hs:wv r with
   |nil=>exact⟨[],rfl⟩
   |cons b t=>
    have hb:b∈r:=(z9 r).mem_iff.mp (by rw[hs];exact X5);obtain⟨y,rfl⟩:=ha b (lc9 _ hb);have hy:y≠[]:=λz=>nd.1 (by rw[<-z];exact hb)
    unfold Jv;rw[X8 (by rw[(kzh y hy).2];decide)];exact⟨_,rfl⟩
  ·have h1:pD []∈r:=(aD h0).resolve_left λz=>hx (kzg z).symm
   obtain⟨t,e⟩:=ih (λd hd=>ha d (lc9 _ hd)) nd.2 h1;rw[e];unfold Jv;rw[X6 (kzh x hx).1];exact⟨_,rfl⟩
theorem vvx:∀{l:List D},(∀d∈l,∃x,d=pD x)->∃xs:List Sh,l=xs.map pD:=by
 intro l
 induction l with
 |nil=>exact λ_=>⟨[],rfl⟩
 |cons a r ih=>
  intro h;obtain⟨x,rfl⟩:=h a X5;obtain⟨xs,rfl⟩:=ih λd hd=>h d (lc9 _ hd)
  exact⟨x::xs,rfl⟩
structure Beg (shs bs:List Sh):Prop where
 nd:bs.Nodup
 hd:bs[0]?=some []
 mem:∀x,x∈bs↔x∈qv shs
 len:bs.length<=59
 pw:(bs.map pD).Pairwise Ls
theorem wqq{shs:List Sh}(hl:shs.length<=11)(h5:∀s∈shs,s.length<=5):∃bs,(∀o:Own,Vq (o,.lst ((qv shs).map pD))=some (.rt,.lst (bs.map pD)))/\Beg shs bs:=by
 have i3:∀d∈ddT ((qv shs).map pD),∃x,d=pD x:=λd hd=>by
  rcases QX _ _ hd with z|z
  ·exact nomatch z
  ·obtain⟨x,_,rfl⟩:=aE z;exact⟨x,rfl⟩
 have on:∀d∈wv (ddT ((qv shs).map pD)),∃x,d=pD x:=λd hd=>i3 d ((z9 _).mem_iff.mp hd)
 have hn:(ddT ((qv shs).map pD)).Nodup:=vjm _ [] Yf;have h0:pD []∈ddT ((qv shs).map pD):=qwv _ _ (.inr X5);have ag:(ddT ((qv shs).map pD)).length<=59:=by
  have:=qxw shs [pD []] X5 h5;have e:ddT ((qv shs).map pD)=((shs.flatMap pre).map pD).foldl vw [pD []]:=rfl;rw[e];rw[Yz]at this;lia
 obtain⟨bs,hb⟩:=vvx on;obtain⟨t,ht⟩:=qjk _ i3 hn h0;have hcm:Cmp (ddT ((qv shs).map pD)):=λa ha b hb=>(vke (qv1 (qv shs))).2 a ((QX _ _ ha).resolve_left λz=>nomatch z) b ((QX _ _ hb).resolve_left λz=>nomatch z)
 refine⟨bs,λo=>?_,?_,?_,λx=>?_,?_,by rw[<-hb];exact jxs hcm hn⟩
 ·unfold Vq;dsimp only;rw[X6 ⟨ag,qv1 _⟩,hb]
 ·have:(bs.map pD).Nodup:=by rw[<-hb];exact(z9 _).nodup_iff.mpr hn
  rw[Z2,Yc]at this;rw[Z2];exact this.imp λh e=>h (by rw[e])
 ·rw[hb]at ht;cases bs with
  | nil=>cases ht
  | cons b bs=>
   injection ht with e _;rw[kzg e];rfl
 ·have:x∈bs↔pD x∈bs.map pD:=⟨λh=>List.mem_map.mpr ⟨x,h,rfl⟩,λh=>by obtain⟨y,hy,e⟩:=aE h;rw[<-kzg e];exact hy⟩;rw[this,<-hb,(z9 _).mem_iff];constructor
  ·intro h;rcases QX _ _ h with z|z
   ·exact nomatch z
   ·obtain⟨y,hy,e⟩:=aE z;rw[<-kzg e];exact hy
  ·exact λh=>qwv _ _ (.inr (List.mem_map.mpr ⟨x,h,rfl⟩))
 ·have:=congrArg List.length hb;rw[X1,(z9 _).length_eq]at this;lia
theorem kq6{shs:List Sh}(hl:shs.length<=11)(h5:∀s∈shs,s.length<=5):Oo m_beginnings_of [(.no,.lst (shs.map tD))] (λy=>∃bs,y=(.rt,.lst (bs.map tD))/\Beg shs bs) noX:=by
 have tl:∀f:List Sh,(∀s∈f,s.length<=5)->(qv f).length<=1+6*f.length:=by
  intro f
  induction f with
  | nil=>intro _;decide
  | cons s f ih=>
   intro h;have h1:=h s X5;have h2:=ih λt ht=>h t (lc9 _ ht)
   unfold qv at h2 ⊢;rw[Xk]at h2 ⊢;rw[Yy,Xp,Xk];have:(pre s).length=s.length+1:=by unfold pre;rw[X1,Xu]
   lia
 obtain⟨bs,hs,hB⟩:=wqq hl h5;unfold m_beginnings_of;refine kY ?_;simp![];refine x4 (λE ab=>∃(f1 f2:List Sh) (l2:Option Sd),E=[some (.no,.lst (shs.map tD)),some (.rt,.lst ((qv f1).map pD)),l2]/\shs=f1++f2/\ab=f2.map tD) ?_ ?_ ?_
 ·simp![];exact⟨[],shs,_,rfl,rfl,rfl⟩
 ·rintro E d ds ⟨f1,f2,l2,rfl,hf,hr⟩;cases f2 with
  | nil=>cases hr
  | cons s f2=>
   injection hr with e1 e2;subst e1 e2;have hs5:s.length<=5:=h5 s (by rw[hf];simp);have hf1:=tl f1 λt ht=>h5 t (by rw[hf];simp[ht])
   have mq:f1.length<=11:=by have:=congrArg List.length hf;simp at this;lia
   simp![];refine qwl rfl ?_;refine K8 [some (.no,tD s)] (λd y=>y.2=match d with|.int e=>pD (s.take e.toNat)|_=>.non) ?_;refine W5 ?_;have hln:v8 (tD s)=some (.int s.length):=by show some (D.int ((rwD s).length:Nat))=_;rw[X1]
   simp![hln];refine⟨s.length+1,rfl,⋯,⋯,rfl,λd hd=>?_,λys hy=>?_⟩
   ·obtain⟨i,i0,i1,rfl⟩:=kx1 hd;obtain⟨e,rfl⟩:=Zf i0;have ku:=qz6 (s:=s) (e:=e) ⋯;have db:((s.take e).length:Int)=e:=by rw[Y5];lia
    simp![wvi,ku];refine⟨⟨_,rfl⟩,?_⟩;show D.tup [.int e,tD (s.take e)]=D.tup [.int (s.take e).length,tD (s.take e)];rw[db]
   ·have e1:(jV 0 ((s.length:Int)+1)).map (λd=>match d with|.int e=>pD (s.take e.toNat)|_=>.non)=(pre s).map pD:=by
     rw[show(s.length:Int)+1=((s.length+1:Nat):Int)by lia,kka,Xh];unfold pre;rw[Xh];exact Yj λk _=>by simp
    rw[qx,K1 (h:=λd=>match d with|.int e=>pD (s.take e.toNat)|_=>.non) (λ_ _ h=>h) hy,e1];simp only[back,clr,at',List.map_cons,List.map_nil,List.set_cons_zero,List.set_cons_succ];have e2:qv (f1++[s])=qv f1++pre s:=by unfold qv;rw[List.flatMap_append];simp
    refine⟨_,_,rfl,rfl,?_,f1++[s],f2,some (.no,tD s),by rw[e2,Xf],by rw[hf];simp,rfl⟩;rw[X1,X1];have:(pre s).length=s.length+1:=by unfold pre;rw[X1,Xu]
    unfold big;lia
 ·rintro E ⟨f1,f2,l2,rfl,hf,hr⟩;have:f2=[]:=by cases f2 with|nil=>rfl|cons=>cases hr
  subst this;rw[Xq]at hf;subst hf;simp![];refine xY (λE1 B ds aa=>∃(q0 q1:Option Sd) (s1 s2:List Sh),B=[q0,q1]/\ds=s2.map pD/\bs=s1++s2/\aa.map (·.2)=s1.map tD) ?_ ?_ ?_
  ·simp![hs];exact⟨_,_,[],bs,rfl,rfl,rfl,rfl⟩
  ·rintro E1 B d ds aa ⟨q0,q1,s1,s2,rfl,au,hb,ha⟩;cases s2 with
   |nil=>cases au
   |cons x s2=>
    injection au with e1 e2;subst e1 e2;simp![];exact⟨_,_,s1++[x],s2,rfl,rfl,by rw[hb];simp,by rw[Xf,ha];simp⟩
  ·rintro E1 B aa ⟨q0,q1,s1,s2,rfl,au,hb,ha⟩;have:s2=[]:=by cases s2 with|nil=>rfl|cons=>cases au
   subst this;rw[Xq]at hb;subst hb;rw[qx,ha];exact⟨bs,rfl,hB⟩
def z3(bs:List Sh):D:=.dct (bs.zipIdx.map λp=>(tD p.1,.int p.2))
theorem wjn:∀l:List (Sh×Nat),prT (l.map λp=>D.tup [tD p.1,.int p.2])=some (l.map λp=>(tD p.1,(p.2:Int))):=by
 intro l
 induction l with
 |nil=>rfl
 |cons p l ih=>
  rw[List.map_cons];unfold prT;rw[X6 (WK p.1),ih];rfl
theorem qkj(bs:List Sh):bs.zipIdx.map (λp=>tD p.1)=bs.map tD:=by
 rw[show(λp:Sh×Nat=>tD p.1)=tD∘Prod.fst from rfl,<-Xh,List.zipIdx_map_fst]
theorem vwr{o:Own}{bs:List Sh}(hn:bs.Nodup)(hl:bs.length<=59):Wx (o,.lst (bs.zipIdx.map λp=>D.tup [tD p.1,.int p.2]))=some (.rt,z3 bs):=by
 have hc:(bs.zipIdx.map λp:Sh×Nat=>(tD p.1,(p.2:Int))).length<big/\((bs.zipIdx.map λp:Sh×Nat=>(tD p.1,(p.2:Int))).map (·.1)).Nodup:=by
  refine⟨by rw[X1,List.length_zipIdx];unfold big;lia,?_⟩;rw[Xh];show(bs.zipIdx.map λp=>tD p.1).Nodup;rw[qkj,Z2,Yc];exact(List.nodup_iff_pairwise_ne.mp hn).imp λh e=>h (kxt e)
 unfold Wx;dsimp only;rw[wjn];dsimp only;rw[X6 hc,Xh];rfl
theorem vxz(bs:List Sh):unm (bs.zipIdx.map λp=>(tD p.1,D.int p.2))=true:=by
 cases bs with|nil=>rfl|cons=>rfl
theorem wwp{bs:List Sh}{x:Sh}:tD x∈(bs.zipIdx.map λp=>(tD p.1,D.int p.2)).map (·.1)↔x∈bs:=by
 rw[Xh];show tD x∈bs.zipIdx.map (λp=>tD p.1)↔_;rw[qkj];exact⟨λh=>by obtain⟨y,hy,e⟩:=aE h;rw[<-kxt e];exact hy,λh=>List.mem_map.mpr ⟨x,h,rfl⟩⟩
theorem vvn{bs:List Sh}{x:Sh}:K6 (tD x) (z3 bs)=some (.bl (!decide (x∈bs))):=by
 unfold K6 z3;dsimp only;rw[X6 ⟨WK x,vxz bs⟩]
 congr 3
 exact decide_eq_decide.mpr wwp
theorem vjg(x:Sh):∀(bs:List Sh) (k:Nat),x∈bs->((bs.zipIdx k).map λp=>(tD p.1,D.int p.2)).find? (λe=>decide (e.1=tD x))=some (tD x,.int ((bs.idxOf x+k:Nat):Int)):=by
 intro bs
 induction bs with
 | nil=>exact λk h=>nomatch h
 | cons b bs ih=>
  intro k h;rw[List.zipIdx_cons,List.map_cons,Yp]
  by_cases e:b=x
  ·subst e;simp
  ·dsimp only;rw[Xi λz=>e (kxt z)];dsimp only;rw[ih (k+1) ((aD h).resolve_left λz=>e z.symm),List.idxOf_cons,Ye e];simp;lia
theorem ix_B{bs:List Sh}{x:Sh}(h:x∈bs):YY (z3 bs) (tD x)=some (.int (bs.idxOf x:Nat)):=by
 have hp:D.pures ((bs.zipIdx.map λp=>(tD p.1,D.int p.2)).map (·.2))=true:=by
  rw[Xh];exact D.pures_map _ _ λ_ _=>rfl
 unfold YY z3;dsimp only;rw[X6 ⟨WK x,vxz bs,hp⟩];unfold Jx;rw[vjg x bs 0 h];rfl
def z7(bs:List Sh)(x:Sh):D:=if x∈bs then .tup [.int (bs.idxOf x:Nat),.tup ((List.range (nk x)).map λ(k:Nat)=>D.int k)]else .non
theorem wvj{a b:Ex}{e:Option Sd}{E:En}{P:En->Sd->Prop}{X:XP}:Eo (wv6 a b (e::E)) P X=Eo (a (e::E)) (λE x=>Eo (b E) (λE y=>Wo (YY x.2 y.2) E (λE d=>P E (.dp,d))) X) X:=by
 unfold wv6;rw[jJ];congr 1;funext E x;rw[jJ];congr 1;funext E y;rw[wq];exact vo_map
theorem wvl{c:Ex}{E:En}{P:En->Sd->Prop}{X:XP}(h:Eo (c E) (λE x=>∃n:Nat,x.2=.int n/\n<=1000/\P E (.no,.tup ((List.range n).map λ(k:Nat)=>D.int k))) X):Eo (wvc c E) P X:=by
 unfold wvc;rw[jJ];refine h.mono ?_;rintro E x ⟨n,e,hn,hP⟩;rw[e];dsimp only;rw[X6 ⟨by unfold vK;simp;lia,by unfold big;simp;lia⟩,qwn,kka];exact hP
theorem vvq(x:Sh):nk x<=x.length:=by
 have:=qj6 (ns2 x) [];rw[List.nil_append,X1]at this;have e:(ddI []).length=0:=rfl;unfold nk;lia
theorem vwz{bs:List Sh}{x:Sh}(hl:x.length<=1000):Oo m_case_to [(.no,tD x),(.no,z3 bs)] (λy=>∃o:Own,y=(o,z7 bs x)/\True) noX:=by
 unfold m_case_to;refine kY ?_;have hn:=vvn (bs:=bs) (x:=x)
 by_cases h:x∈bs
 ·rw[Xb h]at hn;have hn:K6 (tD x) (z3 bs)=some (.bl false):=hn;simp![hn,↓wvj,ix_B h];refine wvl ?_;simp![];refine(jxx x hl).use ?_;intro o _;refine⟨nk x,rfl,by have:=vvq x;lia,?_⟩;simp![];exact⟨.no,by unfold z7;rw[X6 h],trivial⟩
 ·rw[Xi h]at hn;have hn:K6 (tD x) (z3 bs)=some (.bl true):=hn;simp![hn];exact⟨_,by unfold z7;rw[X8 h],trivial⟩
abbrev lD(s:Sh):D:=.lst (rwD s)
theorem wjr(a b:Sh):peq (tD a) (tD b)=decide (a=b):=by
 have ka:jq 6 (tD a)=true:=by have:=WK a;unfold wV at this;rw[Bool.and_eq_true]at this;exact this.1
 have kb:jq 6 (tD b)=true:=by have:=WK b;unfold wV at this;rw[Bool.and_eq_true]at this;exact this.1
 rw[kkr ka kb];exact decide_eq_decide.mpr ⟨kxt,λe=>by rw[e]⟩
theorem vq1(x:Sh):∀K:List Sh,((K.map tD).any λz=>peq z (tD x))=decide (x∈K):=by
 intro K
 induction K with
 |nil=>simp
 |cons k K ih=>
  rw[List.map_cons,List.any_cons,ih,wjr,<-Bool.decide_or];exact decide_eq_decide.mpr (by rw[Xz];exact⟨λh=>h.imp Eq.symm id,λh=>h.imp Eq.symm id⟩)
theorem jzt{n:Nat}(s:Sh):D.flats (n+1) (rwD s)=true:=qk λd hd=>by
 obtain⟨w,_,rfl⟩:=aE hd;cases n<;>rfl
theorem www{x:Sh}{K:List Sh}:xV (tD x) (.lst (K.map tD))=some (.bl (decide (x∈K))):=by
 have f1:(tD x).flat 30=true:=jzt (n:=28) x;have f2:D.flats 30 (K.map tD)=true:=qk λd hd=>by obtain⟨s,_,rfl⟩:=aE hd;exact jzt (n:=28) s
 show(if(tD x).flat 30&&D.flats 30 (K.map tD)then some (D.bl ((K.map tD).any λz=>peq z (tD x)))else none)=_;rw[f1,f2,vq1];rfl
theorem wqt(x:Sh)(K:List Sh):((K.map lD).any λz=>peq z (lD x))=decide (x∈K):=by
 rw[<-vq1,Zt,Zt];rfl
theorem wwx{x:Sh}{K:List Sh}:xV (lD x) (.lst (K.map lD))=some (.bl (decide (x∈K))):=by
 have f1:(lD x).flat 30=true:=jzt (n:=28) x;have f2:D.flats 30 (K.map lD)=true:=qk λd hd=>by obtain⟨s,_,rfl⟩:=aE hd;exact jzt (n:=28) s
 show(if(lD x).flat 30&&D.flats 30 (K.map lD)then some (D.bl ((K.map lD).any λz=>peq z (lD x)))else none)=_;rw[f1,f2,wqt];rfl
def xq(bs:List Sh)(ss:List Str)(b:Sh):List D:=ss.map λz=>.lst ((List.range (nk b+1)).map λ(k:Nat)=>z7 bs (b++[(z,(k:Int))]))
theorem wqu{b:Sh}{z:Str}{k:Int}(h:b.length<=1000):jQ (.no,tD b) (.no,.tup [.tup [.str z,.int k]])=some (.no,tD (b++[(z,k)])):=by
 have:=vq3 (a:=rwD b) (b:=[.tup [.str z,.int k]]) (by rw[X1,Yz];lia);rw[this];show some (Own.no,D.tup (rwD b++rwD [(z,k)]))=_;rw[show rwD b++rwD [(z,k)]=rwD (b++[(z,k)])from List.map_append.symm]
theorem qz0{bs:List Sh}{ss:List Str}{b:Sh}(hb:b.length<=10)(hs:ss.length<=3):Oo m_steps_at [(.no,tD b),(.no,sL ss),(.no,z3 bs)] (λy=>∃_:Unit,y=(.rt,.lst (xq bs ss b))/\True) noX:=by
 have hn:=vvq b;unfold m_steps_at;refine kY ?_;simp![];refine(jxx b ⋯).use ?_;intro _ _;simp![];rw [show(nk b:Int)+1=((nk b+1:Nat):Int)by lia,kka];refine x4 (λE ab=>∃(o1 o2 o3:Own) (d1:D) (s1 s2:List Str) (l5:Option Sd),E=[some (.no,tD b),some (o1,d1),some (.no,z3 bs),some (o3,.lst ((List.range (nk b+1)).map λ(k:Nat)=>D.int k)),some (.rt,.lst (xq bs s1 b)),l5]/\ss=s1++s2/\ab=s2.map D.str) ?_ ?_ ?_
 ·simp![];exact⟨_,.no,_,_,[],ss,_,rfl,rfl,rfl⟩
 ·rintro E d ds ⟨o1,o2,o3,d1,s1,s2,l5,rfl,he,hr⟩;cases s2 with
  | nil=>cases hr
  | cons z s2=>
   injection hr with e1 e2;subst e1 e2;have mi:s1.length<=3:=by have:=congrArg List.length he;simp at this;lia
   simp![];refine zW rfl ?_;refine K8 [some (.no,tD b),some (.no,.str z),some (.no,z3 bs)] (λd y=>y.2=match d with|.int k=>z7 bs (b++[(z,k)])|_=>.non) ?_;simp![];refine⟨rfl,λd hd=>?_,λys hy=>?_⟩
   ·obtain⟨k,_,rfl⟩:=aE hd;simp![wqu (b:=b) (z:=z) (k:=k) ⋯];refine(vwz (bs:=bs) (x:=b++[(z,(k:Int))]) (by simp;lia)).use ?_;intro _ _;exact⟨⟨_,rfl⟩,rfl⟩
   ·rw[qx,K1 (h:=λd=>match d with|.int k=>z7 bs (b++[(z,k)])|_=>.non) (λ_ _ h=>h) hy,Xh];simp only[back,clr,at',List.map_cons,List.map_nil,List.set_cons_zero,List.set_cons_succ];have e4:xq bs (s1++[z]) b=xq bs s1 b++[.lst ((List.range (nk b+1)).map λ(k:Nat)=>z7 bs (b++[(z,(k:Int))]))]:=by unfold xq;rw[Xf];rfl
    exact⟨_,rfl,by unfold xq;rw[X1];lia,o1,.no,.no,d1,s1++[z],s2,some (.no,.str z),by rw[e4];rfl,by rw[he];simp,rfl⟩
 ·rintro E ⟨o1,o2,o3,d1,s1,s2,l5,rfl,he,hr⟩;have:s2=[]:=by cases s2 with|nil=>rfl|cons=>cases hr
  subst this;rw[Xq]at he;subst he;simp![]
  first|trivial|exact⟨(),trivial⟩|exact⟨(),rfl,trivial⟩
theorem qz9{shs:List Sh}(hl:shs.length<=11)(h5:∀s∈shs,s.length<=5):Oo m_signs_in [(.no,.lst (shs.map tD))] (λy=>∃_:Unit,y=(.rt,sL (shs.flatMap λs=>s.map (·.1)))/\True) noX:=by
 unfold m_signs_in;refine kY ?_;simp![];refine x4 (λE ab=>∃(f1 f2:List Sh) (l2:Option Sd),E=[some (.no,.lst (shs.map tD)),some (.rt,sL (f1.flatMap λs=>s.map (·.1))),l2]/\shs=f1++f2/\ab=f2.map tD) ?_ ?_ ?_
 ·simp![];exact⟨[],shs,_,rfl,rfl,rfl⟩
 ·rintro E d ds ⟨f1,f2,l2,rfl,hf,hr⟩;cases f2 with
  | nil=>cases hr
  | cons s f2=>
   injection hr with e1 e2;subst e1 e2;have hs5:s.length<=5:=h5 s (by rw[hf];simp);have mq:f1.length<=11:=by have:=congrArg List.length hf;simp at this;lia
   have tl:∀f:List Sh,(∀s∈f,s.length<=5)->(f.flatMap λs=>s.map (·.1)).length<=5*f.length:=by
    intro f
    induction f with
    |nil=>intro _;simp
    |cons s f ih=>
     intro h;have h1:=h s X5;have h2:=ih λt ht=>h t (lc9 _ ht)
     rw[Yy,Xp,Xk,X1];lia
   have hf1:=tl f1 λt ht=>h5 t (by rw[hf];simp[ht])
   simp![];refine qwl rfl ?_;refine xY (λE1 B ds aa=>E1=[some (.no,.lst (shs.map tD)),some (.rt,sL (f1.flatMap λs=>s.map (·.1))),some (.no,tD s)]/\∃(q0 q1:Option Sd) (s1 s2:Sh),B=[q0,q1]/\ds=rwD s2/\s=s1++s2/\aa.map (·.2)=(s1.map (·.1)).map D.str) ?_ ?_ ?_
   ·simp![];exact⟨_,_,[],s,rfl,rfl,rfl,rfl⟩
   ·rintro E1 B d ds aa ⟨rfl,q0,q1,s1,s2,rfl,au,hs,ha⟩;cases s2 with
    |nil=>cases au
    |cons w s2=>
     injection au with e1 e2;subst e1 e2;simp![];exact⟨_,_,s1++[w],s2,rfl,rfl,by rw[hs];simp,by rw[Xf,ha];simp⟩
   ·rintro E1 B aa ⟨rfl,q0,q1,s1,s2,rfl,au,hs,ha⟩;have:s2=[]:=by cases s2 with|nil=>rfl|cons=>cases au
    subst this;rw[Xq]at hs;subst hs;rw[qx,ha];have e2:((f1++[s]).flatMap λs=>s.map (·.1))=(f1.flatMap λs=>s.map (·.1))++s.map (·.1):=by rw[List.flatMap_append];simp
    have e3:∀A B:List Str,sL (A++B)=.lst (A.map D.str++B.map D.str):=λA B=>by rw[sL,Xf]
    refine⟨_,_,rfl,rfl,?_,f1++[s],f2,some (.no,tD s),by rw[e2,e3];rfl,by rw[hf];simp,rfl⟩;rw[X1,X1,X1];unfold big;lia
 ·rintro E ⟨f1,f2,l2,rfl,hf,hr⟩;have:f2=[]:=by cases f2 with|nil=>rfl|cons=>cases hr
  subst this;rw[Xq]at hf;subst hf;simp![]
  first|trivial|exact⟨(),trivial⟩|exact⟨(),rfl,trivial⟩
theorem qxk:∀ds:List D,wqb (.lst (ds.map λ_=>D.bl true))=some (.bl true):=by
 have h:∀ds:List D,bls (ds.map λ_=>D.bl true)=some (ds.map λ_=>true):=by
  intro ds
  induction ds with|nil=>rfl|cons d ds ih=>rw[List.map_cons,bls,ih];rfl
 intro ds;show(bls (ds.map λ_=>D.bl true)).map _=_;rw[h];simp
def k5(shs bs:List Sh)(ss:List Str)(b:Sh):D:=.tup [.int (nk b),.bl (decide (b∈shs)),.lst (xq bs ss b)]
theorem vwo(bs:List Sh):∀k:Nat,xQ k (bs.map tD)=(bs.zipIdx k).map λp=>.tup [.int p.2,tD p.1]:=by
 induction bs with
 |nil=>intro k;rfl
 |cons b bs ih=>
  intro k;rw[List.map_cons,xQ,ih,List.zipIdx_cons];rfl
theorem jza{ss:List Str}{a7:List Sh}(hs:ss.length<=3)(hl:a7.length<=11)(h5:∀w∈a7,w.length<=5)(hsg:∀w∈a7,∀p∈w,p.1∈ss)(h3:∀w∈a7,nk (shW w)<=3):
  Oo m_plain_by [(.no,sL ss),(.no,.lst (a7.map lD))] (λy=>∃bs,y=(.no,vz ss (bs.map (k5 (a7.map shW) bs ss)))/\Beg (a7.map shW) bs) noX:=by
 have rj:∀s∈a7.map shW,s.length<=5:=λs hs=>by obtain⟨w,hw,rfl⟩:=aE hs;rw[J3];exact h5 w hw
 have shl:(a7.map shW).length<=11:=by rw[X1];exact hl
 have shg:∀s∈a7.map shW,∀p∈s,p.1∈ss:=λs hs p hp=>by
  obtain⟨w,hw,rfl⟩:=aE hs;unfold shW at hp;obtain⟨q,hq,rfl⟩:=aE hp;exact hsg w hw q hq
 have sh3:∀s∈a7.map shW,nk s<=3:=λs hs=>by obtain⟨w,hw,rfl⟩:=aE hs;exact h3 w hw
 unfold m_plain_by;refine kY ?_;simp![];refine xY (λE1 B ds aa=>E1=[some (.no,sL ss),some (.no,.lst (a7.map lD)),none,none,none]/\∃(q0:Option Sd) (r1 r2:List Sh),B=[q0]/\ds=r2.map lD/\a7=r1++r2/\aa.map (·.2)=(r1.map shW).map tD) ?_ ?_ ?_
 ·simp![];exact⟨_,[],a7,rfl,rfl,rfl,rfl⟩
 ·rintro E1 B d ds aa ⟨rfl,q0,r1,r2,rfl,au,hr,ha⟩;cases r2 with
  |nil=>cases au
  |cons w r2=>
   injection au with e1 e2;subst e1 e2;have hw:=h5 w (by rw[hr];simp);simp![];refine(qzb w ⋯).via ?_;rintro _ rfl;simp![vqc (o:=.no) (xs:=rwD (shW w)) ⋯];exact⟨_,r1++[w],r2,rfl,rfl,by rw[hr];simp,by rw[Xf,ha];simp⟩
 rintro E1 B aa ⟨rfl,q0,r1,r2,rfl,au,hr,ha⟩;have:r2=[]:=by cases r2 with|nil=>rfl|cons=>cases au
 subst this;rw[Xq]at hr;subst hr;rw[qx,ha];simp only[wY,back,clr,at',List.drop,List.map_cons,List.map_nil,List.set_cons_zero,List.set_cons_succ];generalize hS:a7.map shW=shs at rj shl shg sh3;simp![];refine K8 [some (.no,sL ss)] (λ_ y=>y.2=.bl true) ?_;simp![];refine(qz9 shl rj).use ?_;intro _ _;simp![];refine⟨rfl,λd hd=>?_,λys hy=>?_⟩
 ·obtain⟨z,hz,rfl⟩:=aE hd;obtain⟨s,gq,hz⟩:=List.mem_flatMap.mp hz;obtain⟨p,hp,rfl⟩:=aE hz;have:(ss.any λw=>w==p.1)=true:=List.any_eq_true.mpr ⟨p.1,shg s gq p hp,beq_self_eq_true _⟩;simp![in_s,this];exact⟨⟨_,rfl⟩,trivial⟩
 rw[qx,K1 (h:=λ_=>.bl true) (λ_ _ h=>h) hy];simp only[back,clr,at',List.map_cons,List.map_nil,List.set_cons_zero,List.set_cons_succ];simp![qxk];refine K8 [] (λ_ y=>y.2=.bl true) ?_;simp![];refine⟨λd hd=>?_,λys hy=>?_⟩
 ·obtain⟨s,gq,rfl⟩:=aE hd;simp![];refine(jxx s (by have:=rj s gq;lia)).use ?_;intro _ _;have:fLe (.int (nk s)) (.int 3)=some (.bl true):=by rw[le_ii,Xb (by have:=sh3 s gq;lia)]
  simp![this];exact⟨⟨_,rfl⟩,trivial⟩
 rw[qx,K1 (h:=λ_=>.bl true) (λ_ _ h=>h) hy];simp only[back,clr];simp![qxk];refine(kq6 shl rj).use ?_;intro bs hB;simp![];refine xY (λE1 B ds aa=>E1=[some (.no,sL ss),some (.no,.lst (a7.map lD)),some (.no,.lst (shs.map tD)),some (.no,.lst (bs.map tD)),none]/\∃(q0 q1:Option Sd) (r1 r2:List (Sh×Nat)),B=[q0,q1]/\ds=(r2.map λp=>.tup [.int p.2,tD p.1])/\bs.zipIdx=r1++r2/\aa.map (·.2)=r1.map λp=>.tup [tD p.1,.int p.2]) ?_ ?_ ?_
 ·simp![↓w_itEn,vwo];exact⟨_,_,[],bs.zipIdx,rfl,rfl,rfl,rfl⟩
 ·rintro E1 B d ds aa ⟨rfl,q0,q1,r1,r2,rfl,au,hr,ha⟩;cases r2 with
  |nil=>cases au
  |cons p r2=>
   injection au with e1 e2;subst e1 e2;simp![];exact⟨_,_,r1++[p],r2,rfl,rfl,by rw[hr];simp,by rw[Xf,ha];simp⟩
 rintro E1 B aa ⟨rfl,q0,q1,r1,r2,rfl,hds2,hr,ha2⟩;have:r2=[]:=by cases r2 with|nil=>rfl|cons=>cases hds2
 subst this;rw[Xq]at hr;subst hr;rw[qx,ha2];simp only[wY,back,clr,at',List.drop,List.map_cons,List.map_nil,List.set_cons_zero,List.set_cons_succ];have hbs5:∀b∈bs,b.length<=5:=λb hb=>by
  have:=(hB.mem b).mp hb;rcases aD this with rfl|h
  ·simp
  ·obtain⟨s,gq,h⟩:=List.mem_flatMap.mp h;unfold pre at h;obtain⟨k,_,rfl⟩:=aE h;rw[Y5];have:=rj s gq;lia
 simp![vwr (o:=.no) hB.nd hB.len,ZX (o:=.no) (xs:=ss.map D.str) ⋯];refine xY (λE1 B ds aa=>∃(q0:Option Sd) (o1 o2 o3:Own) (r1 r2:List Sh),B=[q0,some (o1,.lst (shs.map tD)),some (o2,sL ss),some (o3,z3 bs)]/\ds=r2.map tD/\bs=r1++r2/\aa.map (·.2)=r1.map (k5 shs bs ss)) ?_ ?_ ?_
 ·simp![];exact⟨_,_,_,_,[],bs,rfl,rfl,rfl,rfl⟩
 ·rintro E1 B d ds aa ⟨q0,o1,o2,o3,r1,r2,rfl,au,hr,ha⟩;cases r2 with
  |nil=>cases au
  |cons b r2=>
   injection au with e1 e2;subst e1 e2;have hb5:=hbs5 b (by rw[hr];simp);simp![];refine(jxx b ⋯).use ?_;intro _ _;simp![www];refine(qz0 (bs:=bs) (ss:=ss) (b:=b) ⋯ hs).use ?_;intro _ _;simp![];exact⟨_,_,_,_,r1++[b],r2,rfl,rfl,by rw[hr];simp,by rw[Xf,ha];simp[k5]⟩
 ·rintro E1 B aa ⟨q0,o1,o2,o3,r1,r2,rfl,au,hr,ha⟩;have:r2=[]:=by cases r2 with|nil=>rfl|cons=>cases au
  subst this;rw[Xq]at hr;subst hr;rw[qx,ha];unfold qw;rw[qwn];exact⟨bs,rfl,hB⟩
theorem vkr(b:List Int):∀a:List Int,∃m,ddI (a++b)=ddI a++m:=by
 induction b with
 |nil=>intro a;exact⟨[],by simp⟩
 |cons y b ih=>
  intro a;rw[show a++y::b=(a++[y])++b by simp];obtain⟨m,e⟩:=ih (a++[y]);rw[e,xw]
  split
  ·exact⟨m,rfl⟩
  ·exact⟨y::m,by simp⟩
theorem vjn{a:List Int}{x:Int}(h:x∈a):x∈ddI a:=qwu a [] x (.inr h)
theorem vwi{S m:List Int}{n:Int}(h:n∈S):idx (S++m) n=idx S n:=by
 unfold idx;rw[List.idxOf_append,X6 h]
theorem kw8(w:Sh)(e:Nat):(shW w).take e=shW (w.take e):=by
 unfold shW;rw[<-List.map_take];refine Yj λp hp=>?_
 have hm:p.2∈ns2 (w.take e):=List.mem_map.mpr ⟨p,hp,rfl⟩;obtain⟨m,hmm⟩:=vkr (ns2 (w.drop e)) (ns2 (w.take e));rw[show ns2 w=ns2 (w.take e)++ns2 (w.drop e)by rw[<-Xf,Z9],hmm,vwi (vjn hm)]
theorem Kx(f:Sh)(x:Str×Int):shW (f++[x])=shW f++[(x.1,idx (ddI (ns2 f++[x.2])) x.2)]:=YW (by rw[jxt,rwD,rwD,Xf];rfl)
theorem vkm{S:List Int}{x:Int}(h:x∈S):idx S x<S.length:=by
 have:=Yg h;unfold idx;lia
theorem kxa{S:List Int}{x:Int}(h:x∉S):idx (S++[x]) x=S.length:=by
 unfold idx;rw[List.idxOf_append,X8 h];simp
theorem kwd{P:Sh->Prop}(h0:P [])(h1:∀f x,P f->P (f++[x]))(w:Sh):P w:=by
 have:∀r:Sh,P r.reverse:=by
  intro r
  induction r with|nil=>exact h0|cons x r ih=>rw[List.reverse_cons];exact h1 _ x ih
 have e:=this w.reverse
 rwa [List.reverse_reverse]at e
theorem vws(w:Sh):ddI (ns2 (shW w))=(List.range (ddI (ns2 w)).length).map λ(k:Nat)=>(k:Int):=by
 refine kwd (P:=λw=>ddI (ns2 (shW w))=(List.range (ddI (ns2 w)).length).map λ(k:Nat)=>(k:Int)) rfl (λf x ih=>?_) w
 ·have e1:ns2 (shW (f++[x]))=ns2 (shW f)++[idx (ddI (ns2 f++[x.2])) x.2]:=by rw[Kx,ns2,Xf];rfl
  have e2:ns2 (f++[x])=ns2 f++[x.2]:=by rw[ns2,Xf];rfl
  rw[e1,e2,xw,ih]
  by_cases h:x.2∈ddI (ns2 f)
  ·have e3:ddI (ns2 f++[x.2])=ddI (ns2 f):=by rw[xw,X6 h]
   rw[e3,X6];exact List.mem_map.mpr ⟨(ddI (ns2 f)).idxOf x.2,List.mem_range.mpr (Yg h),rfl⟩
  ·have e3:ddI (ns2 f++[x.2])=ddI (ns2 f)++[x.2]:=by rw[xw,X8 h]
   rw[e3,kxa h,X8,Xp,Yz,List.range_succ,Xf]
   ·rfl
   ·intro z;obtain⟨k,hk,e⟩:=aE z;have:=List.mem_range.mp hk;lia
theorem J6(w:Sh):nk (shW w)=(ddI (ns2 w)).length:=by unfold nk;rw[vws,X1,Xu]
theorem vvp(w:Sh)(z:Str){k:Nat}(hk:k<=nk (shW w)):nk (shW w++[(z,(k:Int))])=nk (shW w)+if k=nk (shW w)then 1 else 0:=by
 have e1:ns2 (shW w++[(z,(k:Int))])=ns2 (shW w)++[(k:Int)]:=by rw[ns2,Xf];rfl
 show(ddI (ns2 (shW w++[(z,(k:Int))]))).length=_;rw[e1,xw];have hm:(k:Int)∈ddI (ns2 (shW w))↔k<nk (shW w):=by
  rw[vws,J6];constructor
  ·intro h;obtain⟨j,hj,e⟩:=aE h;have:=List.mem_range.mp hj;lia
  ·exact λh=>List.mem_map.mpr ⟨k,List.mem_range.mpr h,rfl⟩
 by_cases h:k=nk (shW w)
 ·rw[X8 (λz=>by have:=hm.mp z;lia),X6 h,Xp];rfl
 ·rw[X6 (hm.mpr ⋯),X8 h];rfl
structure BegW (a7 bs:List Sh)(ss:List Str):Prop where
 nd:bs.Nodup
 hd:bs[0]?=some []
 sh:∀b∈bs,∃w,b=shW w
 cl:∀(f:Sh) (x:Str×Int),shW (f++[x])∈bs->shW f∈bs/\x.1∈ss
 all:∀w∈a7,shW w∈bs
 n3:∀b∈bs,nk b<=3
theorem vvo(w:Sh)(e:Nat):nk (shW (w.take e))<=nk (shW w):=by
 rw[J6,J6];obtain⟨m,hmm⟩:=vkr (ns2 (w.drop e)) (ns2 (w.take e));rw[show ns2 w=ns2 (w.take e)++ns2 (w.drop e)by rw[<-Xf,Z9],hmm,Xp];lia
theorem begw{a7 bs:List Sh}{ss:List Str}(h:Beg (a7.map shW) bs)(hsg:∀w∈a7,∀p∈w,p.1∈ss)(h3:∀w∈a7,nk (shW w)<=3):BegW a7 bs ss:=by
 have mem:∀b,b∈bs↔b=[]\/∃w∈a7,∃e,b=shW (w.take e):=λb=>by
  rw[h.mem b];unfold qv;rw[Xz];refine or_congr Iff.rfl ⟨λz=>?_,λz=>?_⟩
  ·obtain⟨s,hs,z⟩:=List.mem_flatMap.mp z;obtain⟨w,hw,rfl⟩:=aE hs;unfold pre at z;obtain⟨e,_,rfl⟩:=aE z;exact⟨w,hw,e,kw8 w e⟩
  ·obtain⟨w,hw,e,rfl⟩:=z;refine List.mem_flatMap.mpr ⟨shW w,List.mem_map.mpr ⟨w,hw,rfl⟩,?_⟩;unfold pre;refine List.mem_map.mpr ⟨min e w.length,List.mem_range.mpr (by rw[J3];lia),?_⟩;rw[kw8]
   congr 1
   by_cases he:e<=w.length
   ·rw[Nat.min_eq_left he]
   ·rw[Nat.min_eq_right ⋯,Zk,Zh ⋯]
 refine⟨h.nd,h.hd,λb hb=>?_,λf x hx=>?_,λw hw=>?_,λb hb=>?_⟩
 ·rcases(mem b).mp hb with rfl|⟨w,_,e,rfl⟩
  ·exact⟨[],rfl⟩
  ·exact⟨_,rfl⟩
 ·rcases(mem _).mp hx with z|⟨w,hw,e,z⟩
  ·rw[Kx]at z;simp at z
  ·have e2:shW f=shW ((w.take e).take f.length):=by
    rw[<-kw8,<-z,Kx,List.take_left' (J3 f)]
   refine⟨(mem _).mpr (.inr ⟨w,hw,min f.length e,by rw[e2,List.take_take]⟩),?_⟩;rw[Kx]at z;have hm:(x.1,idx (ddI (ns2 f++[x.2])) x.2)∈shW (w.take e):=by rw[<-z];simp
   unfold shW at hm;obtain⟨p,hp,e3⟩:=aE hm;have:=hsg w hw p (List.mem_of_mem_take hp);rw[show x.1=p.1 from(congrArg Prod.fst e3).symm];exact this
 ·exact(mem _).mpr (.inr ⟨w,hw,w.length,by rw[Zk]⟩)
 ·rcases(mem b).mp hb with rfl|⟨w,hw,e,rfl⟩
  ·decide
  ·exact Yn (vvo w e) (h3 w hw)
section
variable {a7 bs shs:List Sh}{ss:List Str}
abbrev kpB(bs:List Sh):List Int:=bs.map λb=>(nk b:Int)
theorem wko{bs:List Sh}{b:Sh}(h:b∈bs):(kpB bs).getD (bs.idxOf b) 0=nk b:=by
 have hl:=Yg h;rw[Xr,Xe,X2 hl,List.getElem_idxOf];rfl
theorem wxg(h:BegW a7 bs ss){b:Sh}(hb:b∈bs){z:Str}{k:Nat}(hk:k<=nk b):Cs (kpB bs) (KZ (nk b) k) (z7 bs (b++[(z,(k:Int))])):=by
 unfold z7
 split
 rotate_left
 ·exact .inl rfl
 rename_i hx;obtain⟨w,rfl⟩:=h.sh b hb;have hn:=vvp w z hk;have hl:=Yg hx;refine .inr ⟨_,(List.range (nk (shW w++[(z,(k:Int))]))).map (λ(k:Nat)=>(k:Int)),by rw[Xh];rfl,⋯,by rw[X1];lia,λf hf=>?_,?_,?_⟩
 ·obtain⟨j,hj,rfl⟩:=aE hf;have:=List.mem_range.mp hj;unfold KZ
  by_cases e:k=nk (shW w)
  ·rw[X6 e]at hn;rw[X6 ⋯];lia
  ·rw[X8 e]at hn;rw[X8 ⋯];lia
 ·rw[Z2,Yc];exact(List.nodup_iff_pairwise_ne.mp List.nodup_range).imp λh e=>h ⋯
 ·rw[X1,Xu,Xy,wko hx]
theorem vk6(h:BegW a7 bs ss):Prs (kpB bs) ss.length (bs.map (k5 shs bs ss)):=by
 refine⟨by rw[X1,X1],λi hi=>?_⟩;rw[X1]at hi;have hb:=Y2 hi;refine⟨k5 shs bs ss bs[i],by rw[Xe,X2 hi];rfl,decide (bs[i]∈shs),xq bs ss bs[i],?_,by unfold xq;rw[X1],λc hc=>?_⟩
 ·rw[Xr,Xe,X2 hi];rfl
 ·have e:(kpB bs).getD i 0=nk bs[i]:=by rw[Xr,Xe,X2 hi];rfl
  rw[e];unfold xq at hc;obtain⟨z,_,rfl⟩:=aE hc;refine⟨_,rfl,by rw[X1,Xu];lia,λk hk=>?_⟩;rw[X1,Xu]at hk;exact⟨_,by rw[Xe,List.getElem?_range hk];rfl,wxg h hb ⋯⟩
theorem qv6{ks:List Int}{c:Int}{m:Nat}(h:m<=ks.length+1):((List.range m).map λ(k:Nat)=>(k:Int)).map (C.nameAt ks c)=(ks++[c]).take m:=by
 refine List.ext_getElem? λi=>?_
 rw[Xh,Xe]
 by_cases hi:i<m
 ·rw[List.getElem?_range hi,List.getElem?_take,X6 hi];show some (C.nameAt ks c (i:Int))=_;unfold C.nameAt;have hl:i<(ks++[c]).length:=by rw[Xp,Yz];lia
  rw[Xy,Xr,X2 hl];rfl
 ·rw[Yi (by rw[Xu];lia),List.getElem?_take,X8 hi];rfl
theorem vk1(h:BegW a7 bs ss)(w:Sh):U.run ss (bs.map (k5 shs bs ss)) U.S0 w=if shW w∈bs then some (((bs.idxOf (shW w):Nat):Int),ddI (ns2 w))else none:=by
 refine kwd (P:=λw=>U.run ss (bs.map (k5 shs bs ss)) U.S0 w=if shW w∈bs then some (((bs.idxOf (shW w):Nat):Int),ddI (ns2 w))else none) ?_ (λf x ih=>?_) w
 ·have h0:([]:Sh)∈bs:=Xv h.hd;have e0:bs.idxOf ([]:Sh)=0:=by
   have h1:=h.hd;cases bs with|nil=>cases h1|cons b bs=>cases oq9 h1;simp
  show U.S0=if([]:Sh)∈bs then _ else _
  rw[X6 h0,show shW []=([]:Sh)from rfl,e0];rfl
 ·have e1:U.run ss (bs.map (k5 shs bs ss)) U.S0 (f++[x])=J.rdF ss (bs.map (k5 shs bs ss)) (U.run ss (bs.map (k5 shs bs ss)) U.S0 f) x.1 x.2:=by
   unfold U.run;rw[Ze];rfl
  rw[e1,ih]
  by_cases hb:shW f∈bs
  rotate_left
  ·rw[X8 hb,X8 λz=>hb (h.cl f x z).1];rfl
  rw[X6 hb];have hl:=Yg hb;have pj:(bs.map (k5 shs bs ss))[((bs.idxOf (shW f):Nat):Int).toNat]?=some (k5 shs bs ss (shW f)):=by
   rw[Xy,Xe,X2 hl,List.getElem_idxOf];rfl
  unfold J.rdF;dsimp only;rw[pj];unfold k5;dsimp only;unfold JK
  by_cases hz:(ss.any λw=>w==x.1)=true
  rotate_left
  ·rw[X8 hz,X8 λz=>hz (List.any_eq_true.mpr ⟨x.1,(h.cl f x z).2,beq_self_eq_true _⟩)];rfl
  rw[X6 hz];have hkl:(ddI (ns2 f)).length=nk (shW f):=(J6 f).symm;obtain⟨j,hj⟩:∃j,j=(ddI (ns2 f)).findIdx λw=>w==x.2:=⟨_,rfl⟩
  have hjl:j<=nk (shW f):=by rw[hj,<-hkl];exact List.findIdx_le_length
  have e2:ns2 (f++[x])=ns2 f++[x.2]:=by rw[ns2,Xf];rfl
  have key:(j:Int)=idx (ddI (ns2 f++[x.2])) x.2/\(ddI (ns2 f)++[x.2]).take (nk (shW (f++[x])))=ddI (ns2 f++[x.2]):=by
   rw[J6,e2,xw]
   by_cases hm:x.2∈ddI (ns2 f)
   ·rw[X6 hm];exact⟨by rw[hj];rfl,List.take_left⟩
   ·rw[X8 hm,kxa hm];refine⟨?_,Zh (Xa _)⟩;rw[hj,List.findIdx_eq_length.mpr λy hy=>Ye (show y≠x.2 from λe=>hm (e▸hy))]
  have hfi:(ss.findIdx λw=>w==x.1)<ss.length:=List.findIdx_lt_length_of_exists (by obtain⟨y,hy,e⟩:=List.any_eq_true.mp hz;exact⟨y,hy,e⟩);have hsz:ss[ss.findIdx λw=>w==x.1]=x.1:=eq_of_beq (List.findIdx_getElem (w:=hfi));have hca:Jw ss (xq bs ss (shW f)) (ddI (ns2 f)) x.1 x.2=z7 bs (shW (f++[x])):=by
   unfold Jw xq;rw[Xe,X2 hfi];dsimp only[Option.map_some];rw[<-hj,Xr,Xe,List.getElem?_range ⋯,hsz,Kx,<-key.1];rfl
  rw[hca];unfold z7
  by_cases hx:shW (f++[x])∈bs
  rotate_left
  ·rw[X8 hx,X8 hx];rfl
  rw[X6 hx,X6 hx];have e3:(D.tup ((List.range (nk (shW (f++[x])))).map λ(k:Nat)=>D.int k))=iT ((List.range (nk (shW (f++[x])))).map λ(k:Nat)=>(k:Int)):=by unfold iT;rw[Xh];rfl
  have db:nk (shW (f++[x]))<=(ddI (ns2 f)).length+1:=by
   rw[J6,e2,xw]
   split
   ·lia
   ·simp
  rw[e3,caseD_is,qv6 db,key.2,e2];show some (_,((ddI (ns2 f++[x.2])).map D.int).map J.intOf)=_;rw[Xh]
  congr 2
  exact List.map_id _
end
theorem kkb{α:Type}{R:α->α->Prop}(asy:∀a b,R a b->¬R b a):∀{l m:List α},l.Pairwise R->m.Pairwise R->(∀x,x∈l↔x∈m)->l=m
 | [],[],_,_,_=>rfl| [],b::m,_,_,h=>nomatch (h b).mpr X5| a::l,[],_,_,h=>nomatch (h a).mp X5
 | a::l,b::m,h1,h2,h=>by
  obtain⟨a1,a2⟩:=List.pairwise_cons.mp h1;obtain⟨b1,b2⟩:=List.pairwise_cons.mp h2;have e:a=b:=by
   rcases aD ((h a).mp X5)with e|e
   ·exact e
   ·rcases aD ((h b).mpr X5)with e2|e2
    ·exact e2.symm
    ·exact absurd (b1 a e) (asy _ _ (a1 b e2))
  subst e;rw[kkb asy a2 b2 λx=>⟨λhx=>?_,λhx=>?_⟩]
  ·rcases aD ((h x).mp (lc9 _ hx))with e|e
   ·subst e;exact absurd (a1 _ hx) (asy _ _ (a1 _ hx))
   ·exact e
  ·rcases aD ((h x).mpr (lc9 _ hx))with e|e
   ·subst e;exact absurd (b1 _ hx) (asy _ _ (b1 _ hx))
   ·exact e
abbrev Lo(a b:Sh):Prop:=ltDs (rwD a) (rwD b)=some true
theorem qvn(a b:Sh)(h:Lo a b):¬Lo b a:=λz=>by
 unfold Lo at h z;rw[lts_asym h]at z;cases z
theorem vx7{shs mh bs cp:List Sh}(h:Beg shs bs)(h':Beg mh cp)(he:∀x,x∈shs↔x∈mh)(p:(bs.map pD).Pairwise Ls)(p':(cp.map pD).Pairwise Ls):bs=cp:=by
 have mem:∀x,x∈qv shs↔x∈qv mh:=λx=>by
  unfold qv;rw[Xz,Xz,List.mem_flatMap,List.mem_flatMap];refine or_congr Iff.rfl ⟨?_,?_⟩
  ·rintro ⟨s,h1,h2⟩;exact⟨s,(he s).mp h1,h2⟩
  ·rintro ⟨s,h1,h2⟩;exact⟨s,(he s).mpr h1,h2⟩
 rw[Yc]at p p';exact kkb (R:=λa b=>Ls (pD a) (pD b)) (λa b h z=>by
  have z:ltD (pD b) (pD a)=some true:=z;rw[jzg h]at z;cases z) p p' λx=>by rw[h.mem,h'.mem,mem]
def ons(bs:List Sh)(ss:List Str)(x:Sh):List Sh:=ss.flatMap λz=>((List.range (nk x+1)).map λ(k:Nat)=>x++[(z,(k:Int))]).filter λy=>decide (y∈bs)
def xJ(bs:List Sh)(ss:List Str):Nat->List Sh
 |0=>[[]]|n+1=>(xJ bs ss n).flatMap (ons bs ss)
theorem WZ{bs:List Sh}{ss:List Str}:∀{n:Nat} {x:Sh},x∈xJ bs ss n->x.length=n
 |0,x,h=>by
  rw[aC h];rfl
 |n+1,x,h=>by
  obtain⟨y,hy,hx⟩:=List.mem_flatMap.mp h;obtain⟨z,_,hx⟩:=List.mem_flatMap.mp hx;obtain⟨k,_,rfl⟩:=aE (List.mem_filter.mp hx).1;rw[Xp,WZ hy];rfl
theorem wke{a b:Sh}(h:Lo a b)(hl:a.length=b.length)(c d:Sh):Lo (a++c) (b++d):=by
 induction a generalizing b with
 | nil=>
  cases b with| nil=>unfold Lo ltDs at h;cases h| cons=>cases hl
 | cons x a ih=>
  cases b with
  | nil=>cases hl
  | cons y b=>
   unfold Lo at h ⊢;show ltDs (.tup [.str x.1,.int x.2]::rwD (a++c)) (.tup [.str y.1,.int y.2]::rwD (b++d))=some true;have h:ltDs (.tup [.str x.1,.int x.2]::rwD a) (.tup [.str y.1,.int y.2]::rwD b)=some true:=h;unfold ltDs at h ⊢
   by_cases e:(D.tup [.str x.1,.int x.2])=.tup [.str y.1,.int y.2]
   ·rw[X6 e]at h ⊢;exact ih h (by simpa using hl)
   ·rw[X8 e]at h ⊢;exact h
theorem qvm(a:Sh){p q:Str×Int}(h:ltD (.tup [.str p.1,.int p.2]) (.tup [.str q.1,.int q.2])=some true):Lo (a++[p]) (a++[q]):=by
 induction a with
 |nil=>
  show ltDs [.tup [.str p.1,.int p.2]] [.tup [.str q.1,.int q.2]]=some true;unfold ltDs;rw[X8 λe=>by rw[e]at h;exact qvg _ h];exact h
 |cons x a ih=>
  show ltDs (.tup [.str x.1,.int x.2]::rwD (a++[p])) (.tup [.str x.1,.int x.2]::rwD (a++[q]))=some true;unfold ltDs;rw[X6 rfl];exact ih
theorem vw1{z w:Str}(i j:Int)(h:z.cps.toList<w.cps.toList):ltD (.tup [.str z,.int i]) (.tup [.str w,.int j])=some true:=by
 unfold ltD ltDs;rw[X8 λe=>by injection e with e;rw[e]at h;exact List.lt_irrefl _ h];unfold ltD;rw[Xb h]
theorem vw2(z:Str){i j:Int}(h:i<j):ltD (.tup [.str z,.int i]) (.tup [.str z,.int j])=some true:=by
 unfold ltD ltDs;rw[X6 rfl];unfold ltDs;rw[X8 λe=>by injection e with e;lia];unfold ltD;rw[Xb h]
theorem qzz{bs:List Sh}{ss:List Str}(hs:ss.Pairwise λa b=>a.cps.toList<b.cps.toList)(x:Sh):(ons bs ss x).Pairwise Lo:=by
 unfold ons;rw[List.pairwise_flatMap];refine⟨λz _=>List.Pairwise.filter _ ?_,hs.imp fun {a b} dm y hy w hw=>?_⟩
 ·rw[Yc];exact List.pairwise_lt_range.imp λh=>qvm x (vw2 z ⋯)
 ·obtain⟨i,_,rfl⟩:=aE (List.mem_filter.mp hy).1;obtain⟨j,_,rfl⟩:=aE (List.mem_filter.mp hw).1;exact qvm x (vw1 _ _ dm)
theorem jz1{bs:List Sh}{ss:List Str}(hs:ss.Pairwise λa b=>a.cps.toList<b.cps.toList):∀n,(xJ bs ss n).Pairwise Lo
 |0=>List.pairwise_singleton _ _
 |n+1=>by
  unfold xJ;rw[List.pairwise_flatMap];refine⟨λx _=>qzz hs x,(jz1 hs n).imp_of_mem fun {a b} ha hb dm y hy w hw=>?_⟩;obtain⟨z,_,hy⟩:=List.mem_flatMap.mp hy;obtain⟨i,_,rfl⟩:=aE (List.mem_filter.mp hy).1;obtain⟨z2,_,hw⟩:=List.mem_flatMap.mp hw;obtain⟨j,_,rfl⟩:=aE (List.mem_filter.mp hw).1;exact wke dm (by rw[WZ ha,WZ hb]) _ _
theorem jxr{a7 bs:List Sh}{ss:List Str}(h:BegW a7 bs ss):∀{n:Nat} {x:Sh},x∈xJ bs ss n↔x∈bs/\x.length=n:=by
 have h0:([]:Sh)∈bs:=Xv h.hd;intro n
 induction n with
 | zero=>
  intro x;refine⟨λhx=>?_,λhx=>?_⟩
  ·rw[aC hx];exact⟨h0,rfl⟩
  ·rw[List.length_eq_zero_iff.mp hx.2];exact aB rfl
 | succ n ih=>
  intro x;refine⟨λhx=>⟨?_,WZ hx⟩,λhx=>?_⟩
  ·obtain⟨y,hy,hx⟩:=List.mem_flatMap.mp hx;obtain⟨z,_,hx⟩:=List.mem_flatMap.mp hx;exact Ys (List.mem_filter.mp hx).2
  ·obtain⟨hb,hl⟩:=hx;obtain⟨w,rfl⟩:=h.sh x hb;rw[J3]at hl;obtain⟨f,p,rfl⟩:∃f p,w=f++[p]:=⟨w.dropLast,w.getLast (λe=>by rw[e]at hl;cases hl),(List.dropLast_concat_getLast _).symm⟩;obtain⟨h1,h2⟩:=h.cl f p hb;have mq:f.length=n:=by rw[Xp]at hl;exact Zu hl
   refine List.mem_flatMap.mpr ⟨shW f,ih.mpr ⟨h1,by rw[J3];exact mq⟩,?_⟩;rw[Kx]at hb ⊢;refine List.mem_flatMap.mpr ⟨p.1,h2,List.mem_filter.mpr ⟨List.mem_map.mpr ⟨(idx (ddI (ns2 f++[p.2])) p.2).toNat,List.mem_range.mpr ?_,?_⟩,Xb hb⟩⟩
   ·have hm:p.2∈ddI (ns2 f++[p.2]):=vjn (by simp);have hi:=vkm hm;have:=qj6 [p.2] (ns2 f);rw[J6];have h0:0<=idx (ddI (ns2 f++[p.2])) p.2:=by unfold idx;lia
    simp at this;lia
   ·have h0:0<=idx (ddI (ns2 f++[p.2])) p.2:=by unfold idx;lia
    rw[Int.toNat_of_nonneg h0]
theorem vwh{n:Nat}{k:Nat}(h:k<n):idx ((List.range n).map λ(k:Nat)=>(k:Int)) (k:Int)=k:=by
 unfold idx;have:∀(n k:Nat) (f:Nat),k<n->((List.range' f n).map λ(k:Nat)=>(k:Int)).idxOf ((f+k:Nat):Int)=k:=by
  intro n
  induction n with
  | zero=>intro k f h;lia
  | succ n ih=>
   intro k f h;rw[List.range'_succ,List.map_cons,List.idxOf_cons];cases k with
   |zero=>simp
   |succ k=>
    rw[Ye (show((f:Nat):Int)≠((f+(k+1):Nat):Int)by lia)];have:=ih k (f+1) ⋯;rw[show f+1+k=f+(k+1)by lia]at this;exact congrArg (· + 1) this
 have h2:=this n k 0 h;rw[Nat.zero_add]at h2;rw[List.range_eq_range',h2]
theorem vzk(w:Sh)(z:Str){k:Nat}(hk:k<=nk (shW w))(ih:shW (shW w)=shW w):shW (shW w++[(z,(k:Int))])=shW w++[(z,(k:Int))]:=by
 rw[Kx,ih]
 congr 3
 have e:ddI (ns2 (shW w))=(List.range (nk (shW w))).map λ(k:Nat)=>(k:Int):=by rw[vws,J6]
 rw[xw,e]
 by_cases h:k<nk (shW w)
 ·rw[X6 (List.mem_map.mpr ⟨k,List.mem_range.mpr h,rfl⟩),vwh h]
 ·have hk:k=nk (shW w):=⋯
  have hn:((k:Nat):Int)∉(List.range (nk (shW w))).map λ(k:Nat)=>(k:Int):=λz=>by
   obtain⟨j,hj,e⟩:=aE z;have:=List.mem_range.mp hj;lia
  rw[X8 hn,kxa hn,X1,Xu,hk]
theorem qq3(w:Sh):shW (shW w)=shW w:=by
 refine kwd (P:=λw=>shW (shW w)=shW w) rfl (λf x ih=>?_) w;rw[Kx];have hm:x.2∈ddI (ns2 f++[x.2]):=vjn (by simp);have hi:=vkm hm;have hl:=qj6 [x.2] (ns2 f);have h0:0<=idx (ddI (ns2 f++[x.2])) x.2:=by unfold idx;lia
 rw[Yz]at hl;obtain⟨k,hk⟩:=Zf h0;rw[hk]at hi ⊢;exact vzk f x.1 (by rw[J6];lia) ih
end V
namespace W3
open Q PySem C
abbrev AZ:Str:="abcdefghijklmnopqrstuvwxyz"
def Sg(z:Str):Prop:=1<=z.cps.size/\z.cps.size<=8/\∀c∈z.cps.toList,c∈AZ.cps.toList
theorem kqw{n:Nat}{f:Nat->Str}(h:∀i j,i<j->j<n->f i≠f j):((List.range n).map f).Nodup:=by
 unfold List.Nodup;rw[Yc];exact List.pairwise_lt_range.imp_of_mem λ_ hj b7=>h _ _ b7 (List.mem_range.mp hj)
theorem vzg{z:Str}{j:Int}(h0:0<=j)(h1:j<=z.cps.size):(Txt.slice z none (some j)).cps.toList=z.cps.toList.take j.toNat:=by
 have:=StrLaws.sliceText_to (x:=z) (j:=j) ⟨h0,by rw[X7];exact h1⟩;rw[show Txt.slice z none (some j)=StrLaws.sliceText z none (some j)from rfl,this];simp
theorem vzi{z:Str}{i j:Int}(h0:0<=i)(ji:i<=j)(h1:j<=z.cps.size):(Txt.slice z (some i) (some j)).cps.toList=(z.cps.toList.drop i.toNat).take (j - i).toNat:=by
 have:=StrLaws.sliceText_plain (x:=z) (i:=i) (j:=j) ⟨h0,ji,by rw[X7];exact h1⟩;rw[show Txt.slice z (some i) (some j)=StrLaws.sliceText z (some i) (some j)from rfl,this]
def chr(t:Int):Nat:=AZ.cps.toList.getD t.toNat 0
theorem wkx{t:Int}(h0:0<=t)(h1:t<26):kq (.str AZ) (.int t)=some (.str ⟨#[chr t]⟩)/\chr t∈AZ.cps.toList:=by
 have hl:AZ.cps.toList.length=26:=by decide +kernel
 have hs:AZ.cps.size=26:=by decide +kernel
 have e:AZ.cps.toList[t.toNat]?=some (chr t):=by
  unfold chr;rw[Xr,X2 ⋯];rfl
 refine⟨?_,Xv e⟩;show((Q.ixN AZ.cps.size t).bind λj=>(AZ.cps.toList[j]?).map λc=>D.str ⟨#[c]⟩)=_;unfold Q.ixN;rw[X6 h0,X6 ⋯];show((AZ.cps.toList[t.toNat]?).map λc=>D.str ⟨#[c]⟩)=_;rw[e];rfl
theorem vwx{t u:Int}(h0:0<=t)(h1:t<26)(g0:0<=u)(g1:u<26)(e:chr t=chr u):t=u:=by
 have h:∀i:Fin 26,∀j:Fin 26,AZ.cps.toList.getD i 0=AZ.cps.toList.getD j 0->i=j:=by decide +kernel
 have:=h ⟨t.toNat,⋯⟩ ⟨u.toNat,⋯⟩ e;have:=congrArg Fin.val this;have:t.toNat=u.toNat:=this;lia
def wdA(z:Str)(c:Int)(k:Nat):Str:=Txt.slice z none (some (1+((k:Int)+c / 3) % 8))
theorem qkl{z:Str}{c:Int}(hz:z.cps.size=8)(hl:∀x∈z.cps.toList,x∈AZ.cps.toList)(k:Nat):Sg (wdA z c k)/\((wdA z c k).cps.size:Int)=1+((k:Int)+c / 3) % 8:=by
 have t0:=Y3 ((k:Int)+c / 3) (show(8:Int)≠0 by decide);have t1:=Xx ((k:Int)+c / 3) (show(0:Int)<8 by decide);have e:=vzg (z:=z) (j:=1+((k:Int)+c / 3) % 8) ⋯ ⋯;have hs:((wdA z c k).cps.size:Int)=1+((k:Int)+c / 3) % 8:=by
  unfold wdA;rw[<-X7,e,Y5,X7];lia
 refine⟨⟨⋯,⋯,λx hx=>hl x ?_⟩,hs⟩;unfold wdA at hx;rw[e]at hx;exact List.mem_of_mem_take hx
theorem qkm{z:Str}{c:Int}(hz:z.cps.size=8)(hl:∀x∈z.cps.toList,x∈AZ.cps.toList){n:Nat}(hn:n<=3):((List.range n).map (wdA z c)).Nodup:=kqw λi j ji hj e=>by
 have h1:=(qkl (c:=c) hz hl i).2;have h2:=(qkl (c:=c) hz hl j).2;rw[e]at h1;lia
def wdB(w1 w2:Str)(ii s:Int)(k:Nat):Str:=w1++⟨#[chr ((ii+(k:Int)*s) % 26)]⟩++w2
theorem jxq(w1 w2:Str)(ii s:Int)(k:Nat):(wdB w1 w2 ii s k).cps.toList=w1.cps.toList++(chr ((ii+(k:Int)*s) % 26)::w2.cps.toList):=by
 unfold wdB;rw[A.list_app,A.list_app,Y4];rfl
theorem vxt{w1 w2:Str}{ii s:Int}(hs:w1.cps.size+w2.cps.size<=7)(h1:∀x∈w1.cps.toList,x∈AZ.cps.toList)(h2:∀x∈w2.cps.toList,x∈AZ.cps.toList)(k:Nat):Sg (wdB w1 w2 ii s k):=by
 have t0:=Y3 (ii+(k:Int)*s) (show(26:Int)≠0 by decide);have t1:=Xx (ii+(k:Int)*s) (show(0:Int)<26 by decide);have hz:(wdB w1 w2 ii s k).cps.size=w1.cps.size+w2.cps.size+1:=by
  rw[<-X7,jxq,Xp,Xk,X7,X7];lia
 refine⟨⋯,⋯,λx hx=>?_⟩;rw[jxq]at hx;rcases aA hx with hx|hx
 ·exact h1 x hx
 ·rcases aD hx with rfl|hx
  ·exact(wkx t0 t1).2
  ·exact h2 x hx
theorem qkk{w1 w2:Str}{ii s:Int}(s1:1<=s)(s5:s<=5){n:Nat}(hn:n<=3):((List.range n).map (wdB w1 w2 ii s)).Nodup:=kqw λi j ji hj e=>by
 have e:(wdB w1 w2 ii s i).cps.toList=(wdB w1 w2 ii s j).cps.toList:=by rw[e]
 rw[jxq,jxq]at e;have e:=List.append_cancel_left e;injection e with e _;have b:=λk:Nat=>Y3 (ii+(k:Int)*s) (show(26:Int)≠0 by decide)
 have d:=λk:Nat=>Xx (ii+(k:Int)*s) (show(0:Int)<26 by decide)
 have e:=vwx (b i) (d i) (b j) (d j) e;have hi:i=0\/i=1:=⋯
 have hj:j=1\/j=2:=⋯
 rcases hi with rfl|rfl<;>rcases hj with rfl|rfl<;>lia
def hW(f:Nat->Str):D->D
 |.int k=>.str (f k.toNat)|d=>d
theorem qk6{G:D->Sd->Prop}{f:Nat->Str}{n:Int}{ys:List Sd}(hG:∀d y,G d y->y.2=hW f d)(h:Each G (jV 0 n) ys):ys.map (·.2)=((List.range n.toNat).map f).map D.str:=by
 rw[K1 (h:=hW f) hG h];unfold jV;rw[Xh,Xh,Int.sub_zero]
 congr 1
 funext k;show D.str (f (0+(k:Int)).toNat)=_;rw[show(0+(k:Int)).toNat=k by lia];rfl
theorem words2(c gb:Int)(h0:1<=gb)(h1:gb<=3):Oo A.m__law_words [(.no,.int c),(.no,.int gb)] (λy=>∃l,y=(.rt,sL l)/\(l.length:Int)=gb/\l.Nodup/\∀z∈l,Sg z) noX:=by
 unfold A.m__law_words;refine kY ?_;simp![↓vxu];refine K8 [some (.dp,.str AZ),some (.no,.int c)] (λ_ y=>∃ch∈AZ.cps.toList,y.2=.str ⟨#[ch]⟩) ?_;simp![];refine⟨rfl,λd hd=>?_,λys hys=>?_⟩
 ·obtain⟨j,j0,j1,rfl⟩:=kx1 hd;simp![];refine(A.mixed_ok c j j0 ⋯).use ?_;intro v _;have t0:=Y3 v (show(26:Int)≠0 by decide);have t1:=Xx v (show(0:Int)<26 by decide);obtain⟨ch,dh,hc⟩:=A.ix_strM AZ (v % 26) t0 t1;simp![hc];exact⟨⟨_,rfl⟩,ch,dh,rfl⟩
 obtain⟨ps,g1,g2,g3⟩:=A.each_one (λd y h=>h) hys;have bn:ps.length=8:=by rw[g2];rfl
 obtain⟨z,hz,z0,z1⟩:=A.join_az g3 ⋯;rw [qx,g1];simp only[back,clr,at',List.map_cons,List.map_nil,List.set_cons_zero,List.set_cons_succ];have zs:z.cps.size<=100:=⋯
 have z8:z.cps.size=8:=⋯
 by_cases h3:c % 3=1
 ·have hd:fEq (.int (c % 3)) (.int 1)=some (.bl true):=by rw[h3];rfl
  simp![hz,hd];refine K8 [some (.dp,.str z),some (.no,.int c)] (λd y=>y.2=hW (wdA z c) d) ?_;simp![];refine⟨rfl,λd hd=>?_,λys hys=>?_⟩
  ·obtain⟨j,j0,j1,rfl⟩:=kx1 hd;have s1:=B.sl_s (o:=.no) (z:=z) (lo:=none) (hi:=some (1+(j+c / 3) % 8)) zs;have s1':=B.sl_s (o:=.dp) (z:=z) (lo:=none) (hi:=some (1+(j+c / 3) % 8)) zs;simp![s1,s1'];refine⟨⟨_,rfl⟩,?_⟩;show _=D.str (wdA z c j.toNat);unfold wdA;rw[show((j.toNat:Nat):Int)=j by lia]
  ·rw[qx,qk6 (λ_ _ h=>h) hys];exact⟨_,rfl,by rw[X1,Xu];lia,qkm z8 z1 ⋯,λw hw=>by
    obtain⟨k,_,rfl⟩:=aE hw;exact(qkl z8 z1 k).1⟩
 ·have hd:fEq (.int (c % 3)) (.int 1)=some (.bl false):=by rw[WX];simp[h3]
  have a0:=Y3 (c / 3) (show(8:Int)≠0 by decide);have a1:=Xx (c / 3) (show(0:Int)<8 by decide);have b0:=Y3 (c / 24) (show 1+c / 3 % 8≠0 by lia);have b1:=Xx (c / 24) (show 0<1+c / 3 % 8 by lia);simp![hz,hd,mod_i (a:=c / 24) (b:=1+c / 3 % 8) ⋯];generalize c / 24 % (1+c / 3 % 8)=at_ at b0 b1;obtain⟨lg,hlg⟩:∃lg,lg=1+c / 3 % 8:=⟨_,rfl⟩;rw[<-hlg]at b1 ⊢;have c0:=Y3 (c / 192) (show(5:Int)≠0 by decide);have c1:=Xx (c / 192) (show(0:Int)<5 by decide);obtain⟨ch,dh,hix⟩:=A.ix_strM z at_ b0 ⋯;obtain⟨ii,hii⟩:=A.az_found ch (z1 ch dh);have e1:=vzg (z:=z) (j:=at_) b0 ⋯;have e2:=vzi (z:=z) (i:=at_+1) (j:=lg) ⋯ ⋯ ⋯;have s1:=λo=>B.sl_s (o:=o) (z:=z) (lo:=none) (hi:=some at_) zs
  have s2:=λo=>B.sl_s (o:=o) (z:=z) (lo:=some (at_+1)) (hi:=some lg) zs
  generalize Txt.slice z none (some at_)=w1 at e1 s1;generalize Txt.slice z (some (at_+1)) (some lg)=w2 at e2 s2;have n1:(w1.cps.size:Int)=at_:=by rw[<-X7,e1,Y5,X7];lia
  have n2:(w2.cps.size:Int)=lg - (at_+1):=by rw[<-X7,e2,Y5,Zj,X7];lia
  have v1:∀x∈w1.cps.toList,x∈AZ.cps.toList:=λx hx=>z1 x (by rw[e1]at hx;exact List.mem_of_mem_take hx)
  have v2:∀x∈w2.cps.toList,x∈AZ.cps.toList:=λx hx=>z1 x (by rw[e2]at hx;exact List.mem_of_mem_drop (List.mem_of_mem_take hx))
  refine x4 (λE ab=>∃(j:Nat) (l7 l8:Option Sd) (o2 o3 o4 o5:Own),E=[some (.no,.int c),some (.no,.int gb),some (o2,.str AZ),some (o3,.str z),some (o4,.int lg),some (o5,.int at_),some (.rt,sL ((List.range j).map (wdB w1 w2 ii (1+c / 192 % 5)))),l7,l8]/\(j:Int)<=gb/\ab=jV j gb) ?_ ?_ ?_
  ·simp![];exact⟨0,_,_,_,_,_,_,rfl,⋯,rfl⟩
  ·rintro E d ds ⟨j,l7,l8,o2,o3,o4,o5,rfl,j1,hr⟩;obtain⟨hj,rfl,rfl⟩:=V2 j1 hr;have m1:=mul_l (o1:=.no) (o2:=.no) (a:=(j:Int)) (b:=1+c / 192 % 5) ⋯ ⋯;have t0:=Y3 ((ii:Int)+j*(1+c / 192 % 5)) (show(26:Int)≠0 by decide);have t1:=Xx ((ii:Int)+j*(1+c / 192 % 5)) (show(0:Int)<26 by decide);simp![↓vxw,hix,hii,m1,show kzw (.str AZ)=true from rfl];have hx:=(wkx t0 t1).1;have gq:((⟨#[chr (((ii:Int)+j*(1+c / 192 % 5)) % 26)]⟩:Str).cps.size)=1:=rfl;have a1:=qxl (o1:=.no) (o2:=.no) (a:=w1) (b:=⟨#[chr (((ii:Int)+j*(1+c / 192 % 5)) % 26)]⟩) (by rw[gq];lia);have a2:=qxl (o1:=.no) (o2:=.no) (a:=w1++⟨#[chr (((ii:Int)+j*(1+c / 192 % 5)) % 26)]⟩) (b:=w2) (by rw[qz8,gq];lia);have a1':=qxl (o1:=.no) (o2:=sub o2) (a:=w1) (b:=⟨#[chr (((ii:Int)+j*(1+c / 192 % 5)) % 26)]⟩) (by rw[gq];lia);refine zW rfl ?_;simp![s1,s2,hx,a1,a2,a1'];refine⟨_,rfl,by rw[X1,X1,Xu];lia,?_⟩;rw[show((List.range j).map (wdB w1 w2 ii (1+c / 192 % 5))).map D.str++[D.str (w1++⟨#[chr (((ii:Int)+j*(1+c / 192 % 5)) % 26)]⟩++w2)]=((List.range (j+1)).map (wdB w1 w2 ii (1+c / 192 % 5))).map D.str by rw[List.range_succ,Xf,Xf];rfl];exact⟨j+1,_,_,_,_,_,_,rfl,⋯,by rw[show((j:Int)+1)=((j+1:Nat):Int)by lia]⟩
  ·rintro E ⟨j,l7,l8,o2,o3,o4,o5,rfl,j1,hr⟩;have:=jz9 j1 hr;simp![];exact⟨_,rfl,by rw[X1,Xu];lia,qkk ⋯ ⋯ ⋯,λw hw=>by
    obtain⟨k,_,rfl⟩:=aE hw;exact vxt ⋯ v1 v2 k⟩
end W3
namespace Nk74
open PySem Q
def m_shape_of : Fn:= V.m_shape_of
def m_read_by : Fn:= C.m_read_by
def m_beginnings_of : Fn:= V.m_beginnings_of
def m_names_in : Fn:= V.m_names_in
def m_case_to : Fn:= V.m_case_to
def m_steps_at : Fn:= V.m_steps_at
def m_signs_in : Fn:= V.m_signs_in
def m_plain_by : Fn:= V.m_plain_by
def ZJ:Fn:=fn 8
  (j6 (jv 2 (qz .rt []))
  (j6 (v6 (itS (cV 1)) (.t [3,4]) (j6 (jv 5 (XW (vE (cF2 jQ (vE (jW m_names_in [(cV 3)])) (C9 1)))))
  (v6 (itS (cH (jZ (vV 0) (C9 0)))) (.n 6) (j6 (jv 7 (cLC .rt 1 [3,6,0,4] (itS (cV 5)) (.n 0) tYes (kW .no [(cF2 jQ (vV 1) (vE (qz .rt [(kW .no [(cV 2),(cV 0)])]))),(jW m_read_by [(cV 3),(cV 4),(cV 2),(cV 0)])])))
  (Kk 2 (cLC .rt 1 [] (itS (cV 7)) (.n 0) (tE (cF2 (f2First fNotNon) (jZ (vV 0) (C9 1)) (vE (cC .non)))) (cV 0)))))))
  (k6 (cMv 2))))
def ZZ:Fn:=fn 4
  (j6 (sIf (tNot (tE (Q6 fLe fLe (C9 0) (vV 1) (C9 4)))) qzc vj)
  (j6 (jv 2 (qz .rt [(kW .no [(qz .rt []),(kW .no [(cC (.int 0)),(kW .no [])])])]))
  (j6 (v6 (x5 (vV 1)) (.n 3) (jv 2 (jW ZJ [(cV 0),(cV 2)])))
  (k6 (cLC .rt 2 [0] (itS (cV 2)) (.t [0,1]) (tEQ (jZ (jZ (jZ (vV 2) (C9 1)) (jZ (vV 1) (C9 0))) (C9 1))) (cV 0))))))
def m__law_cell_at : Fn:= B.m__law_cell_at
def m__law_mixed : Fn:= A.m__law_mixed
def m__law_words : Fn:= A.m__law_words
def m__law_number : Fn:= A.m__law_number
def QQ:Fn:=fn 5
  (j6 (jv 1 (qz .rt []))
  (j6 (jv 2 (qz .rt []))
  (j6 (v6 (itS (cV 0)) (.t [3,4]) (j6 (sIf (tE (cF2 (pu2 xK) (vV 4) (vV 1))) (v3 vQ 1 (cV 4)) vj)
  (v3 vQ 2 (kW .no [(cV 3),(W6 (vV 1) (vV 4))]))))
  (k6 (cMv 2)))))
def XY:Fn:=fn 1
  (k6 (cF1 jzu (vE (jW m__law_words [(cF2 (pu2 wK) (vV 0) (C9 4)),(cF2 jQ (C9 1) (vE (cF2 (pu2 k8) (vV 0) (C9 3))))]))))
noncomputable def ZK:Fn:=fn 14
  (j6 (jv 4 (jW m__law_cell_at [(cV 0),(cV 1)]))
  (j6 (jv 5 (jW m__law_number [(jW m__law_cell_at [(cV 0),(cF2 jQ (vV 1) (C9 1))])]))
  (j6 (jv 6 (qz .rt [(cV 5),(cF2 jQ (vE (cF2 (pu2 wK) (vV 5) (C9 2))) (vE (cF2 (pu2 KJ) (C9 10) (C9 59)))),(cF2 (pu2 Q8) (vE (cF2 (pu2 wK) (vV 5) (C9 2))) (vE (cF2 (pu2 KJ) (C9 10) (C9 59))))]))
  (j6 (jv 7 (qz .rt []))
  (j6 (v6 (x5 (vE (cF2 (pu2 k8) (vV 4) (vE (cF2 jQ (vV 3) (C9 1)))))) (.n 8) (j6 (jv 9 (jW m__law_mixed [(jW m__law_cell_at [(cV 0),(cF2 jQ (vE (cF2 jQ (vV 1) (C9 2))) (vV 8))]),(cC (.int 0))]))
  (j6 (jv 10 (qz .rt []))
  (j6 (jv 11 (cF2 (pu2 k8) (vV 9) (C9 6)))
  (j6 (v6 (x5 (vV 11)) (.n 12) (j6 (jv 13 (cF2 (pu2 wK) (vV 9) (jZ (vE (qz .rt [(cC (.int 6)),(cC (.int 54)),(cC (.int 486)),(cC (.int 4374)),(cC (.int 39366))])) (vV 12))))
  (v3 vQ 10 (kW .no [(cH (jZ (vV 2) (vE (cF2 (pu2 k8) (vV 13) (vE (cF1 (pu1 v8) (vV 2))))))),(cH (jZ (vV 6) (vE (cF2 (pu2 k8) (vE (cF2 (pu2 wK) (vV 13) (C9 3))) (C9 3)))))]))))
  (v3 vQ 7 (cV 10)))))))
  (k6 (cMv 7)))))))
noncomputable def YK:Fn:=fn 8
  (j6 (jv 2 (jW m__law_cell_at [(cV 1),(cC (.int 13))]))
  (j6 (jv 3 (qz .rt []))
  (j6 (v6 (x5 (vE (cF1 (pu1 v8) (vV 0)))) (.n 4) (j6 (jv 5 (cF2 (pu2 wK) (vE (jW m__law_number [(jW m__law_cell_at [(cV 1),(cF2 jQ (C9 14) (vV 4))])])) (C9 10)))
  (j6 (jv 6 (cF2 jQ (C9 1) (vE (cF2 (pu2 k8) (vE (jW m__law_mixed [(cV 2),(cV 4)])) (C9 1000)))))
  (j6 (jv 7 (cLC .rt 2 [5,6] (itS (jW QQ [(cH (jZ (vV 0) (vV 4)))])) (.t [0,1]) tYes (kW .no [(cV 0),(cF2 jQ (vV 2) (vE (cF2 vJ (vV 3) (vV 1))))])))
  (j6 (ZQ 3 (cF2 (pu2 k8) (vE (jW m__law_mixed [(cV 2),(cF2 jQ (C9 20) (vV 4))])) (vE (cF2 jQ (vE (cF1 (pu1 v8) (vV 3))) (C9 1)))) (cV 7))
  (sIf (tAnd (tE (cF2 (pu2 fEq) (vE (cF2 (pu2 k8) (vE (jW m__law_mixed [(cV 2),(cF2 jQ (C9 40) (vV 4))])) (C9 3))) (C9 1))) (tE (cF2 (pu2 fLt) (vE (cF2 (pu2 Q8) (vE (cF2 jQ (vE (cF1 (pu1 v8) (vV 3))) (vE (cF1 (pu1 v8) (vV 0))))) (vV 4))) (C9 11)))) (v3 vQ 3 (cF1 KY (vV 7))) vj))))))
  (k6 (cMv 3)))))
noncomputable def m_law:Fn:=fn 9
  (j6 (jv 1 (jW XY [(jW m__law_cell_at [(cV 0),(cC (.int 0))])]))
  (j6 (jv 2 (jW ZK [(cV 0),(cC (.int 1)),(cV 1),(cC (.int 10))]))
  (j6 (jv 3 (cLC .rt 1 [] (itS (cV 2)) (.n 0) tYes (jW QQ [(cV 0)])))
  (j6 (jv 4 (jW m_plain_by [(cF1 KY (vV 1)),(cLC .rt 1 [] (itS (cV 2)) (.n 0) tYes (cF1 KY (vV 0)))]))
  (j6 (v6 (x5 (C9 5)) (.n 5) (j6 (jv 6 (qz .rt []))
  (j6 (v6 (itS (cF1 YJ (vE (cLC .rt 1 [5] (itS (cV 3)) (.n 0) (tE (cF2 (pu2 fEq) (vE (cF1 (pu1 v8) (vV 0))) (vV 1))) (cV 0))))) (.n 7) (sIf (tE (cF2 (pu2 xK) (vV 7) (vV 6))) (v3 vQ 6 (cV 7)) vj))
  (j6 (jv 8 (jW ZZ [(cV 4),(cV 5)]))
  (sIf (tOr (tNot (tEQ (vE (cF1 (pu1 (wqa "list")) (vV 8))))) (tE (cF2 (pu2 fNe) (vV 8) (vV 6)))) (k6 (cC (.bl false))) vj)))))
  (k6 (cF2 (pu2 fEq) (vE (jW m_plain_by [(cF1 KY (vV 1)),(jW YK [(cV 2),(cV 0)])])) (vV 4))))))))
end Nk74
namespace Nk74
open Q PySem C V
theorem qwr:m__law_cell_at=B.m__law_cell_at:=rfl
theorem qwq:m__law_mixed=A.m__law_mixed:=rfl
theorem vwp:m__law_words=A.m__law_words:=rfl
theorem qj3:m__law_number=A.m__law_number:=rfl
theorem e_by:m_plain_by=V.m_plain_by:=rfl
theorem qkw{r:List Str}(h:r.Pairwise leS)(hn:r.Nodup):r.Pairwise λa b=>a.cps.toList<b.cps.toList:=by
 refine(h.and hn).imp ?_;rintro a b ⟨h1,h2⟩;exact Tl.text_tot (List.not_lt.mpr (leS_iff.mp h1)) λz=>h2 (by cases a;cases b;cases Array.toList_inj.mp z;rfl)
theorem qza(c:Int):Oo XY [(.no,.int c)] (λy=>∃ss,y=(.rt,sL ss)/\1<=ss.length/\ss.length<=3/\(∀z∈ss,z.cps.size<=8)/\ss.Pairwise λa b=>a.cps.toList<b.cps.toList) noX:=by
 have m0:=Y3 c (show(3:Int)≠0 by decide);have m1:=Xx c (show(0:Int)<3 by decide);unfold XY;refine kY ?_;rw[vwp];simp![mod_i (a:=c) (b:=3) ⋯,div_i (a:=c) (b:=4) ⋯ ⋯];refine(W3.words2 (c / 4) (1+c % 3) ⋯ ⋯).use ?_;rintro ss ⟨hl,da,hg⟩;simp![qz1 (o:=.no) (ss:=ss) ⋯];exact⟨zj ss,rfl,by rw[jz3];lia,by rw[jz3];lia,λz hz=>(hg z ((Vz ss).mem_iff.mp hz)).2.1,qkw kk6 ((Vz ss).nodup_iff.mpr da)⟩
theorem kxz(w:Sh)(hw:w.length<=1000):Oo QQ [(.no,lD w)] (λy=>y=(.rt,lD (shW w))) noX:=by
 unfold QQ;refine kY ?_;simp![];refine x4 (λE ab=>∃(f1 f2:Sh) (l3 l4:Option Sd),E=[some (.no,lD w),some (.rt,iL (ddI (ns2 f1))),some (.rt,lD (shW f1)),l3,l4]/\w=f1++f2/\ab=rwD f2) ?_ ?_ ?_
 ·simp![];exact⟨[],w,_,_,rfl,rfl,rfl⟩
 ·rintro E d ds ⟨f1,f2,l3,l4,rfl,hf,hr⟩;cases f2 with
  | nil=>cases hr
  | cons x f2=>
   injection hr with e1 e2;subst e1 e2;have ag:f1.length+(f2.length+1)=w.length:=by rw[hf];simp
   have hnk:=vvq f1;have hn:ns2 (f1++[x])=ns2 f1++[x.2]:=by rw[ns2,Xf];rfl
   have gc:=xw (ns2 f1) x.2;have fin:∀K:List Int,ddI (ns2 (f1++[x]))=K->QJ (iL K) (.int x.2)=some (.int (idx K x.2)):=λK hK=>by
    have hm:x.2∈K:=by rw[<-hK];exact vjn (List.mem_map.mpr ⟨x,by simp,rfl⟩)
    rw[F.idx_il (List.any_eq_true.mpr ⟨x.2,hm,beq_self_eq_true _⟩)];rfl
   have shl:(rwD (shW f1)).length<=1000:=by rw[X1,J3];lia
   have esh:∀K:List Int,ddI (ns2 (f1++[x]))=K->rwD (shW f1)++[.tup [.str x.1,.int (idx K x.2)]]=rwD (shW (f1++[x])):=λK hK=>by rw[jxt,<-hn,hK]
   by_cases hm:x.2∈ddI (ns2 f1)
   ·rw[X6 hm]at gc;rw[<-hn]at gc;have ml:xK (.int x.2) (iL (ddI (ns2 f1)))=some (.bl false):=by rw[F.nin_il,Xb hm];rfl
    simp![ml];refine zW rfl ?_;simp![fin _ gc];exact⟨_,rfl,⋯,f1++[x],f2,_,_,by rw[esh _ gc,gc],by rw[hf];simp,rfl⟩
   ·rw[X8 hm]at gc;rw[<-hn]at gc;have ml:xK (.int x.2) (iL (ddI (ns2 f1)))=some (.bl true):=by rw[F.nin_il,Xi hm];rfl
    have hap:(ddI (ns2 f1)).map D.int++[D.int x.2]=(ddI (ns2 f1)++[x.2]).map D.int:=by rw[Xf];rfl
    simp![ml];refine zW rfl ?_;simp![];refine⟨_,rfl,by rw[X1];unfold nk at hnk;lia,?_⟩;rw[hap];simp![];refine zW rfl ?_;simp![fin _ gc];exact⟨_,rfl,⋯,f1++[x],f2,_,_,by rw[esh _ gc,gc],by rw[hf];simp,rfl⟩
 ·rintro E ⟨f1,f2,l3,l4,rfl,hf,hr⟩;have:f2=[]:=by cases f2 with|nil=>rfl|cons=>cases hr
  subst this;rw[Xq]at hf;subst hf;simp![]
theorem wkc:∀(l m:List Int),l.Nodup->(∀x∈l,x∈m)->l.length<=m.length:=by
 intro l
 induction l with
 |nil=>intro m _ _;exact Yd _
 |cons a l ih=>
  intro m hn hs;rw[List.nodup_cons]at hn;have ha:=hs a X5;have:=ih (m.erase a) hn.2 λx hx=>(List.mem_erase_of_ne (show x≠a from λe=>hn.1 (e▸hx))).mpr (hs x (lc9 _ hx))
  rw[List.length_erase_of_mem ha]at this;have h1:0<m.length:=List.length_pos_of_mem ha;rw[Xk];lia
theorem vwy{ns:List Int}(hb:∀i∈ns,Builtin.Int.intBits i<=1048576)(k:Nat):(B.cellAt ns k).natAbs.log2<=1048576:=by
 unfold B.cellAt;rw[Xr]
 by_cases h:k<ns.length
 ·rw[X2 h];have:=hb _ (Y2 h);show(ns[k]).natAbs.log2<=1048576;unfold Builtin.Int.intBits at this
  split at this
  ·rename_i e;have:ns[k].natAbs=0:=by simpa using e
   rw[this];decide
  ·omega
 ·rw[Yi (by omega)];decide
theorem qq4{ns:List Int}(hb:∀i∈ns,Builtin.Int.intBits i<=1048576)(k:Nat):A.Sh (B.cellAt ns k):=by
 have:=vwy hb k;unfold A.Sh;omega
structure Tab (ss:List Str)(a7:List Sh):Prop where
 len:a7.length<=10
 l5:∀w∈a7,w.length<=5
 sg:∀w∈a7,∀p∈w,p.1∈ss
 nm:∀w∈a7,∃P:List Int,P.length=3/\∀p∈w,p.2∈P
theorem Tab.n3{ss:List Str}{a7:List Sh}(h:Tab ss a7):∀w∈a7,nk (shW w)<=3:=λw hw=>by
 obtain⟨P,hP,h2⟩:=h.nm w hw;rw[J6,<-hP];exact wkc _ _ (U.ddI_nd _) λx hx=>by
  obtain⟨p,hp,rfl⟩:=aE (U.ddI_mem.mp hx);exact h2 p hp
theorem qxy(ns:List Int)(hn:ns.length<=63)(hb:∀i∈ns,Builtin.Int.intBits i<=1048576){ss:List Str}(h1:1<=ss.length)(h3:ss.length<=3):
  Oo ZK [(.no,iL ns),(.no,.int 1),(.no,sL ss),(.no,.int 10)] (λy=>∃a7,y=(.rt,.lst (a7.map lD))/\Tab ss a7) noX:=by
 have mn:∀k:Nat,Oo B.m__law_cell_at [(.no,iL ns),(.no,.int k)] (λy=>∃o':Own,y=(o',.int (B.cellAt ns k))/\True) noX:=λk=>B.cell_ok ns k ⋯
 have p59:KJ (.int 10) (.int 59)=some (.int (10 ^ 59)):=rfl;unfold ZK;simp only[qwr,qwq,qj3];refine kY ?_;simp![];refine(mn 1).use ?_;intro _ _;simp![];refine(mn 2).use ?_;intro _ _;simp![];refine(A.number_ok _ (qq4 hb 2)).use ?_;intro one _;generalize B.cellAt ns 1=hd;simp![p59];obtain⟨P,hP,hPl⟩:∃P:List Int,[D.int one,D.int (one / 2+10 ^ 59),D.int (one / 2 - 10 ^ 59)]=P.map D.int/\P.length=3:=⟨[one,one / 2+10 ^ 59,one / 2 - 10 ^ 59],rfl,rfl⟩;rw [hP];have q0:=Y3 hd (show(11:Int)≠0 by decide);have q1:=Xx hd (show(0:Int)<11 by decide);have hmh:k8 (.int hd) (.int (10+1))=some (.int (hd % 11)):=mod_i ⋯;obtain⟨N,hN⟩:=Zf q0;rw [hN]at hmh q1;have hpx:∀i:Int,0<=i->i<3->∃v∈P,kq (.lst (P.map D.int)) (.int i)=some (.int v):=λi i0 i1=>by
  have hl:i.toNat<P.length:=⋯
  exact⟨P[i.toNat],Y2 _,Q3 i0 (by rw[Xe,X2 hl];rfl)⟩
 have hsx:∀i:Int,0<=i->i<ss.length->∃z∈ss,kq (sL ss) (.int i)=some (.str z):=λi i0 i1=>by
  have hl:i.toNat<ss.length:=⋯
  exact⟨ss[i.toNat],Y2 _,Q3 i0 (by rw[Xe,X2 hl];rfl)⟩
 have dg:∀i:Int,0<=i->i<5->∃v:Int,0<v/\v<100000/\kq (.lst [.int 6,.int 54,.int 486,.int 4374,.int 39366]) (.int i)=some (.int v):=λi i0 i1=>by
  rcases(show i=0\/i=1\/i=2\/i=3\/i=4 by lia)with rfl|rfl|rfl|rfl|rfl<;>exact⟨_,⋯,⋯,rfl⟩
 refine x4 (λE ab=>∃(k:Int) (a7:List Sh) (o1 o4 o5:Own) (d4 d5:D) (l8 l9 l10 l11 mf m6:Option Sd),E=[some (.no,iL ns),some (o1,.int 1),some (.no,sL ss),some (.no,.int 10),some (o4,d4),some (o5,d5),some (.rt,.lst (P.map D.int)),some (.rt,.lst (a7.map lD)),l8,l9,l10,l11,mf,m6]/\0<=k/\k<=N/\ab=jV k N/\(a7.length:Int)=k/\Tab ss a7) ?_ ?_ ?_
 ·refine W5 ?_;simp![hmh];exact⟨N,rfl,⋯,⋯,0,[],_,_,_,_,_,_,_,_,_,_,_,rfl,⋯,⋯,rfl,rfl,⟨⋯,(λ_ h=>nomatch h),(λ_ h=>nomatch h),λ_ h=>nomatch h⟩⟩
 ·rintro E d ds ⟨k,a7,o1,o4,o5,d4,d5,l8,l9,l10,l11,mf,m6,rfl,k0,k1,hr,pd,hT⟩;obtain⟨hk,rfl,rfl⟩:=V2 k1 hr;obtain⟨kn,rfl⟩:=Zf k0;simp![];have c3:=mn (3+kn);rw[show((3+kn:Nat):Int)=1+2+(kn:Int)by lia]at c3;refine c3.use ?_;intro _ _;simp![];refine(A.mixed_ok _ 0 ⋯ ⋯).use ?_;intro v _;have v0:=Y3 v (show(6:Int)≠0 by decide);have v1:=Xx v (show(0:Int)<6 by decide);simp![mod_i (a:=v) (b:=6) ⋯];refine x4 (λE ab=>∃(j:Int) (w:Sh) (o9 o11:Own) (mf m6:Option Sd),E=[some (.no,iL ns),some (o1,.int 1),some (.no,sL ss),some (.no,.int 10),some (o4,d4),some (o5,d5),some (.rt,.lst (P.map D.int)),some (.rt,.lst (a7.map lD)),some (.no,.int kn),some (o9,.int v),some (.rt,lD w),some (o11,.int (v % 6)),mf,m6]/\0<=j/\j<=v % 6/\ab=jV j (v % 6)/\(w.length:Int)=j/\(∀p∈w,p.1∈ss)/\∀p∈w,p.2∈P) ?_ ?_ ?_
  ·refine W5 ?_;simp![];exact⟨v % 6,rfl,⋯,⋯,0,[],_,_,_,_,rfl,⋯,⋯,rfl,rfl,(λ_ h=>nomatch h),λ_ h=>nomatch h⟩
  ·rintro E d ds ⟨j,w,o9,o11,mf,m6,rfl,j0,j1,hr,rh,hw1,hw2⟩;obtain⟨hj,rfl,rfl⟩:=V2 j1 hr;obtain⟨b,b0,b1,hbb⟩:=dg j j0 ⋯;simp![hbb,div_i (a:=v) (b:=b) b0 ⋯];refine zW rfl ?_;have t0:=Y3 (v / b) (show(ss.length:Int)≠0 by lia);have t1:=Xx (v / b) (show(0:Int)<ss.length by lia);have u0:=Y3 (v / b / 3) (show(3:Int)≠0 by decide);have u1:=Xx (v / b / 3) (show(0:Int)<3 by decide);obtain⟨z,hz,ez⟩:=hsx _ t0 t1;obtain⟨x,hx,ex⟩:=hpx _ u0 u1;simp![mod_i (a:=v / b) (b:=ss.length) ⋯,ez,div_i (a:=v / b) (b:=3) ⋯ ⋯,mod_i (a:=v / b / 3) (b:=3) ⋯,ex];refine⟨_,rfl,by rw[X1];lia,j+1,w++[(z,x)],_,_,_,_,by rw[show lD (w++[(z,x)])=.lst (rwD w++[.tup [.str z,.int x]])by rw[lD,rwD,Xf];rfl],⋯,⋯,rfl,by simp;lia,λp hp=>?_,λp hp=>?_⟩
   ·rcases aA hp with q|q
    ·exact hw1 p q
    ·rw[aC q];exact hz
   ·rcases aA hp with q|q
    ·exact hw2 p q
    ·rw[aC q];exact hx
  ·rintro E ⟨j,w,o9,o11,mf,m6,rfl,j0,j1,hr,rh,hw1,hw2⟩;refine zW rfl ?_;simp![];refine⟨_,rfl,by rw[X1];lia,kn+1,a7++[w],_,_,_,_,_,_,_,_,_,_,_,by rw[Xf];rfl,⋯,⋯,rfl,by simp;lia,?_⟩;refine⟨by simp;lia,λy hy=>?_,λy hy=>?_,λy hy=>?_⟩
   all_goals
    rcases aA hy with q|q
   ·exact hT.l5 y q
   ·rw[aC q];lia
   ·exact hT.sg y q
   ·rw[aC q];exact hw1
   ·exact hT.nm y q
   ·rw[aC q];exact⟨P,hPl,hw2⟩
 ·rintro E ⟨k,a7,o1,o4,o5,d4,d5,l8,l9,l10,l11,mf,m6,rfl,k0,k1,hr,pd,hT⟩;simp![];exact⟨a7,rfl,hT⟩
theorem wqf:m_read_by=C.m_read_by:=rfl
theorem qwp:m_names_in=V.m_names_in:=rfl
def stB(bs:List Sh)(x:Sh):D:=.tup [.int (bs.idxOf x:Nat),iT (ddI (ns2 x))]
theorem vze(bs:List Sh)(x:Sh):stB bs x=B.stn (some (((bs.idxOf x:Nat):Int),ddI (ns2 x))):=rfl
section
variable {a7 bs shs:List Sh}{ss:List Str}
theorem qqe(h:BegW a7 bs ss){x:Sh}(hx:x∈bs)(z:Str){k:Nat}(hk:k<=nk x):Oo C.m_read_by [(.no,vz ss (bs.map (k5 shs bs ss))),(.no,stB bs x),(.no,.str z),(.no,.int k)] (λy=>y.2=if x++[(z,(k:Int))]∈bs then stB bs (x++[(z,(k:Int))])else .non) noX:=by
 obtain⟨w,rfl⟩:=h.sh x hx;have hl:=Yg hx;have hS:B.SnOk (kpB bs) (some (((bs.idxOf (shW w):Nat):Int),ddI (ns2 (shW w)))):=λroom ks e=>by
  cases e;refine⟨⋯,by rw[X1];lia,?_⟩;rw[Xy,wko hx];rfl
 have n8:∀p∈kpB bs,0<=p/\p<=3:=λp hp=>by
  obtain⟨b,hb,rfl⟩:=aE hp;have:=h.n3 b hb;exact⟨⋯,⋯⟩
 have r1:=vk1 (shs:=shs) h (shW w);rw[qq3,X6 hx]at r1;have r2:=vk1 (shs:=shs) h (shW w++[(z,(k:Int))]);rw[U.run_snoc,r1,vzk w z hk (qq3 w)]at r2;have:=qzg (J.rdF_ok z (k:Int) (vk6 (shs:=shs) h) n8 hS).1;rw[r2]at this;rw[vze];refine this.mono λy hy=>?_
 rw[hy]
 split<;>rfl
end
theorem qv5(s:Sh)(hl:s.length<=1000):Oo V.m_names_in [(.no,lD s)] (λy=>∃o:Own,y=(o,.int (nk s))/\True) noX:=kqx (.inr rfl) hl
theorem wxp{o1 o2:Own}(h1:o1≠.dp)(h2:o2≠.dp){u v:Sh}(h:u.length+v.length<=1000):jQ (o1,lD u) (o2,lD v)=some (.rt,lD (u++v)):=by
 rw[show lD u=.lst (rwD u)from rfl,show lD v=.lst (rwD v)from rfl,wqv h1 h2 (by rw[X1,X1];lia),<-Xf]
theorem qj0{α β:Type}{f:α->List β}{m:Nat}:∀{l:List α},(∀a∈l,(f a).length<=m)->(l.flatMap f).length<=m*l.length
 |[],_=>Yd _
 |a::l,h=>by
  have h1:=h a X5;have h2:=qj0 (l:=l) λb hb=>h b (lc9 _ hb)
  rw[Yy,Xp,Xk,Nat.mul_add];lia
def wkD(bs:List Sh)(x:Sh):D:=.tup [lD x,stB bs x]
def wkO(bs:List Sh)(x:Sh):D:=.tup [lD x,if x∈bs then stB bs x else .non]
def onz(bs:List Sh)(x:Sh)(z:Str):List Sh:=((List.range (nk x+1)).map λ(k:Nat)=>x++[(z,(k:Int))]).filter λy=>decide (y∈bs)
theorem kwr{bs:List Sh}{x:Sh}{z:Str}(h:nk x<=3):(onz bs x z).length<=4:=by
 have:=List.length_filter_le (λy=>decide (y∈bs)) ((List.range (nk x+1)).map λ(k:Nat)=>x++[(z,(k:Int))]);rw[X1,Xu]at this;unfold onz;lia
section
variable {a7 bs shs:List Sh}{ss:List Str}
theorem qxu (h:BegW a7 bs ss) (hs:ss.length<=3) {W:List Sh} (hW:∀x∈W,x∈bs) (hl:W.length<=59) (h9:∀x∈W,x.length<=9):
  Oo ZJ [(.no,vz ss (bs.map (k5 shs bs ss))),(.no,.lst (W.map (wkD bs)))] (λy=>y=(.rt,.lst ((W.flatMap (ons bs ss)).map (wkD bs)))) noX:=by
 have j1:∀a b:D,kq (.tup [a,b]) (.int 1)=some b:=λ_ _=>rfl
 have j0:∀a b:D,kq (.tup [a,b]) (.int 0)=some a:=λ_ _=>rfl
 unfold ZJ;rw [wqf,qwp];refine kY ?_;simp![];refine x4 (λE ab=>∃(f1 f2:List Sh) (d1:D) (l3 l4 l5 l6 l7:Option Sd),E=[some (.no,vz ss (bs.map (k5 shs bs ss))),some (.no,d1),some (.rt,.lst ((f1.flatMap (ons bs ss)).map (wkD bs))),l3,l4,l5,l6,l7]/\W=f1++f2/\ab=f2.map (wkD bs)) ?_ ?_ ?_
 ·simp![];exact ⟨[],W,_,_,_,_,_,_,rfl,rfl,rfl⟩
 ·rintro E d ds ⟨f1,f2,d1,l3,l4,l5,l6,l7,rfl,hf,hr⟩;cases f2 with
  | nil=>cases hr
  | cons x f2=>
   injection hr with e1 e2;subst e1 e2;have hxW:x∈W:=by rw[hf];simp
   have hx:=hW x hxW;have hx9:=h9 x hxW;have hn:=h.n3 x hx;have mq:f1.length<=59:=by have:=congrArg List.length hf;simp at this;lia
   have hF:(f1.flatMap (ons bs ss)).length<=12*f1.length:=qj0 λy hy=>by
    have:=h.n3 y (hW y (by rw[hf];simp[hy]));have:=qj0 (f:=onz bs y) (m:=4) (l:=ss) λz _=>kwr this
    show(ss.flatMap (onz bs y)).length<=12;lia
   unfold wkD;simp![];refine(qv5 x ⋯).use ?_;intro _ _;simp![];rw [show(nk x:Int)+1=((nk x+1:Nat):Int)by lia,kka];refine x4 (λE ab=>∃(s1 s2:List Str) (o5:Own) (l6 l7:Option Sd),E=[some (.no,vz ss (bs.map (k5 shs bs ss))),some (.no,d1),some (.rt,.lst ((f1.flatMap (ons bs ss)++s1.flatMap (onz bs x)).map (wkD bs))),some (.no,lD x),some (.no,stB bs x),some (o5,.lst ((List.range (nk x+1)).map λ(k:Nat)=>D.int k)),l6,l7]/\ss=s1++s2/\ab=s2.map D.str) ?_ ?_ ?_
   ·simp![p0];exact⟨[],ss,_,_,_,by rw[List.flatMap_nil,Xq];rfl,rfl,rfl⟩
   ·rintro E d ds ⟨s1,s2,o5,l6,l7,rfl,he,hr⟩;cases s2 with
    | nil=>cases hr
    | cons z s2=>
     injection hr with e1 e2;subst e1 e2;have ku:s1.length<=3:=by have:=congrArg List.length he;simp at this;lia
     have hO:(s1.flatMap (onz bs x)).length<=4*s1.length:=qj0 λz _=>kwr hn
     simp![];refine K8 [some (.no,lD x),some (.no,.str z),some (.no,vz ss (bs.map (k5 shs bs ss))),some (.no,stB bs x)] (λd y=>y.2=match d with|.int k=>wkO bs (x++[(z,k)])|_=>.non) ?_;simp![];refine⟨rfl,λd hd=>?_,λys hy=>?_⟩
     ·obtain⟨k,hk,rfl⟩:=aE hd;have hk:=List.mem_range.mp hk;have ad:jQ (.no,lD x) (.no,.lst [.tup [.str z,.int k]])=some (.rt,lD (x++[(z,(k:Int))])):=wxp (v:=[(z,(k:Int))]) ⋯ ⋯ (by simp;lia);simp![ad];refine(qqe h hx z (k:=k) ⋯).via ?_;rintro ⟨o,y⟩ hy;have hy:y=_:=hy;subst hy;unfold qw;rw[qwn];exact⟨⟨_,rfl⟩,rfl⟩
     rw [qx,K1 (h:=λd=>match d with|.int k=>wkO bs (x++[(z,k)])|_=>.non) (λ_ _ h=>h) hy,Xh];simp only[back,clr,at',List.map_cons,List.map_nil,List.set_cons_zero,List.set_cons_succ];simp![];refine qwl rfl ?_;generalize hY:((List.range (nk x+1)).map λ(k:Nat)=>x++[(z,(k:Int))])=Y;have eY:List.map ((λd=>match d with|D.int k=>wkO bs (x++[(z,k)])|_=>.non)∘λ(k:Nat)=>D.int k) (List.range (nk x+1))=Y.map (wkO bs):=by
      rw[<-hY,Xh];rfl
     rw [eY];refine xY (λE1 B ds aa=>E1=[some (.no,vz ss (bs.map (k5 shs bs ss))),some (.no,d1),some (.rt,.lst ((f1.flatMap (ons bs ss)++s1.flatMap (onz bs x)).map (wkD bs))),some (.no,lD x),some (.no,stB bs x),some (.no,.lst ((List.range (nk x+1)).map λ(k:Nat)=>D.int k)),some (.no,.str z),some (.no,.lst (Y.map (wkO bs)))]/\∃(q0:Option Sd) (r1 r2:List Sh),B=[q0]/\ds=r2.map (wkO bs)/\Y=r1++r2/\aa.map (·.2)=(r1.filter λy=>decide (y∈bs)).map (wkD bs)) ?_ ?_ ?_
     ·simp![];exact⟨_,[],Y,rfl,rfl,rfl,rfl⟩
     ·rintro E1 B d ds aa ⟨rfl,q0,r1,r2,rfl,au,hY2,ha⟩;cases r2 with
      | nil=>cases au
      | cons y r2=>
       injection au with e1 e2;subst e1 e2
       by_cases hy:y∈bs
       ·have e:wkO bs y=.tup [lD y,stB bs y]:=by unfold wkO;rw[X6 hy]
        rw[e];unfold stB;simp![p1];exact⟨_,r1++[y],r2,rfl,rfl,by rw[hY2];simp,by rw[Xf,ha,Zl];simp[hy];rfl⟩
       ·have e:wkO bs y=.tup [lD y,.non]:=by unfold wkO;rw[X8 hy]
        rw[e];simp![p1];exact⟨_,r1++[y],r2,rfl,rfl,by rw[hY2];simp,by rw[ha,Zl];simp[hy]⟩
     ·rintro E1 B aa ⟨rfl,q0,r1,r2,rfl,au,hY2,ha⟩;have:r2=[]:=by cases r2 with|nil=>rfl|cons=>cases au
      subst this;rw[Xq]at hY2;subst hY2;rw[qx,ha];simp only[wY,back,clr,at',List.drop,List.map_cons,List.map_nil,List.set_cons_zero,List.set_cons_succ];have hz:onz bs x z=Y.filter λy=>decide (y∈bs):=by unfold onz;rw[hY]
      have hzl:=kwr (bs:=bs) (z:=z) hn;refine⟨_,_,rfl,rfl,?_,s1++[z],s2,.no,some (.no,.str z),some (.no,.lst (Y.map (wkO bs))),?_,by rw[he];simp,rfl⟩
      ·rw[<-hz,X1,X1,Xp];unfold big;lia
      ·simp only[Xf,List.flatMap_append,List.flatMap_singleton,hz,Y4]
   ·rintro E ⟨s1,s2,o5,l6,l7,rfl,he,hr⟩;have:s2=[]:=by cases s2 with|nil=>rfl|cons=>cases hr
    subst this;rw[Xq]at he;subst he;exact⟨f1++[x],f2,d1,_,_,_,_,_,by rw[List.flatMap_append,List.flatMap_singleton];rfl,by rw[hf];simp,rfl⟩
 ·rintro E ⟨f1,f2,d1,l3,l4,l5,l6,l7,rfl,hf,hr⟩;have:f2=[]:=by cases f2 with|nil=>rfl|cons=>cases hr
  subst this;rw[Xq]at hf;subst hf;simp![]
end
end Nk74
namespace Nk74
open Q PySem C V Tl
section
variable {a7 bs shs:List Sh}{ss:List Str}
theorem qjd(h:BegW a7 bs ss)(hl:bs.length<=59)(hs:ss.Pairwise λa b=>a.cps.toList<b.cps.toList)(n:Nat):(xJ bs ss n).length<=59:=by
 have hn:(xJ bs ss n).Nodup:=(jz1 hs n).imp fun {a b} dm e=>by
  subst e;exact qvn _ _ dm dm
 have:=kko hn λx hx=>(jxr h (n:=n)).mp hx |>.1
 lia
theorem qq2(h:BegW a7 bs ss)(hl:bs.length<=59)(h3:ss.length<=3)(hs:ss.Pairwise λa b=>a.cps.toList<b.cps.toList)(n:Nat)(hn:n<=4):
  Oo ZZ [(.no,vz ss (bs.map (k5 shs bs ss))),(.no,.int n)] (λy=>y=(.rt,.lst (((xJ bs ss n).filter λx=>decide (x∈shs)).map lD))) noX:=by
 have c1:fLe (.int 0) (.int n)=some (.bl true):=by rw[le_ii,Xb ⋯]
 have c2:fLe (.int n) (.int 4)=some (.bl true):=by rw[le_ii,Xb ⋯]
 have h0:([]:Sh)∈bs:=Xv h.hd;have e0:bs.idxOf ([]:Sh)=0:=by
  have h1:=h.hd;cases bs with| nil=>cases h1| cons b bs=>cases oq9 h1;simp
 have w0:(xJ bs ss 0).map (wkD bs)=[.tup [.lst [],.tup [.int 0,.tup []]]]:=by
  show[wkD bs []]=_;unfold wkD stB;rw [e0];rfl
 unfold ZZ;refine kY ?_;simp![c1,c2];refine x4 (λE ab=>∃(k:Nat) (o2:Own) (l3:Option Sd),E=[some (.no,vz ss (bs.map (k5 shs bs ss))),some (.no,.int n),some (o2,.lst ((xJ bs ss k).map (wkD bs))),l3]/\k<=n/\ab=jV k n) ?_ ?_ ?_
 ·refine W5 ?_;simp![];exact⟨n,rfl,⋯,⋯,0,.rt,none,by rw[w0],⋯,rfl⟩
 ·rintro E d ds ⟨k,o2,l3,rfl,hk,hr⟩;obtain⟨de,rfl,rfl⟩:=V2 ⋯ hr;simp![];refine(qxu h h3 (λx hx=>((jxr h).mp hx).1) (qjd h hl hs k) (λx hx=>by rw[WZ hx];lia)).via ?_;rintro _ rfl;exact⟨k+1,.rt,_,rfl,⋯,rfl⟩
 ·rintro E ⟨k,o2,l3,rfl,hk,hr⟩;have:(k:Int)=n:=jz9 ⋯ hr;have:k=n:=⋯
  subst this;simp![];refine xY (λE1 B ds aa=>∃(q0 q1:Option Sd) (r1 r2:List Sh),B=[q0,q1,some (.no,vz ss (bs.map (k5 shs bs ss)))]/\ds=r2.map (wkD bs)/\xJ bs ss k=r1++r2/\aa.map (·.2)=(r1.filter λx=>decide (x∈shs)).map lD) ?_ ?_ ?_
  ·simp![];exact⟨_,_,[],xJ bs ss k,rfl,rfl,rfl,rfl⟩
  ·rintro E1 B d ds aa ⟨q0,q1,r1,r2,rfl,au,hw,ha⟩;cases r2 with
   | nil=>cases au
   | cons x r2=>
    injection au with e1 e2;subst e1 e2;have hx:x∈bs:=((jxr h (n:=k)).mp (by rw[hw];simp)).1;have b7:=Yg hx;have ex:kq (.lst (bs.map (k5 shs bs ss))) (.int (bs.idxOf x:Nat))=some (.tup [.int (nk x),.bl (decide (x∈shs)),.lst (xq bs ss x)]):=Q3 ⋯ (by
     rw[Xy,Xe,X2 b7,List.getElem_idxOf];rfl)
    have t1:∀a b c:D,kq (.tup [a,b,c]) (.int 1)=some b:=λ_ _ _=>rfl
    unfold wkD stB
    by_cases hm:x∈shs
    ·rw[Xb hm]at ex;simp![p1,p0,ex,t1];exact⟨_,_,r1++[x],r2,rfl,rfl,by rw[hw];simp,by rw[Xf,ha,Zl];simp[hm]⟩
    ·rw[Xi hm]at ex;simp![p1,p0,ex,t1];exact⟨_,_,r1++[x],r2,rfl,rfl,by rw[hw];simp,by rw[ha,Zl];simp[hm]⟩
  ·rintro E1 B aa ⟨q0,q1,r1,r2,rfl,au,hw,ha⟩;have:r2=[]:=by cases r2 with|nil=>rfl|cons=>cases au
   subst this;rw[Xq]at hw;rw[qx,ha,hw]
end
theorem wkh:∀{l:List D},(∀d∈l,∃x,d=lD x)->∃xs:List Sh,l=xs.map lD:=by
 intro l
 induction l with
 |nil=>intro _;exact⟨[],rfl⟩
 |cons a r ih=>
  intro h;obtain⟨x,rfl⟩:=h a X5;obtain⟨xs,rfl⟩:=ih λd hd=>h d (lc9 _ hd)
  exact⟨x::xs,rfl⟩
theorem vkj{a b:Sh}(h:lD a=lD b):a=b:=by
 injection h with h;exact YW h
theorem kw5(L:List Sh)(hl:L.length<64):∃P:List Sh,(∀o:Own,o≠.dp->YJ (o,.lst (L.map lD))=some (.rt,.lst (P.map lD)))/\(∀x,x∈P↔x∈L)/\P.Pairwise λa b=>a≠b->Lo a b:=by
 have ok:okL (L.map lD)=true:=by
  unfold okL;rw[Bool.and_eq_true,Y7,Y7];refine⟨λd hd=>?_,λa ha=>List.all_eq_true.mpr λb hb=>?_⟩
  ·obtain⟨x,_,rfl⟩:=aE hd;exact qw0 x
  ·obtain⟨x,_,rfl⟩:=aE ha;obtain⟨y,_,rfl⟩:=aE hb;exact kx2 x y
 obtain⟨P,hP⟩:=wkh (l:=J9 (L.map lD)) λd hd=>by
  obtain⟨x,_,rfl⟩:=aE ((VJ _).mem_iff.mp hd);exact⟨x,rfl⟩
 refine⟨P,λo ho=>?_,λx=>?_,?_⟩
 ·unfold YJ;dsimp only;rw[X6 ⟨by cases o<;>simp_all [k7],by rw[X1];exact hl,ok⟩,hP]
 ·have:=(VJ (L.map lD)).mem_iff (a:=lD x);rw[hP]at this;constructor
  ·intro h;obtain⟨y,hy,e⟩:=aE (this.mp (List.mem_map.mpr ⟨x,h,rfl⟩));exact vkj e▸hy
  ·intro h;obtain⟨y,hy,e⟩:=aE (this.mpr (List.mem_map.mpr ⟨x,h,rfl⟩));exact vkj e▸hy
 ·have pw:=kk7 (vkf ok) (r:=L.map lD) λ_ z=>z
  rw[hP,Yc]at pw;refine pw.imp fun {a b} h ne=>?_
  have h:ltDs (rwD b) (rwD a)≠some true:=h;have hs:=kx2 b a;cases e:ltDs (rwD b) (rwD a)with
  |none=>rw[e]at hs;cases hs
  |some k=>
   cases k with|true=>exact absurd e h|false=>exact lts_tot e λz=>ne (YW z).symm
theorem vjj{U p:List Sh}{x:Sh}(hU:U.Pairwise Lo)(hm:∀y,y∈U↔y∈p)(hp:∀y∈p,y≠x->Lo y x)(hx:x∉U):(U++[x]).Pairwise Lo/\∀y,y∈U++[x]↔y∈p++[x]:=by
 refine⟨List.pairwise_append.mpr ⟨hU,List.pairwise_singleton _ _,λa ha b hb=>?_⟩,λy=>by rw[List.mem_append,List.mem_append,hm]⟩;rw[aC hb];exact hp a ((hm a).mp ha) λe=>hx (e▸ha)
theorem wq1{E:En}{j:Nat}{kc vc:Ex}{ds:List D}{N Cc:En->Prop}{R:Sd->Prop}{X:XP}(h0:E[j]?=some (some (.rt,.lst ds)))
  (h:Eo (kc E) (λE1 x=>∃k:Int,x.2=.int k/\E1[j]?=some (some (.rt,.lst ds))/\Eo (vc E1) (λE2 y=>E2[j]?=some (some (.rt,.lst ds))/\(0<=k/\k<=ds.length/\ds.length<10000)/\N (E2.set j (some (.rt,.lst (ds.take k.toNat++y.2::ds.drop k.toNat))))) X) X):Po (ZQ j kc vc E) N Cc R X:=by
 unfold ZQ;rw[h0,X6 (show J7 (some (some (Own.rt,.lst ds)))=true from rfl),J4];refine h.mono ?_;rintro E1 ⟨ox,dx⟩ ⟨k,hk,h1,h2⟩;have hk:dx=.int k:=hk;subst hk;show Po (v3 (Wq k) j vc E1) N Cc R X;unfold v3;rw[h1,X6 (show J7 (some (some (Own.rt,.lst ds)))=true from rfl),J4];refine h2.mono ?_;rintro E2 y ⟨h3,⟨k0,k1,k2⟩,h5⟩;rw[h3];dsimp only;have hg:Wq k ds y.2=some (ds.take k.toNat++y.2::ds.drop k.toNat):=by unfold Wq;rw[X6 ⟨k0,k1,by unfold big;omega⟩]
 rw[X8 ⋯,hg];dsimp only;rw[vv6,X8 (by rintro ⟨z,_⟩;cases z)];exact h5
section
variable {f:Int->Int}(hf:∀a b,f a=f b->a=b)
include hf
theorem vwt(l:List Int):ddI (l.map f)=(ddI l).map f:=by
 have:∀(l aa:List Int),(l.map f).foldl (λl k=>if l.any (· == k)then l else l++[k]) (aa.map f)=(l.foldl (λl k=>if l.any (· == k)then l else l++[k]) aa).map f:=by
  intro l
  induction l with
  | nil=>intro aa;rfl
  | cons a l ih=>
   intro aa;rw[List.map_cons,Z0,Z0];have e:((aa.map f).any λx=>x==f a)=aa.any λx=>x==a:=by
    rw[Zt]
    congr 1
    funext x;show(f x==f a)=(x==a)
    by_cases h:x=a
    ·rw[h];simp
    ·rw[Ye h,Ye λz=>h (hf _ _ z)]
   rw[e]
   split
   ·exact ih aa
   ·rw[<-ih (aa++[a]),Xf];rfl
 exact this l []
theorem vjb(l:List Int)(n:Int):idx (l.map f) (f n)=idx l n:=by
 unfold idx
 congr 1
 induction l with
 |nil=>rfl
 |cons a l ih=>
  rw[List.map_cons,List.idxOf_cons,List.idxOf_cons,ih]
  by_cases h:a=n
  ·rw[h];simp
  ·rw[Ye h,Ye λz=>h (hf _ _ z)]
theorem kw9(w:Sh):shW (w.map λp=>(p.1,f p.2))=shW w:=by
 have e:ns2 (w.map λp=>(p.1,f p.2))=(ns2 w).map f:=by rw[ns2,ns2,Xh,Xh];rfl
 unfold shW;rw[e,vwt hf,Xh];exact Yj λp _=>by
  show(p.1,idx ((ddI (ns2 w)).map f) (f p.2))=_;rw[vjb hf]
end
theorem kxc{a s:Int}(h:0<s):∀x y:Int,a+s*x=a+s*y->x=y:=λx y e=>Int.eq_of_mul_eq_mul_left (show s≠0 by lia) ⋯
structure Oth (a7 F:List Sh):Prop where
 from':∀y∈F,∃w∈a7,∃a s:Int,0<s/\y=(shW w).map λp=>(p.1,a+s*p.2)
 all:∀w∈a7,∃y∈F,shW y=shW w
theorem Oth.sh{a7 F:List Sh}(h:Oth a7 F):∀x,x∈F.map shW↔x∈a7.map shW:=λx=>by
 constructor
 ·intro hx;obtain⟨y,hy,rfl⟩:=aE hx;obtain⟨w,hw,a,s,hs,rfl⟩:=h.from' y hy;rw[kw9 (f:=λi=>a+s*i) (kxc hs),qq3];exact List.mem_map.mpr ⟨w,hw,rfl⟩
 ·intro hx;obtain⟨w,hw,rfl⟩:=aE hx;obtain⟨y,hy,e⟩:=h.all w hw;exact List.mem_map.mpr ⟨y,hy,e⟩
theorem kzi{r F F':List Sh}{w y:Sh}{a s:Int}(hs:0<s)(hy:y=(shW w).map λp=>(p.1,a+s*p.2))(h:Oth r F)(hF:∀x,x∈F'↔x∈F\/x=y):Oth (r++[w]) F':=by
 refine⟨λx hx=>?_,λv hv=>?_⟩
 ·rcases(hF x).mp hx with z|z
  ·obtain⟨v,hv,g⟩:=h.from' x z;exact⟨v,ll9 _ hv,g⟩
  ·exact⟨w,by simp,a,s,hs,z.trans hy⟩
 ·rcases aA hv with z|z
  ·obtain⟨x,hx,e⟩:=h.all v z;exact⟨x,(hF x).mpr (.inl hx),e⟩
  ·refine⟨y,(hF y).mpr (.inr rfl),?_⟩;rw[aC z,hy,kw9 (f:=λi=>a+s*i) (kxc hs),qq3]
theorem qw6{F:List Sh}{a:Nat}{y x:Sh}:x∈F.take a++y::F.drop a↔x∈F\/x=y:=by
 rw[List.mem_append,Xz];constructor
 ·rintro (h|h|h)
  ·exact .inl (List.mem_of_mem_take h)
  ·exact .inr h
  ·exact .inl (List.mem_of_mem_drop h)
 ·rintro (h|h)
  ·rw[<-Z9 a F]at h;rcases aA h with h|h
   ·exact .inl h
   ·exact .inr (.inr h)
  ·exact .inr (.inl h)
theorem qzw(ns:List Int)(hn:ns.length<=63)(hb:∀i∈ns,Builtin.Int.intBits i<=1048576){a7:List Sh}(hl:a7.length<=10)(h5:∀w∈a7,w.length<=5):
  Oo YK [(.no,.lst (a7.map lD)),(.no,iL ns)] (λy=>∃F:List Sh,y=(.rt,.lst (F.map lD))/\F.length<=11/\Oth a7 F) noX:=by
 have mn:∀k:Nat,Oo B.m__law_cell_at [(.no,iL ns),(.no,.int k)] (λy=>∃o':Own,y=(o',.int (B.cellAt ns k))/\True) noX:=λk=>B.cell_ok ns k ⋯
 have lr:v8 (.lst (a7.map lD))=some (.int a7.length):=by show some (D.int ((a7.map lD).length:Nat))=_;rw[X1]
 unfold YK;simp only[qwr,qwq,qj3];refine kY ?_;simp![];refine(mn 13).use ?_;intro _ _;generalize B.cellAt ns 13=c;simp![];refine x4 (λE ab=>∃(k:Nat) (F:List Sh) (o2:Own) (l4 l5 l6 l7:Option Sd),E=[some (.no,.lst (a7.map lD)),some (.no,iL ns),some (o2,.int c),some (.rt,.lst (F.map lD)),l4,l5,l6,l7]/\k<=a7.length/\ab=jV k a7.length/\Oth (a7.take k) F/\F.length+(a7.length - k)<=10) ?_ ?_ ?_
 ·refine W5 ?_;simp![lr];exact⟨a7.length,rfl,⋯,⋯,0,[],_,_,_,_,_,rfl,⋯,rfl,⟨(λ_ h=>nomatch h),λ_ h=>nomatch h⟩,by simp;lia⟩
 ·rintro E d ds ⟨k,F,o2,l4,l5,l6,l7,rfl,hk,hr,hO,hF⟩;obtain⟨de,rfl,rfl⟩:=V2 ⋯ hr;have n8:k<a7.length:=⋯
  have hw5:=h5 a7[k] (Y2 n8);have hx:kq (.lst (a7.map lD)) (.int k)=some (lD a7[k]):=Q3 ⋯ (by rw[Xy,Xe,X2 n8];rfl);have qp:a7.take (k+1)=a7.take k++[a7[k]]:=List.take_succ_eq_append_getElem n8;simp![];have c14:=mn (14+k);rw [show((14+k:Nat):Int)=14+(k:Int)by lia]at c14;refine c14.use ?_;intro _ _;simp![];refine(A.number_ok _ (qq4 hb _)).use ?_;intro nb _;simp![div_i (a:=nb) (b:=10) ⋯ ⋯];generalize nb / 10=a;refine(A.mixed_ok c k ⋯ ⋯).use ?_;intro m1 _;have q0:=Y3 m1 (show(1000:Int)≠0 by decide);have q1:=Xx m1 (show(0:Int)<1000 by decide);simp![mod_i (a:=m1) (b:=1000) ⋯];obtain⟨s,hs⟩:∃s,1+m1 % 1000=s:=⟨_,rfl⟩;rw [hs];have s0:0<s:=⋯
  have s1:s<=1000:=⋯
  refine xY (λE1 B ds aa=>(∃o2',E1=[some (.no,.lst (a7.map lD)),some (.no,iL ns),some (o2',.int c),some (.rt,.lst (F.map lD)),some (.no,.int k),some (.dp,.int a),some (.dp,.int s),l7])/\∃(q0 q1:Option Sd) (r1 r2:Sh),B=[q0,q1,some (.dp,.int a),some (.dp,.int s)]/\ds=rwD r2/\shW a7[k]=r1++r2/\aa.map (·.2)=rwD (r1.map λp=>(p.1,a+s*p.2))) ?_ ?_ ?_
  ·simp![hx];refine(kxz a7[k] ⋯).via ?_;rintro _ rfl;simp![];exact⟨⟨_,rfl⟩,_,_,[],shW a7[k],rfl,rfl,rfl,rfl⟩
  ·rintro E1 B d ds aa ⟨hE,q0,q1,r1,r2,rfl,au,ni,ha⟩;cases r2 with
   | nil=>cases au
   | cons p r2=>
    injection au with e1 e2;subst e1 e2;simp![mul_l (a:=s) (b:=p.2) ⋯ ⋯];exact⟨hE,_,_,r1++[p],r2,rfl,rfl,by rw[ni];simp,by rw[Xf,ha];simp⟩
  ·rintro E1 B aa ⟨⟨o2',rfl⟩,q0,q1,r1,r2,rfl,au,ni,ha⟩;have:r2=[]:=by cases r2 with|nil=>rfl|cons=>cases au
   subst this;rw[Xq]at ni;subst ni;rw[qx,ha];simp only[wY,back,clr,at',List.drop,List.map_cons,List.map_nil,List.set_cons_zero,List.set_cons_succ];generalize hy:((shW a7[k]).map λp=>(p.1,a+s*p.2))=y;have hyl:y.length<=5:=by rw[<-hy,X1,J3];exact hw5
   have lf:∀F:List Sh,v8 (.lst (F.map lD))=some (.int F.length):=λF=>by show some (D.int ((F.map lD).length:Nat))=_;rw[X1]
   simp![];refine wq1 rfl ?_;simp![];refine(A.mixed_ok c (20+k) ⋯ ⋯).use ?_;intro m2 _;have t0:=Y3 m2 (show(F.length:Int)+1≠0 by lia);have t1:=Xx m2 (show 0<(F.length:Int)+1 by lia);simp![lf,mod_i (a:=m2) (b:=(F.length:Int)+1) ⋯];refine⟨_,rfl,⟨t0,⋯,⋯⟩,?_⟩;generalize (m2 % ((F.length:Int)+1)).toNat=j;rw[show List.take j (List.map lD F)++D.lst (rwD y)::List.drop j (List.map lD F)=(F.take j++y::F.drop j).map lD by rw[Xf,List.map_cons,List.map_take,List.map_drop]];have hO1:Oth (a7.take (k+1)) (F.take j++y::F.drop j):=by
    rw[qp];exact kzi s0 hy.symm hO λx=>qw6
   have hG:(F.take j++y::F.drop j).length=F.length+1:=by rw[Xp,Xk,Y5,Zj];lia
   have hO2:Oth (a7.take (k+1)) (F.take j++y::F.drop j++[y]):=by
    rw[qp];exact kzi s0 hy.symm hO λx=>by rw[List.mem_append,qw6,List.mem_singleton,or_assoc,or_self]
   generalize F.take j++y::F.drop j=G at hO1 hO2 hG;refine(A.mixed_ok c (40+k) ⋯ ⋯).use ?_;intro m3 _;have no:∃(k':Nat) (F':List Sh) (o2:Own) (l4 l5 l6 l7:Option Sd),[some (Own.no,D.lst (a7.map lD)),some (.no,iL ns),some (.no,.int c),some (.rt,.lst (G.map lD)),some (.no,.int k),some (.dp,.int a),some (.dp,.int s),some (.no,.lst (rwD y))]=[some (.no,.lst (a7.map lD)),some (.no,iL ns),some (o2,.int c),some (.rt,.lst (F'.map lD)),l4,l5,l6,l7]/\k'<=a7.length/\jV (k+1) a7.length=jV k' a7.length/\Oth (a7.take k') F'/\F'.length+(a7.length - k')<=10:=⟨k+1,G,_,_,_,_,_,rfl,⋯,rfl,hO1,⋯⟩
   by_cases e3:m3 % 3=1
   ·have q3:fEq (.int (m3 % 3)) (.int 1)=some (.bl true):=by rw[WX,e3];rfl
    by_cases b7:(G.length:Int)+a7.length - k<11
    ·have q4:fLt (.int ((G.length:Int)+a7.length - k)) (.int 11)=some (.bl true):=by rw[lt_ii,Xb b7]
     simp![mod_i (a:=m3) (b:=3) ⋯,q3,lf,q4];refine zW rfl ?_;simp![ZX (o:=.no) (xs:=rwD y) ⋯];exact⟨_,rfl,by rw[X1];lia,k+1,G++[y],_,_,_,_,_,by rw[Xf];rfl,⋯,rfl,hO2,by rw[Xp,Yz];lia⟩
    ·have q4:fLt (.int ((G.length:Int)+a7.length - k)) (.int 11)=some (.bl false):=by rw[lt_ii,Xi b7]
     simp![mod_i (a:=m3) (b:=3) ⋯,q3,lf,q4];exact no
   ·have q3:fEq (.int (m3 % 3)) (.int 1)=some (.bl false):=by rw[WX,Ye e3]
    simp![mod_i (a:=m3) (b:=3) ⋯,q3];exact no
 ·rintro E ⟨k,F,o2,l4,l5,l6,l7,rfl,hk,hr,hO,hF⟩;have:(k:Int)=a7.length:=jz9 ⋯ hr;have:k=a7.length:=⋯
  rw[this,Zk]at hO;simp![];exact⟨F,rfl,⋯,hO⟩
theorem wkn(ns:List Int)(hn:ns.length<=63)(hb:∀i∈ns,Builtin.Int.intBits i<=1048576):Oo m_law [(.no,iL ns)] (λy=>y.2=.bl true) noX:=by
 unfold m_law;rw [qwr,e_by];refine kY ?_;simp![];refine(B.cell_ok ns 0 ⋯).use ?_;intro _ _;simp![];refine(qza _).use ?_;rintro ss ⟨h1,h3,hs,ie⟩;simp![];refine(qxy ns hn hb h1 h3).use ?_;intro a7 hT;have hl:=hT.len;simp![];refine xY (λE1 B ds aa=>E1=[some (.no,iL ns),some (.no,sL ss),some (.no,.lst (a7.map lD)),none,none,none,none,none,none]/\∃(q0:Option Sd) (r1 r2:List Sh),B=[q0]/\ds=r2.map lD/\a7=r1++r2/\aa.map (·.2)=(r1.map shW).map lD) ?_ ?_ ?_
 ·simp![];exact⟨_,[],a7,rfl,rfl,rfl,rfl⟩
 ·rintro E1 B d ds aa ⟨rfl,q0,r1,r2,rfl,au,hr,ha⟩;cases r2 with
  | nil=>cases au
  | cons w r2=>
   injection au with e1 e2;subst e1 e2;have hw:=hT.l5 w (by rw[hr];simp);simp![];refine(kxz w ⋯).via ?_;rintro _ rfl;exact⟨_,r1++[w],r2,rfl,rfl,by rw[hr];simp,by rw[Xf,ha];simp⟩
 rintro E1 B aa ⟨rfl,q0,r1,r2,rfl,au,hr,ha⟩;have:r2=[]:=by cases r2 with|nil=>rfl|cons=>cases au
 subst this;rw [Xq]at hr;subst hr;rw [qx,ha];simp only[wY,back,clr,at',List.drop,List.map_cons,List.map_nil,List.set_cons_zero,List.set_cons_succ];simp![ZX (o:=.no) (xs:=ss.map D.str) ⋯];refine K8 [] (λd y=>y.2=d) ?_;simp![];refine⟨λd hd=>?_,λys hy=>?_⟩
 ·obtain⟨w,_,rfl⟩:=aE hd;simp![ZX (o:=.no) (xs:=rwD w) ⋯];exact⟨⟨_,rfl⟩,trivial⟩
 rw [qx,K1 (h:=λd=>d) (λd y h=>h) hy,List.map_id'];simp only[back,clr];simp![];refine(jza h3 ⋯ hT.l5 hT.sg hT.n3).use ?_;intro bs hB;have hW:BegW a7 bs ss:=begw hB hT.sg hT.n3;have hfm:(vz ss (bs.map (k5 (a7.map shW) bs ss))).flat 40=true:=B.flats_mach (vk6 (shs:=a7.map shW) hW) 32;have hshp:=λn hn=>qq2 (shs:=a7.map shW) hW hB.len h3 ie n hn
 simp![];refine x4 (λE ab=>∃(k:Nat) (o3:Own) (l5 l6 l7 l8:Option Sd),E=[some (.no,iL ns),some (.no,sL ss),some (.no,.lst (a7.map lD)),some (o3,.lst ((a7.map shW).map lD)),some (.no,vz ss (bs.map (k5 (a7.map shW) bs ss))),l5,l6,l7,l8]/\(o3=.rt\/o3=.no)/\k<=5/\ab=jV k 5) ?_ ?_ ?_
 ·refine W5 ?_;simp![];exact⟨5,rfl,⋯,⋯,0,.rt,_,_,_,_,rfl,.inl rfl,⋯,rfl⟩
 ·rintro E d ds ⟨k,o3,l5,l6,l7,l8,rfl,ho,hk,hr⟩;obtain⟨de,rfl,rfl⟩:=V2 ⋯ hr;have hln:∀x:Sh,v8 (lD x)=some (.int x.length):=λx=>by show some (D.int ((rwD x).length:Nat))=_;rw[X1]
  obtain⟨P,hP1,hP2,hP3⟩:=kw5 ((a7.map shW).filter λx=>decide (x.length=k)) (by
   have:=List.length_filter_le (λx:Sh=>decide (x.length=k)) (a7.map shW);rw [X1]at this;lia)
  rcases ho with rfl|rfl
  all_goals
   simp![];refine x4 (λE ab=>∃(p1 p2 U:List Sh) (l7:Option Sd),E=[some (.no,iL ns),some (.no,sL ss),some (.no,.lst (a7.map lD)),some (.no,.lst ((a7.map shW).map lD)),some (.no,vz ss (bs.map (k5 (a7.map shW) bs ss))),some (.no,.int k),some (.rt,.lst (U.map lD)),l7,l8]/\P=p1++p2/\ab=p2.map lD/\U.Pairwise Lo/\∀x,x∈U↔x∈p1) ?_ ?_ ?_
   ·simp![];refine xY (λE1 B ds aa=>E1=[some (.no,iL ns),some (.no,sL ss),some (.no,.lst (a7.map lD)),some (.no,.lst ((a7.map shW).map lD)),some (.no,vz ss (bs.map (k5 (a7.map shW) bs ss))),some (.no,.int k),some (.rt,.lst []),l7,l8]/\∃(q0:Option Sd) (r1 r2:List Sh),B=[q0,some (.no,.int k)]/\ds=r2.map lD/\a7.map shW=r1++r2/\aa.map (·.2)=(r1.filter λx=>decide (x.length=k)).map lD) ?_ ?_ ?_
    ·simp![];exact⟨_,[],a7.map shW,rfl,rfl,rfl,rfl⟩
    ·rintro E1 B d ds aa ⟨rfl,q0,r1,r2,rfl,au,hr2,ha⟩;cases r2 with
     | nil=>cases au
     | cons x r2=>
      injection au with e1 e2;subst e1 e2
      by_cases hx:x.length=k
      ·have q:fEq (.int x.length) (.int k)=some (.bl true):=by rw[WX,hx];simp
       simp![hln,q];exact⟨_,r1++[x],r2,rfl,rfl,by rw[hr2];simp,by rw[Xf,ha,Zl];simp[hx]⟩
      ·have q:fEq (.int x.length) (.int k)=some (.bl false):=by rw[WX,Ye ⋯]
       simp![hln,q];exact⟨_,r1++[x],r2,rfl,rfl,by rw[hr2];simp,by rw[ha,Zl];simp[hx]⟩
    ·rintro E1 B aa ⟨rfl,q0,r1,r2,rfl,au,hr2,ha⟩;have:r2=[]:=by cases r2 with|nil=>rfl|cons=>cases au
     subst this;rw[Xq]at hr2;rw[qx,ha,<-hr2];simp only[wY,back,clr,at',List.drop,List.map_cons,List.map_nil,List.set_cons_zero,List.set_cons_succ];simp![hP1 .no ⋯,hP1 .rt ⋯];exact⟨[],P,[],_,rfl,rfl,rfl,.nil,λx=>Iff.rfl⟩
   ·rintro E d ds ⟨p1,p2,U,l7,rfl,hp,au,hU,hm⟩;cases p2 with
    | nil=>cases au
    | cons x p2=>
     injection au with e1 e2;subst e1 e2;have gp:xK (lD x) (.lst (U.map lD))=some (.bl (!decide (x∈U))):=by
      show QK (lD x) (.lst (U.map lD))=_;unfold QK;rw[show fIn (lD x) (.lst (U.map lD))=some (.bl (decide (x∈U)))from wwx];rfl
     have hUl:U.length<100:=by
      have da:U.Nodup:=hU.imp fun {a b} dm e=>by subst e;exact qvn _ _ dm dm
      have:=kko da (m:=a7.map shW) λy hy=>(List.mem_filter.mp ((hP2 y).mp (by rw[hp];exact ll9 _ ((hm y).mp hy)))).1
      rw[X1]at this;lia
     by_cases hx:x∈U
     ·rw[Xb hx]at gp;simp![gp];exact⟨p1++[x],p2,U,_,rfl,by rw[hp];simp,rfl,hU,λy=>by rw[List.mem_append,List.mem_singleton,hm];exact⟨.inl,λh=>h.elim id λe=>by rw[e];exact(hm x).mp hx⟩⟩
     ·rw[Xi hx]at gp;simp![gp];refine zW rfl ?_;simp![];have st:=vjj hU hm (x:=x) (λy hy ne=>by
       rw[hp]at hP3;exact(List.pairwise_append.mp hP3).2.2 y hy x X5 ne) hx
      exact⟨_,rfl,by rw[X1];lia,p1++[x],p2,U++[x],_,by rw[Xf];rfl,by rw[hp];simp,rfl,st.1,st.2⟩
   ·rintro E ⟨p1,p2,U,l7,rfl,hp,au,hU,hm⟩;have:p2=[]:=by cases p2 with|nil=>rfl|cons=>cases au
    subst this;rw[Xq]at hp;subst hp;have eU:(xJ bs ss k).filter (λx=>decide (x∈a7.map shW))=U:=kkb qvn (List.Pairwise.filter _ (jz1 ie k)) hU λx=>by
     rw[hm,hP2,List.mem_filter,List.mem_filter,jxr hW,decide_eq_true_iff,decide_eq_true_iff];constructor
     ·rintro ⟨⟨_,a⟩,b⟩;exact⟨b,a⟩
     ·rintro ⟨b,a⟩;refine⟨⟨?_,a⟩,b⟩;obtain⟨w,hw,rfl⟩:=aE b;exact hW.all w hw
    simp![];refine(hshp k ⋯).via ?_;rintro _ rfl;rw[eU];have il:wqa "list" (.lst (U.map lD))=some (.bl true):=rfl;have nn:fNe (.lst (U.map lD)) (.lst (U.map lD))=some (.bl false):=vvr (by
     unfold D.flat;exact qk λd hd=>by
      obtain⟨x,_,rfl⟩:=aE hd;unfold D.flat;exact jzt x)
    simp![il,nn];exact⟨k+1,.no,_,_,_,_,rfl,.inr rfl,⋯,rfl⟩
 ·rintro E ⟨k,o3,l5,l6,l7,l8,rfl,ho,hk,hr⟩;simp![ZX (o:=.no) (xs:=ss.map D.str) ⋯];refine(qzw ns hn hb ⋯ hT.l5).use ?_;rintro F ⟨hFl,hF⟩;have sF:∀y∈F,∃w∈a7,y.length=w.length/\nk (shW y)=nk (shW w)/\∀p∈y,p.1∈ss:=λy hy=>by
   obtain⟨w,hw,a,s,hs,rfl⟩:=hF.from' y hy;refine⟨w,hw,by rw[X1,J3],by rw[kw9 (f:=λi=>a+s*i) (kxc hs),qq3],λp hp=>?_⟩;obtain⟨q,hq,rfl⟩:=aE hp;unfold shW at hq;obtain⟨r,hr,rfl⟩:=aE hq;exact hT.sg w hw r hr
  simp![];refine(jza h3 hFl (λy hy=>by obtain⟨w,hw,e,_⟩:=sF y hy;rw[e];exact hT.l5 w hw) (λy hy=>by obtain⟨w,hw,_,_,e⟩:=sF y hy;exact e) (λy hy=>by obtain⟨w,hw,_,e,_⟩:=sF y hy;rw[e];exact hT.n3 w hw)).use ?_;intro cp hB';have eb:cp=bs:=vx7 hB' hB hF.sh hB'.pw hB.pw;subst eb;have er:k5 (F.map shW) cp ss=k5 (a7.map shW) cp ss:=by
   funext b;unfold k5;rw[decide_eq_decide.mpr (hF.sh b)]
  rw[er];simp![C.eq_self hfm]
theorem law_true(ns:List Int)(hl:ns.length<=63)(hb:∀i∈ns,Builtin.Int.intBits i<=1048576):∃E o,m_law [(.no,.lst (ns.map D.int))]=some (.ok E (o,.bl true)):=by
 obtain⟨E,⟨o,d⟩,h,hd⟩:=(wkn ns hl hb).out;have hd:d=.bl true:=hd;subst hd;exact⟨E,o,h⟩
end Nk74
namespace Nk74
open PySem L2 L3 Q
def top(i:Nat):Stmt:=PySem.Challenge.pw_freshrooms_k74_whole_shapes_of_tables.main.body.getD i (.Pass ⟨0,0,0,0⟩)
abbrev jx1:Stmt:=top 5
abbrev jz7:Stmt:=top 7
abbrev jq2:Stmt:=top 14
abbrev jx3:Stmt:=top 13
abbrev jz8:Stmt:=top 16
abbrev jwz:Stmt:=top 15
abbrev jx0:Stmt:=top 12
abbrev jx2:Stmt:=top 11
abbrev jwy:Stmt:=top 18
abbrev jw0:Stmt:=top 17
abbrev jqh:Stmt:=top 20
abbrev jvd:Stmt:=top 21
abbrev jv8:Stmt:=top 22
abbrev jqs:Stmt:=top 23
abbrev jvb:Stmt:=top 24
abbrev jva:Stmt:=top 25
abbrev jv9:Stmt:=top 26
abbrev jvc:Stmt:=top 27
abbrev vqj:Stmt:=top 28
theorem sc_shape_of:FnScope ["row","numbers","shape","sign","name"] ["row"] (k4 jx1):=mkS
theorem sc_read_by:FnScope ["plain","standing","sign","name","names","cases","case","held"] ["plain","standing","sign","name"] (k4 jz7):=mkS
theorem sc_beginnings_of:FnScope ["shapes","told","shape"] ["shapes"] (k4 jq2):=mkS
theorem kwb:FnScope ["shape"] ["shape"] (k4 jx3):=mkS
theorem qjl:FnScope ["shape","numbers"] ["shape","numbers"] (k4 jz8):=mkS
theorem sc_steps_at:FnScope ["shape","signs","numbers","names","steps","sign"] ["shape","signs","numbers"] (k4 jwz):=mkS
theorem sc_signs_in:FnScope ["shapes","signs","shape"] ["shapes"] (k4 jx0):=mkS
theorem sc_plain_by:FnScope ["signs","table","shapes","beginnings","numbers"] ["signs","table"] (k4 jx2):=mkS
theorem sc_walks_on:FnScope ["plain","walks","onward","shape","standing","names","sign","later"] ["plain","walks"] (k4 jwy):=mkS
theorem sc_shapes_of:FnScope ["plain","many","walks","size"] ["plain","many"] (k4 jw0):=mkS
theorem jz6:FnScope ["_law_script","_law_k"] ["_law_script","_law_k"] (k4 jqh):=mkS
theorem sc__law_mixed:FnScope ["_law_cell","_law_k","_law_number_here"] ["_law_cell","_law_k"] (k4 jvd):=mkS
theorem sc__law_words:FnScope ["_law_cell","_law_many","_law_letters","_law_word","_law_long","_law_at","_law_some","_law_k","_law_turn"] ["_law_cell","_law_many"] (k4 jv8):=mkS
theorem kj7:FnScope ["_law_cell"] ["_law_cell"] (k4 jqs):=mkS
theorem sc__law_shape:FnScope ["_law_row","_law_known","_law_found","_law_sign","_law_name"] ["_law_row"] (k4 jvb):=mkS
theorem kk9:FnScope ["_law_cell"] ["_law_cell"] (k4 jva):=mkS
theorem sc__law_table:FnScope ["_law_script","_law_start","_law_signs_here","_law_most","_law_head","_law_one","_law_pool","_law_table_here","_law_k","_law_number_here","_law_row","_law_many","_law_j","_law_part"] ["_law_script","_law_start","_law_signs_here","_law_most"] (k4 jv9):=mkS
theorem sc__law_other:FnScope ["_law_table_here","_law_script","_law_cell","_law_found","_law_k","_law_far","_law_step","_law_row"] ["_law_table_here","_law_script"] (k4 jvc):=mkS
theorem sc_law:FnScope ["_law_script","_law_signs_here","_law_table_here","_law_shapes","_law_plain","_law_many","_law_due","_law_shape_here","_law_found"] ["_law_script"] (k4 vqj):=mkS
structure Txt (K:Frag)(mg:Str->Option Value):Prop where
 b_all:mg "all"=none
 b_dict:mg "dict"=none
 b_enumerate:mg "enumerate"=none
 b_isinstance:mg "isinstance"=none
 b_len:mg "len"=none
 b_list:mg "list"=none
 b_range:mg "range"=none
 b_set:mg "set"=none
 b_sorted:mg "sorted"=none
 b_tuple:mg "tuple"=none
 c_MOST_NAMES:Cst mg "MOST_NAMES" (V.int (3))
 c_MOST_SIGNS:Cst mg "MOST_SIGNS" (V.int (4))
section
variable (P:Program)(w:PySem.World)(K:Frag)(mg:Str->Option Value)(base:Heap)
abbrev kjw:=kX P w K mg base 1 "shape_of" ["row"] (spF K mg 1 m_shape_of)
abbrev kw0:=kX P w K mg base 1 "read_by" ["plain","standing","sign","name"] (spF K mg 4 m_read_by)
abbrev jvm:=kX P w K mg base 1 "beginnings_of" ["shapes"] (spF K mg 1 m_beginnings_of)
abbrev Zz:=kX P w K mg base 1 "names_in" ["shape"] (spF K mg 1 m_names_in)
abbrev kw1:=kX P w K mg base 2 "case_to" ["shape","numbers"] (spF K mg 2 m_case_to)
abbrev kju:=kX P w K mg base 3 "steps_at" ["shape","signs","numbers"] (spF K mg 3 m_steps_at)
abbrev kjv:=kX P w K mg base 1 "signs_in" ["shapes"] (spF K mg 1 m_signs_in)
abbrev kjx:=kX P w K mg base 4 "plain_by" ["signs","table"] (spF K mg 2 m_plain_by)
abbrev kjt:=kX P w K mg base 2 "walks_on" ["plain","walks"] (spF K mg 2 ZJ)
abbrev kj4:=kX P w K mg base 3 "shapes_of" ["plain","many"] (spF K mg 2 ZZ)
abbrev jkm:=kX P w K mg base 1 "_law_cell_at" ["_law_script","_law_k"] (spF K mg 2 m__law_cell_at)
abbrev jqf:=kX P w K mg base 1 "_law_mixed" ["_law_cell","_law_k"] (spF K mg 2 m__law_mixed)
abbrev jxh:=kX P w K mg base 2 "_law_words" ["_law_cell","_law_many"] (spF K mg 2 m__law_words)
abbrev jv1:=kX P w K mg base 1 "_law_number" ["_law_cell"] (spF K mg 1 m__law_number)
abbrev jvn:=kX P w K mg base 1 "_law_shape" ["_law_row"] (spF K mg 1 QQ)
abbrev jxj:=kX P w K mg base 3 "_law_signs" ["_law_cell"] (spF K mg 1 XY)
abbrev jxi:=kX P w K mg base 2 "_law_table" ["_law_script","_law_start","_law_signs_here","_law_most"] (spF K mg 4 ZK)
abbrev jxk:=kX P w K mg base 2 "_law_other" ["_law_table_here","_law_script"] (spF K mg 2 YK)
end
section
variable {P:Program}{w:PySem.World}{K:Frag}{mg:Str->Option Value}{base:Heap}{f:Addr}{fd:FuncData}
theorem kww(T:Txt K mg)  (F:Fun K "shape_of" "shape_of" jx1 f fd):FnOk P w K mg base (CXE P w) 1 f fd ["row"] (spF K mg 1 m_shape_of):=
 v4 F sc_shape_of (qW rfl) λb8 A outer s H vs Q E hr h=>have nd:=sc_shape_of.nd;qY rfl
  (j7 (qA nd wja) (j7 (qA nd (v9 (o:=.rt) j8)) (j7 (qF (kQ (cv 0)) (JY (is:=[3,4]) (Jq K (t:=gNs [3,4]) (n:=2) (v5 (gn nd) (v5 (gn nd) JV)))) (j7 (wQ (vx (qzx hr.units) qxn (vv 4) (vv 1) (by rfl) qxe) (jz (wj6 (i:=1) hr.units (pv 1) (vv 4) (W4 qx6 vxb (vv 1) T.b_len vkv))) wj) (jz (qP (q9 (o:=.no) (j3 (cv 3) (j3 (wX (ww4 hr.units (vv 1) (vv 4) (λ_ _=>rfl))) j8))))))) (jz (kj (Kw (pv 2))))))) h
theorem qjv(T:Txt K mg)  (F:Fun K "read_by" "read_by" jz7 f fd):FnOk P w K mg base (CXE P w) 1 f fd ["plain","standing","sign","name"] (spF K mg 4 m_read_by):=
 v4 F sc_read_by (qW rfl) λb8 A outer s H vs Q E hr h=>have nd:=sc_read_by.nd;qY rfl
  (j7 (wQ (QW.pt (wj1 (vx vkd vq5 (vv 1) kn (xz _) vky) (vk3 (vx (kkh hr.units) kq8 (vv 2) (kx (vv 0) ki) (by rfl) kq3)))) (jz (kj kN)) wj) (j7 (qA nd (wX (kx (vv 1) ki))) (j7 (qA nd (wX (kx (kx (kx (kx (vv 0) ki) (kx (vv 1) ki)) ki) (j5 (kwh hr.units (kx (vv 0) ki) (vv 2)))))) (j7 (qA nd (wX (kx (vv 5) (j5 (ww8 (vx (vvl hr.units) vxc (vv 3) (vv 4) (by rfl) wxl) (kwh hr.units (vv 4) (vv 3)) (qL (vv 4) T.b_len)))))) (j7 (wQ (vx vkd vq5 (vv 6) kn (xz _) vky) (jz (kj kN)) wj) (j7 (qA nd (oA (vv 4) (j5 (q9 (o:=.no) (j3 (cv 3) j8))))) (jz (kj (q9 (o:=.no) (j3 (wX (kx (vv 6) ki)) (j3 (qT (j5 (qM .rt 1 [7] 8 ["fill","held"] (kQ (wX (kx (vv 6) ki))) (λ_ _ _ _ _=>(wX (kx (vv 1) (vv 0)))))) T.b_tuple) j8))))))))))) h
theorem jxm(T:Txt K mg)  (F:Fun K "beginnings_of" "beginnings_of" jq2 f fd):FnOk P w K mg base (CXE P w) 1 f fd ["shapes"] (spF K mg 1 m_beginnings_of):=
 v4 F sc_beginnings_of (qW rfl) λb8 A outer s H vs Q E hr h=>have nd:=sc_beginnings_of.nd;qY rfl
  (j7 (qA nd (v9 (o:=.rt) (j3 (q9 (o:=.no) (j3 kI (j3 (q9 (o:=.no) j8) j8))) j8))) (j7 (qF (kQ (cv 0)) (gN nd) (jz (vqv (i:=1) (qM .rt 1 [2] 3 ["end","shape"] (Jk (j5 (oA (j5 (qL (vv 2) T.b_len)) ki)) rfl T.b_range) (λ_ _ _ _ _=>(q9 (o:=.no) (j3 (cv 0) (j3 (ww1 (vv 1) vqu (Ww (vv 0))) j8)))))))) (jz (kj (qm .rt 2 [] 3 ["size","shape"] (kQ (ww0 rfl rfl hr.units (vv 1) T.b_sorted T.b_set)) (λhN _ _ _ _ _=>(JY (is:=[0,1]) (Jq K (t:=gNs [0,1]) (n:=2) (v5 (qV (i:=0) hN rfl (by trivial)) (v5 (qV (i:=1) hN rfl (by trivial)) JV))))) (λ_ _ _ _ _=>KK) (λ_ _ _ _ _=>(cv 1))))))) h
theorem kwy(T:Txt K mg)  (F:Fun K "names_in" "names_in" jx3 f fd):FnOk P w K mg base (CXE P w) 1 f fd ["shape"] (spF K mg 1 m_names_in):=
 v4 F kwb (qW rfl) λb8 A outer s H vs Q E hr h=>qY rfl
  (jz (kj (qqq rfl rfl (j5 (qm .rt 2 [] 1 ["sign","name"] (kQ (cv 0)) (λhN _ _ _ _ _=>(JY (is:=[0,1]) (Jq K (t:=gNs [0,1]) (n:=2) (v5 (qV (i:=0) hN rfl (by trivial)) (v5 (qV (i:=1) hN rfl (by trivial)) JV))))) (λ_ _ _ _ _=>KK) (λ_ _ _ _ _=>(cv 1)))) T.b_len T.b_set))) h
theorem qjw(T:Txt K mg)(ai:Zz P w K mg base)(F:Fun K "case_to" "case_to" jz8 f fd):FnOk P w K mg base (CXE P w) 2 f fd ["shape","numbers"] (spF K mg 2 m_case_to):=
 v4 F qjl (qW rfl) λb8 A outer s H vs Q E hr h=>qY rfl
  (j7 (wQ (vx (qzy hr.units) qxo (vv 0) (vv 1) (by rfl) qxf) (jz (kj kN)) wj) (jz (kj (q9 (o:=.no) (j3 (wX (ww3 hr.units (vv 1) (vv 0) (λ_ _=>rfl))) (j3 (wvz (j5 (qC ai hr (j3 (cv 0) j8))) T.b_range T.b_tuple) j8)))))) h
theorem kwu(T:Txt K mg)(ai:Zz P w K mg base)(cw:kw1 P w K mg base)(F:Fun K "steps_at" "steps_at" jwz f fd):FnOk P w K mg base (CXE P w) 3 f fd ["shape","signs","numbers"] (spF K mg 3 m_steps_at):=
 v4 F sc_steps_at (qW rfl) λb8 A outer s H vs Q E hr h=>have nd:=sc_steps_at.nd;qY rfl
  (j7 (qA nd (wj3 (j5 (oA (j5 (qC ai hr (j3 (cv 0) j8))) ki)) T.b_range T.b_list)) (j7 (qA nd (v9 (o:=.rt) j8)) (j7 (qF (kQ (cv 1)) (gN nd) (jz (qP (qM .rt 1 [0,5,2] 6 ["name","shape","sign","numbers"] (kQ (cv 3)) (λ_ _ _ _ _=>(qC cw hr (j3 (oA (vv 1) (j5 (q9 (o:=.no) (j3 (q9 (o:=.no) (j3 (cv 2) (j3 (cv 0) j8))) j8)))) (j3 (cv 3) j8)))))))) (jz (kj (Kw (pv 4))))))) h
theorem kwv(T:Txt K mg)  (F:Fun K "signs_in" "signs_in" jx0 f fd):FnOk P w K mg base (CXE P w) 1 f fd ["shapes"] (spF K mg 1 m_signs_in):=
 v4 F sc_signs_in (qW rfl) λb8 A outer s H vs Q E hr h=>have nd:=sc_signs_in.nd;qY rfl
  (j7 (qA nd (v9 (o:=.rt) j8)) (j7 (qF (kQ (cv 0)) (gN nd) (jz (vqv (i:=1) (qm .rt 2 [] 3 ["sign","name"] (kQ (cv 2)) (λhN _ _ _ _ _=>(JY (is:=[0,1]) (Jq K (t:=gNs [0,1]) (n:=2) (v5 (qV (i:=0) hN rfl (by trivial)) (v5 (qV (i:=1) hN rfl (by trivial)) JV))))) (λ_ _ _ _ _=>KK) (λ_ _ _ _ _=>(cv 0)))))) (jz (kj (Kw (pv 1)))))) h
theorem kwx(T:Txt K mg)(ay:jvm P w K mg base)(bu:kjw P w K mg base)(ai:Zz P w K mg base)(bw:kju P w K mg base)(bt:kjv P w K mg base)(F:Fun K "plain_by" "plain_by" jx2 f fd):FnOk P w K mg base (CXE P w) 4 f fd ["signs","table"] (spF K mg 2 m_plain_by):=
 v4 F sc_plain_by (qW rfl) λb8 A outer s H vs Q E hr h=>have nd:=sc_plain_by.nd;qY rfl
  (j7 (qA nd (qM .rt 1 [] 5 ["row"] (kQ (cv 1)) (λ_ _ _ _ _=>(qT (j5 (qC bu hr (j3 (cv 0) j8))) T.b_tuple)))) (j7 (wQ (kz6 (kke (j5 (W4 (qxb K) vq6 (j5 (qM .rt 1 [0] 5 ["sign","signs"] (kQ (qC bt hr (j3 (cv 2) j8))) (λ_ _ _ _ _=>(qzm (vvl hr.units) vxc (vv 0) (vv 1) (by rfl))))) T.b_all vkw)))) (jz qqp) wj) (j7 (wQ (kz6 (kke (j5 (W4 (qxb K) vq6 (j5 (qM .rt 1 [] 5 ["shape"] (kQ (cv 2)) (λ_ _ _ _ _=>(qzm vvi (XX (g:=λa b=>decide (a<=b))) (j5 (qC ai hr (j3 (cv 0) j8))) (j5 (q_C (vka T.c_MOST_NAMES) (λ_=>xk))) (xz _))))) T.b_all vkw)))) (jz qqp) wj) (j7 (qA nd (qC ay hr (j3 (cv 2) j8))) (j7 (qA nd (Qj (qka hr.units) vjx (j5 (qm .rt 2 [] 5 ["number","shape"] (wj5 (cv 3) rfl T.b_enumerate) (λhN _ _ _ _ _=>(JY (is:=[0,1]) (Jq K (t:=gNs [0,1]) (n:=2) (v5 (qV (i:=0) hN rfl (by trivial)) (v5 (qV (i:=1) hN rfl (by trivial)) JV))))) (λ_ _ _ _ _=>KK) (λ_ _ _ _ _=>(q9 (o:=.no) (j3 (cv 1) (j3 (cv 0) j8)))))) T.b_dict vx3)) (jz (kj (q9 (o:=.no) (j3 (Qj (jwr K) Zw (vv 0) T.b_list Qz) (j3 (qM .rt 1 [2,0,4] 5 ["shape","shapes","signs","numbers"] (kQ (cv 3)) (λ_ _ _ _ _=>(q9 (o:=.no) (j3 (qC ai hr (j3 (cv 0) j8)) (j3 (qzm (vvl hr.units) vxc (vv 0) (vv 1) (by rfl)) (j3 (qC bw hr (j3 (cv 0) (j3 (cv 2) (j3 (cv 3) j8)))) j8)))))) j8)))))))))) h
theorem kwt(T:Txt K mg)(ai:Zz P w K mg base)(cq:kw0 P w K mg base)(F:Fun K "walks_on" "walks_on" jwy f fd):FnOk P w K mg base (CXE P w) 2 f fd ["plain","walks"] (spF K mg 2 ZJ):=
 v4 F sc_walks_on (qW rfl) λb8 A outer s H vs Q E hr h=>have nd:=sc_walks_on.nd;qY rfl
  (j7 (qA nd (v9 (o:=.rt) j8)) (j7 (qF (kQ (cv 1)) (JY (is:=[3,4]) (Jq K (t:=gNs [3,4]) (n:=2) (v5 (gn nd) (v5 (gn nd) JV)))) (j7 (qA nd (wj3 (j5 (oA (j5 (qC ai hr (j3 (cv 3) j8))) ki)) T.b_range T.b_list)) (jz (qF (kQ (wX (kx (vv 0) ki))) (gN nd) (j7 (kwg (i:=7) (o:=.rt) (k:=1) (R:=[3,6,0,4]) ["name","shape","sign","plain","standing"] nd rfl (by trivial) (kQ (cv 5)) (λ_ _ _ _ _=>(V9 (qV (i:=0) (show(["name","shape","sign","plain","standing"]:List Str).Nodup by decide +kernel) rfl (by trivial)))) (λ_ _ _ _ _=>KK) (λ_ _ _ _ _=>(q9 (o:=.no) (j3 (oA (vv 1) (j5 (v9 (o:=.rt) (j3 (q9 (o:=.no) (j3 (cv 2) (j3 (cv 0) j8))) j8)))) (j3 (qC cq hr (j3 (cv 3) (j3 (cv 4) (j3 (cv 2) (j3 (cv 0) j8))))) j8)))) V6 ⟨_,_,rfl,rfl⟩ ⋯ (show ∀j∈([3,6,0,4]:List Nat) ,j<8 by decide)) (jz (vqv (i:=2) (qm .rt 1 [] 8 ["walk"] (kQ (cv 7)) (λhN _ _ _ _ _=>(V9 (qV (i:=0) hN rfl (by trivial)))) (λ_ _ _ _ _=>(vqs (vx vvh vx9 (kx (vv 0) ki) kn (xz _) vx5))) (λ_ _ _ _ _=>(cv 0)))))))))) (jz (kj (Kw (pv 2)))))) h
theorem kqu(T:Txt K mg)(bv:kjt P w K mg base)(F:Fun K "shapes_of" "shapes_of" jw0 f fd):FnOk P w K mg base (CXE P w) 3 f fd ["plain","many"] (spF K mg 2 ZZ):=
 v4 F sc_shapes_of (qW rfl) λb8 A outer s H vs Q E hr h=>have nd:=sc_shapes_of.nd;qY rfl
  (j7 (wQ (kz6 (qzk vvi (XX (g:=λa b=>decide (a<=b))) vvi (XX (g:=λa b=>decide (a<=b))) ki (vv 1) (j5 (q_C (vka T.c_MOST_SIGNS) (λ_=>xk))) vx6)) (jz qqp) wj) (j7 (qA nd (v9 (o:=.rt) (j3 (q9 (o:=.no) (j3 (v9 (o:=.rt) j8) (j3 (q9 (o:=.no) (j3 kI (j3 (q9 (o:=.no) j8) j8))) j8))) j8))) (j7 (qF (Jk (vv 1) rfl T.b_range) (gN nd) (jz (qA nd (qC bv hr (j3 (cv 0) (j3 (cv 2) j8)))))) (jz (kj (qm .rt 2 [0] 4 ["shape","standing","plain"] (kQ (cv 2)) (λhN _ _ _ _ _=>(JY (is:=[0,1]) (Jq K (t:=gNs [0,1]) (n:=2) (v5 (qV (i:=0) hN rfl (by trivial)) (v5 (qV (i:=1) hN rfl (by trivial)) JV))))) (λ_ _ _ _ _=>(vqs (kke (kx (kx (kx (vv 2) ki) (kx (vv 1) ki)) ki)))) (λ_ _ _ _ _=>(cv 0)))))))) h
theorem jzd(T:Txt K mg)  (F:Fun K "_law_cell_at" "_law_cell_at" jqh f fd):FnOk P w K mg base (CXE P w) 1 f fd ["_law_script","_law_k"] (spF K mg 2 m__law_cell_at):=
 v4 F jz6 (qW rfl) λb8 A outer s H vs Q E hr h=>qY rfl
  (j7 (wQ (vx wk4 (XX (g:=λa b=>decide (a<b))) (vv 1) (j5 (qL (vv 0) T.b_len)) (xz _) vx6) (jz (kj (wX (kx (vv 0) (vv 1))))) wj) (jz (kj kI))) h
theorem kkn(T:Txt K mg)  (F:Fun K "_law_mixed" "_law_mixed" jvd f fd):FnOk P w K mg base (CXE P w) 1 f fd ["_law_cell","_law_k"] (spF K mg 2 m__law_mixed):=
 v4 F sc__law_mixed (qW rfl) λb8 A outer s H vs Q E hr h=>have nd:=sc__law_mixed.nd;qY rfl
  (j7 (wQ (vx (W0 hr.units) W8 (j5 (oM (vv 0) ki)) ki (xz _) Zv) (jz (kj (kw z5 xZ (vv 0) (j5 (kw wk2 wqx ki (j5 (oX ki (vv 1)))))))) wj) (j7 (qA nd (oM (j5 (oX (j5 (oA (j5 (oA (j5 (oM (vv 0) ki)) (j5 (oX ki (vv 1))))) ki)) ki)) ki)) (j7 (qA nd (oM (j5 (oX (vv 2) (vv 2))) ki)) (jz (kj (oM (j5 (oA (j5 (oX (vv 2) (vv 2))) (j5 (oX ki (vv 1))))) ki)))))) h
theorem kki(T:Txt K mg)(ah:jqf P w K mg base)(F:Fun K "_law_words" "_law_words" jv8 f fd):FnOk P w K mg base (CXE P w) 2 f fd ["_law_cell","_law_many"] (spF K mg 2 m__law_words):=
 v4 F sc__law_words (qW rfl) λb8 A outer s H vs Q E hr h=>have nd:=sc__law_words.nd;qY rfl
  (j7 (qA nd kS) (j7 (qA nd (wj4 vk8 (j5 (qM .rt 1 [2,0] 9 ["_law_j","_law_letters","_law_cell"] (Jk ki rfl T.b_range) (λ_ _ _ _ _=>(wX (kx (vv 1) (j5 (oM (j5 (qC ah hr (j3 (cv 2) (j3 (cv 0) j8)))) ki))))))))) (j7 (wQ (vx (W0 hr.units) W8 (j5 (oM (vv 0) ki)) ki (xz _) Zv) (jz (kj (qM .rt 1 [3,0] 9 ["_law_k","_law_word","_law_cell"] (Jk (vv 1) rfl T.b_range) (λ_ _ _ _ _=>(ww2 (vv 1) vqu (Ww (j5 (oA ki (j5 (oM (j5 (oA (vv 0) (j5 (kw z5 xZ (vv 2) ki)))) ki)))))))))) wj) (j7 (qA nd (oA ki (j5 (oM (j5 (kw z5 xZ (vv 0) ki)) ki)))) (j7 (qA nd (oM (j5 (kw z5 xZ (vv 0) ki)) (vv 4))) (j7 (qA nd (v9 (o:=.rt) j8)) (j7 (qF (Jk (vv 1) rfl T.b_range) (gN nd) (j7 (qA nd (oM (j5 (oA (j5 (wj7 (vv 2) (kx (vv 3) (vv 5)))) (j5 (oX (vv 7) (j5 (oA ki (j5 (oM (j5 (kw z5 xZ (vv 0) ki)) ki)))))))) ki)) (jz (qP (oA (j5 (oA (j5 (ww2 (vv 3) vqu (Ww (vv 5)))) (kx (vv 2) (vv 8)))) (j5 (ww2 (vv 3) (Ww (j5 (oA (vv 5) ki))) (Ww (vv 4))))))))) (jz (kj (Kw (pv 6))))))))))) h
theorem kj8(T:Txt K mg)  (F:Fun K "_law_number" "_law_number" jqs f fd):FnOk P w K mg base (CXE P w) 1 f fd ["_law_cell"] (spF K mg 1 m__law_number):=
 v4 F kj7 (qW rfl) λb8 A outer s H vs Q E hr h=>qY rfl
  (j7 (wQ (vx (W0 hr.units) W8 (j5 (oM (vv 0) ki)) ki (xz _) Zv) (jz (kj (kw kqr YZ (j5 (oM (j5 (kw z5 xZ (vv 0) ki)) ki)) ki))) wj) (jz (kj (oA (j5 (kw kqr YZ (j5 (oM (j5 (oX (vv 0) (j5 (kw WJ kvz ki ki)))) (j5 (kw kqr YZ (j5 (oX ki (j5 (kw WJ kvz ki ki)))) ki)))) (j5 (kw WJ kvz ki ki)))) ki)))) h
theorem kkl(T:Txt K mg)  (F:Fun K "_law_shape" "_law_shape" jvb f fd):FnOk P w K mg base (CXE P w) 1 f fd ["_law_row"] (spF K mg 1 QQ):=
 v4 F sc__law_shape (qW rfl) λb8 A outer s H vs Q E hr h=>have nd:=sc__law_shape.nd;qY rfl
  (j7 (qA nd (v9 (o:=.rt) j8)) (j7 (qA nd (v9 (o:=.rt) j8)) (j7 (qF (kQ (cv 0)) (JY (is:=[3,4]) (Jq K (t:=gNs [3,4]) (n:=2) (v5 (gn nd) (v5 (gn nd) JV)))) (j7 (wQ (vx (kkh hr.units) kq8 (vv 4) (vv 1) (by rfl) kq3) (jz (qP (cv 4))) wj) (jz (qP (q9 (o:=.no) (j3 (cv 3) (j3 (kwh hr.units (vv 1) (vv 4)) j8))))))) (jz (kj (Kw (pv 2))))))) h
theorem kkk(T:Txt K mg)(bg:jxh P w K mg base)(F:Fun K "_law_signs" "_law_signs" jva f fd):FnOk P w K mg base (CXE P w) 3 f fd ["_law_cell"] (spF K mg 1 XY):=
 v4 F kk9 (qW rfl) λb8 A outer s H vs Q E hr h=>qY rfl
  (jz (kj (W4 (kxh rfl) qxm (j5 (qC bg hr (j3 (kw z5 xZ (vv 0) ki) (j3 (oA ki (j5 (oM (vv 0) ki))) j8)))) T.b_sorted qxc))) h
theorem kkj(T:Txt K mg)(ac:jkm P w K mg base)(ao:jv1 P w K mg base)(ah:jqf P w K mg base)(F:Fun K "_law_table" "_law_table" jv9 f fd):FnOk P w K mg base (CXE P w) 2 f fd ["_law_script","_law_start","_law_signs_here","_law_most"] (spF K mg 4 ZK):=
 v4 F sc__law_table (qW rfl) λb8 A outer s H vs Q E hr h=>have nd:=sc__law_table.nd;qY rfl
  (j7 (qA nd (qC ac hr (j3 (cv 0) (j3 (cv 1) j8)))) (j7 (qA nd (qC ao hr (j3 (qC ac hr (j3 (cv 0) (j3 (oA (vv 1) ki) j8))) j8))) (j7 (qA nd (v9 (o:=.rt) (j3 (cv 5) (j3 (oA (j5 (kw z5 xZ (vv 5) ki)) (j5 (kw WJ kvz ki ki))) (j3 (kw kqr YZ (j5 (kw z5 xZ (vv 5) ki)) (j5 (kw WJ kvz ki ki))) j8))))) (j7 (qA nd (v9 (o:=.rt) j8)) (j7 (qF (Jk (j5 (oM (vv 4) (j5 (oA (vv 3) ki)))) rfl T.b_range) (gN nd) (j7 (qA nd (qC ah hr (j3 (qC ac hr (j3 (cv 0) (j3 (oA (j5 (oA (vv 1) ki)) (vv 8)) j8))) (j3 kI j8)))) (j7 (qA nd (v9 (o:=.rt) j8)) (j7 (qA nd (oM (vv 9) ki)) (j7 (qF (Jk (vv 11) rfl T.b_range) (gN nd) (j7 (qA nd (kw z5 xZ (vv 9) (kx (j5 (v9 (o:=.rt) (j3 kI (j3 kI (j3 kI (j3 kI (j3 kI j8))))))) (vv 12)))) (jz (qP (q9 (o:=.no) (j3 (wX (kx (vv 2) (j5 (oM (vv 13) (j5 (qL (vv 2) T.b_len)))))) (j3 (wX (kx (vv 6) (j5 (oM (j5 (kw z5 xZ (vv 13) ki)) ki)))) j8))))))) (jz (qP (cv 10)))))))) (jz (kj (Kw (pv 7))))))))) h
theorem kkm(T:Txt K mg)(ac:jkm P w K mg base)(ao:jv1 P w K mg base)(ah:jqf P w K mg base)(av:jvn P w K mg base)(F:Fun K "_law_other" "_law_other" jvc f fd):FnOk P w K mg base (CXE P w) 2 f fd ["_law_table_here","_law_script"] (spF K mg 2 YK):=
 v4 F sc__law_other (qW rfl) λb8 A outer s H vs Q E hr h=>have nd:=sc__law_other.nd;qY rfl
  (j7 (qA nd (qC ac hr (j3 (cv 1) (j3 kI j8)))) (j7 (qA nd (v9 (o:=.rt) j8)) (j7 (qF (Jk (j5 (qL (vv 0) T.b_len)) rfl T.b_range) (gN nd) (j7 (qA nd (kw z5 xZ (j5 (qC ao hr (j3 (qC ac hr (j3 (cv 1) (j3 (oA ki (vv 4)) j8))) j8))) ki)) (j7 (qA nd (oA ki (j5 (oM (j5 (qC ah hr (j3 (cv 2) (j3 (cv 4) j8)))) ki)))) (j7 (kwg (i:=7) (o:=.rt) (k:=2) (R:=[5,6]) ["_law_sign","_law_name","_law_far","_law_step"] nd rfl (by trivial) (kQ (qC av hr (j3 (wX (kx (vv 0) (vv 4))) j8))) (λ_ _ _ _ _=>(JY (is:=[0,1]) (Jq K (t:=gNs [0,1]) (n:=2) (v5 (qV (i:=0) (show(["_law_sign","_law_name","_law_far","_law_step"]:List Str).Nodup by decide +kernel) rfl (by trivial)) (v5 (qV (i:=1) (show(["_law_sign","_law_name","_law_far","_law_step"]:List Str).Nodup by decide +kernel) rfl (by trivial)) JV))))) (λ_ _ _ _ _=>KK) (λ_ _ _ _ _=>(q9 (o:=.no) (j3 (cv 0) (j3 (oA (vv 2) (j5 (oX (vv 3) (vv 1)))) j8)))) V6 ⟨_,_,rfl,rfl⟩ ⋯ (show ∀j∈([5,6]:List Nat) ,j<8 by decide)) (j7 (ww6 (j:=3) (pv 3) (oM (j5 (qC ah hr (j3 (cv 2) (j3 (oA ki (vv 4)) j8)))) (j5 (oA (j5 (qL (vv 3) T.b_len)) ki))) (cv 7) rfl qv8) (jz (wQ (QW.pt (wj2 (vx (W0 hr.units) W8 (j5 (oM (j5 (qC ah hr (j3 (cv 2) (j3 (oA ki (vv 4)) j8)))) ki)) ki (xz _) Zv) (vqt (vx wk4 (XX (g:=λa b=>decide (a<b))) (j5 (kw kqr YZ (j5 (oA (j5 (qL (vv 3) T.b_len)) (j5 (qL (vv 0) T.b_len)))) (vv 4))) ki (xz _) vx6)))) (jz (qP (Qj (jwr K) Zw (vv 7) T.b_list Qz))) wj))))))) (jz (kj (Kw (pv 3))))))) h
theorem wk8(T:Txt K mg)(bf:jxj P w K mg base)(be:jxi P w K mg base)(bh:kjx P w K mg base)(ac:jkm P w K mg base)(av:jvn P w K mg base)(br:kj4 P w K mg base)(bd:jxk P w K mg base)(F:Fun K "law" "law" vqj f fd):FnOk P w K mg base (CXE P w) 5 f fd ["_law_script"] (spF K mg 1 m_law):=
 v4 F sc_law (qW rfl) λb8 A outer s H vs Q E hr h=>have nd:=sc_law.nd;qY rfl
  (j7 (qA nd (qC bf hr (j3 (qC ac hr (j3 (cv 0) (j3 kI j8))) j8))) (j7 (qA nd (qC be hr (j3 (cv 0) (j3 kI (j3 (cv 1) (j3 kI j8)))))) (j7 (kwg (i:=3) (o:=.rt) (k:=1) (R:=[]) ["_law_row"] nd rfl (by trivial) (kQ (cv 2)) (λ_ _ _ _ _=>(V9 (qV (i:=0) (show(["_law_row"]:List Str).Nodup by decide +kernel) rfl (by trivial)))) (λ_ _ _ _ _=>KK) (λ_ _ _ _ _=>(qC av hr (j3 (cv 0) j8))) V6 ⟨_,_,rfl,rfl⟩ ⋯ (show ∀j∈([]:List Nat) ,j<9 by decide)) (j7 (qA nd (qC bh hr (j3 (Qj (jwr K) Zw (vv 1) T.b_list Qz) (j3 (qM .rt 1 [] 9 ["_law_row"] (kQ (cv 2)) (λ_ _ _ _ _=>(Qj (jwr K) Zw (vv 0) T.b_list Qz))) j8)))) (j7 (qF (Jk ki rfl T.b_range) (gN nd) (j7 (qA nd (v9 (o:=.rt) j8)) (j7 (qF (kQ (W4 (qxa hr.units K) wxq (j5 (qm .rt 1 [5] 9 ["_law_one","_law_many"] (kQ (cv 3)) (λhN _ _ _ _ _=>(V9 (qV (i:=0) hN rfl (by trivial)))) (λ_ _ _ _ _=>(vqs (vx (W0 hr.units) W8 (j5 (qL (vv 0) T.b_len)) (vv 1) (xz _) Zv))) (λ_ _ _ _ _=>(cv 0)))) T.b_sorted (by decide +kernel))) (gN nd) (jz (wQ (vx (kkh hr.units) kq8 (vv 7) (vv 6) (by rfl) kq3) (jz (qP (cv 7))) wj))) (j7 (qA nd (qC br hr (j3 (cv 4) (j3 (cv 5) j8)))) (jz (wQ (QW.pt (wj1 (kz6 (kke (j5 (ww5 (vv 8) T.b_isinstance T.b_list Qz rfl)))) (vk3 (vx (wwk hr.units) wxr (vv 8) (vv 6) (xz _) wxk)))) (jz (kj (q_C wwf (λ_=>qqb)))) wj)))))) (jz (kj (qzm (W0 hr.units) W8 (j5 (qC bh hr (j3 (Qj (jwr K) Zw (vv 1) T.b_list Qz) (j3 (qC bd hr (j3 (cv 2) (j3 (cv 0) j8))) j8)))) (vv 4) (xz _))))))))) h
end
theorem all_mk{l:PySem.W.OpenLaw}{w:PySem.World}{K:Frag}{h:Heap}{mg:Str->Option Value}{fa:Addr}(X:K.In h)(G:h.Ns mainGlobals mg)(hfa:mg "law"=some (.ref fa)){ca ce:Value}
  (g0:Gf K "shape_of" jx1)
  (g1:Gf K "read_by" jz7)
  (g2:Gf K "beginnings_of" jq2)
  (g3:Gf K "names_in" jx3)
  (g4:Gf K "case_to" jz8)
  (g5:Gf K "steps_at" jwz)
  (g6:Gf K "signs_in" jx0)
  (g7:Gf K "plain_by" jx2)
  (g8:Gf K "walks_on" jwy)
  (g9:Gf K "shapes_of" jw0)
  (g10:Gf K "_law_cell_at" jqh)
  (g11:Gf K "_law_mixed" jvd)
  (g12:Gf K "_law_words" jv8)
  (g13:Gf K "_law_number" jqs)
  (g14:Gf K "_law_shape" jvb)
  (g15:Gf K "_law_signs" jva)
  (g16:Gf K "_law_table" jv9)
  (g17:Gf K "_law_other" jvc)
  (g18:Gf K "law" vqj)
  (q_MOST_NAMES:nsIn K mainGlobals "MOST_NAMES"=some (some ca)) (r_MOST_NAMES:RelV (V.int (3)) ca)
  (q_MOST_SIGNS:nsIn K mainGlobals "MOST_SIGNS"=some (some ce)) (r_MOST_SIGNS:RelV (V.int (4)) ce)
  (z_all:nsIn K mainGlobals "all"=some none)
  (z_dict:nsIn K mainGlobals "dict"=some none)
  (z_enumerate:nsIn K mainGlobals "enumerate"=some none)
  (z_isinstance:nsIn K mainGlobals "isinstance"=some none)
  (z_len:nsIn K mainGlobals "len"=some none)
  (z_list:nsIn K mainGlobals "list"=some none)
  (z_range:nsIn K mainGlobals "range"=some none)
  (z_set:nsIn K mainGlobals "set"=some none)
  (z_sorted:nsIn K mainGlobals "sorted"=some none)
  (z_tuple:nsIn K mainGlobals "tuple"=some none)
  : ∃fd:FuncData,(∀(s:Shared) (v:Value),BindsTo s fd ⟨[v],[]⟩ [("_law_script",v)])/\∀base:Heap,K.In base->base.Ns mainGlobals mg->FnOk l.prog w K mg base (CXE l.prog w) 5 fa fd ["_law_script"] (spF K mg 1 m_law):=by
 have T:Txt K mg:=⟨Yo X G z_all,Yo X G z_dict,Yo X G z_enumerate,Yo X G z_isinstance,Yo X G z_len,Yo X G z_list,Yo X G z_range,Yo X G z_set,Yo X G z_sorted,Yo X G z_tuple,⟨_,PySem.W.mg_of X G q_MOST_NAMES,r_MOST_NAMES⟩,⟨_,PySem.W.mg_of X G q_MOST_SIGNS,r_MOST_SIGNS⟩⟩;refine g18.law X G hfa fun {base _ _} F=>?_
 have bu:kjw l.prog w K mg base:=g0.d X G (kww T );have cq:kw0 l.prog w K mg base:=g1.d X G (qjv T );have ay:jvm l.prog w K mg base:=g2.d X G (jxm T );have ai:Zz l.prog w K mg base:=g3.d X G (kwy T );have cw:kw1 l.prog w K mg base:=g4.d X G (qjw T ai);have bw:kju l.prog w K mg base:=g5.d X G (kwu T ai cw);have bt:kjv l.prog w K mg base:=g6.d X G (kwv T );have bh:kjx l.prog w K mg base:=g7.d X G (kwx T ay bu ai bw bt);have bv:kjt l.prog w K mg base:=g8.d X G (kwt T ai cq);have br:kj4 l.prog w K mg base:=g9.d X G (kqu T bv);have ac:jkm l.prog w K mg base:=g10.d X G (jzd T );have ah:jqf l.prog w K mg base:=g11.d X G (kkn T );have bg:jxh l.prog w K mg base:=g12.d X G (kki T ah);have ao:jv1 l.prog w K mg base:=g13.d X G (kj8 T );have av:jvn l.prog w K mg base:=g14.d X G (kkl T );have bf:jxj l.prog w K mg base:=g15.d X G (kkk T bg);have be:jxi l.prog w K mg base:=g16.d X G (kkj T ac ao ah);have bd:jxk l.prog w K mg base:=g17.d X G (kkm T ac ao ah av);exact wk8 T bf be bh ac av br bd F
end Nk74
namespace PySem.W.Fast
def tw6642680304376992072:=()
def tw17991458749386163414:=()
def tw15577364598451650695:=()
def tw15426171299059841463:=()
def tw17230809429478340814:=()
def tw6202588885907188462:=()
def tw3257613947237578397:=()
def tw11460122517432161456:=()
def tw7379818113415347013:=()
def tw15629433671267549166:=()
def tw9676850872757139629:=()
def tw4542989960621782833:=()
def tw5197124605795902144:=()
def tw16745690940504443337:=()
def tw515456848141679184:=()
def tw14704904170817041513:=()
def tw1144426255469974205:=()
def tw2303557209603684980:=()
def tw12646664920955737812:=()
def tw11405480490879451220:=()
def tw18331894856001958769:=()
def tw18414041751397130069:=()
def tw16903621294544167985:=()
def tw2777841179493379329:=()
def tw8354067703726909812:=()
def tw5837734614957511925:=()
def tw968987561585225011:=()
def tw1378821037936651198:=()
def tw5547791337743780293:=()
def tw13747660726479626302:=()
def tw6596801918720753367:=()
def tw3876640423693149880:=()
def tw10519616238228280875:=()
def tw4276544818585707741:=()
def tw12301463943185069400:=()
def tw13601368334556502569:=()
def tw2157970431829758406:=()
def tw14673128410600184836:=()
def tw15195701715015319710:=()
def tw7519772869022275533:=()
def tw9581374603957743266:=()
def tw16295991242100241667:=()
def tw9674612851541996304:=()
def tw12382869078101289521:=()
def tw16931783080736177068:=()
def tw14978581406399414728:=()
def tw7073847739834727680:=()
def tw7342543854456535239:=()
def tw12084674932374785738:=()
def tw6498278810567892199:=()
def tw17993592146033373550:=()
def tw10415442744661812262:=()
def tw1305573174982882644:=()
def tw17731620457532027161:=()
def tw9612850293387988059:=()
def tw12036913882572554589:=()
def tw14541260169697568973:=()
def tw16274858490500782687:=()
def tw5139058635205212489:=()
def tw13019274978912823148:=()
def tw11397899311334721069:=()
def tw5735445808496687168:=()
def tw14286515695328304854:=()
def tw11331906456958129762:=()
def tw9584356065027468462:=()
def tw7109401544169274661:=()
def tw17866370192106269875:=()
end PySem.W.Fast
open PySem PySem.W PyProof.Rows
set_option maxRecDepth 100000 in
set_option maxHeartbeats 0 in
theorem PySem.Challenge.cw_freshrooms_k74_whole_shapes_of_tables_holds : PySem.Challenge.rw_freshrooms_k74_whole_shapes_of_tables.Holds := by
 w_on;o_law;k_head;(case hw=>w_witness2)
 k_fill
 refine Q.walkQ (l:=PySem.Challenge.rw_freshrooms_k74_whole_shapes_of_tables) (n:=63) (k:=5) (x:="_law_script") (f:=Nk74.m_law) rfl ⋯ rfl ⟨rfl,⋯,⋯,rfl⟩ (fun w h Y=>PySem.W.kIn_of Y) ?F Nk74.law_true
 case F =>
  intro w mg fa h KX G hmg
  refine' Nk74.all_mk KX G hmg ?_ ?_ ?_ ?_ ?_ ?_ ?_ ?_ ?_ ?_ ?_ ?_ ?_ ?_ ?_ ?_ ?_ ?_ ?_ ?q_MOST_NAMES ?r_MOST_NAMES ?q_MOST_SIGNS ?r_MOST_SIGNS ?z_all ?z_dict ?z_enumerate ?z_isinstance ?z_len ?z_list ?z_range ?z_set ?z_sorted ?z_tuple
  all_goals try (refine' Q.Gf.mk ?a ?b ?c ?d;(case a=>k_is);(case b=>k_is);(case c=>k_is);(case d=>k_is))
  (case q_MOST_NAMES=>k_is)
  (case r_MOST_NAMES=>exact ⟨_,rfl⟩)
  (case q_MOST_SIGNS=>k_is)
  (case r_MOST_SIGNS=>exact ⟨_,rfl⟩)
  (case z_all=>k_is)
  (case z_dict=>k_is)
  (case z_enumerate=>k_is)
  (case z_isinstance=>k_is)
  (case z_len=>k_is)
  (case z_list=>k_is)
  (case z_range=>k_is)
  (case z_set=>k_is)
  (case z_sorted=>k_is)
  (case z_tuple=>k_is)
