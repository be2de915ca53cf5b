import PyProof.Rows.All
import Wide.All
import OpenK.AllK
import Wide.FinOn
import Lean
import PySem.Challenge.RW_freshrooms_k50_keepers_of_a_chain
open PySem.W(Frag kitOne nsIn findIn)
set_option Elab.async false
set_option linter.all false
set_option bootstrap.genMatcherCode false
set_option compiler.extract_closed false
set_option maxRecDepth 100000
set_option tactic.hygienic false
def kV9(d:Lean.Syntax):Lean.Syntax:=
 let N:=Lean.Syntax.node .none;let n:=N `null;let k:=`Lean.Parser.Tactic;let K:=`Lean.Parser.Term;let A:=Lean.Syntax.atom .none
 let L:=fun a=>N (k++`rcasesPatLo) #[N (k++`rcasesPatMed) #[n a],n #[]]
 let P:=fun(s:Lean.Syntax)=>match s with
  |.ident ..=>N (k++`rcasesPat.one) #[s]
  |.node _ t c=>if t==K++`hole then N (k++`rcasesPat.ignore) c else if t==K++`paren then c[1]! else if t==`«term_∨_» then N (k++`rcasesPat.paren) #[A "(",L #[c[0]!,A "|",c[2]!],A ")"] else if t==`«term#[_,]» then N (k++`rcasesPat.tuple) #[A "⟨",n (c[1]!.getArgs.map fun(x:Lean.Syntax)=>if x.isAtom then x else L #[x]),A "⟩"] else s
  |_=>s
 let W:=("B C E G H I J L M O R S U V X Y Z e h l p r s u x y ß à á â ã ä å æ ç è é ê ë ì í î ï ð ñ ò ó ô õ ö ø ù ú û ü ý þ ÿ".splitOn " ").zip ("length map int heap toArray trans ref lst size inl toList toNat Nodup env tup lookup inr type replicate map_cons getD range symm set no mpr findIdx builtin mem_range units str Perm none and_eq_true non mem_iff Name cons elim own place prog push names refl mask handled isEmpty setIfInBounds set_cons_zero set_cons_succ Attribute nodup_cons Call RcNeAt toks Pairwise frz".splitOn " ")
 let M:=fun(x y:Lean.Name)=>match y with|.str _ s=>Lean.Name.str x ((W.lookup s).getD s)|_=>x++y
 let F:=fun(s:Lean.Syntax)=>match s with|.ident _ r v p=>Lean.Syntax.ident .none r (v.components.foldl M .anonymous) p|_=>s
 d.rewriteBottomUp fun s=>match s with
 |.ident _ r v p=>.ident .none r (match v.components with|a::b=>b.foldl M a|_=>v) p
 |.node _ t c=>if t==K++`proj then N t (c.modify 2 F) else if t==k++`show then N (k++`refine) #[A "refine",c[1]!] else if t==k++`tacticLet__ then
   let r:=c[2]![0]
   if r.isOfKind (K++`letPatDecl) then N (k++`obtain) #[A "obtain",n #[N (k++`rcasesPatMed) #[n #[r[0].rewriteBottomUp P]]],n #[],n #[A ":=",n #[r[4]]]] else N (k++`tacticHave__) #[A "have",c[1]!,c[2]!]
  else if t==`Lean.Elab.Tactic.Ext.ext then N (k++`unfold) #[A "unfold",n (c[1]!.getArgs.map (·[0][0])),n #[]] else if t==`«term_>_» then N `«term_∈_» c else if t==`Lean.«binderPred>_» then N `Lean.«binderPred∈_» c
  else if t==K++`explicit then if c[1]!.isOfKind (K++`app)&&c[1]![0].getId.hasMacroScopes then N t #[c[0]!,c[1]![1][0]] else N (K++`app) #[Lean.mkCIdent `Option.some,n #[c[1]!]]
  else if t==K++`dotIdent then if c[1]!.getId==`q then N (K++`omission) #[A "⋯"] else N t (c.modify 1 F)
  else if t==k++`symm then N (k++`simpAll) #[A "simp_all",N (k++`optConfig) #[n #[]],n #[],n #[],n #[]] else if t==k++`right then N (k++`dsimp) #[A "dsimp",N (k++`optConfig) #[n #[]],n #[],n #[A "only"],n #[],n #[]]
  else if t==k++`revert then N (k++`renameI) #[A "rename_i",n (c[1]!.getArgs.map fun x=>N `Lean.binderIdent #[x])] else if t==k++`dsimp&&c[3]!.getNumArgs==0&&c[4]!.getNumArgs>0 then N (k++`simp) #[A "simp",c[1]!,c[2]!,n #[A "only"],c[4]!,c[5]!]
  else N t c
 |_=>s.setInfo .none
local macro_rules|`(#[$a,*])=>`(⟨$a,*⟩)
local macro_rules|`(⋯)=>`(by first|decide|lia)
local macro_rules|`(tactic|ac_rfl)=>`(tactic|with_unfolding_all rfl)
local macro_rules|`(tactic|exists$e)=>`(tactic|with_unfolding_all exact$e)
local macro_rules|`($a<|>$b)=>`(autoParam $a $b)
local macro_rules|`(~~~$e)=>`(by simpa using$e)
local macro_rules|`(⇑$e)=>`(some $e)
local macro_rules|`(↥$s)=>`(($s).heap.objs.size)
local macro_rules|`(%[$a,*|0])=>`(List.toArray [$a,*])
set_option hygiene false in
local macro_rules|`(∅)=>`(_root_.PySem.wpAny (model X.prog X.w) X.A)
local macro_rules|`(#where)=>`(set_option tactic.hygienic true)
local macro_rules|`($d:declaration)=>match d.1.getHeadInfo with
 |.original ..=>pure (if d.1[1].isOfKind ``Lean.Parser.Command.theorem then d.1.rewriteBottomUp (·.setInfo .none) else kV9 d.1)
 |.synthetic ..=>pure (d.1.rewriteBottomUp (·.setInfo .none))
 |_=>throw .unsupportedSyntax
local macro_rules|`(def$n$s:optDeclSig$v)=>do
 if !(n.raw.getHeadInfo matches .original ..) then throw .unsupportedSyntax
 let c:=kV9;let n:=⟨c n⟩;let v:=⟨c v⟩;let a:=s.raw[1][0]
 if a.isMissing||("Bool Int Prop V Hp List Heap Option LA9 R2 St Cx Arguments Scope CXT Ex Own Nat String Ts Sm En Fn Type HO Sl TE TS TI TG TGs HeapKind TA Sp D Probe Obj Sn Stmt Decidable".splitOn " ").contains (((a[1].reprint.getD "").splitOn "->").getLast!.trim.splitOn " ").head! then let s:=⟨c s⟩;`(noncomputable def$n$s:optDeclSig$v)else
 let s:=⟨c (Lean.mkNode ``Lean.Parser.Command.declSig (List.toArray [s.raw[0],a]))⟩
 `(theorem$n$s:declSig$v)
local macro_rules|`(abbrev$n$s:optDeclSig$v)=>if !(n.raw.getHeadInfo matches .original ..) then throw .unsupportedSyntax else let c:=kV9;let n:=⟨c n⟩;let s:=⟨c s⟩;let v:=⟨c v⟩;`(noncomputable abbrev$n$s:optDeclSig$v)
noncomputable section
abbrev VP9:=PySem.Value->PySem.Shared->Prop
abbrev LA9:=List (PySem.Addr×PySem.Obj)
abbrev Kq9(k:List Int):=∀p>k,0<=p/\p<=3
def aA{α}{a:α}{s t:List α}:a>s++t->a>s∨a>t:=List.mem_append.mp
def aB{α}{a b:α}:a=b->a>[b]:=List.mem_singleton.y
def aC{α}{a b:α}:a>[b]->a=b:=List.mem_singleton.mp
def aD{α}{a b:α}{l:List α}:a>b::l->a=b∨a>l:=List.mem_cons.mp
def aF{α}{a:α}{l:List α}{i:Nat}:l[i]?=some a->∃h:i<l.B,l[i]=a:=List.getElem?_eq_some_iff.mp
def aE{α β}{f:α->β}{l:List α}{b:β}:b>l.C f->∃a,a>l∧f a=b:=List.mem_map.mp
local macro_rules|`(tactic|trivial)=>`(tactic|first|exact Or.inl rfl|exact Or.inr rfl)
def Ŕq(_:True:=by rfl):True:=trivial
def Ŕq.z:True:=trivial
open Ŕq renaming _auto_1→Ŕ
def ŕq(_:True:=by decide):True:=trivial
def ŕq.z:True:=trivial
open ŕq renaming _auto_1→ŕ
def Ŗq(_:True:=by intro _;rfl):True:=trivial
def Ŗq.z:True:=trivial
open Ŗq renaming _auto_1→Ŗ
def ŗq(_:True:=by decide +kernel):True:=trivial
def ŗq.z:True:=trivial
open ŗq renaming _auto_1→ŗ
def Řq(_:True:=by first|show .O rfl|show .Z rfl|assumption):True:=trivial
def Řq.z:True:=trivial
open Řq renaming _auto_1→Ř
def řq(_:True:=by first|show Or.O rfl|show Or.Z (Or.O rfl)|show Or.Z (Or.Z rfl)):True:=trivial
def řq.z:True:=trivial
open řq renaming _auto_1→ř
def Śq(_:True:=by trivial):True:=trivial
def Śq.z:True:=trivial
open Śq renaming _auto_1→Ś
def śq(_:True:=by first|show .O rfl|show .Z rfl):True:=trivial
def śq.z:True:=trivial
open śq renaming _auto_1→ś
def _aa{α : Type _}{a b : α}(h:@a=@b):a=b:=Option.some.inj h
def _ab{α : Type _}{a : α}{b : List α}(c : List α)(h:a > b):a > c ++ b:=List.mem_append_right c h
def _ac{α : Type _}{a : α}{b : List α}(c : List α)(h:a > b):a > b ++ c:=List.mem_append_left c h
def _ad{α : Type _}{a : α}{l : List α}(b : α)(h:a > l):a > b::l:=List.mem_cons_of_mem b h
namespace _a
open PySem PySem.Spec PyProof.Rows
def X0:type_of% @@wpAny_bind:=@@wpAny_bind
def X1:type_of% @@List.getElem?_eq_getElem:=@@List.getElem?_eq_getElem
def X2:type_of% @@List.mem_cons_self:=@@List.mem_cons_self
def X3:type_of% @@List.length_map:=@@List.length_map
def X4:type_of% @@Heap.get?_push_of_some:=@@Heap.get?_push_of_some
def X5:type_of% @@wpAny_pure:=@@wpAny_pure
def X6:type_of% @@List.getD_eq_getElem?_getD:=@@List.getD_eq_getElem?_getD
def X7:type_of% @@if_pos:=@@if_pos
def X8:type_of% @@decide_eq_true:=@@decide_eq_true
def X9:type_of% @@List.nodup_append:=@@List.nodup_append
def Xa:type_of% @@Nat.le_refl:=@@Nat.le_refl
def Xb:type_of% @@if_neg:=@@if_neg
def Xd:type_of% @@Heap.get?_push_size:=@@Heap.get?_push_size
def Xe:type_of% @@List.size_toArray:=@@List.size_toArray
def Xf:type_of% @@List.getElem?_map:=@@List.getElem?_map
def Xg:type_of% @@List.map_map:=@@List.map_map
def Xh:type_of% @@Heap.lt_size:=@@Heap.lt_size
def Xi:type_of% @@List.length_range:=@@List.length_range
def Xj:type_of% @@List.length_append:=@@List.length_append
def Xk:type_of% @@decide_eq_false:=@@decide_eq_false
def Xl:type_of% @@List.map_append:=@@List.map_append
def Xm:type_of% @@Array.length_toList:=@@Array.length_toList
def Xn:type_of% @@List.length_cons:=@@List.length_cons
def Xp:type_of% @@Array.getElem?_eq_getElem:=@@Array.getElem?_eq_getElem
noncomputable def Xq:type_of% @@Nat.ne_of_lt:=@@Nat.ne_of_lt
def Xr:type_of% @@List.getElem_mem:=@@List.getElem_mem
def Xs:type_of% @@Int.toNat_natCast:=@@Int.toNat_natCast
def Xu:type_of% @@Array.getElem?_toList:=@@Array.getElem?_toList
def Xv:type_of% @@Nat.lt_of_lt_of_le:=@@Nat.lt_of_lt_of_le
def Xw:type_of% @@List.map_congr_left:=@@List.map_congr_left
def Xx:type_of% @@List.getElem?_append_left:=@@List.getElem?_append_left
def Xy:type_of% @@List.length_singleton:=@@List.length_singleton
def Xz:type_of% @@List.append_nil:=@@List.append_nil
def Y0:type_of% @@List.length_replicate:=@@List.length_replicate
def Y1:type_of% @@PyProof.Rows.callWith_type1:=@@PyProof.Rows.callWith_type1
def Y2:type_of% @@List.getElem?_eq_none:=@@List.getElem?_eq_none
def Y3:type_of% @@List.append_assoc:=@@List.append_assoc
def Y4:type_of% @@wpAny_holding:=@@wpAny_holding
def Y5:type_of% @@List.mem_of_getElem?:=@@List.mem_of_getElem?
def Y6:type_of% @@Nat.zero_le:=@@Nat.zero_le
def Y7:type_of% @@List.nodup_nil:=@@List.nodup_nil
def Y8:type_of% @@wpAny_call_entry:=@@wpAny_call_entry
def Y9:type_of% @@List.getElem?_append_right:=@@List.getElem?_append_right
def Ya:type_of% @@wpAny_newObj_type:=@@wpAny_newObj_type
def Yb:type_of% @@List.all_eq_true:=@@List.all_eq_true
def Yc:type_of% @@List.mem_map_of_mem:=@@List.mem_map_of_mem
def Yd:type_of% @@Heap.SameBut.update:=@@Heap.SameBut.update
def Ye:type_of% @@Heap.get?_update_self:=@@Heap.get?_update_self
def Yf:type_of% @@of_decide_eq_true:=@@of_decide_eq_true
def Yg:type_of% @@PySem.W.mg_none_of:=@@PySem.W.mg_none_of
def Yh:type_of% @@List.ú:=@@List.ú
def Yi:type_of% @@List.getElem?_set_ne:=@@List.getElem?_set_ne
def Yj:type_of% @@List.filter_append:=@@List.filter_append
def Yk:type_of% @@List.getElem?_replicate_of_lt:=@@List.getElem?_replicate_of_lt
def Yl:type_of% @@List.getElem?_range:=@@List.getElem?_range
def Ym:type_of% @@PySem.W.kia_one:=@@PySem.W.kia_one
def Yn:type_of% @@wpAny_callSpecial?_slot:=@@wpAny_callSpecial?_slot
def Yo:type_of% @@Nat.mod_lt:=@@Nat.mod_lt
def Yp:type_of% @@wpAny_setState_of:=@@wpAny_setState_of
noncomputable def Yq:type_of% @@Heap.get?_none_of_le:=@@Heap.get?_none_of_le
def Yr:type_of% @@wpAny_setField:=@@wpAny_setField
def Ys:type_of% @@codeAny_builtin:=@@codeAny_builtin
def Yt:type_of% @@beq_false_of_ne:=@@beq_false_of_ne
def Yu:type_of% @@List.getElem_of_mem:=@@List.getElem_of_mem
def Yv:type_of% @@List.findIdx_lt_length_of_exists:=@@List.findIdx_lt_length_of_exists
def Yw:type_of% @@PySem.F.plainAttrs_list:=@@PySem.F.plainAttrs_list
def Yx:type_of% @@Int.eq_ofNat_of_zero_le:=@@Int.eq_ofNat_of_zero_le
def Yy:type_of% @@wpAny_Call_Name_kw:=@@wpAny_Call_Name_kw
def Yz:type_of% @@List.foldl_cons:=@@List.foldl_cons
def Z0:type_of% @@List.getElem?_set_self:=@@List.getElem?_set_self
def Z1:type_of% @@List.length_take:=@@List.length_take
def Z2:type_of% @@Nat.mod_eq_of_lt:=@@Nat.mod_eq_of_lt
def Z3:type_of% @@Classical.byContradiction:=@@Classical.byContradiction
def Z4:type_of% @@Nat.lt_irrefl:=@@Nat.lt_irrefl
def Z5:type_of% @@Nat.le_trans:=@@Nat.le_trans
def Z6:type_of% @@List.length_set:=@@List.length_set
def Z7:type_of% @@List.range_succ:=@@List.range_succ
def Z8:type_of% @@Obj.data_mapFields:=@@Obj.data_mapFields
def Z9:type_of% @@Int.emod_lt_of_pos:=@@Int.emod_lt_of_pos
def Za:type_of% @@sizeLine_eq:=@@sizeLine_eq
def Zb:type_of% @@List.not_mem_nil:=@@List.not_mem_nil
def Zc:type_of% @@wpAny_pyIter_list:=@@wpAny_pyIter_list
def Zd:type_of% @@Heap.get?_update_other:=@@Heap.get?_update_other
def Ze:type_of% @@Nat.lt_succ_of_lt:=@@Nat.lt_succ_of_lt
def Zf:type_of% @@PySem.mem_of_lookup:=@@PySem.mem_of_lookup
def Zg:type_of% @@Obj.isFreed_of_fields:=@@Obj.isFreed_of_fields
def Zh:type_of% @@List.mem_cons:=@@List.mem_cons
def Zi:type_of% @@wpAny_typeNameOfWhole_keyiter:=@@wpAny_typeNameOfWhole_keyiter
def Zj:type_of% @@Around.under_plainId:=@@Around.under_plainId
def Zk:type_of% @@List.ext_getElem?:=@@List.ext_getElem?
def Zl:type_of% @@wpAny_specialOf:=@@wpAny_specialOf
def Zm:type_of% @@Heap.get?_update_ne:=@@Heap.get?_update_ne
def Zn:type_of% @@List.find?_cons_of_neg:=@@List.find?_cons_of_neg
def Zo:type_of% @@plainId_quiet:=@@plainId_quiet
def Zp:type_of% @@Heap.size_push:=@@Heap.size_push
noncomputable def Zq:type_of% @@wpAny_rule:=@@wpAny_rule
def Zr:type_of% @@wpAny_fieldsOf:=@@wpAny_fieldsOf
def Zs:type_of% @@wpAny_passesOwn:=@@wpAny_passesOwn
def Zt:type_of% @@wpAny_field:=@@wpAny_field
def Zu:type_of% @@List.Sublist.ñ:=@@List.Sublist.ñ
def Zv:type_of% @@List.findIdx_cons:=@@List.findIdx_cons
def Zw:type_of% @@wpAny_forIn_list:=@@wpAny_forIn_list
def Zx:type_of% @@wpAny_isInstance:=@@wpAny_isInstance
def Zy:type_of% @@wpAny_seqItems:=@@wpAny_seqItems
def Zz:type_of% @@Nat.lt_succ_self:=@@Nat.lt_succ_self
def J0:type_of% @@Nat.le_of_lt:=@@Nat.le_of_lt
def J1:type_of% @@Nat.ne_of_gt:=@@Nat.ne_of_gt
def J3:type_of% @@Nat.lt_trans:=@@Nat.lt_trans
end _a
open _a
noncomputable section
namespace L2
open PySem PySem.Spec PyProof.Rows
abbrev Key:=Sum Int Str
def YQ:Key->Value->Bool
 |.O k,v=>Value.isInt k v|.Z x,v=>Value.isStrOf x v
def keyH(w:World):Key->Int
 |.O k=>hashInt k|.Z x=>hashStr w x
def Q1:∀{k v},YQ k v=true->(∃i t,k=Sum.O i/\v=Value.E i t)\/(∃x t,k=Sum.Z x/\v=Value.ã x t)
 |.O i,v,h=>by
  let#[t,e]:=Value.isInt_shape h;show .O #[i,t,rfl,e]
 |.Z x,v,h=>by
  let#[t,e]:=Value.isStrOf_shape h;show .Z #[x,t,rfl,e]
def _ae i t:YQ (.O i) (.E i t)=true:=by simp[YQ,Value.isInt]
def _af x t:YQ (.Z x) (.ã x t)=true:=by simp[YQ,Value.isStrOf]
def _ag(a b):decide ((Sum.O a:Key)=Sum.O b)=(a==b):=by
 by_cases e:a=b
 .subst e;simp
 .grind
def _ah(a b):decide ((Sum.Z a:Key)=Sum.Z b)=decide (a=b):=by
 by_cases e:a=b
 .subst e;simp
 .grind
def _ai a b:decide ((Sum.O a:Key)=Sum.Z b)=false:=Xk (nofun)
def _aj a b:decide ((Sum.Z a:Key)=Sum.O b)=false:=Xk (nofun)
noncomputable def zJ(prog:Program)(w:World):PySem.KeyKind prog w Key where
 is:=YQ
 hash:=keyH w
 inj:=λv a b ha hb=>by
  let#[i,t,rfl,rfl]\/#[x,t,rfl,rfl]:=Q1 ha
  .let#[j,u,rfl,e]\/#[y,u,rfl,e]:=Q1 hb
   .injection e with e1 _;rw[e1]
   .show nomatch e
  .let#[j,u,rfl,e]\/#[y,u,rfl,e]:=Q1 hb
   .show nomatch e
   .injection e with e1 _;rw[e1]
 byValue:=λk v h=>by
  let#[i,t,rfl,rfl]\/#[x,t,rfl,rfl]:=Q1 h<;>rfl
 pyHash:=λhv h=>by
  let#[i,t,rfl,rfl]\/#[x,t,rfl,rfl]:=Q1 hv
  .show wpAny_pyHash_int h
  .show wpAny_pyHash_str h
 eqBool:=λhu hv h=>by
  let#[i,t,rfl,rfl]\/#[x,t,rfl,rfl]:=Q1 hu
  .let#[j,u,rfl,rfl]\/#[y,u,rfl,rfl]:=Q1 hv
   .rw[_ag]at h;show wpAny_eqBool_int h
   .rw[_ai]at h;show SeqAt.EqAt.int_str i t y u _ _ _ _ h
  .let#[j,u,rfl,rfl]\/#[y,u,rfl,rfl]:=Q1 hv
   .rw[_aj]at h;show SeqAt.EqAt.str_int x t j u _ _ _ _ h
   .rw[_ah]at h;show wpAny_eqBool_str h
 «strs»:=λk x t v h=>by
  let#[i,u,rfl,e]\/#[y,u,rfl,e]:=Q1 h
  .show nomatch e
  .injection e with e1 _;subst e1;cases v<;>rfl
def _ak prog w i t:(zJ prog w).is (.O i) (.E i t)=true:=_ae i t
def _al prog w x t:(zJ prog w).is (.Z x) (.ã x t)=true:=_af x t
inductive V where
 |non|bl (b:Bool)|int (i:Int)|str (x:Str)|byt (b:Array UInt8)|flt (b:UInt64)|ref (a:Addr)|ty (n:String)
 deriving DecidableEq
def RelV:V->Value->Prop
 |.ç,u=>u=Value.å|.bl b,u=>u=Value.bool b|.E i,u=>∃t,u=Value.E i t|.ã x,u=>∃t,u=Value.ã x t|.byt b,u=>∃t,u=Value.bytes b t|.flt b,u=>∃t,u=Value.float b t|.J a,u=>u=Value.J a|.ty n,u=>u=Value.e n
abbrev Vals:List V->List Value->Prop:=Paired RelV
def Vals.B{xs us}(r:Vals xs us):xs.B=us.B:=Paired.B r
def Vals.get:∀{xs us} {i:Nat} {x},Vals xs us->xs[i]?=@x->∃u,us[i]?=@u/\RelV x u
 |_,_,_,_,.nil,e=>by simp at e|_,_,0,_,.ê r _,e=>by simp at e;subst e;show#[_,rfl,r]
 |_,_,i+1,x,.ê _ t,e=>by
  let#[u,h1,h2]:=Vals.get t (~~~e);show#[u,~~~h1,h2]
def Vals.u{x u}(r:RelV x u):∀{xs us} (i),Vals xs us->Vals (xs.u i x) (us.u i u)
 |_,_,_,.nil=>.nil|_,_,0,.ê _ t=>.ê r t|_,_,i+1,.ê q t=>.ê q (Vals.u r i t)
def Vals.append:∀{xs ys us ws},Vals xs us->Vals ys ws->Vals (xs++ys) (us++ws)
 |_,_,_,_,.nil,s=>s|_,_,_,_,.ê r t,s=>.ê r (Vals.append t s)
def RelO:Option V->Option Value->Prop
 |some v,@u=>RelV v u|none,none=>True|_,_=>False
def KV{κ:Type}:List (κ×V)->List (κ×Value)->Prop:=Paired λ(p:κ×V) (q:κ×Value)=>p.1=q.1/\RelV p.2 q.2
def kV:Key->V
 |.O i=>.E i|.Z x=>.ã x
inductive HO where
 |lst (xs:List V)
 |tup (xs:List V)
 |dK (ab:List (Key×V))|dT (ab:List (List Key×V))
 |set (S:Int->Bool) (n:Nat)
 |ins (C dx:Addr) (fs:List (Str×V))
 |own (x:Addr)
 |xd (fs:List (Str×V))
 |met (f x:Addr)
 |rng (lo hi:Int)
 |frz (o:Obj) (u:HO)
 |tbl (ps:Array Value)
 |ext (φ:World->Heap->Prop)
abbrev Hp:=Addr->Option HO
def IsTupD(h:Heap)(a:Addr)(items:Array Value):Prop:=∃o,h.get? a=@o/\o.cls=.e "tuple"/\o.dict=none/\∃n,o.data=.seq items n
def IsTupD.X{h a items}(p:IsTupD h a items):IsTup h a items:=by
 let#[o,e,c,_,n,d]:=p;show⟨o,e,c,n,d⟩
def IsTupD.new(h:Heap) xs:IsTupD (h.ï {cls:=.e "tuple",data:=.seq xs}) h.objs.M xs:=⟨_,Xd _ rfl,rfl,rfl,0,rfl⟩
def upd(H:Hp)(a:Addr)(o:HO):Hp:=λb=>if b=a then @o else H b
def wj{H a o}:upd H a o a=@o:=by ext upd;rw[X7 rfl]
def qj{H a b o}(h:b≠a):upd H a o b=H b:=by ext upd;rw[Xb h]
def JJ{H:Hp}{a b o}(h:H a=@o)(h':H b=none):a≠b:=by
 grind
section
variable (P:Program)(w:World)
def ObjOk(H : Hp)(h : Heap)(a : Addr): HO -> Prop
  |.L xs=>xs.B<=sizeLine /\ ∃(ac : List Value) (n : Nat),Vals xs ac /\ h.get? a = some {cls:= .e "list",data:= .seq ac.H n}|.X xs=>xs.B<=sizeLine /\ ∃ac : List Value,Vals xs ac /\ IsTupD h a ac.H|.dK ab=>ab.B<=sizeLine /\ (a==sysModules) = false /\ ∃vs,KV ab vs /\ h.DictOf (zJ P w) a vs
  |.dT ab=>ab.B<=sizeLine /\ (a==sysModules) = false /\ ∃xs : List (List Key × Addr × Value),
      Paired (λ(p : List Key × V) (q : List Key × Addr × Value)=>p.1 = q.1 /\ H q.2.1 = @(.X (p.1.C kV)) /\ RelV p.2 q.2.2) ab xs /\
      ∃o es ep,h.get? a = @o /\ o.ExactDict /\ o.data = .dict es ep /\ es.R = xs.C (entryOfKey (tupleKind (zJ P w))) /\ (xs.C (·.1)).U
  |.u S n=>h.SetOf (intKind P w) a S n
  |.ins C dx fs=>H dx = @(.ì a) /\ fs.B<=1000 /\ dx≠a /\ h.get? a = @(PySem.W.instObj C dx) /\
      ∃mA,h.Ns1 dx mA /\ (∀f,RelO (fs.Y f) (mA f)) /\ PySem.Within mA (fs.C (·.1))
  |.ì _=> ∃o,h.get? a = @o|.xd fs=> ∃mA,h.Ns1 a mA /\ ∀f,RelO (fs.Y f) (mA f)|.rng lo hi=> ∃t u v,h.get? a = some {cls:= .e "range",data:= .fields %[.E lo t,.E hi u,.E 1 v|0]}|.ÿ o u=>h.get? a = @o /\ ObjOk H h a u|.tbl ps=>h.get? a = some {cls:= .å,data:= .fields ps}|.met f x=>h.get? a = @(PySem.W.methodObj (.J f) (.J x))|.ext φ=>φ w h /\ (∃o,h.get? a = @o) /\ ∀h1 h2 : Heap,φ w h1 -> (∀o,h1.get? a = @o -> h2.get? a = @o) -> φ w h2
def HOk(H:Hp)(h:Heap):Prop:=∀a o,H a=@o->ObjOk P w H h a o
end
section
variable {P:Program}{w:World}{H H':Hp}{h h':Heap}{a:Addr}{o:HO}
def ObjOk.lt(x:ObjOk P w H h a o):a<h.objs.M:=by
 cases o with|lst xs=>let#[_,_,_,_,e]:=x;show Xh e|tup xs=>let#[_,_,_,p]:=x;show p.X.lt|dK ab=>let#[_,_,_,_,o,_,_,e,_]:=x;show Xh e|dT ab=>let#[_,_,_,_,o,_,_,e,_]:=x;show Xh e|set S n=>let#[o,_,_,_,e,_]:=x;show Xh e|ins C dx fs=>let#[_,_,_,e,_]:=x;show Xh e|own y=>let#[_,e]:=x;show Xh e|xd fs=>let#[_,#[_,_,_,e,_],_]:=x;show Xh e|rng lo hi=>let#[_,_,_,e]:=x;show Xh e|frz ob u=>let#[e,_]:=x;show Xh e|tbl ps=>show Xh (x)|met f y=>show Xh (x)|ext φ=>let#[_,#[_,e],_]:=x;show Xh e
def Paired.mapP{α β F G}:∀{l₁:List α} {l₂:List β},Paired F l₁ l₂->(∀a b,F a b->G a b)->Paired G l₁ l₂
 |_,_,.nil,_=>.nil|_,_,.ê r t,f=>.ê (f _ _ r) (Paired.mapP t f)
def ObjOk.stay(x:ObjOk P w H h a o)(k:∀b u,(b=a\/H b=@(.ì a))->h.get? b=@u->h'.get? b=@u)
  (ho:∀b,H b=@(.ì a)->H' b=@(.ì a)) (ht:∀b xs,H b=@(.X xs)->H' b=@(.X xs)):ObjOk P w H' h' a o:=by
 induction o with
 |lst xs=>let#[z,ac,n,r,e]:=x;show#[z,ac,n,r,k _ _ (.O rfl) e]|tup xs=>let#[z,ac,r,ob,e,c]:=x;show#[z,ac,r,ob,k _ _ (.O rfl) e,c]|dK ab=>let#[z,y,vs,r,ob,es,ep,e,c]:=x;show#[z,y,vs,r,ob,es,ep,k _ _ (.O rfl) e,c]
 |dT ab=>
  let#[z,y,xs,r,ob,es,ep,e,c]:=x;show#[z,y,xs,Paired.mapP r λp q z=>#[z.1,ht _ _ z.2.1,z.2.2],ob,es,ep,k _ _ (.O rfl) e,c]
 |set S n=>let#[ob,es,ep,t,e,c]:=x;show#[ob,es,ep,t,k _ _ (.O rfl) e,c]
 |ins C dx fs=>
  let#[d,z,ne,e,mA,#[od,es,ep,e2,c],r]:=x;show#[ho _ d,z,ne,k _ _ (.O rfl) e,mA,#[od,es,ep,k _ _ (.Z d) e2,c],r]
 |own y=>let#[ob,e]:=x;show#[ob,k _ _ (.O rfl) e]|xd fs=>let#[mA,#[od,es,ep,e,c],r]:=x;show#[mA,#[od,es,ep,k _ _ (.O rfl) e,c],r]|rng lo hi=>let#[t,u,v,e]:=x;show#[t,u,v,k _ _ (.O rfl) e]|frz ob u ih=>let#[e,q]:=x;show#[k _ _ (.O rfl) e,ih q]
 |tbl ps=>
  let e:h.get? a=some {cls:=.å,data:=.fields ps}:=x;show k a _ (.O rfl) e
 |met f y=>
  let e:=x;show k a _ (.O rfl) e
 |ext φ=>let#[p,#[o,e],st]:=x;show#[st _ _ p λo q=>k _ _ (.O rfl) q,#[o,k _ _ (.O rfl) e],st]
def HOk.lt(x:HOk P w H h)(e:H a=@o):a<h.objs.M:=(x a o e).lt
def HOk.fresh(x:HOk P w H h)(e:h.objs.M<=a):H a=none:=by
 cases q:H a with|none=>rfl|some u=>show absurd (Xv (x.lt q) e) (Z4 _)
def HOk.kept(x:HOk P w H h)(k:∀b u,h.get? b=@u->h'.get? b=@u):HOk P w H h':=λa o e=>
 (x a o e).stay (λb u _ q=>k b u q) (λ_ q=>q) λ_ _ q=>q
def HOk.laid(x:HOk P w H h)(k:∀b u,h.get? b=@u->h'.get? b=@u)(hp:h.objs.M<=a)(new:ObjOk P w (upd H a o) h' a o):HOk P w (upd H a o) h':=λb u e=>by
 let hn:=x.fresh hp
 by_cases hb:b=a
 .subst hb;rw[wj]at e;cases e;show new
 .rw[qj hb]at e;show(x b u e).stay (λc v _ q=>k c v q) (λc q=>by rw[qj (JJ q hn)];show q) λc xs q=>by rw[qj (JJ q hn)];show q
end
def Rd(H:Hp)(a:Addr)(u:HO):Prop:=H a=@u\/∃o,H a=@(.ÿ o u)
def Rd.ok{P w H h a u}(r:Rd H a u)(x:HOk P w H h):ObjOk P w H h a u:=by
 let r\/#[o,r]:=r
 .show x a u r
 .let#[_,q]:=x a _ r;show q
def Mut:Option HO->Prop
 |some (.L _)=>True|some (.dK _)=>True|some (.dT _)=>True|some (.u _ _)=>True|some (.ins _ _ _)=>True|some (.ext _)=>True|_=>False
section
variable {P:Program}{w:World}{H:Hp}{h h':Heap}{x e:Addr}{o':HO}
def HOk.write(ok:HOk P w H h)(mu:Mut (H x))(he:e=x\/H e=@(.ì x))(k:∀b u,b≠e->h.get? b=@u->h'.get? b=@u)(xi:∃u,h'.get? e=@u)
  (new:ObjOk P w (upd H x o') h' x o'):HOk P w (upd H x o') h':=λb u q=>by
 let nown:∀c y,H c=@(.ì y)->c≠x:=λc y r z=>by subst z;rw[r]at mu;show mu
 let ntup:∀c xs,H c=@(.X xs)->c≠x:=λc xs r z=>by subst z;rw[r]at mu;show mu
 by_cases hb:b=x
 .subst hb;rw[wj]at q;cases q;show new
 .rw[qj hb]at q
  by_cases hbe:b=e
  .let q':H b=@(.ì x):=by
    let z\/z:=he
    .show absurd (hbe.I z) hb
    .rw[hbe];show z
   rw[q]at q';cases q';let#[v,hv]:=xi;show#[v,by rw[hbe];show hv]
  .show(ok b u q).stay (λc v hc r=>k c v ?_ r) (λc r=>by rw[qj (nown c b r)];show r) λc xs r=>by rw[qj (ntup c xs r)];show r
   let rfl\/hc:=hc
   .show hbe
   .grind
end
structure Un (fs ex:List Addr)(H H':Hp)(h h':Heap):Prop where
 keep:∀b o,h.get? b=@o->H b=none->b∉fs->b∉ex->h'.get? b=@o
 slot:∀b o,h.get? b=@o->H b=none->b>fs->b∉ex->∃sl,h'.get? b=some {o with slots:=sl}
 free:∀b o,h.get? b=@o->H b=none->b∉ex->H' b=none
 there:∀b o,h.get? b=@o->b∉ex->∃o',h'.get? b=@o'
 tups:∀b xs,H b=@(.X xs)->H' b=@(.X xs)
 frzs:∀b o u,H b=@(.ÿ o u)->H' b=@(.ÿ o u)
 tbls:∀b ps,H b=@(.tbl ps)->∃more,H' b=@(.tbl (ps++more))
section
variable {fs fs' ex ex':List Addr}{H H1 H2:Hp}{h h1 h2 h':Heap}{a x e:Addr}{o:HO}
def Un.any(u:Un fs ex H H1 h h1){b ob}(q:h.get? b=@ob)(n:H b=none)(hx:b∉ex):∃sl,h1.get? b=some {ob with slots:=sl}:=by
 by_cases hb:b>fs
 .show u.slot b ob q n hb hx
 .show#[ob.slots,u.keep b ob q n hb hx]
def Un.kept(k:∀b u,h.get? b=@u->h'.get? b=@u):Un fs ex H H h h':=
 #[λb ob q _ _ _=>k b ob q,λb ob q _ _ _=>#[ob.slots,k b ob q],λ_ _ _ n _=>n,λb ob q _=>#[ob,k b ob q],λ_ _ q=>q,λ_ _ _ q=>q,λ_ ps q=>#[(List.H []),by rw[q];simp]]
def Un.ñ:Un fs ex H H h h:=Un.kept λ_ _ q=>q
def Un.laid(k:∀b u,h.get? b=@u->h'.get? b=@u)(hp:h.objs.M<=a)(hn:H a=none):Un fs ex H (upd H a o) h h' where
 keep:=λb u q _ _ _=>k b u q
 slot:=λb u q _ _ _=>#[u.slots,k b u q]
 free:=λb u q n _=>by rw[qj (Xq (Xv (Xh q) hp))];show n
 there:=λb u q _=>#[u,k b u q]
 tups:=λb xs q=>by rw[qj (JJ q hn)];show q
 frzs:=λb u xs q=>by rw[qj (JJ q hn)];show q
 tbls:=λb ps q=>#[(List.H []),by rw[qj (JJ q hn),q];simp]
def Un.write(mu:Mut (H x))(he:e=x\/H e=@(.ì x))(k:∀b u,b≠e->h.get? b=@u->h'.get? b=@u)(xi:∃u,h'.get? e=@u):Un fs ex H (upd H x o) h h':=by
 let hx:∀b,H b=none->b≠x:=λb n z=>by subst z;rw[n]at mu;show mu
 let hb:∀b,H b=none->b≠e:=λb n z=>by
  subst z;let r\/r:=he
  .show hx b n r
  .grind
 let hm:∀b u,H b=@u->¬Mut (@u)->b≠x:=λb u q nm z=>by subst z;rw[q]at mu;show nm mu
 show#[λb u q n _ _=>k b u (hb b n) q,λb u q n _ _=>#[u.slots,k b u (hb b n) q],λb u q n _=>by rw[qj (hx b n)];show n,λb u q _=>?_,
  λb xs q=>by rw[qj (hm b _ q λz=>z)];show q,λb u xs q=>by rw[qj (hm b _ q λz=>z)];show q,λb ps q=>#[(List.H []),by rw[qj (hm b _ q λz=>z),q];simp]]
 by_cases hbe:b=e
 .grind
 .show#[u,k b u hbe q]
end
def trk(h:Heap)(H:Hp):List Addr:=(List.r h.objs.M).filter λa=>(H a).isSome
def VZ(h:Heap)(H:Hp):Heap:=PySem.W.hideAll h (trk h H)
def _am h H:(VZ h H).objs.M=h.objs.M:=PySem.W.hideAll_size _ _
def _an{h H b o}(e:h.get? b=@o)(n:H b=none):(VZ h H).get? b=@o:=
 PySem.W.hideAll_get _ e λhm=>by
  let q:=(List.mem_filter.mp hm).2;rw[n]at q;simp at q
def _ao{h H b o}(e:(VZ h H).get? b=@o):h.get? b=@o/\H b=none:=by
 let e':=PySem.W.of_hideAll _ e;show#[e',?_];cases q:H b with
 |none=>rfl
 |some x=>
  let hm:b>trk h H:=List.mem_filter.y #[List.á.y (Xh e'),by simp[q]];let z:(VZ h H).get? b=none:=PySem.W.hideAll_none _ hm
  grind
structure Mod (K:Frag)(mg:Str->Option Value)(base:Heap):Prop where
 kin:K.In base
 glob:base.Ns mainGlobals mg
 blt:∃mb,base.Ns builtinsNs mb/\∀x:Str,x≠"__name__"->mb x=bootBuiltins x
 nolimit:base.NoLimit
structure Cx where
 prog:Program
 w:World
 K:Frag
 mg:Str->Option Value
 base:Heap
 A:Around
 N:List Str
 s₀:Shared
 H₀:Hp
 env:Env
 outer:List Env
 stack:List Env
 ex:List Addr
 fn:Str->Bool
 calm:Bool
 pn:LA9
 xe:VP9
def frs(l:List Env):List Addr:=l.filterMap (·.frame)
abbrev Cx.fs(X:Cx):List Addr:=frs X.outer
def Vis(sc:Scope)(x:Str):Prop:=sc.ð.Y x=@.local\/sc.ð.Y x=@.cell\/sc.ð.Y x=@.free
def Loc(sc:Scope)(x:Str):Prop:=sc.ð.Y x=@.local\/sc.ð.Y x=@.cell
def Look(env:Env)(h:Heap)(m:Str->Option Value)(x:Str)(u:Value):Prop:=
 (env.kindOf x=@.local/\m x=@u)\/((env.kindOf x=@.cell\/env.kindOf x=@.free)/\∃c,env.cells.Y x=@c/\h.IsCell c @u)
structure Cx.Ok (X:Cx):Prop where
 mod:Mod X.K X.mg X.base
 kind:X.V.scope.kind=.function
 glob:X.V.globals=mainGlobals
 blt:X.V.builtins=builtinsNs
 above:X.s₀.G.objs.M<=X.V.locals
 inj:∀x y c,X.V.cells.Y x=@c->X.V.cells.Y y=@c->x=y
 has:∀x,(X.V.kindOf x=@.cell\/X.V.kindOf x=@.free)->∃c,X.V.cells.Y x=@c
 cab:∀x c,X.fn x=true->X.V.cells.Y x=@c->X.s₀.G.objs.M<=c
 hd:X.calm=true->X.A.ó=none
 frames:X.A.frames=@X.stack
 stk:X.stack=X.outer\/(X.stack=X.V::X.outer/\X.V.frame=@X.V.locals)
 exf:∀b>X.ex,b≠X.V.locals/\∀x c,X.V.cells.Y x=@c->c≠b
 bs:∀b o,X.base.get? b=@o->X.s₀.G.get? b=@o/\X.H₀ b=none
 bsz:X.base.objs.M<=X.s₀.G.objs.M
 noex:∀b o,X.base.get? b=@o->b∉X.ex
 exfs:∀b>X.ex,b∉X.fs
 funs:X.s₀.G.FunFrames X.base X.outer
 frf:∀b>X.fs,X.H₀ b=none
structure Inv (X:Cx)(a9:LA9)(σ:List (Option V))(H:Hp)(s:Shared):Prop where
 ok:X.Ok
 os:s.os=X.s₀.os
 bare:AllBare s.gens
 base:Un X.fs X.ex X.H₀ H X.s₀.G s.G
 loc:∃m,s.G.Ns X.V.locals m/\∀(i:Nat) (x:Str) (v:V),X.N[i]?=@x->σ[i]?=@(@v)->Vis X.V.scope x->∃u,RelV v u/\Look X.V s.G m x u
 cell:∀x c,X.V.cells.Y x=@c->∃v,s.G.IsCell c v
 free:H X.V.locals=none
 freeC:∀x c,X.V.cells.Y x=@c->H c=none
 pin:∀p>X.pn++a9,s.G.get? p.1=@p.2/\H p.1=none/\p.1≠X.V.locals/\p.1∉X.fs/\∀v,p.2.data≠.cell v
 hok:HOk X.î X.w H s.G
 len:σ.B=X.N.B
section
variable {X:Cx}{a9:LA9}{σ:List (Option V)}{H H':Hp}{s:Shared}{h':Heap}
def Cx.Ok.nofr(ok:X.Ok){b o}(e:X.base.get? b=@o):b∉X.fs:=λhb=>by
 let:=(ok.funs.mem hb).1
 grind
def Inv.bs(I:Inv X a9 σ H s):∀b o,X.base.get? b=@o->s.G.get? b=@o/\H b=none:=λb o e=>
 #[I.base.keep b o (I.ok.bs b o e).1 (I.ok.bs b o e).2 (I.ok.nofr e) (I.ok.noex b o e),I.base.free b o (I.ok.bs b o e).1 (I.ok.bs b o e).2 (I.ok.noex b o e)]
def Inv.bk(I:Inv X a9 σ H s):∀b o,X.base.get? b=@o->s.G.get? b=@o:=λb o e=>(I.bs b o e).1
def Inv.mod(I:Inv X a9 σ H s):Mod X.K X.mg X.base:=I.ok.mod
def Inv.kIn(I:Inv X a9 σ H s):X.K.In s.G:=I.ok.mod.kin.keeps I.bk
def Inv.lt(I:Inv X a9 σ H s):X.V.locals<↥s:=let ⟨_,hn,_⟩:=I.loc;hn.lt
def Inv.sz(I:Inv X a9 σ H s):X.s₀.G.objs.M<=↥s:=Z5 I.ok.above (J0 I.lt)
def Inv.nofs(I:Inv X a9 σ H s){a:Addr}(h:↥s<=a):a∉X.fs:=λhb=>by
 let#[_,o,ho,_]:=I.ok.funs.mem hb;show absurd (Xv (Xh ho) (Z5 I.sz h)) (Z4 _)
def Inv.cne(I:Inv X a9 σ H s):∀x c,X.V.cells.Y x=@c->c≠X.V.locals:=λx c e z=>by
 let#[v,o,ho,hd]:=I.cell x c e;let#[m,#[o',es,ep,ju,vf,_],_]:=I.loc
 grind
def Inv.funs(I:Inv X a9 σ H s):s.G.FunFrames X.base X.outer:=by
 let all:∀l,(∀b>frs l,b>X.fs)->X.s₀.G.FunFrames X.base l->s.G.FunFrames X.base l:=by
  intro l
  induction l with
  |nil=>intro _ _;trivial
  |cons env r ih=>
   rintro hs ⟨hk,⟨L,o,hf,hn,ho,hd⟩,hr⟩;let hL:=hs L (by ext frs;rw[List.filterMap_cons,hf];show X2);let#[sl,e]:=I.base.slot L o ho (I.ok.frf L hL) hL λz=>I.ok.exfs L z hL
   show#[hk,#[L,_,hf,hn,e,hd],ih (λb hb=>hs b (by ext frs;rw[List.filterMap_cons,hf];show _ad _ hb)) hr]
 show all X.outer (λ_ hb=>hb) I.ok.funs
def Inv.stack(I:Inv X a9 σ H s):s.G.FunFrames X.base X.stack:=by
 let e\/#[e,hf]:=I.ok.stk
 .rw[e];show I.funs
 .rw[e];let#[m,hn,_]:=I.loc;show .ê (by rw[I.ok.kind];decide) hf hn (Yq (Z5 I.ok.bsz I.ok.above)) I.funs
def Inv.stkSub(I:Inv X a9 σ H s):∀b>frs X.stack,b>X.V.locals::X.fs:=λb hb=>by
 let e\/#[e,hf]:=I.ok.stk
 .rw[e]at hb;show _ad _ hb
 .rw[e]at hb;unfold frs at hb;rw[List.filterMap_cons,hf]at hb;show hb
def Inv.stkFree(I:Inv X a9 σ H s):∀b>frs X.stack,H b=none:=λb hb=>by
 let e\/hb:=aD (I.stkSub b hb)
 .rw[e];show I.free
 .let#[_,o,ho,_]:=I.ok.funs.mem hb;show I.base.free b o ho (I.ok.frf b hb) λz=>I.ok.exfs b z hb
def Inv.step{g' t' d'}{ch:List Addr}(I:Inv X a9 σ H s)
  (nt:∀b>ch,(b>X.ex\/X.s₀.G.get? b=none)/\b≠X.V.locals/\(∀x c,X.V.cells.Y x=@c->c≠b)/\∀p>X.pn++a9,p.1≠b)
  (keep:∀b o,b≠X.V.locals->b∉X.fs->b∉ch->s.G.get? b=@o->H b=none->h'.get? b=@o)
  (slot:∀b o,b≠X.V.locals->b>X.fs->b∉ch->s.G.get? b=@o->H b=none->∃sl,h'.get? b=some {o with slots:=sl}) (free:∀b o,b∉ch->s.G.get? b=@o->H b=none->H' b=none)
  (there:∀b o,b∉ch->s.G.get? b=@o->∃o',h'.get? b=@o')
  (tups:∀b xs,H b=@(.X xs)->H' b=@(.X xs)) (frzs:∀b o u,H b=@(.ÿ o u)->H' b=@(.ÿ o u)) (tbls:∀b ps,H b=@(.tbl ps)->∃more,H' b=@(.tbl (ps++more)))
  (ns:∀m,s.G.Ns X.V.locals m->h'.Ns X.V.locals m) (hok:HOk X.î X.w H' h') (hg:AllBare g'):
  Inv X a9 σ H' {s with heap:=h',gens:=g',drawn:=d',toks:=t' }:=by
 let neL:∀b o,X.s₀.G.get? b=@o->b≠X.V.locals:=λb o e=>Xq (Xv (Xh e) I.ok.above)
 let neC:∀b o,X.s₀.G.get? b=@o->b∉X.ex->b∉ch:=λb o e hx hb=>by
  let z\/z:=(nt b hb).1
  .show hx z
  .rw[z]at e;cases e
 let qc:∀x c,X.V.cells.Y x=@c->∀v,s.G.IsCell c v->h'.IsCell c v:=λx c e v hz=>by
  let#[o,ho,hd]:=hz;let xm:=λz=>(nt c z).2.2.1 x c e rfl
  by_cases hc:c>X.fs
  .let#[sl,q]:=slot c o (I.cne x c e) hc xm ho (I.freeC x c e);show#[_,q,hd]
  .show#[o,keep c o (I.cne x c e) hc xm ho (I.freeC x c e),hd]
 show#[I.ok,I.os,hg,#[λb o e n hb hx=>?_,λb o e n hb hx=>?_,λb o e n hx=>?_,λb o e hx=>?_,λb xs e=>tups b xs (I.base.tups b xs e),λb o xs e=>frzs b o xs (I.base.frzs b o xs e),λb ps e=>?_],?_,λx c e=>?_,?_,λx c e=>?_,λp hp=>?_,hok,I.len]
 .show keep b o (neL b o e) hb (neC b o e hx) (I.base.keep b o e n hb hx) (I.base.free b o e n hx)
 .let#[sl,e1]:=I.base.slot b o e n hb hx;let#[sl',e2]:=slot b _ (neL b o e) hb (neC b o e hx) e1 (I.base.free b o e n hx);show#[sl',e2]
 .let#[o',e1]:=I.base.there b o e hx;show free b o' (neC b o e hx) e1 (I.base.free b o e n hx)
 .let#[o',e1]:=I.base.there b o e hx;show there b o' (neC b o e hx) e1
 .obtain _:=I.base.tbls b ps e
  grind
 .let#[m,hn,hl]:=I.loc;show#[m,ns m hn,λi x v e1 e2 e3=>?_];let#[u,r,l]:=hl i x v e1 e2 e3;show#[u,r,?_];let l\/#[k,c,e,z]:=l
  .show .O l
  .show .Z #[k,c,e,qc x c e _ z]
 .let#[v,z]:=I.cell x c e;show#[v,qc x c e v z]
 .let#[m,#[o,_,_,ho,_],_]:=I.loc;show free _ o (λz=>(nt _ z).2.1 rfl) ho I.free
 .let#[v,o,ho,hd]:=I.cell x c e;show free c o (λz=>(nt c z).2.2.1 x c e rfl) ho (I.freeC x c e)
 .let#[e,n,ne,nf,d]:=I.pin p hp;let xm:=λz=>(nt p.1 z).2.2.2 p hp rfl
  show#[keep p.1 p.2 ne nf xm e n,free p.1 p.2 xm e n,ne,nf,d]
def Inv.un{t'}(I:Inv X a9 σ H s)(u:Un X.fs [] H H' s.G h')(hok:HOk X.î X.w H' h'):Inv X a9 σ H' {s with heap:=h',toks:=t' }:=by
 let#[m,#[o,es,ep,ho,r],_]:=id I.loc;let#[sl,hL]:=u.any ho I.free (by simp);show I.step (g':=s.gens) (d':=s.drawn) (ch:=[]) (nofun) (λb o _ hb _ e n=>u.keep b o e n hb (by simp)) (λb o _ hb _ e n=>u.slot b o e n hb (by simp)) (λb o _ e n=>u.free b o e n (by simp)) (λb o _ e=>u.there b o e (by simp)) u.tups u.frzs u.tbls (λm' hm=>by
  let#[o',es',ep',ju,r']:=hm;rw[ho]at ju;cases ju;show#[_,es',ep',hL,r']) hok I.bare
def Inv.call{g' t' d' ch}(I:Inv X a9 σ H s)(u:Un (frs X.stack) ch H H' s.G h')(hok:HOk X.î X.w H' h')(hg:AllBare g')
  (nt:∀b>ch,(b>X.ex\/X.s₀.G.get? b=none)/\b≠X.V.locals/\(∀x c,X.V.cells.Y x=@c->c≠b)/\∀p>X.pn++a9,p.1≠b):
  Inv X a9 σ H' {s with heap:=h',gens:=g',drawn:=d',toks:=t' }:=by
 let#[m,#[o,es,ep,ho,r],_]:=id I.loc;let#[sl,hL]:=u.any ho I.free λz=>(nt _ z).2.1 rfl
 show I.step nt (λb o hL hb hc e n=>u.keep b o e n (λz=>(aD (I.stkSub b z)).ë hL hb) hc) (λb o _ _ hc e n=>u.any e n hc) (λb o hc e n=>u.free b o e n hc) (λb o hc e=>u.there b o e hc) u.tups u.frzs u.tbls (λm' hm=>by
  let#[o',es',ep',ju,r']:=hm;rw[ho]at ju;cases ju;show#[_,es',ep',hL,r']) hok hg
def Inv.turned{t' it}(I:Inv X a9 σ H s)(k:∀b o,b≠it->s.G.get? b=@o->h'.get? b=@o)(hn:H it=none)(hL:it≠X.V.locals)
  (h1:it>X.ex\/X.s₀.G.objs.M<=it) (h2:∀x c,X.V.cells.Y x=@c->c≠it) (h3:∀p>X.pn++a9,p.1≠it):Inv X a9 σ H {s with heap:=h',toks:=t' }:=by
 let yi:∀b u,H b=@u->b≠it:=λb u e z=>by rw[z,hn]at e;cases e
 show I.step (g':=s.gens) (d':=s.drawn) (ch:=[it]) (λb hb=>?_) (λb o _ _ hc e _=>k b o (λz=>hc (by simp[z])) e) (λb o _ _ hc e _=>#[o.slots,k b o (λz=>hc (by simp[z])) e]) (λ_ _ _ _ n=>n)
  (λb o hc e=>#[o,k b o (λz=>hc (by simp[z])) e]) (λ_ _ e=>e) (λ_ _ _ e=>e) (λb ps e=>#[(List.H []),by rw[e];simp]) (λm hm=>?_) (λb u e=>?_) I.bare
 .let e:b=it:= ~~~hb
  subst e;show#[h1.imp id λz=>Yq z,hL,h2,h3]
 .let#[o,es,ep,ho,r]:=hm;show#[o,es,ep,k _ o (Ne.s hL) ho,r]
 .show(I.hok b u e).stay (λc v hc q=>k c v ?_ q) (λ_ q=>q) λ_ _ q=>q
  let z\/z:=hc
  .rw[z];show yi b u e
  .show yi c _ z
def Inv.tok(I:Inv X a9 σ H s) t:Inv X a9 σ H {s with toks:=t}:=I.un (h':=s.G) (t':=t) Un.ñ I.hok
def Inv.kept{t'}(I:Inv X a9 σ H s)(k:∀b u,s.G.get? b=@u->h'.get? b=@u):Inv X a9 σ H {s with heap:=h',toks:=t' }:=I.un (Un.kept k) (I.hok.kept k)
def Inv.laid{a:Addr}{o t'}(I:Inv X a9 σ H s)(k:∀b u,s.G.get? b=@u->h'.get? b=@u)(hp:↥s<=a)(new:ObjOk X.î X.w (upd H a o) h' a o):
  Inv X a9 σ (upd H a o) {s with heap:=h',toks:=t' }:=I.un (Un.laid k hp (I.hok.fresh hp)) (I.hok.laid k hp new)
def Inv.write{x e o t'}(I:Inv X a9 σ H s)(mu:Mut (H x))(he:e=x\/H e=@(.ì x))(k:∀b u,b≠e->s.G.get? b=@u->h'.get? b=@u)(xi:∃u,h'.get? e=@u)
  (new:ObjOk X.î X.w (upd H x o) h' x o):Inv X a9 σ (upd H x o) {s with heap:=h',toks:=t' }:=I.un (Un.write mu he k xi) (I.hok.write mu he k xi new)
def Inv.pins_of{dq}(I:Inv X a9 σ H s)(h:∀p>dq,s.G.get? p.1=@p.2/\H p.1=none/\p.1≠X.V.locals/\p.1∉X.fs/\∀v,p.2.data≠.cell v):Inv X dq σ H s:=
 #[I.ok,I.os,I.bare,I.base,I.loc,I.cell,I.free,I.freeC,λp hp=>(aA hp).ë (λz=>I.pin p (_ac _ z)) (h p),I.hok,I.len]
def _ap{N:List Str}(hN:N.U){i j:Nat}{x}(a:N[i]?=@x)(b:N[j]?=@x):i=j:=by
 let#[h1,e1]:=aF a;let#[h2,e2]:=aF b;show(List.getElem_inj hN).mp (e1.I e2.s)
def _aq{M A E i x v u Q}(I:Inv X a9 σ H s)(hN:X.N.U)(hi:X.N[i]?=@x)(hx:Loc X.V.scope x)(r:RelV v u)
  (h:∀s',Inv X a9 (σ.u i @v) H s'->(∃a,Heap.SameBut a s.G s'.G/\(a=X.V.locals\/X.V.cells.Y x=@a))->Q () s') (hf:X.fn x=true\/X.V.scope.ð.Y x=@.local<|>Ř):wpAny M A (storeName X.V x u) Q E s:=by
 let#[m,hn,hl]:=id I.loc;let hcls:(X.V.scope.kind == .class||(X.V.scope.kind == .module&&X.V.locals != X.V.globals))=false:=by rw[I.ok.kind];rfl
 let hiσ:i < σ.B:=by rw[I.len];show(aF hi).1
 let cne:=I.cne;let lm:∀{a h'},(∃o,s.G.get? a=@o/\H a=none)->Heap.SameBut a s.G h'->HOk X.î X.w H h':=fun {a h'} ha hs b ob e=>by
  show(I.hok b ob e).stay (λc w' hc q=>(hs.2 c ?_).I q) (λ_ q=>q) λ_ _ q=>q
  rintro rfl;let rfl\/hc:=hc
  .grind
  .grind
 let hk\/hk:=hx
 .show wpAny_storeName_local hk hn (λh' hn' hs=>?_) hcls;let#[oL,_,_,ny,_]:=id hn;show h _ #[I.ok,I.os,I.bare,#[λb o e n hb hx=>?_,λb o e n hb hx=>?_,I.base.free,λb o e hx=>?_,I.base.tups,I.base.frzs,I.base.tbls],#[_,hn',λj y v' e1 e2 e3=>?_],λy c e=>?_,I.free,I.freeC,λp hp=>?_,lm #[oL,ny,I.free] hs,~~~I.len] #[_,hs,.O rfl]
  .show(hs.2 b (Xq (Xv (Xh e) I.ok.above))).I (I.base.keep b o e n hb hx)
  .let#[sl,e1]:=I.base.slot b o e n hb hx;show#[sl,(hs.2 b (Xq (Xv (Xh e) I.ok.above))).I e1]
  .let#[o',e1]:=I.base.there b o e hx;show#[o',(hs.2 b (Xq (Xv (Xh e) I.ok.above))).I e1]
  .by_cases hj:j=i
   .subst hj;rw[hi]at e1;cases e1;rw[Z0 hiσ]at e2;cases e2;show#[u,r,.O #[hk,by simp]]
   .rw[Yi (Ne.s hj)]at e2;let#[u',r',q]:=hl j y v' e1 e2 e3;show#[u',r',?_];let#[k,e]\/#[k,c,e,z]:=q
    .show .O #[k,?_];let:y≠x:=λe=>hj (_ap hN e1 (e▸hi))
     simp[this,e]
    .show .Z #[k,c,e,z.sameBut hs (cne y c e)]
  .let#[w',z]:=I.cell y c e;show#[w',z.sameBut hs (cne y c e)]
  .let#[e,n,ne,nf,d]:=I.pin p hp;show#[(hs.2 p.1 ne).I e,n,ne,nf,d]
 .let hfn:X.fn x=true:=by
   let z\/z:=hf
   .show z
   .grind
  let#[c,hc]:=I.ok.has x (.O hk);let#[w',z]:=I.cell x c hc;show wpAny_storeName_cell I.ok.kind hk hc z (λh' ji hs=>?_);let#[oc,hoc,hocd]:=id z;show h {s with heap:=h' } #[I.ok,I.os,I.bare,#[λb o e n hb hx=>?_,λb o e n hb hx=>?_,I.base.free,λb o e hx=>?_,I.base.tups,I.base.frzs,I.base.tbls],#[m,hn.sameBut hs (Ne.s (cne x c hc)),λj y v' e1 e2 e3=>?_],λy c' e=>?_,I.free,I.freeC,λp hp=>?_,lm #[oc,hoc,I.freeC x c hc] hs,~~~I.len] #[c,hs,.Z hc]
  .show(hs.2 b (Xq (Xv (Xh e) (I.ok.cab x c hfn hc)))).I (I.base.keep b o e n hb hx)
  .let#[sl,e1]:=I.base.slot b o e n hb hx;show#[sl,(hs.2 b (Xq (Xv (Xh e) (I.ok.cab x c hfn hc)))).I e1]
  .let#[o',e1]:=I.base.there b o e hx;show#[o',(hs.2 b (Xq (Xv (Xh e) (I.ok.cab x c hfn hc)))).I e1]
  .by_cases hj:j=i
   .subst hj;rw[hi]at e1;cases e1;rw[Z0 hiσ]at e2;cases e2;show#[u,r,.Z #[.O hk,c,hc,ji]]
   .rw[Yi (Ne.s hj)]at e2;let#[u',r',q]:=hl j y v' e1 e2 e3;show#[u',r',?_];let q\/#[k,c',e,z']:=q
    .show .O q
    .show .Z #[k,c',e,z'.sameBut hs ?_];rintro rfl;show hj (_ap hN e1 (I.ok.inj _ _ _ e hc▸hi))
  .by_cases dh:c'=c
   .subst dh;show#[_,ji]
   .let#[w2,z2]:=I.cell y c' e;show#[w2,z2.sameBut hs dh]
  .let#[e,n,ne,nf,d]:=I.pin p hp;show#[(hs.2 p.1 ?_).I e,n,ne,nf,d];intro q;rw[q,hoc]at e;let q':oc=p.2:=_aa e;show d w' (q'▸hocd)
def _ar{M A E i x v u Q}(I:Inv X a9 σ H s)(hN:X.N.U)(hi:X.N[i]?=@x)(hx:Loc X.V.scope x)(r:RelV v u)
  (h:∀s',Inv X a9 (σ.u i @v) H s'->Q () s') (hf:X.fn x=true\/X.V.scope.ð.Y x=@.local<|>Ř):wpAny M A (storeName X.V x u) Q E s:=
 _aq I hN hi hx r (λs' I' _=>h s' I') hf
def Inv.call'{s' ch}(I:Inv X a9 σ H s)(ho:s'.os=s.os)(u:Un (frs X.stack) ch H H' s.G s'.G)(hok:HOk X.î X.w H' s'.G)(hg:AllBare s'.gens)
  (nt:∀b>ch,(b>X.ex\/X.s₀.G.get? b=none)/\b≠X.V.locals/\(∀x c,X.V.cells.Y x=@c->c≠b)/\∀p>X.pn++a9,p.1≠b):Inv X a9 σ H' s':=by
 let#[h',g',d',t',o']:=s';subst ho;show I.call (g':=g') (t':=t') (d':=d') u hok hg nt
end
abbrev XK:=Value->Option Addr->Hp->Prop
abbrev St:=List (Option V)
abbrev VK:=V->Hp->Prop
abbrev TE:=St->Hp->VK->Prop
abbrev TT:=St->Hp->(Bool->Hp->Prop)->Prop
abbrev TA:=St->Hp->(List V->Hp->Prop)->Prop
structure Ends where
 nx:St->Hp->Prop
 rt:VK
 bk:St->Hp->Prop:=λ_ _=>False
 ct:St->Hp->Prop:=λ_ _=>False
abbrev TS:=Ends->St->Hp->Prop
def EP(X:Cx)(a9:LA9)(σ:St)(Q:VK)(u:Value)(s':Shared):Prop:=∃v H',Inv X a9 σ H' s'/\RelV v u/\Q v H'
def TP(X:Cx)(a9:LA9)(σ:St)(Q:Bool->Hp->Prop)(b:Bool)(s':Shared):Prop:=∃H',Inv X a9 σ H' s'/\Q b H'
def AP(X:Cx)(a9:LA9)(σ:St)(Q:List V->Hp->Prop)(us:List Value)(s':Shared):Prop:=∃vs H',Inv X a9 σ H' s'/\Vals vs us/\Q vs H'
#where in
def SP(X:Cx)(a9:LA9)(D:Ends)(f:Flow)(s':Shared):Prop:=
 match f with
 |.next=>∃ σ' H',Inv X a9 σ' H' s'/\D.nx σ' H'|.brk=>∃ σ' H',Inv X a9 σ' H' s'/\D.bk σ' H'|.cont=>∃ σ' H',Inv X a9 σ' H' s'/\D.ct σ' H'|.ret u=>∃v σ' H',Inv X a9 σ' H' s'/\RelV v u/\D.rt v H'
def PE(X:Cx)(e:Expr)(t:TE):Prop:=
 ∀(a9:LA9) (s:Shared) (σ:St) (H:Hp) (Q:VK),Inv X a9 σ H s->t σ H Q->∅ (eval e X.V) (EP X a9 σ Q) X.xe s
def PT(X:Cx)(e:Expr)(t:TT):Prop:=
 ∀(a9:LA9) (s:Shared) (σ:St) (H:Hp) (Q:Bool->Hp->Prop),Inv X a9 σ H s->t σ H Q->∅ (isTrue e X.V (eval e X.V)) (TP X a9 σ Q) X.xe s
def PW(X:Cx)(e:Expr)(t:TT):Prop:=
 ∀(gq:Sem Value) (a9:LA9) (s:Shared) (σ:St) (H:Hp) (Q:Bool->Hp->Prop),Inv X a9 σ H s->t σ H Q->∅ (isTrue e X.V gq) (TP X a9 σ Q) X.xe s
def PW.pt{X e t}(h:PW X e t):PT X e t:=h _
def PA(X:Cx)(es:List Expr)(t:TA):Prop:=
 ∀(pos:Pos) (a9:LA9) (s:Shared) (σ:St) (H:Hp) (Q:List V->Hp->Prop),Inv X a9 σ H s->t σ H Q->∅ (spliced (backTo pos (starEach es X.V))) (AP X a9 σ Q) X.xe s
def PS(X:Cx)(st:Stmt)(t:TS):Prop:=
 ∀(a9:LA9) (s:Shared) (σ:St) (H:Hp) (D:Ends),Inv X a9 σ H s->t D σ H->∅ (exec st X.V) (SP X a9 D) X.xe s
def PSs(X:Cx)(st:List Stmt)(t:TS):Prop:=
 ∀(a9:LA9) (s:Shared) (σ:St) (H:Hp) (D:Ends),Inv X a9 σ H s->t D σ H->∅ (execs st X.V) (SP X a9 D) X.xe s
def thn{α t}{Q Q':α->Shared->Prop}{M A E s}(h:wpAny M A t Q E s)(hQ:∀a s,Q a s->Q' a s):wpAny M A t Q' E s:=wpAny_mono h hQ λ_ _ x=>x
section
variable {X:Cx}
abbrev vX(i:Nat):TE:=fun σ H Q=>∃v,σ[i]?=some @v/\Q v H
abbrev tC(v:V):TE:=λ_ H Q=>Q v H
abbrev _root_.Abd(x:Str):Prop:=(x==("__debug__":Str))=false
def _as{i x pos}(hN:X.N[i]?=@x)(hv:Vis X.V.scope x)(hd:Abd x<|>ŕ)(iy:(x==("__classdict__":Str))=false<|>ŕ):PE X (.é x pos) (vX i):=by
 rintro a9 s σ H Q I ⟨v,e,h⟩;let#[m,hn,hl]:=I.loc;let#[u,r,l]:=hl i x v hN e hv;let fin:EP X a9 σ Q u s:=#[v,H,I,r,h];let#[hk,hm]\/#[hk,c,hc,hcell]:=l
 .show wpAny_Name (wpAny_loadName_local I.ok.kind hk hn hm fin) hd
 .let hk\/hk:=hk
  .show wpAny_Name (wpAny_loadName_cell I.ok.kind hk hc hcell fin) hd
  .show wpAny_Name (wpAny_loadName_free I.ok.kind hk hc hcell fin iy) hd
def _at{i j pos}:PE X (.Constant (.E i) j pos) (tC (.E i)):=λ_ _ _ H _ I h=>wpAny_Constant_int #[.E i,H,I.tok _,#[_,rfl],h]
def _au{b j pos}:PE X (.Constant (.bool b) j pos) (tC (.bl b)):=λ_ _ _ H _ I h=>Constant_bool #[.bl b,H,I,rfl,h]
def _av{j pos}:PE X (.Constant .å j pos) (tC .ç):=λ_ _ _ H _ I h=>Constant_none #[.ç,H,I,rfl,h]
def _aw{x j pos}:PE X (.Constant (.ã x) j pos) (tC (.ã x)):=λ_ _ _ H _ I h=>Calls.Constant_str #[.ã x,H,I.tok _,#[_,rfl],h]
def Gl(X:Cx)(x:Str):Prop:=X.V.kindOf x=@.globalImplicit
def _ax{E a9 s}{σ:St}{H x u pos Q}(I:Inv X a9 σ H s)(hg:Gl X x)(hm:X.mg x=@u)(h:Q u s)
  (hd:Abd x<|>ŕ):∅ (eval (.é x pos) X.V) Q E s:=
 Calls.Name_function_global I.ok.kind hg (Calls.loadGlobal_global (I.ok.glob▸I.mod.glob.keeps I.bk) hm h) hd
def xQ{E a9 s}{σ:St}{H x u pos Q}(I:Inv X a9 σ H s)(hg:Gl X x)(hm:X.mg x=none)(hv:bootBuiltins x=@u)(h:Q u s)
  (hn:x≠"__name__"<|>ŕ) (hd:Abd x<|>ŕ):∅ (eval (.é x pos) X.V) Q E s:=by
 let#[mb,h1,h2]:=I.mod.blt;show Calls.Name_function_global I.ok.kind hg (Calls.loadGlobal_builtin (I.ok.glob▸I.mod.glob.keeps I.bk) hm (I.ok.blt▸h1.keeps I.bk) ((h2 x hn).I hv) h) hd
def _ay{x v u pos}(hg:Gl X x)(hm:X.mg x=@u)(r:RelV v u)(hd:Abd x<|>ŕ):PE X (.é x pos) (tC v):=
 λ_ _ _ H _ I h=>_ax I hg hm #[v,H,I,r,h] hd
def _az{x v u pos}(hg:Gl X x)(hm:X.mg x=none)(hv:bootBuiltins x=@u)(r:RelV v u)(hn:x≠"__name__"<|>ŕ)(hd:Abd x<|>ŕ):PE X (.é x pos) (tC v):=
 λ_ _ _ H _ I h=>xQ I hg hm hv #[v,H,I,r,h] hn hd
variable {a b:Expr}{ta tb:TE}{pos:Pos}
variable {tA tB':TT}{af:List Expr}
abbrev tOr(t u:TT):TT:=fun σ H Q=>t σ H λc H1=>if c=true then Q true H1 else u σ H1 Q
abbrev tNot(t:TT):TT:=fun σ H Q=>t σ H λc H1=>Q (!c) H1
def _aA(ha:PT X a tA):PW X (.BoolOp .Or [a] pos) tA:=by
 intro wh a9 s σ H Q I h;show isTrue_or (thn (ha a9 s σ H Q I h) λc s1 e=>?_);cases c with|false=>show isTrue_or_nil e|true=>show e
def _aB(ha:PT X a tA)(hb:PW X (.BoolOp .Or (b::af) pos) tB'):PW X (.BoolOp .Or (a::b::af) pos) (tOr tA tB'):=by
 intro wh a9 s σ H Q I h;show isTrue_or (thn (ha a9 s σ H _ I h) λc s1 hz=>?_);let#[H1,I1,q1]:=hz;cases c with|true=>show#[H1,I1,q1]|false=>show hb wh a9 s1 σ H1 Q I1 q1
def _aC(ha:PT X a tA):PT X (.UnaryOp .Not a pos) (tNot tA):=by
 intro a9 s σ H Q I h;show isTrue_not (ha a9 s σ H _ I h)
abbrev xve(ta tb:TE):TE:=fun σ H Q=>ta σ H λx H1=>∃c,x=.bl c/\if c=true then tb σ H1 Q else Q (.bl false) H1
def _aD{op t}(h:PE X a t):PE X (.BoolOp op [a] pos) t:=λa9 s σ H Q I hw=>BoolOp_one (h a9 s σ H Q I hw)
def _aE(ha:PE X a ta)(hb:PE X (.BoolOp .And (b::af) pos) tb):PE X (.BoolOp .And (a::b::af) pos) (xve ta tb):=by
 intro a9 s σ H Q I h;show BoolOp_and (thn (ha a9 s σ H _ I h) λv s1 hz=>?_);let#[x,H1,I1,r1,q1]:=hz;let#[c,rfl,q1]:=q1;cases r1;show wpAny_truthy_bool ?_;cases c with|true=>show hb a9 s1 σ H1 Q I1 q1|false=>show#[.bl false,H1,I1,rfl,q1]
abbrev tIf(t:TT)(ta tb:TE):TE:=fun σ H Q=>t σ H λc H1=>if c=true then ta σ H1 Q else tb σ H1 Q
def _aF{c}(hc:PT X c tA)(ha:PE X a ta)(hb:PE X b tb):PE X (.IfExp c a b pos) (tIf tA ta tb):=by
 intro a9 s σ H Q I h;show wpAny_IfExp (thn (hc a9 s σ H _ I h) λd s1 hz=>?_);let#[H1,I1,q1]:=hz;cases d with|true=>show ha a9 s1 σ H1 Q I1 q1|false=>show hb a9 s1 σ H1 Q I1 q1
end
def SqL(K:Frag)(H:Hp)(a:Addr)(xs:List V):Prop:=
 Rd H a (.L xs) \/
  ∃(o:Obj) (ac:Array Value) (n:Nat),K.Y a=@o/\o.cls=.e "list"/\o.dict=none/\o.data=.seq ac n/\ac.M<=sizeLine/\Vals xs ac.R
def SqT(K:Frag)(H:Hp)(a:Addr)(xs:List V):Prop:=
 Rd H a (.X xs) \/
  ∃(o:Obj) (ac:Array Value) (n:Nat),K.Y a=@o/\o.cls=.e "tuple"/\o.dict=none/\o.data=.seq ac n/\ac.M<=sizeLine/\Vals xs ac.R
def absV:Value->Option V
 |.å=>@.ç|.bool b=>@(.bl b)|.E i _=>@(.E i)|.ã x _=>@(.ã x)|.bytes b _=>@(.byt b)|.float b _=>@(.flt b)|.J a=>@(.J a)|.e n=>@(.ty n)|_=>none
def RelV.abs{x u}(r:RelV x u):absV u=@x:=by
 cases x with|non=>cases r;rfl|bl _=>cases r;rfl|int _=>let#[t,rfl]:=r;rfl|str _=>let#[t,rfl]:=r;rfl|byt _=>let#[t,rfl]:=r;rfl|flt _=>let#[t,rfl]:=r;rfl|ref _=>cases r;rfl|ty _=>cases r;rfl
def RelV.inj{x y u}(r:RelV x u)(q:RelV y u):x=y:=_aa (r.abs.s.I q.abs)
def Vals.inj:∀{xs ys us},Vals xs us->Vals ys us->xs=ys
 |_,_,_,.nil,.nil=>rfl|_,_,_,.ê r t,.ê r' t'=>by rw[r.inj r',Vals.inj t t']
section
variable {X:Cx}{a9:LA9}{σ:St}{H:Hp}{s:Shared}{a:Addr}{xs ys:List V}
def SqL.of{K}(h:H a=@(.L xs)):SqL K H a xs:=.O (.O h)
def SqT.of{K}(h:H a=@(.X xs)):SqT K H a xs:=.O (.O h)
def Inv.list(I:Inv X a9 σ H s)(h:SqL X.K H a xs):∃ac,Vals xs ac/\PlainL s.G a ac.H/\xs.B<=sizeLine:=by
 let h\/#[o,ac,n,hk,hc,hd,hs,hz,r]:=h
 .let#[z,ac,n,r,e]:=h.ok I.hok;show#[ac,r,#[_,n,e,rfl,rfl,rfl],z]
 .show#[ac.R,r,#[o,n,I.kIn a o hk,hc,hd,~~~hs],?_];let e:=r.B;simp at e;lia
def Inv.tuple(I:Inv X a9 σ H s)(h:SqT X.K H a xs):∃ac,Vals xs ac/\IsTup s.G a ac.H/\xs.B<=sizeLine:=by
 let h\/#[o,ac,n,hk,hc,_,hs,hz,r]:=h
 .let#[z,ac,r,p]:=h.ok I.hok;show#[ac,r,p.X,z]
 .show#[ac.R,r,#[o,I.kIn a o hk,hc,n,~~~hs],?_];let e:=r.B;simp at e;lia
def Inv.tupleD(I:Inv X a9 σ H s)(h:SqT X.K H a xs):∃o,s.G.get? a=@o/\o.dict=none:=by
 let h\/#[o,ac,n,hk,hc,hd,hs,hz,r]:=h
 .let#[z,ac,r,o,e,_,d,_]:=h.ok I.hok;show#[o,e,d]
 .show#[o,I.kIn a o hk,hd]
def Inv.list_inj(I:Inv X a9 σ H s)(h:SqL X.K H a xs)(h':SqL X.K H a ys):xs=ys:=by
 let#[ac,r,#[o,n,e,_,_,d],_]:=I.list h;let#[its',r',#[o',n',e',_,_,d'],_]:=I.list h';rw[e]at e';cases e';rw[d]at d';injection d' with d1 _;let:ac=its':= ~~~(congrArg Array.R d1)
 subst this;show r.inj r'
def Inv.tuple_inj(I:Inv X a9 σ H s)(h:SqT X.K H a xs)(h':SqT X.K H a ys):xs=ys:=by
 let#[ac,r,#[o,e,_,n,d],_]:=I.tuple h;let#[its',r',#[o',e',_,n',d'],_]:=I.tuple h';rw[e]at e';cases e';rw[d]at d';injection d' with d1 _;let:ac=its':= ~~~(congrArg Array.R d1)
 subst this;show r.inj r'
end
abbrev Cx.wish(X:Cx)(E:VP9):Cx:={X with xe:=E}
def Cx.Ok.wish{X:Cx}(ok:X.Ok) E:(X.wish E).Ok:=
 #[ok.mod,ok.kind,ok.glob,ok.blt,ok.above,ok.inj,ok.has,ok.cab,ok.hd,ok.frames,ok.stk,ok.exf,ok.bs,ok.bsz,ok.noex,ok.exfs,ok.funs,ok.frf]
def Cx.Ok.unwish{X:Cx}{E}(ok:(X.wish E).Ok):X.Ok:=
 #[ok.mod,ok.kind,ok.glob,ok.blt,ok.above,ok.inj,ok.has,ok.cab,ok.hd,ok.frames,ok.stk,ok.exf,ok.bs,ok.bsz,ok.noex,ok.exfs,ok.funs,ok.frf]
section
variable {X:Cx}{a9:LA9}{σ:St}{H:Hp}{s:Shared}{E:VP9}
def Inv.wish(I:Inv X a9 σ H s) E:Inv (X.wish E) a9 σ H s:=#[I.ok.wish E,I.os,I.bare,I.base,I.loc,I.cell,I.free,I.freeC,I.pin,I.hok,I.len]
def Inv.unwish(I:Inv (X.wish E) a9 σ H s):Inv X a9 σ H s:=#[I.ok.unwish,I.os,I.bare,I.base,I.loc,I.cell,I.free,I.freeC,I.pin,I.hok,I.len]
#where in
def SP.unwish{D f s'}(h:SP (X.wish E) a9 D f s'):SP X a9 D f s':=by
 cases f with|next=>let#[σ',H',I,q]:=h;show#[σ',H',I.unwish,q]|brk=>let#[σ',H',I,q]:=h;show#[σ',H',I.unwish,q]|cont=>let#[σ',H',I,q]:=h;show#[σ',H',I.unwish,q]|ret u=>let#[v,σ',H',I,r,q]:=h;show#[v,σ',H',I.unwish,r,q]
end
section
variable {X:Cx}{st:Stmt}{af:List Stmt}{t u:TS}{e:Expr}{te:TE}{pos:Pos}
abbrev xvb:TS:=λD σ H=>D.nx σ H
abbrev tSeq(t u:TS):TS:=λD σ H=>t {D with nx:=u D} σ H
def _aG:PSs X [] xvb:=λ_ _ σ H _ I h=>wpAny_execs_nil #[σ,H,I,h]
#where in
def _aH(h1:PS X st t)(h2:PSs X af u):PSs X (st::af) (tSeq t u):=by
 intro a9 s σ H D I h;show wpAny_execs_cons (thn (h1 a9 s σ H {D with nx:=u D} I h) λf s1 q=>?_);cases f with
 |next=>
  let#[σ',H',I',q]:=q;show h2 a9 s1 σ' H' D I' q
 |ret v=>show q|brk=>show q|cont=>show q
#where in
def _aI(h1:PS X st t):PSs X [st] t:=by
 intro a9 s σ H D I h;show wpAny_execs_cons (thn (h1 a9 s σ H D I h) λf s1 q=>?_);cases f with|next=>show wpAny_execs_nil q|ret v=>show q|brk=>show q|cont=>show q
def Inv.quiet{a9}{σ:St}{H s}(I:Inv X a9 σ H s):interactive X.V=false:=by simp[interactive,I.ok.kind]
abbrev xvc(te:TE):TS:=λD σ H=>te σ H λ_ H1=>D.nx σ H1
def ZY(he:PE X e te)(hs:swapsWith e none pos.line X.V=pure false<|>Ŕ):PS X (.Expr e pos) (xvc te):=by
 intro a9 s σ H D I h;show wpAny_Expr_any (thn (he a9 s σ H _ I h) λv s1 hz=>by let#[x,H1,I1,r1,q1]:=hz;show#[σ,H1,I1,q1]) I.quiet hs
abbrev tRet(te:TE):TS:=λD σ H=>te σ H D.rt
def _aJ(he:PE X e te):PS X (.Return @e pos) (tRet te):=by
 intro a9 s σ H D I h;show wpAny_Return_some (thn (he a9 s σ H _ I h) λv s1 hz=>by let#[x,H1,I1,r1,q1]:=hz;show#[x,σ,H1,I1,r1,q1])
abbrev tIfS(c:TT)(t u:TS):TS:=λD σ H=>c σ H λb H1=>if b=true then t D σ H1 else u D σ H1
def _aK{c a b tc}(hc:PT X c tc)(ha:PSs X a t)(hb:PSs X b u):PS X (.If c a b pos) (tIfS tc t u):=by
 intro a9 s σ H D I h;show wpAny_If (thn (hc a9 s σ H _ I h) λd s1 hz=>?_);let#[H1,I1,q1]:=hz;cases d with|true=>show ha a9 s1 σ H1 D I1 q1|false=>show hb a9 s1 σ H1 D I1 q1
end
abbrev TG:=V->St->Hp->(St->Hp->Prop)->Prop
abbrev TGs:=List V->St->Hp->(St->Hp->Prop)->Prop
def PG(X:Cx)(ig:Expr)(t:TG):Prop:=
 ∀(a9:LA9) (s:Shared) (σ:St) (H:Hp) (v:V) (u:Value) (Q:St->Hp->Prop),Inv X a9 σ H s->RelV v u->t v σ H Q ->
  ∅ (assign ig X.V u) (λ_ s'=>∃ σ' H',Inv X a9 σ' H' s'/\Q σ' H') X.xe s
def PGs(X:Cx)(ts:List Expr)(t:TGs):Prop:=
 ∀(a9:LA9) (s:Shared) (σ:St) (H:Hp) (vs:List V) (us:List Value) (Q:St->Hp->Prop),Inv X a9 σ H s->Vals vs us->t vs σ H Q ->
  ∅ (assignInOrder ((assignEach ts X.V).C (·.2)) us) (λ_ s'=>∃ σ' H',Inv X a9 σ' H' s'/\Q σ' H') X.xe s
abbrev xxw:=V->V->V->Hp->(Hp->Prop)->Prop
def _aL(X:Cx)(t:xxw):Prop:=
 ∀(a9:LA9) (s:Shared) (σ:St) (H:Hp) (o i v:V) (ov iv u:Value) (Q:Hp->Prop),Inv X a9 σ H s->RelV o ov->RelV i iv->RelV v u->t o i v H Q ->
  ∅ (setItem ov iv u) (λ_ s'=>∃H',Inv X a9 σ H' s'/\Q H') X.xe s
section
variable {X:Cx}{pos:Pos}
abbrev qw5(i:Nat):TG:=λv σ H Q=>Q (σ.u i @v) H
def _aM{i x}(hN:X.N.U)(hi:X.N[i]?=@x)(hx:Loc X.V.scope x)(hf:X.fn x=true\/X.V.scope.ð.Y x=@.local<|>Ř):PG X (.é x pos) (qw5 i):=by
 intro a9 s σ H v u Q I r h;show wpAny_assign_Name (_ar I hN hi hx r (λs' I'=>#[_,H,I',h]) hf)
abbrev xzj:TGs:=λvs σ H Q=>vs=[]/\Q σ H
abbrev xk2(t:TG)(u:TGs):TGs:=λvs σ H Q=>∃v r,vs=v::r/\t v σ H fun σ' H'=>u r σ' H' Q
def Vv:PGs X [] xzj:=by
 rintro a9 s σ H vs us Q I r ⟨e,h⟩;subst e;show assignInOrder_nil #[σ,H,I,h]
def wW{e es t u}(h1:PG X e t)(h2:PGs X es u)
  (hs:(assignEach (e::es) X.V).C (·.2)=assign e X.V::(assignEach es X.V).C (·.2)<|>Ŕ):PGs X (e::es) (xk2 t u):=by
 rintro a9 s σ H vs us Q I r ⟨v,vr,e1,h⟩;subst e1;cases r with
 |cons r rr=>
  rw[hs];show assignInOrder_cons (thn (h1 a9 s σ H _ _ _ I r h) λ_ s1 hz=>by let#[σ1,H1,I1,q1]:=hz;show(h2 a9 s1 σ1 H1 _ _ Q I1 rr q1))
abbrev gSub(to ti:TE)(t:xxw):TG:=λv σ H Q=>to σ H λo H1=>ti σ H1 λi H2=>t o i v H2 λH3=>Q σ H3
def _aN{o i:Expr}{to ti:TE}{t:xxw}(ho:PE X o to)(hi:PE X i ti)(hs:_aL X t)
  (ha:autoParam (∀v,assign (.Subscript o i pos) X.V v=(do
   let ov <-holding [v] (eval o X.V)
   let iv <-holding [v,ov] (eval i X.V)
   standAt pos
   holding [v,ov,iv] (setItem ov iv v)
   release [v,ov,iv] [])) Ŗ):PG X (.Subscript o i pos) (gSub to ti t):=by
 intro a9 s σ H v u Q I r h;rw[ha];show X0 (Y4 (thn (ho a9 s σ H _ I h) λov s1 hz=>?_));let#[x,H1,I1,r1,q1]:=hz;show X0 (Y4 (thn (hi a9 s1 σ H1 _ I1 q1) λiv s2 hz=>?_));let#[y,H2,I2,r2,q2]:=hz;show X0 (wpAny_standAt (X0 (Y4 (thn (hs a9 s2 σ H2 x y v ov iv u _ I2 r1 r2 r q2) λ_ s3 hz=>?_))));let#[H3,I3,q3]:=hz;show wpAny_release #[σ,H3,I3,q3]
abbrev xz2(te:TE)(g:TG):TS:=λD σ H=>te σ H λx H1=>g x σ H1 D.nx
def _aO{tg e te g}(he:PE X e te)(hg:PG X tg g)(hs:swapsWithSole [tg] e pos.line X.V=pure false<|>Ŕ)(hw:swappedStores [tg] e X.V=pure none<|>Ŕ)
  (h1:(assignEach [tg] X.V).C (·.2)=[assign tg X.V]<|>Ŕ):PS X (.Assign [tg] e pos) (xz2 te g):=by
 intro a9 s σ H D I h;show wpAny_Assign_stores (thn (he a9 s σ H _ I h) λv s1 hz=>?_) hs hw;let#[x,H1,I1,r1,q1]:=hz;rw[h1];show thn (hg a9 s1 σ H1 x v _ I1 r1 q1) λ_ s2 q=>q
def _aP{i x e te bw}(hN:X.N.U)(hi:X.N[i]?=@x)(hx:Loc X.V.scope x)(he:PE X e te)(hs:swapsWith e @(.é x bw) pos.line X.V=pure false<|>Ŕ)(hf:X.fn x=true\/X.V.scope.ð.Y x=@.local<|>Ř):
  PS X (.Assign [.é x bw] e pos) (xz2 te (qw5 i)):=by
 intro a9 s σ H D I h;show wpAny_Assign_Name (thn (he a9 s σ H _ I h) λv s1 hz=>by let#[y,H1,I1,r1,q1]:=hz;show(_ar I1 hN hi hx r1 (λs2 I2=>#[_,H1,I2,q1]) hf)) hs
end
section
variable {X:Cx}{pos:Pos}
abbrev wwg(c:TT)(tb:TS):TS:=λD σ H=>∃W:Nat->St->Hp->Prop,(∃m,W m σ H)/\∀m σ H,W m σ H ->
 c σ H λb H1=>if b=true then ∃N:St->Hp->Prop,(∀ σ' H',N σ' H'->∃m',m'<m/\W m' σ' H')/\tb {D with nx:=N,ct:=N,bk:=D.nx} σ H1 else D.nx σ H1
#where in
def _aQ{c:Expr}{body:List Stmt}{tc:TT}{tb:TS}(hp:PassesOwn (model X.î X.w) X.A X.V X.xe)(hc:PT X c tc)(hb:PSs X body tb):PS X (.While c body [] pos) (wwg tc tb):=by
 intro a9 s σ H D I h;let#[W,#[m0,w0],gm]:=h;show wpAny_While (codeAny_whileLoop (λn s'=>∃ σ' H',Inv X a9 σ' H' s'/\W n σ' H') ?_ m0 #[σ,H,I,w0]);rintro n s1 ⟨σ1,H1,I1,w1⟩;show Zs hp (thn (hc a9 s1 σ1 H1 _ I1 (gm n σ1 H1 w1)) λb s2 hz=>?_);let#[H2,I2,q2]:=hz;cases b with
 | true=>
  let#[N,hN,q2]:=q2;rw[X7 rfl];show Zs hp (thn (hb a9 s2 σ1 H2 _ I2 q2) λf s3 q3=>?_);cases f with
  |next=>
   let#[σ3,H3,I3,n3]:=q3;let#[m',hm,w3]:=hN σ3 H3 n3;show#[m',hm,σ3,H3,I3,w3]
  |cont=>
   let#[σ3,H3,I3,n3]:=q3;let#[m',hm,w3]:=hN σ3 H3 n3;show#[m',hm,σ3,H3,I3,w3]
  |brk=>show q3|ret v=>show q3
 |false=>
  rw[Xb Bool.false_ne_true];show wpAny_execs_nil #[σ1,H2,I2,q2]
end
structure It where
 go:Nat->Hp->Prop
 yld:Nat->Hp->V->Hp->Prop
 stop:Nat->Hp->Prop
def x9(X:Cx)(a9:LA9)(H:Hp)(b:Addr):Prop:=
 H b=none/\b≠X.V.locals/\b∉X.fs/\(b>X.ex\/X.s₀.G.objs.M<=b)/\(∀x c,X.V.cells.Y x=@c->c≠b)/\∀p>X.pn++a9,p.1≠b
def Inv.fpOk{X a9}{σ:St}{H H' s}{b:Addr}(I:Inv X a9 σ H s)(hb:↥s<=b)(hn:H' b=none):x9 X a9 H' b:=by
 show#[hn,J1 (Xv I.lt hb),I.nofs hb,.Z (Z5 I.sz hb),λx c e z=>?_,λp hp z=>?_]
 .let#[v,q]:=I.cell x c e;show absurd (Xv q.lt (z▸hb)) (Z4 _)
 .show absurd (Xv (Xh (I.pin p hp).1) (z▸hb)) (Z4 _)
structure Turn (P:Program)(w:World)(K:Frag)(tg:Expr)(J:It)(fp:List Addr)(it:Addr)(tn:Nat->Heap->Prop):Prop where
 mem:it>fp
 obj:∀i h,tn i h->∀b>fp,∃o,h.get? b=@o/\∀v,o.data≠.cell v
 keep:∀i h h',tn i h->(∀b>fp,∀o,h.get? b=@o->h'.get? b=@o)->tn i h'
 item:∀(X:Cx),X.î=P->X.w=w->X.K=K->X.calm=true->∀(i:Nat) (a9:LA9) (s:Shared) (σ:St) (H:Hp) (E:VP9),Inv X a9 σ H s->(∀b>fp,x9 X a9 H b)->tn i s.G->J.go i H ->
  wpAny (model P w) X.A (pyNext (.J it)) (λr s1=>∃u,r=@u /\
   wpAny (model P w) X.A (letOwnedTupleGo tg (.J it) u) (λ_ s2=>∃x H',Inv X a9 σ H' s2/\RelV x u/\J.yld i H x H'/\tn (i+1) s2.G/\∀b>fp,H' b=none) E s1) E s
 done:∀(X:Cx),X.î=P->X.w=w->X.K=K->X.calm=true->∀(i:Nat) (a9:LA9) (s:Shared) (σ:St) (H:Hp) (E:VP9),Inv X a9 σ H s->(∀b>fp,x9 X a9 H b)->tn i s.G->J.stop i H ->
  wpAny (model P w) X.A (pyNext (.J it)) (λr s1=>r=none/\Inv X a9 σ H s1) E s
 self:∀(A:Around) (i:Nat) (s:Shared) (Q:VP9) (E:VP9),tn i s.G->Q (.J it) s->wpAny (model P w) A (pyIter (.J it)) Q E s
abbrev TI:=St->Hp->(It->Hp->Prop)->Prop
def PIE(X:Cx)(a9:LA9)(σ:St)(tg:Expr)(R:It->Hp->Prop)(itv:Value)(s2:Shared):Prop:=
 ∃(it:Addr) (fp:List Addr) (tn:Nat->Heap->Prop) (J:It) (H':Hp),itv=.J it/\Inv X a9 σ H' s2/\Turn X.î X.w X.K tg J fp it tn/\tn 0 s2.G/\(∀b>fp,x9 X a9 H' b)/\R J H'
def PI(X:Cx)(tg iter:Expr)(wi:TI):Prop:=
 ∀(a9:LA9) (s:Shared) (σ:St) (H:Hp) (R:It->Hp->Prop),Inv X a9 σ H s->wi σ H R ->
  ∅ (eval iter X.V) (λv s1=>∅ (pyIter v) (PIE X a9 σ tg R) X.xe s1) X.xe s
def _aR {M A E s tg it u o n vs Q} (ho : s.G.get? it = @o) (hc : o.cls = .e n) (hd : o.data = .fields vs)
    (hn : ["enumerate", "zip", "dict_itemiterator", "dict_reverseitemiterator", "odict_iterator", "itertools.zip_longest", "itertools.pairwise"].contains n = false) (hQ : Q () s): wpAny M A (letOwnedTupleGo tg (.J it) u) Q E s:= by
  cases tg <;> first
    |show X5 hQ
    |(cases u <;> first
        |show X5 hQ
        | (show X0 (wpAny_load ho ?_)
           rw[hc,hd];change wpAny M A (if _ = true then _ else _) Q E s;rw[Xb (by grind)];show X5 hQ))
noncomputable def Itl(K:Frag)(a:Addr):It:=
 ⟨λi H=>∃xs x,SqL K H a xs/\xs[i]?=@x,λi H x H'=>H'=H/\∀xs,SqL K H a xs->xs[i]?=@x,λi H=>∃xs,SqL K H a xs/\xs.B<=i⟩
noncomputable def Itt(K:Frag)(a:Addr):It:=
 ⟨λi H=>∃xs x,SqT K H a xs/\xs[i]?=@x,λi H x H'=>H'=H/\∀xs,SqT K H a xs->xs[i]?=@x,λi H=>∃xs,SqT K H a xs/\xs.B<=i⟩
noncomputable def Itr(lo:Int)(n:Nat):It:=⟨λi _=>i<n,λi H x H'=>H'=H/\x=.E (lo+i),λi _=>n<=i⟩
def _aS{P w K tg}(a it):Turn P w K tg (Itl K a) [it] it (λi h=>h.IsListIter it a i) where
 mem:=by simp
 obj:=λi h st b hb=>by
  let e:b=it:= ~~~hb
  subst e;let#[o,e,c,d]:=st;show#[o,e,λv z=>by rw[d]at z;cases z]
 keep:=λi h h' st k=>st.at λo e=>k it (by simp) o e
 item:=by
  intro X hP hw hK hc i a9 s σ H E I hf st hg;subst hP hw hK;let#[xs,x,hq,hx]:=hg;let#[ac,rv,p,hz]:=I.list hq;let#[u,hu,ru]:=rv.get hx;let#[f0,f1,f2,f3,f4,f5]:=hf it (by simp);show wpAny_pyNext_list_item st p.isList (~~~hu) λh' f9 sb=>?_
  let I1:Inv X a9 σ H {s with heap:=h' }:=I.turned (t':=s.ý) (λb o hb e=>(sb.2 b hb).I e) f0 f1 f3 f4 f5;let#[o,e,c,d]:=id f9;show#[u,rfl,_aR e c d .q #[x,H,I1,ru,#[rfl,λys hy=>by rw[I.list_inj hy hq];show hx],f9,λb hb=>(hf b hb).1]]
 done:=by
  intro X hP hw hK hc i a9 s σ H E I hf st hg;subst hP hw hK;let#[xs,hq,hx]:=hg;let#[ac,rv,p,hz]:=I.list hq;let#[f0,f1,f2,f3,f4,f5]:=hf it (by simp);let hl:=rv.B;show wpAny_pyNext_list_end (I.ok.hd hc) st p.isList (by simp;lia) λh' eb=>#[rfl,I.turned (t':=s.ý) (λb o hb e=>eb b o hb e) f0 f1 f3 f4 f5]
 self:=λ_ _ _ _ _ st h=>wpAny_pyIter_listiter st h
def _aT{P w K tg}(a it):Turn P w K tg (Itt K a) [it] it (λi h=>h.IsTupleIter it a i) where
 mem:=by simp
 obj:=λi h st b hb=>by
  let e:b=it:= ~~~hb
  subst e;let#[o,e,c,d]:=st;show#[o,e,λv z=>by rw[d]at z;cases z]
 keep:=λi h h' st k=>st.at λo e=>k it (by simp) o e
 item:=by
  intro X hP hw hK hc i a9 s σ H E I hf st hg;subst hP hw hK;let#[xs,x,hq,hx]:=hg;let#[ac,rv,p,hz]:=I.tuple hq;let#[u,hu,ru]:=rv.get hx;let#[f0,f1,f2,f3,f4,f5]:=hf it (by simp);show wpAny_pyNext_tuple_item st (p) (x:=u) (~~~hu) λh' f9 sb=>?_
  let I1:Inv X a9 σ H {s with heap:=h' }:=I.turned (t':=s.ý) (λb o hb e=>(sb.2 b hb).I e) f0 f1 f3 f4 f5;let#[o,e,c,d]:=id f9;show#[u,rfl,_aR e c d .q #[x,H,I1,ru,#[rfl,λys hy=>by rw[I.tuple_inj hy hq];show hx],f9,λb hb=>(hf b hb).1]]
 done:=by
  intro X hP hw hK hc i a9 s σ H E I hf st hg;subst hP hw hK;let#[xs,hq,hx]:=hg;let#[ac,rv,p,hz]:=I.tuple hq;let#[f0,f1,f2,f3,f4,f5]:=hf it (by simp);let hl:=rv.B;show wpAny_pyNext_tuple_end (I.ok.hd hc) st (p) (by simp;lia) λh' eb=>#[rfl,I.turned (t':=s.ý) (λb o hb e=>eb b o hb e) f0 f1 f3 f4 f5]
 self:=λ_ _ _ _ _ st h=>wpAny_pyIter_tupleiter st h
def _aU{P w K tg}(it)(lo)(n):Turn P w K tg (Itr lo n) [it] it (λi h=>IsRangeIter h it (lo+(i)*1) ((n) - (i)) 1) where
 mem:=by simp
 obj:=λi h st b hb=>by
  let e:b=it:= ~~~hb
  subst e;show#[_,st,λv z=>by
   cases z]
 keep:=λi h h' st k=>k it (by simp) _ st
 item:=by
  intro X hP hw hK hc i a9 s σ H E I hf st hg;subst hP hw hK;let#[f0,f1,f2,f3,f4,f5]:=hf it (by simp);show(Walks.r (prog:=X.î) (w:=X.w) (I.ok.hd hc) it lo 1 n).item i s _ _ hg st λv h' tk hv f9 kk=>?_
  let#[t,rfl]:=hv;let I1:Inv X a9 σ H {s with heap:=h',toks:=tk}:=I.turned (λb o hb e=>kk b o (~~~hb) e) f0 f1 f3 f4 f5;show#[_,rfl,_aR f9 rfl rfl .q #[.E _,H,I1,#[t,?_],#[rfl,rfl],f9,λb hb=>(hf b hb).1]];rw[Int.mul_one]
 done:=by
  intro X hP hw hK hc i a9 s σ H E I hf st hg;let#[f0,f1,f2,f3,f4,f5]:=hf it (by simp);show wpAny_pyNext_range_end (I.ok.hd hc) st (by let:n<=i:=hg;lia) λh' eb=>#[rfl,I.turned (t':=s.ý) (λb o hb e=>eb b o hb e) f0 f1 f3 f4 f5]
 self:=λ_ _ _ _ _ st h=>wpAny_pyIter_rangeiter st h
section
variable {X:Cx}{tg:Expr}
abbrev xx4(K:Frag)(tl:TE):TI:=fun σ H R=>tl σ H λx H1=>∃a,x=.J a/\(∃xs,SqL K H1 a xs)/\R (Itl K a) H1
def _aV{l:Expr}{tl:TE}(hl:PE X l tl):PI X tg l (xx4 X.K tl):=by
 intro a9 s σ H R I h;show thn (hl a9 s σ H _ I h) λv s1 hz=>?_
 let#[x,H1,I1,r1,q1]:=hz;let#[a,e,#[xs,hq],q]:=q1;subst e;cases r1;let#[ac,rv,p,hz]:=I1.list hq;show Zc p.isList ?_;show#[↥s1,[↥s1],_,_,H1,rfl,I1.kept (t':=s1.ý) λb o e=>X4 _ e,_aS a _,#[_,Xd _ rfl,rfl,rfl],λb hb=>?_,q];let e:b=↥s1:= ~~~hb
 subst e;show I1.fpOk (Xa _) (I1.hok.fresh (Xa _))
def _aW{a9}{σ:St}{H s R E lo hi t u v tk}(I:Inv X a9 σ H s)(h1:-(2 ^ 62)<=lo)(h2:lo<2 ^ 62)(h3:-(2 ^ 62)<=hi)(h4:hi<2 ^ 62)
  (q:R (Itr lo (hi - lo).S) H):∅ (pyIter (.J ↥s)) (PIE X a9 σ tg R) E {s with heap:=s.G.ï {cls:=.e "range",data:=.fields %[.E lo t,.E hi u,.E 1 v|0]},toks:=tk}:=by
 show wpAny_pyIter_range (IsRange.new ..) (small_one h1 h2 h3 h4) ?_;let I1:Inv X a9 σ H {s with heap:=s.G.ï {cls:=.e "range",data:=.fields %[.E lo t,.E hi u,.E 1 v|0]},toks:=tk}:=I.kept λb o e=>X4 _ e
 show#[(s.G.ï {cls:=.e "range",data:=.fields %[.E lo t,.E hi u,.E 1 v|0]}).objs.M,[(s.G.ï {cls:=.e "range",data:=.fields %[.E lo t,.E hi u,.E 1 v|0]}).objs.M],_,_,H,rfl,
  I1.kept (t':=tk) λb o e=>X4 _ e,_aU _ lo (hi - lo).S,?_,λb hb=>?_,q]
 .let e1:lo+((0:Nat):Int)*1=lo:=by simp
  let e2:(((hi - lo).S:Nat):Int) - ((0:Nat):Int)=Builtin.Range.rangeSize lo hi 1:=by rw[rangeSize_one];split<;>lia
  rw[e1,e2];show Xd _ rfl
 .let e:b=(s.G.ï {cls:=.e "range",data:=.fields %[.E lo t,.E hi u,.E 1 v|0]}).objs.M:= ~~~hb
  subst e;show I1.fpOk (Xa _) (I1.hok.fresh (Xa _))
abbrev xx3(ta:TA):TI:=fun σ H R=>ta σ H λvs H1=>∃j:Int,vs=[.E j]/\-(2 ^ 62)<=j/\j<2 ^ 62/\R (Itr 0 j.S) H1
abbrev xx2(ta:TA):TI:=fun σ H R=>ta σ H λvs H1=>∃i j:Int,vs=[.E i,.E j]/\(-(2 ^ 62)<=i/\i<2 ^ 62/\-(2 ^ 62)<=j/\j<2 ^ 62)/\R (Itr i (j - i).S) H1
def _aX{a ta p pos}(hg:Gl X "range")(hm:X.mg "range"=none)(ha:PA X [a] ta)(hs:starEach [a] X.V=[(false,eval a X.V)]<|>Ŕ):PI X tg (.û (.é "range" p) [a] [] pos) (xx3 ta):=by
 intro a9 s σ H R I h;show Call_ (xQ I hg hm boot_range (Y1 (thn (ha pos a9 s σ H _ I h) λus s1 hz=>?_) hs rfl));let#[vs,H1,I1,r1,q1]:=hz;let#[j,e,q1,q2,q]:=q1;subst e;cases r1 with
 |cons r rr=>
  cases rr;let#[t,rfl]:=r;show call_range_1 (_aW I1 .q .q q1 q2 (~~~q))
def _aY{a b:Expr}{ta:TA}{p pos:Pos}(hg:Gl X "range")(hm:X.mg "range"=none)(ha:PA X [a,b] ta)(hs:starEach [a,b] X.V=[(false,eval a X.V),(false,eval b X.V)]<|>Ŕ)(jd:starEach [b] X.V=[(false,eval b X.V)]<|>Ŕ):
  PI X tg (.û (.é "range" p) [a,b] [] pos) (xx2 ta):=by
 intro a9 s σ H R I h;show Call_ (xQ I hg hm boot_range (Y1 (thn (ha pos a9 s σ H _ I h) λus s1 #[vs,H1,I1,r1,q1]=>?_) (by rw[hs,jd]) (by rw[jd];rfl)));let#[i,j,e,#[q1,q2,q3,q4],q]:=q1;subst e;cases r1 with
 | cons r rr=>
  cases rr with
  |cons r' rr=>
   cases rr;let#[t,rfl]:=r;let#[t',rfl]:=r';show call_range_2 (_aW I1 q1 q2 q3 q4 q)
abbrev tFor(wi:TI)(g:TG)(tb:TS):TS:=λD σ H=>wi σ H λJ H1=>∃W:Nat->Nat->St->Hp->Prop,(∃m,W 0 m σ H1)/\∀i m σ H,W i m σ H ->
 (J.stop i H/\D.nx σ H)\/(J.go i H/\∃N:St->Hp->Prop,(∀ σ' H',N σ' H'->∃m',m'<m/\W (i+1) m' σ' H')/\∀x H',J.yld i H x H'->g x σ H' fun σ2 H2=>tb {D with nx:=N,ct:=N,bk:=D.nx} σ2 H2)
def V5(fp:List Addr)(h:Heap):LA9:=fp.filterMap λb=>(h.get? b).C λo=>(b,o)
def _aZ{fp h b o}(hb:b>fp)(e:h.get? b=@o):(b,o)>V5 fp h:=List.mem_filterMap.y #[b,hb,by rw[e];rfl]
def _a0{fp h p}(hp:p>V5 fp h):p.1>fp/\h.get? p.1=@p.2:=by
 let#[b,hb,e]:=List.mem_filterMap.mp hp;cases q:h.get? b with
 |none=>rw[q]at e;cases e
 |some o=>
  rw[q]at e;let e':=_aa e;subst e';show#[hb,q]
def Inv.pinned{a9}{σ:St}{H s fp}(I:Inv X a9 σ H s)(hf:∀b>fp,x9 X a9 H b)(ho:∀b>fp,∃o,s.G.get? b=@o/\∀v,o.data≠.cell v):Inv X (a9++V5 fp s.G) σ H s:=
 I.pins_of λp hp=>(aA hp).ë (λz=>I.pin p (_ab _ z)) λz=>by
  let#[hb,e]:=_a0 z;let#[f0,f1,f2,_]:=hf p.1 hb;let#[o,e',d]:=ho p.1 hb;rw[e]at e';cases e';show#[e,f0,f1,f2,d]
def Inv.unpinned{a9 pl}{σ:St}{H s}(I:Inv X (a9++pl) σ H s):Inv X a9 σ H s:=I.pins_of λp hp=>I.pin p (_ab _ (_ac _ hp))
#where in
def _a1{iter:Expr}{body:List Stmt}{wi:TI}{g:TG}{tb:TS}{pos:Pos}(hp:PassesOwn (model X.î X.w) X.A X.V X.xe)(hc:X.calm=true)(hi:PI X tg iter wi)(hg:PG X tg g)(hb:PSs X body tb)
  (hs:(∀x,foldedSetIterable iter X.V x=pure x)<|>Ŗ):PS X (.For tg iter body [] pos) (tFor wi g tb):=by
 intro a9 s σ H D I h;show wpAny_For (thn (hi a9 s σ H _ I h) λv s1 h1=>thn h1 λitv s2 h2=>?_) hs;let#[it,fp,tn,J,H2,e,I2,T,bv,f2,W,#[m0,w0],gm]:=h2;subst e;let jr:∀{H':Hp},(∀b>fp,H' b=none)->∀b>fp,x9 X a9 H' b:=λhn b hb=>#[hn b hb,(f2 b hb).2]
 show codeAny_forLoop_any (λn s'=>∃i σ' H',Inv X a9 σ' H' s'/\tn i s'.G/\(∀b>fp,H' b=none)/\W i n σ' H') ?_ m0 #[0,σ,H2,I2,bv,λb hb=>(f2 b hb).1,w0];rintro n s3 ⟨i,σ3,H3,I3,ft,fr3,w3⟩;let#[stop,qn]\/#[go,N,hN,step]:=gm i n σ3 H3 w3
 .show Zs hp (thn (T.done X rfl rfl rfl hc i a9 s3 σ3 H3 X.xe I3 (jr fr3) ft stop) λr s4 #[hr,I4]=>?_);subst hr;show wpAny_execs_nil #[σ3,H3,I4,qn]
 .show Zs hp (thn (T.item X rfl rfl rfl hc i a9 s3 σ3 H3 X.xe I3 (jr fr3) ft go) λr s4 #[u,hr,h4]=>?_);subst hr;show Zs hp (thn h4 λ_ s5 #[x,H5,I5,r5,y5,om,fr5]=>?_);let I5':=I5.pinned (jr fr5) (T.obj _ _ om);show Zs hp (thn (hg _ s5 σ3 H5 x u _ I5' r5 (step x H5 y5)) λ_ s6 #[σ6,H6,I6,q6]=>?_);show Zs hp (thn (hb _ s6 σ6 H6 _ I6 q6) λf s7 q7=>?_);let again:∀{σ7:St} {H7:Hp},Inv X (a9++V5 fp s5.G) σ7 H7 s7->N σ7 H7->∃m,m<n/\∃i σ' H',Inv X a9 σ' H' s7/\tn i s7.G/\(∀b>fp,H' b=none)/\W i m σ' H':=fun {σ7 H7} I7 n7=>by
   let#[m',hm,w7]:=hN σ7 H7 n7;show#[m',hm,i+1,σ7,H7,I7.unpinned,T.keep _ _ _ om λb hb o e=>(I7.pin (b,o) (_ab _ (_ab _ (_aZ hb e)))).1,λb hb=>?_,w7];let#[o,e,d]:=T.obj _ _ om b hb;show(I7.pin (b,o) (_ab _ (_ab _ (_aZ hb e)))).2.1
  cases f with|next=>let#[σ7,H7,I7,n7]:=q7;show again I7 n7|cont=>let#[σ7,H7,I7,n7]:=q7;show again I7 n7|brk=>let#[σ7,H7,I7,q7]:=q7;show#[σ7,H7,I7.unpinned,q7]|ret v=>let#[x7,σ7,H7,I7,r7,q7]:=q7;show#[x7,σ7,H7,I7.unpinned,r7,q7]
end
abbrev R2:=V->V->Hp->VK->Prop
def OpR(X:Cx)(f:Value->Value->Sem Value)(r:R2):Prop:=
 ∀(a9:LA9) (s:Shared) (σ:St) (H:Hp) (x y:V) (v u:Value) (Q:VK),Inv X a9 σ H s->RelV x v->RelV y u->r x y H Q ->
  ∅ (f v u) (EP X a9 σ Q) X.xe s
def CallR(X:Cx)(f:Value)(r:List V->Hp->VK->Prop):Prop:=
 ∀(a9:LA9) (s:Shared) (σ:St) (H:Hp) (xs:List V) (us:List Value) (Q:VK),Inv X a9 σ H s->Vals xs us->r xs H Q ->
  ∅ (call f us) (EP X a9 σ Q) X.xe s
def TruR(X:Cx)(r:V->Hp->(Bool->Hp->Prop)->Prop):Prop:=
 ∀(a9:LA9) (s:Shared) (σ:St) (H:Hp) (x:V) (v:Value) (Q:Bool->Hp->Prop),Inv X a9 σ H s->RelV x v->r x H Q ->
  ∅ (truthy v) (TP X a9 σ Q) X.xe s
abbrev tOp(r:R2)(ta tb:TE):TE:=fun σ H Q=>ta σ H λx H1=>tb σ H1 λy H2=>r x y H2 Q
abbrev tUn(r:V->Hp->VK->Prop)(ta:TE):TE:=fun σ H Q=>ta σ H λx H1=>r x H1 Q
def rI(C:Int->Int->Prop)(g:Int->Int->V):R2:=λx y H Q=>∃i j,x=.E i/\y=.E j/\C i j/\Q (g i j) H
def rI0(g:Int->Int->V):R2:=λx y H Q=>∃i j,x=.E i/\y=.E j/\Q (g i j) H
section
variable {X:Cx}{a b c:Expr}{ta tb tc:TE}{pos:Pos}
def _a2(ha:PE X a ta)(hb:PE X b tb){a9 s}{σ:St}{H}{R:V->V->Hp->Prop}(I:Inv X a9 σ H s)
  (h:ta σ H λx H1=>tb σ H1 λy H2=>R x y H2) {Q} {f:Value->Value->Sem Value}
  (hf:∀v u s2 x y H2,Inv X a9 σ H2 s2->RelV x v->RelV y u->R x y H2->∅ (f v u) Q X.xe s2):
  ∅ (eval a X.V) (λv s₁=>∅ (eval b X.V) (λu s₂=>∅ (f v u) Q X.xe s₂) X.xe s₁) X.xe s:=by
 show thn (ha a9 s σ H _ I h) λv s1 #[x,H1,I1,r1,q1]=>(thn (hb a9 s1 σ H1 _ I1 q1) λu s2 #[y,H2,I2,r2,q2]=>(hf v u s2 x y H2 I2 r1 r2 q2))
def _a3{op r}(ho:OpR X (binaryOp op) r)(ha:PE X a ta)(hb:PE X b tb):PE X (.BinOp a op b pos) (tOp r ta tb):=by
 intro a9 s σ H Q I h;show wpAny_BinOp (_a2 ha hb I h λv u s2 x y H2 I2 rx ry q=>ho a9 s2 σ H2 x y v u Q I2 rx ry q)
def opI{f C}{g:Int->Int->Int}
  (rule:∀i j (t u) s Q E,C i j->Q (.E (g i j) s.ý) {s with toks:=s.ý+1}->∅ (f (.E i t) (.E j u)) Q E s):
  OpR X f (rI C λi j=>.E (g i j)):=by
 rintro a9 s σ H x y v u Q I rx ry ⟨i,j,rfl,rfl,hc,q⟩;let#[t,rfl]:=rx;let#[t',rfl]:=ry;show rule i j t t' s _ _ hc #[.E _,H,I.tok _,#[_,rfl],q]
def _a4{f}{g:Int->Int->Int}
  (rule:∀i j (t u) s Q E,Q (.E (g i j) s.ý) {s with toks:=s.ý+1}->∅ (f (.E i t) (.E j u)) Q E s):
  OpR X f (rI0 λi j=>.E (g i j)):=by
 rintro a9 s σ H x y v u Q I rx ry ⟨i,j,rfl,rfl,q⟩;let#[t,rfl]:=rx;let#[t',rfl]:=ry;show rule i j t t' s _ _ #[.E _,H,I.tok _,#[_,rfl],q]
def _a5{f}{g:Int->Int->Bool}
  (rule:∀i j (t u) (s) (Q) (E),Q (.bool (g i j)) s->∅ (f (.E i t) (.E j u)) Q E s):
  OpR X f (rI0 λi j=>.bl (g i j)):=by
 rintro a9 s σ H x y v u Q I rx ry ⟨i,j,rfl,rfl,q⟩;let#[t,rfl]:=rx;let#[t',rfl]:=ry;show rule i j t t' s _ _ #[.bl _,H,I,rfl,q]
def op_add:OpR X (binaryOp .Add) (rI0 λi j=>.E (i+j)):=_a4 λ_ _ _ _ _ _ _ q=>add_int q
def _a6:OpR X (binaryOp .Sub) (rI0 λi j=>.E (i - j)):=_a4 λ_ _ _ _ _ _ _ q=>sub_int q
def _a7:OpR X (binaryOp .Mod) (rI (λ_ j=>0<j) λi j=>.E (i % j)):=opI λi j _ _ _ _ _ hc q=>by
 show mod_int' .q (by rw[Int.fmod_eq_emod_of_nonneg i .q];show q)
end
section
variable {X:Cx}{a b c:Expr}{ta tb tc:TE}{pos:Pos}
def _a8{a9}{σ:St}{H s Q k k'}(I:Inv X a9 σ H s)(q:Q (.bl k) H)(e:k=k'):EP X a9 σ Q (.bool k') s:=by
 subst e;show#[.bl k,H,I,rfl,q]
def _a9:OpR X (compareOp .Lt) (rI0 λi j=>.bl (decide (i<j))):=_a5 λ_ _ _ _ _ _ _ q=>lt_int q
def _ba:OpR X (compareOp .LtE) (rI0 λi j=>.bl (decide (i<=j))):=_a5 λ_ _ _ _ _ _ _ q=>le_int q
def _bb:OpR X (compareOp .Gt) (rI0 λi j=>.bl (decide (j<i))):=_a5 λ_ _ _ _ _ _ _ q=>gt_int q
def _bc:OpR X (compareOp .GtE) (rI0 λi j=>.bl (decide (j<=i))):=_a5 λ_ _ _ _ _ _ _ q=>ge_int q
def _bd:OpR X (compareOp .In) (λx y H Q=>∃i j,x=.ã i/\y=.ã j/\Q (.bl (!(Builtin.Str.occurrences j i 0 j.B 1).ô)) H):=by
 rintro a9 s σ H x y v u Q I rx ry ⟨i,j,rfl,rfl,q⟩;let#[t,rfl]:=rx;let#[t',rfl]:=ry;show in_str (_a8 I q rfl)
def _be:OpR X (compareOp .Is) (λx y H Q=>y=.ç/\Q (.bl (decide (x=.ç))) H):=by
 rintro a9 s σ H x y v u Q I rx ry ⟨rfl,q⟩;cases ry;show is_none_gen (_a8 I q ?_);cases x<;>first
  |(let#[t,rfl]:=rx;rfl)
def OpR.or{f r r'}(h:OpR X f r)(h':OpR X f r'):OpR X f (λx y H Q=>r x y H Q\/r' x y H Q):=by
 intro a9 s σ H x y v u Q I rx ry q;let q\/q:=q
 .show h a9 s σ H x y v u Q I rx ry q
 .show h' a9 s σ H x y v u Q I rx ry q
def K5 b {op}(h:op≠.In<|>ŕ)(h2:op≠.NotIn<|>ŕ):behindInMarks op b=false:=by
 let e1:(op==CmpOp.In)=false:=by cases op<;>first|rfl|show absurd rfl h
 let e2:(op==CmpOp.NotIn)=false:=by cases op<;>first|rfl|show absurd rfl h2
 cases b<;>simp[behindInMarks,e1,e2]
def _bf{op r}(ho:OpR X (compareOp op) r)(ha:PE X a ta)(hb:PE X b tb)(hm:behindInMarks op b=false):PE X (.Compare a [op] [b] pos) (tOp r ta tb):=by
 intro a9 s σ H Q I h;show wpAny_Compare1 (_a2 ha hb I h λv u s2 x y H2 I2 rx ry q=>ho a9 s2 σ H2 x y v u Q I2 rx ry q) hm
abbrev xv9(t:TE):TT:=fun σ H Q=>t σ H λx H'=>∃k,x=.bl k/\Q k H'
def _bg{op r}(ho:OpR X (compareOp op) r)(ha:PE X a ta)(hb:PE X b tb)(hm:behindInMarks op b=false):PT X (.Compare a [op] [b] pos) (xv9 (tOp r ta tb)):=by
 intro a9 s σ H Q I h;show wpAny_isTrue_Compare1 (thn (ha a9 s σ H _ I h) λv s1 #[x,H1,I1,r1,q1]=>thn (hb a9 s1 σ H1 _ I1 q1) λu s2 #[y,H2,I2,r2,q2]=>
  thn (ho a9 s2 σ H2 x y v u _ I2 r1 r2 q2) λc s3 #[z,H3,I3,r3,k,e,q3]=>?_) hm
 subst e;cases r3;show wpAny_truthy_bool #[H3,I3,q3]
def _bh(K:Frag)(x:V)(H:Hp)(k:Bool):Prop:=
 match x with
 |.ç=>k=false|.bl b=>k=b|.E i=>k=(i != 0)|.ã y=>y.B<=sizeLine/\k=((y.B:Int) != 0)|.byt y=>y.M<=sizeLine/\k=((y.M:Int) != 0)|.J p=>(∃xs,SqL K H p xs/\k=!xs.ô)\/(∃xs,SqT K H p xs/\k=!xs.ô)\/∃ab,H p=@(.dK ab)/\k=!ab.ô|_=>False
def _bi{κ ab}{vs:List (κ×Value)}(r:KV ab vs):(!vs.ô)=!ab.ô:=by
 cases r<;>rfl
def _bj{xs ac}(r:Vals xs ac):(!ac.H.ô)=!xs.ô:=by
 cases r<;>simp
def XJ:(sizeLine)<2 ^ 63:=.q
def _bk:TruR X (λx H Q=>∃k,_bh X.K x H k/\Q k H):=by
 rintro a9 s σ H x v Q I rx ⟨k,e,q⟩;let hl:=XJ;let hs:sizeLine=16777216:=Za;cases x with
 | non=>
  cases rx;let e':k=false:=e;subst e';show truthy_none #[H,I,q]
 | bl b=>
  cases rx;let e':k=b:=e;subst e';show wpAny_truthy_bool #[H,I,q]
 | int i=>
  let#[t,rfl]:=rx;let e':k=(i != 0):=e;subst e';show PySem.P.truthy_int #[H,I,q]
 | str y=>
  let#[t,rfl]:=rx;obtain⟨hy,e'⟩:y.B<=sizeLine/\k=((y.B:Int) != 0):=e;subst e';show PySem.P.truthy_str .q #[H,I.tok _,q]
 | byt y=>
  let#[t,rfl]:=rx;obtain⟨hy,e'⟩:y.M<=sizeLine/\k=((y.M:Int) != 0):=e;subst e';show PySem.W.truthy_bytes .q #[H,I.tok _,q]
 | ref p=>
  cases rx;let e':(∃xs,SqL X.K H p xs/\k=!xs.ô)\/(∃xs,SqT X.K H p xs/\k=!xs.ô)\/∃ab,H p=@(.dK ab)/\k=!ab.ô:=e;let#[xs,hx,e']\/#[xs,hx,e']\/#[ab,hx,e']:=e'
  .subst e';let#[ac,r,pl,hz]:=I.list hx;let ai:=r.B;show wpAny_truthy_list pl.isList (by dsimp[Xe];lia) #[H,I.tok _,by rw[_bj r];show q]
  .subst e';let#[ac,r,pl,hz]:=I.tuple hx;let ai:=r.B;show truthy_tuple pl (by dsimp[Xe];lia) #[H,I.tok _,by rw[_bj r];show q]
  .subst e';obtain⟨hz,hS,vs,r,m⟩:ab.B<=sizeLine/\(p==sysModules)=false/\∃vs,KV ab vs/\s.G.DictOf (zJ X.î X.w) p vs:=I.hok p _ hx;let ai:ab.B=vs.B:=Paired.B r;show wpAny_truthy_dict hS m .q #[H,I.tok _,by rw[_bi r];show q]
 |_=>show(show False from e).ë
def _bl(ha:PE X a ta)(he:∀gq,isTrue a X.V gq=(do let v <-gq;standAt a.pos;holding [v] (truthy v))):
  PT X a (fun σ H Q=>ta σ H λx H'=>∃k,_bh X.K x H' k/\Q k H'):=by
 intro a9 s σ H Q I h;show isTrue_plain (thn (ha a9 s σ H _ I h) λv s1 hz=>by let#[x,H1,I1,r1,q1]:=hz;show _bk a9 s1 σ H1 x v Q I1 r1 q1) (he _)
def _Oa:OpR X (binaryOp .Add) (λx y H Q=>∃i j,x=.ã i/\y=.ã j/\i.B+j.B<=sizeLine/\Q (.ã (i++j)) H):=by
 rintro a9 s σ H x y v u Q I rx ry ⟨i,j,rfl,rfl,hz,q⟩;let#[t,rfl]:=rx;let#[t',rfl]:=ry;show add_str (λt' tk=>#[.ã (i++j),H,I.tok _,#[_,rfl],q]) hz
def wZ{x us}(r:Vals [x] us):∃u,us=[u]/\RelV x u:=by
 cases r with|cons r1 r2=>cases r2;show#[_,rfl,r1]
def _bm{x y us}(r:Vals [x,y] us):∃u w',us=[u,w']/\RelV x u/\RelV y w':=by
 cases r with
 |cons r1 r2=>
  cases r2 with|cons r3 r4=>cases r4;show#[_,_,rfl,r1,r3]
def _bn:CallR X (.e "int") (λxs H Q=>(∃i,xs=[.E i]/\Q (.E i) H)\/∃k,xs=[.bl k]/\Q (.E (if k then 1 else 0)) H):=by
 intro a9 s σ H xs us Q I r h;let#[i,rfl,q]\/#[k,rfl,q]:=h
 .let#[u,rfl,t,rfl]:=wZ r;show call_int_int #[.E i,H,I,#[_,rfl],q]
 .let#[u,rfl,r1]:=wZ r;cases r1;show call_int_bool #[.E _,H,I.tok _,#[_,rfl],q]
end
structure ObjM (h:Heap)(x dx C:Addr)(mA:Str->Option Value):Prop where
 obj:h.get? x=@(PySem.W.instObj C dx)
 ns:h.Ns1 dx mA
 ne:dx≠x
#where in
def _bo{h:Heap}{dx mA}(n:h.Ns1 dx mA):∃od,h.get? dx=@od/\∀name,PySem.W.lookIn name od=@(mA name):=by
 let#[o,es,ep,ho,hd,hk,_,hm]:=n;show#[o,ho,λname=>?_];let e:=hm name;unfold nsFind findBy at e;rw[<-Array.find?_toList]at e;ext PySem.W.lookIn;rw[hd];right
 split
 .revert y q;rw[q]at e;show congrArg some e
 .revert q;let a:es.R.any (·.refKey)=false:=by
   rw[List.any_eq_false];intro y hy;let#[z,t,iw]:=hk y (Array.mem_toList_iff.mp hy);simp[DictEntry.refKey,iw]
  grind
def ObjM.look{h x dx C mA}(I:ObjM h x dx C mA):∃od,PySem.W.InstAt h x (PySem.W.instObj C dx) C @od/\∀name,PySem.W.lookIn name od=@(mA name):=
 let ⟨od,ho,hl⟩:=_bo I.ns
 #[od,#[I.obj,rfl,rfl,ho],hl]
def RelO.some_of{v o}(r:RelO @v o):∃u,o=@u/\RelV v u:=by
 cases o with|none=>show(r).ë|some u=>show#[u,rfl,r]
section
variable {P:Program}{w:World}{H H':Hp}{h h':Heap}{a C dx:Addr}{fs fs':List (Str×V)}
def _bp(hok:HOk P w H h)(e:H a=@(.ins C dx fs)):∃mA,ObjM h a dx C mA/\(∀f,RelO (fs.Y f) (mA f))/\PySem.Within mA (fs.C (·.1))/\fs.B<=1000/\H dx=@(.ì a):=by
 let#[d,z,ne,ob,mA,n,r,q]:=(hok a _ e);show#[mA,#[ob,n,ne],r,q,z,d]
end
structure Cls (K:Frag)(C:Addr):Prop where
 pg:PySem.W.plainGet K C Str.empty=true
 hd:PySem.W.hasDictIn K C=true
 po:PySem.W.plainOver K C=true
 sa:findIn K (.J C) "__setattr__"=some @(.à "object.__setattr__")
def Cls.get{K C}(c:Cls K C) f:PySem.W.plainGet K C f=true:=c.pg
section
variable {X:Cx}{a9:LA9}{σ:St}{H:Hp}{s:Shared}{A:Around}{E:VP9}{Q:VP9}{c:Value}{b:Bool}
inductive TyOf (K:Frag)(H:Hp):V->Value->Prop where
 | non:TyOf K H .ç (.e "NoneType")
 | bl (x:Bool):TyOf K H (.bl x) (.e "bool")
 | int (i:Int):TyOf K H (.E i) (.e "int")
 | str (x:Str):TyOf K H (.ã x) (.e "str")
 | flt (x:UInt64):TyOf K H (.flt x) (.e "float")
 | lst {a:Addr} {xs:List V} (e:H a=@(.L xs)):TyOf K H (.J a) (.e "list")
 | frz {a:Addr} {o:Obj} {xs:List V} (e:H a=@(.ÿ o (.L xs))):TyOf K H (.J a) (.e "list")
 | tup {a:Addr} {xs:List V} (e:H a=@(.X xs)):TyOf K H (.J a) (.e "tuple")
 | dK {a:Addr} {ab:List (Key×V)} (e:H a=@(.dK ab)):TyOf K H (.J a) (.e "dict")
 | dT {a:Addr} {ab:List (List Key×V)} (e:H a=@(.dT ab)):TyOf K H (.J a) (.e "dict")
 | ins {a C dx:Addr} {fs:List (Str×V)} (e:H a=@(.ins C dx fs)) (cl:Cls K C) (ha:findIn K (.J C) "__class__"=some @(.à "object.__class__"))
   (hn:PySem.W.specialIn K (.à "object.__class__") "__get__"=some @(.à "getset_descriptor.__get__")) (htk:PySem.W.takesIn K (.à "object.__class__")=@true)
   (hm:PySem.W.mroIn K C (.e "object")=@true):TyOf K H (.J a) (.J C)
def _bq{x u t}(I:Inv X a9 σ H s)(rx:RelV x u)(ty:TyOf X.K H x t)(e:kitOne X.K t c=@b)(h:∀tk,Q (.bool b) {s with toks:=tk}):
  wpAny (model X.î X.w) A (call (.à "isinstance") [u,c]) Q E s:=by
 cases ty with
 |non=>cases(rx);show Ym PySem.W.kitx_none I.kIn True.intro e (nofun) h
 |bl y=>cases(rx);show Ym PySem.W.kitx_bool I.kIn True.intro e (nofun) h
 |int i=>let#[t,q]:=(rx);cases q;show Ym PySem.W.kitx_int I.kIn True.intro e (nofun) h
 |str y=>let#[t,q]:=(rx);cases q;show Ym PySem.W.kitx_str I.kIn True.intro e (nofun) h
 |flt y=>let#[t,q]:=(rx);cases q;show Ym PySem.W.kitx_float I.kIn True.intro e (nofun) h
 |@lst a xs ea=>
  cases(show u=Value.J a from rx);let#[_,_,n,_,h1]:=(I.hok a _ ea);show Ym PySem.W.kitx_list I.kIn #[_,h1,rfl] e (nofun) h
 |@frz a ob xs ea=>
  cases(rx);let#[_,_,_,n,_,h1]:=(I.hok a _ ea);show Ym PySem.W.kitx_list I.kIn #[_,h1,rfl] e (nofun) h
 |@tup a xs ea=>
  cases(show u=Value.J a from rx);let#[_,_,_,p]:=(I.hok a _ ea);let#[o,h1,h2,_]:=p;show Ym PySem.W.kitx_tuple I.kIn #[o,h1,h2] e (nofun) h
 |@dK a ab ea=>
  cases(show u=Value.J a from rx);let#[_,_,vs,_,p]:=(I.hok a _ ea);let#[o,es,ep,h1,h2,_]:=p;show Ym PySem.W.kitx_dict I.kIn #[o,h1,h2.1] e (nofun) h
 |@dT a ab ea=>
  cases(show u=Value.J a from rx);let#[_,_,xs,_,o,es,ep,h1,h2,_]:=(I.hok a _ ea);show Ym PySem.W.kitx_dict I.kIn #[o,h1,h2.1] e (nofun) h
 |@ins a C dx fs ea cl ha hn htk hm=>
  cases(rx);let#[mA,O,_]:=_bp I.hok ea;let#[od,J,_]:=O.look;show Ym (PySem.W.kitx_own (cl.get _) cl.hd ha hn htk hm) I.kIn J e (nofun) h
end
structure Room (k:Nat)(A:Around):Prop where
 hd:A.ó=none
 dp:A.depth+3*k+5<recursionLimit
 un:A.â+16*k+200<cLine
 gd:A.guards=⇑[]
def Room.mono{j k A}(r:Room k A)(h:j<=k):Room j A:=#[r.hd,by let:=r.dp;lia,by let:=r.un;lia,r.gd]
def Room.deeper{k A}(r:Room (k+1) A) env:Room k (A.deeper env):=
 #[r.hd,by let:=r.dp;change A.depth+1+3*k+5<_;lia,by let:=r.un;change A.â+3+16*k+200<_;lia,r.gd]
def Room.depth{k A}(r:Room k A):A.depth<recursionLimit:=by let:=r.dp;lia
def Room.â{k A}(r:Room k A):A.â+64<cLine:=by let:=r.un;lia
abbrev xva:TA:=λ_ H Q=>Q [] H
abbrev wjw(ta:TE)(tr:TA):TA:=fun σ H Q=>ta σ H λx H1=>tr σ H1 λxs H2=>Q (x::xs) H2
section
variable {X:Cx}{e:Expr}{es:List Expr}{te:TE}{t:TA}{pos:Pos}
def vx:PA X [] xva:=λ_ _ _ _ H Q I h=>Calls.spliced_nil #[[],H,I,.nil,h]
abbrev _root_.Abs(e:Expr)(es:List Expr)(X:Cx):Prop:=starEach (e::es) X.V=(false,eval e X.V)::starEach es X.V
def qX(ha:PE X e te)(hr:PA X es t)(hs:Abs e es X<|>Ŕ):PA X (e::es) (wjw te t):=by
 intro pos a9 s σ H Q I h;rw[hs];show Calls.spliced_cons (thn (ha a9 s σ H _ I h) λu s1 hz=>by let#[x,H1,I1,r1,q1]:=hz;show(thn (hr pos a9 s1 σ H1 _ I1 q1) λus s2 hz=>by let#[xs,H2,I2,r2,q2]:=hz;show#[x::xs,H2,I2,.ê r1 r2,q2]))
abbrev tTup(t:TA):TE:=fun σ H Q=>t σ H λxs H1=>xs.B<=sizeLine/\∀p,H1 p=none->Q (.J p) (upd H1 p (.X xs))
abbrev tLst(t:TA):TE:=fun σ H Q=>t σ H λxs H1=>xs.B<=sizeLine/\∀p,H1 p=none->Q (.J p) (upd H1 p (.L xs))
def _br{x1}(h:PA X es t):PE X (.Tuple es x1 pos) (tTup t):=by
 intro a9 s σ H Q I hq;show wpAny_Tuple_spliced (thn (h pos a9 s σ H _ I hq) λus s1 #[xs,H1,I1,r,z,q]=>#[by rw[<-r.B];show z,(#[.J ↥s1,upd H1 ↥s1 _,I1.laid (t':=s1.ý) (λb u e=>X4 _ e) (Xa _) ?_,rfl,q _ (I1.hok.fresh (Xa _))])]);show#[z,us,r,#[_,Xd _ rfl,rfl,rfl,_,rfl]]
def _bs(h:PA X es t):PE X (.List es pos) (tLst t):=by
 intro a9 s σ H Q I hq;show wpAny_List_spliced (thn (h pos a9 s σ H _ I hq) λus s1 #[xs,H1,I1,r,z,q]=>#[by rw[<-r.B];show z,(#[.J ↥s1,upd H1 ↥s1 _,I1.laid (t':=s1.ý) (λb u e=>X4 _ e) (Xa _) ?_,rfl,q _ (I1.hok.fresh (Xa _))])]);show#[z,us,0,r,Xd _ rfl]
end
abbrev Sp:=List V->Hp->VK->XK->Prop
abbrev CXT:=List Env->Hp->Shared->XK->Value->Shared->Prop
structure Env0 (P:Program)(w:World)(K:Frag)(mg:Str->Option Value)(base:Heap)(A:Around)(outer:List Env)(s:Shared)(H:Hp):Prop where
 frames:A.frames=@outer
 mod:Mod K mg base
 bs:∀b o,base.get? b=@o->s.G.get? b=@o/\H b=none
 bsz:base.objs.M<=↥s
 funs:s.G.FunFrames base outer
 frf:∀b>frs outer,H b=none
 hok:HOk P w H s.G
 bare:AllBare s.gens
def CE(outer:List Env)(P:Program)(w:World)(H:Hp)(s:Shared)(Q:VK)(u:Value)(s':Shared):Prop:=
 ∃v H',s'.os=s.os/\AllBare s'.gens/\Un (frs outer) [] H H' s.G s'.G/\HOk P w H' s'.G/\RelV v u/\Q v H'
def CR(CX:CXT)(outer:List Env)(P:Program)(w:World)(H:Hp)(s:Shared)(Q:VK)(E:XK)(r:Result)(s':Shared):Prop:=
 match r with
 |.ok (.ret u)=>CE outer P w H s Q u s'|.ok _=>False|.error e=>CX outer H s E e s'
structure FnOk (P:Program)(w:World)(K:Frag)(mg:Str->Option Value)(base:Heap)(CX:CXT)(k:Nat)(f:Addr)(fd:FuncData)(ps:List Str)(sp:Sp):Prop where
 len:∀vs H Q E,sp vs H Q E->vs.B=ps.B
 run:∀(A:Around) (outer:List Env) (s:Shared) (H:Hp) (args:Args) (us:List Value) (vs:List V) (Q:VK) (E:XK),Room k A->Env0 P w K mg base A outer s H->BindsTo s fd args (ps.zip us)->Vals vs us->sp vs H Q E ->
  codeAny (model P w) A (.call (.J f) args) (CR CX outer P w H s Q E) s
section
variable {X:Cx}{a9:LA9}{σ:St}{H:Hp}{s s':Shared}
def Inv.env0(I:Inv X a9 σ H s):Env0 X.î X.w X.K X.mg X.base X.A X.stack s H:=
 #[I.ok.frames,I.ok.mod,I.bs,Z5 I.ok.bsz I.sz,I.stack,I.stkFree,I.hok,I.bare]
def Inv.after{Q u}(I:Inv X a9 σ H s)(h:CE X.stack X.î X.w H s Q u s'):EP X a9 σ Q u s':=by
 let#[v,H',os,bare,un,hok,r,q]:=h;let#[hh,g,d,t,se]:=s';obtain rfl:se=s.os:=os;show#[v,H',I.call (h':=hh) (g':=g) (d':=d) (t':=t) un hok bare (λb z=>absurd z (by simp)),r,q]
end
abbrev wwi(sp:Sp)(u5:List V)(E:XK)(t:TA):TE:=fun σ H Q=>t σ H λvs H1=>sp (vs++u5) H1 Q E
def Binds(K:Frag)(fd:FuncData)(ps:List Str)(ds:List Value):Prop:=
 ∀(s:Shared) (us:List Value),K.In s.G->(us++ds).B=ps.B->BindsTo s fd #[us,[]] (ps.zip (us++ds))
def Binds.all{K fd ps}(h:∀us,us.B=ps.B->bindArgs fd #[us,[]]=pure (ps.zip us)):Binds K fd ps []:=λs us _ hl=>by
 rw[Xz]at hl ⊢;show .of_eq (h us hl)
def _bt(CX:CXT)(X:Cx)(E:XK):Prop:=∀(a9:LA9) (σ:St) (H:Hp) (s:Shared) (e:Value) (s':Shared),Inv X a9 σ H s->CX X.stack H s E e s'->X.xe e s'
section
variable {X:Cx}{CX:CXT}{k:Nat}{f C:Addr}{fd:FuncData}{ps:List Str}{sp:Sp}{u5:List V}{ds:List Value}{E:XK}{x m:Str}{p pos aq:Pos}{e o:Expr}{es:List Expr}{ta:TE}{t:TA}
#where in
def _bu{a9}{σ:St}{H s Q us vs}(F:FnOk X.î X.w X.K X.mg X.base CX k f fd ps sp)(hr:Room k X.A)(hb:Binds X.K fd ps ds)(hd:Vals u5 ds)(hx:_bt CX X E)
  (I:Inv X a9 σ H s) (r:Vals vs us) (h:sp (vs++u5) H Q E):∅ (call (.J f) us) (EP X a9 σ Q) X.xe s:=by
 let r2:=r.append hd;let hl:(us++ds).B=ps.B:=by rw[<-r2.B];show F.len _ _ _ _ h
 show wpAny_call (codeAny_mono (F.run X.A X.stack s H _ _ _ Q E hr I.env0 (hb s us I.kIn hl) r2 h) λr s' hq=>?_);cases r with
 |error e=>show hx a9 σ H s e s' I hq
 |ok fl=>
  cases fl with|ret u=>show I.after hq|next=>show False.ë hq|brk=>show False.ë hq|cont=>show False.ë hq
abbrev _root_.Abb(p:Pos)(es:List Expr)(X:Cx):Prop:=(backTo p (starEach es X.V)).any (·.1)=false
def _bv(F:FnOk X.î X.w X.K X.mg X.base CX k f fd ps sp)(hr:Room k X.A)(hg:Gl X x)(hm:X.mg x=@(.J f))(hk:PySem.W.keepIn X.K (.J f)=true)(hb:Binds X.K fd ps ds)(hd:Vals u5 ds)(hx:_bt CX X E)
  (ha:PA X (e::es) t) (gr:Abd x<|>ŕ) (he:Abs e es X<|>Ŕ) (bu:Abb pos es X<|>Ŕ):
  PE X (.û (.é x p) (e::es) [] pos) (wwi sp u5 E t):=by
 intro a9 s σ H Q I h;show Yy (_ax I hg hm (PySem.W.callWith_K I.ok.mod.kin hk (thn (ha pos a9 s σ H _ I h) λus s1 hz=>by let#[vs,H1,I1,r,q]:=hz;show#[I1.kIn,(_bu F hr hb hd hx I1 r q)]) he bu) gr)
end
structure FnScope (N P:List Str)(sc:Scope):Prop where
 kind:sc.kind=.function
 co:sc.isCoroutine=false
 gen:sc.isGenerator=false
 nd:N.U
 pre:N.take P.B=P
 par:∀x>P,sc.ð.Y x=@.local\/sc.ð.Y x=@.cell
 nofree:∀y>sc.ð,y.2≠.free
def _bw{kindOf x}: ∀{binds m},(∀v,(x,v)∉binds) -> bindL kindOf binds m x = m x
  | [],_,_=>rfl
  | (n,v)::r,m,h=>by
    ext bindL;rw[_bw λw hw=>h w (_ad _ hw)]
    split
    . let : x≠n:= by rintro rfl; show h v X2
      simp[this]
    . rfl
def _bx{kindOf x}: ∀{binds m},(∀v,(x,v)∉binds) -> bindC kindOf binds m x = m x
  | [],_,_=>rfl
  | (n,v)::r,m,h=>by
    ext bindC;rw[_bx λw hw=>h w (_ad _ hw)]
    split
    . rfl
    . let : x≠n:= by rintro rfl; show h v X2
      simp[this]
def _by{kindOf x v}:∀{P:List Str} {vs} {i:Nat} {m},P.U->P[i]?=@x->vs[i]?=@v->kindOf x=@.local ->
  bindL kindOf (P.zip vs) m x=@v
 |[],_,_,_,_,h,_,_=>by simp at h
 |p::P,w::vs,0,m,nd,h1,h2,hk=>by
  simp at h1 h2;subst h1;subst h2;change bindL kindOf (_::P.zip vs) m p=_;ext bindL;rw[_bw λv hv=>(List.ú.mp nd).1 (List.of_mem_zip hv).1,X7 hk];simp
 |p::P,w::vs,i+1,m,nd,h1,h2,hk=>by
  ext bindL;show _by (List.ú.mp nd).2 (~~~h1) (~~~h2) hk
def _bz{kindOf x v}:∀{P:List Str} {vs} {i:Nat} {m},P.U->P[i]?=@x->vs[i]?=@v->kindOf x≠@.local ->
  bindC kindOf (P.zip vs) m x=@v
 |[],_,_,_,_,h,_,_=>by simp at h
 |p::P,w::vs,0,m,nd,h1,h2,hk=>by
  simp at h1 h2;subst h1;subst h2;change bindC kindOf (_::P.zip vs) m p=_;ext bindC;rw[_bx λv hv=>(List.ú.mp nd).1 (List.of_mem_zip hv).1,Xb hk];simp
 |p::P,w::vs,i+1,m,nd,h1,h2,hk=>by
  ext bindC;show _bz (List.ú.mp nd).2 (~~~h1) (~~~h2) hk
def start(N:List Str)(vs:List V):St:=vs.C some++List.h (N.B - vs.B) none
def Jj(CX:CXT)(P:Program)(w:World)(K:Frag)(mg:Str->Option Value)(base:Heap)(N:List Str)(qual:Str)(scope:Scope)(f:Addr)(cd:Value)(A:Around)(outer:List Env)(s:Shared)(H:Hp)(E:XK):Cx where
 prog:=P
 w:=w
 K:=K
 mg:=mg
 base:=base
 A:=A.deeper (envOfC qual scope ↥s f cd)
 N:=N
 s₀:=s
 H₀:=H
 env:=envOfC qual scope ↥s f cd
 outer:=outer
 stack:=envOfC qual scope ↥s f cd::outer
 ex:=[]
 calm:=true
 fn:=λ_=>true
 pn:=[]
 xe:=λe s'=>wpAny (model P w) (A.deeper (envOfC qual scope ↥s f cd)) (leaving (envOfC qual scope ↥s f cd) e) (λ_ lx=>CX outer H s E e lx) (λe' lx=>CX outer H s E e' lx) s'
def _bA{sc:Scope}{n x}(h:sc.ð.Y x=@.cell):∃c,(cellsFrom n sc.ð []).Y x=@c:=by
 show Option.isSome_iff_exists.mp (PySem.W.cellsFrom_some sc.ð n [] (.O h))
def _bB{CX P w K mg base N ps qual scope f cd A outer s s1 H E us}{vs}
  (S:FnScope N ps scope) (hd:A.ó=none) (e0:Env0 P w K mg base A outer s H) (hl:vs.B=ps.B) (r:Vals vs us)
  (x:InCallC s ↥s (bindL (envOfC qual scope ↥s f cd).kindOf (ps.zip us) λ_=>none) (cellsFrom (↥s+1) scope.ð []) (bindC (envOfC qual scope ↥s f cd).kindOf (ps.zip us) λ_=>none) s1):
  Inv (Jj CX P w K mg base N qual scope f cd A outer s H E) [] (start N vs) H s1:=by
 let bu:ps.B<=N.B:=by let:=congrArg List.B S.pre;rw[Z1]at this;lia
 let#[h1,tk,rfl,hk]:=x.done;let ul:∀b,b∉(Jj CX P w K mg base N qual scope f cd A outer s H E).ex:=λb z=>absurd (show b>([]:List Addr)from z) (by simp)
 show#[#[e0.mod,S.kind,rfl,rfl,Xa _,λy z c h1 h2=>?_,λy hy=>?_,λy c _ h=>?_,λ_=>hd,Around.frames_deeper e0.frames,.Z #[rfl,rfl],λb z=>absurd z (ul b),e0.bs,e0.bsz,λb _ _=>ul b,λb z=>absurd z (ul b),e0.funs,e0.frf],
  rfl,e0.bare,Un.kept hk,#[_,x.toInCall.ns,λi y v h1 h2 h3=>?_],λy c h=>#[_,x.cell y c h],e0.hok.fresh (Xa _),λy c h=>?_,λp hp=>absurd (show p>([]:List _)from hp) (by simp),e0.hok.kept hk,?_]
 .show name_of_addr x.apart (Zf h1) (Zf h2)
 .let hy\/hy:=hy
  .show _bA hy
  .show absurd rfl (S.nofree _ (Zf hy))
 .show J0 (x.above y c (Zf h))
 .let hi:i<vs.B:=by
   unfold start at h2
   by_cases hi:i<vs.B
   .show hi
   .rw[Y9 (~~~hi),List.getElem?_replicate]at h2
    split at h2<;>cases h2
  let ha:vs[i]?=@v:=by
   unfold start at h2;rw[Xx (~~~hi),Xf]at h2;cases e:vs[i]? with|none=>rw[e]at h2;cases h2|some a=>rw[e]at h2;cases h2;rfl
  let#[u,hu,rv]:=r.get ha;let hp:ps[i]?=@y:=by
   rw[<-S.pre,List.getElem?_take_of_lt .q];show h1
  let ndP:ps.U:=by rw[<-S.pre];show S.nd.sublist (List.take_sublist _ _)
  show#[u,rv,?_];let k\/k:=S.par y (Y5 hp)
  .show .O #[k,_by ndP hp hu k]
  .let#[c,e]:=_bA k;show .Z #[.O k,c,e,?_];let q:=x.cell y c e;rw[_bz ndP hp hu (by change scope.ð.Y y≠_;rw[k];decide)]at q;show q
 .show e0.hok.fresh (J0 (x.above y c (Zf h)))
 .ext start;change _=N.B;rw[Xj,X3,Y0];lia
#where in
def _bC{CX P w K mg base k f name qual params body scope dV kV iq pm d8 ct oc}{an od}
  {pi N ps sp} (lk:K.Y f=@#[oc,od,.func (PySem.W.fnOf name qual params body scope dV kV iq pm an d8 ct),pi]) (iy:PySem.W.codeIn K d8 qual=true) (S:FnScope N ps scope)
  (len:∀vs H Q E,sp vs H Q E->vs.B=ps.B)
  (n9:∀A (outer) (s) (H) (vs) (Q) (E),Room k (A.deeper (envOfC qual scope ↥s f d8))->sp vs H Q E ->
   ∃t,PSs (Jj CX P w K mg base N qual scope f d8 A outer s H E) body t/\t {nx:=λ_ H'=>Q .ç H',rt:=Q} (start N vs) H):
  FnOk P w K mg base CX (k+1) f (PySem.W.fnOf name qual params body scope dV kV iq pm an d8 ct) ps sp:=by
 show#[len,λA outer s H args us vs Q E hr e0 hb r cx=>?_];let KX:=e0.mod.kin.keeps λb o e=>(e0.bs b o e).1
 let ym:∀y>ps.zip us,scope.ð.Y y.1=@.local\/(scope.ð.Y y.1=@.cell/\((cellsFrom (↥s+1) scope.ð []).Y y.1).isSome=true):=λhz hy=>by
  let#[n,v]:=hz;let q\/q:=S.par n (List.of_mem_zip hy).1
  .show .O q
  .show .Z #[q,PySem.W.cellsFrom_some _ _ _ (.O q)]
 show codeAny_call_function hr.depth (KX _ _ lk) rfl S.co S.gen rfl (PySem.W.codeRec_of KX iy) (hb _ _ _ _ (wpAny_newFunctionEnv_cells S.kind ym λenv he s1 x=>?_));subst he;show#[(e0.mod.nolimit.keeps λb o e=>(e0.bs b o e).1).keeps x.toInCall.keep,codeAny_func ?_];let#[t,ht,hq]:=n9 A outer s H vs Q E (hr.deeper _) cx;let I:Inv (Jj CX P w K mg base N qual scope f d8 A outer s H E) [] _ H s1:=_bB S hr.hd e0 (len _ _ _ _ cx) r x;show wpAny_mono (ht [] s1 _ H _ I hq) (λfl s' hs=>?_) λe s' hs=>hs
 let fin:∀{σ' H' v u},Inv (Jj CX P w K mg base N qual scope f d8 A outer s H E) [] σ' H' s'->RelV v u->Q v H'->CE outer P w H s Q u s':=
  fun {σ' H' v u} J rv q=>#[v,H',J.os,J.bare,J.base,J.hok,rv,q]
 cases fl with
 |ret u=>
  let#[v,σ',H',J,rv,q]:=hs;show fin J rv q
 |next=>
  let#[σ',H',J,q]:=hs;show fin (v:=V.ç) J rfl q
 |brk=>
  let#[_,_,_,q]:=hs;show False.ë q
 |cont=>
  let#[_,_,_,q]:=hs;show False.ë q
section
variable {X:Cx}{x:Str}{p pos:Pos}{e:Expr}{es:List Expr}{t:TA}{id T:String}{r:List V->Hp->VK->Prop}
abbrev tCB(r:List V->Hp->VK->Prop)(t:TA):TE:=fun σ H Q=>t σ H λvs H1=>r vs H1 Q
def _bD(hc:CallR X (.à id) r)(hg:Gl X x)(hm:X.mg x=none)(hv:bootBuiltins x=@(.à id))(ha:PA X (e::es) t)(hn:x≠"__name__"<|>ŕ)(gr:Abd x<|>ŕ)
  (he:Abs e es X<|>Ŕ) (bu:Abb pos es X<|>Ŕ):PE X (.û (.é x p) (e::es) [] pos) (tCB r t):=by
 intro a9 s σ H Q I h;show Yy (xQ I hg hm hv (PyProof.Rows.callWith_builtin1 (thn (ha pos a9 s σ H _ I h) λus s1 hz=>by let#[vs,H1,I1,r1,q1]:=hz;show hc a9 s1 σ H1 vs us Q I1 r1 q1) he bu) hn gr)
def _bE(hc:CallR X (.e T) r)(hg:Gl X x)(hm:X.mg x=none)(hv:bootBuiltins x=@(.e T))(ha:PA X (e::es) t)(hn:x≠"__name__"<|>ŕ)(gr:Abd x<|>ŕ)
  (he:Abs e es X<|>Ŕ) (bu:Abb pos es X<|>Ŕ):PE X (.û (.é x p) (e::es) [] pos) (tCB r t):=by
 intro a9 s σ H Q I h;show Yy (xQ I hg hm hv (Y1 (thn (ha pos a9 s σ H _ I h) λus s1 hz=>by let#[vs,H1,I1,r1,q1]:=hz;show hc a9 s1 σ H1 vs us Q I1 r1 q1) he bu) hn gr)
end
end L2
namespace HT
open PySem PyProof.Rows
section
variable {prog:Program}{w:World}{A:Around}{E:VP9}{s:Shared}
def cat_tup{t b vs ws Q}(ht:IsTup s.G t vs.H)(hb:IsTup s.G b ws.H)(hv:vs≠[])
  (h1:ws=[]->Q (.J t) s) (h2:ws≠[]->Q (.J ↥s) {s with heap:=s.G.ï {cls:=.e "tuple",data:=.seq (vs++ws).H}})
  (hsz:vs.B+ws.B<=sizeLine):wpAny (model prog w) A (binaryOp .Add (.J t) (.J b)) Q E s:=by
 let#[#[cls,dd,data,sl],ho,hc,n,hd]:=id ht;let#[#[cls2,dd2,data2,ue],jh,oz,n2,iu]:=id hb;subst hc hd oz iu;let e:vs.H++ws.H=(vs++ws).H:=by simp
 by_cases hw:ws=[]
 .show concat_meets #[_,ho,rfl] #[_,jh,rfl] noFill_tuple_add seq_tuple_add PySem.F.slot_tuple_add PySem.F.entry_tuple_add (PySem.F.args_tuple_add_2 _ _)
   (tuple_addW1 t b vs.H ws.H n n2 dd dd2 sl ue (~~~hv) (by simp[hw])) #[ho,jh,h1 hw]
 .show concat_meets #[_,ho,rfl] #[_,jh,rfl] noFill_tuple_add seq_tuple_add PySem.F.slot_tuple_add PySem.F.entry_tuple_add (PySem.F.args_tuple_add_2 _ _)
   (tuple_addW2 t b vs.H ws.H n n2 dd dd2 sl ue (~~~hv) (~~~hw) (hsz)) #[ho,jh,?_]
  rw[e];show h2 hw
end
end HT
namespace L2
open PySem PySem.Spec PyProof.Rows
section
variable {X:Cx}{e:Expr}{te:TE}{lo hi:Option Expr}{tl th:TO}{pos p2:Pos}
def _bF(K:Frag):R2:=λx y H Q=>∃a b xs ys,x=.J a/\y=.J b/\SqT K H a xs/\SqT K H b ys/\xs≠[]/\xs.B+ys.B<=sizeLine /\
 (ys=[]->Q (.J a) H)/\(ys≠[]->∀p,H p=none->Q (.J p) (upd H p (.X (xs++ys))))
def Vals.nil_iff{xs us}(r:Vals xs us):us=[]↔xs=[]:=by
 cases r with|nil=>simp|cons _ _=>simp
def _bG:OpR X (binaryOp .Add) (_bF X.K):=by
 rintro a9 s σ H x y v u Q I rx ry ⟨a,b,xs,ys,rfl,rfl,ha,hb,hx,hz,q1,q2⟩;cases rx;cases ry;let#[ac,r1,p1,_]:=I.tuple ha;let#[cz,r2,p2,_]:=I.tuple hb;show HT.cat_tup p1 p2 (λz=>hx (r1.nil_iff.mp z)) (λz=>#[.J a,H,I,rfl,q1 (r2.nil_iff.mp z)]) (λz=>(#[.J ↥s,_,I.laid (t':=s.ý) (λb ob q=>X4 _ q) (Xa _) ?_,rfl,q2 (λw=>z (r2.nil_iff.y w)) _ (I.hok.fresh (Xa _))])) (by rw[<-r1.B,<-r2.B];show hz);show#[by rw[Xj];show hz,_,r1.append r2,IsTupD.new _ _]
end
def ixN(n:Nat)(i:Int):Option Nat:=if 0<=i then(if i<n then @i.S else none)else if -(n:Int)<=i then @(i+n).S else none
def atI{α:Type}(xs:List α)(i:Int):Option α:=(ixN xs.B i).bind λj=>xs[j]?
def _bH{n i j}(h:ixN n i=@j):seqIndex? i n=@j/\j<n/\-n<=i/\i<n:=by
 unfold ixN at h
 by_cases h0:0<=i
 .rw[X7 h0]at h
  by_cases h1:i<n
  .rw[X7 h1]at h;show#[by rw[seqIndex_of h0 h1,(_aa h)],.q,.q,h1]
  .rw[Xb h1]at h;cases h
 .rw[Xb h0]at h
  by_cases h1:-n<=i
  .rw[X7 h1]at h;show#[by rw[seqIndex_neg .q h1,(_aa h)],.q,h1,.q]
  .rw[Xb h1]at h;cases h
def _bI{α xs i}{v:α}(h:atI xs i=@v):∃j,seqIndex? i xs.B=@j/\xs[j]?=@v/\j<xs.B/\-(xs.B:Int)<=i/\i<xs.B:=by
 unfold atI at h;cases e:ixN xs.B i with
 |none=>rw[e]at h;cases h
 |some j=>
  rw[e]at h;let#[h1,h2,h3,h4]:=_bH e;show#[j,h1,h,h2,h3,h4]
def _bJ(b:Expr):Prop:=∀o i,subscripted b false o i=operate [o,i] (getItem o i)
def IxR(X:Cx)(r:R2):Prop:=
 ∀(bt cb:Expr) (a9:LA9) (s:Shared) (σ:St) (H:Hp) (x y:V) (v u:Value) (Q:VK),Inv X a9 σ H s->RelV x v->RelV y u->r x y H Q ->
  subscripted cb false v u=operate [v,u] (getItem v u)->∅ (subscriptTail bt cb v u) (EP X a9 σ Q) X.xe s
def MtR(X:Cx)(id:String)(r:V->List V->Hp->VK->Prop):Prop:=
 ∀(a9:LA9) (s:Shared) (σ:St) (H:Hp) (x:V) (xs:List V) (v:Value) (us:List Value) (Q:VK),Inv X a9 σ H s->RelV x v->Vals xs us->r x xs H Q ->
  ∅ (call (.à id) (v::us)) (EP X a9 σ Q) X.xe s
section
variable {X:Cx}{a b:Expr}{ta tb:TE}{pos:Pos}
def IxR.or{r r'}(h:IxR X r)(h':IxR X r'):IxR X (λx y H Q=>r x y H Q\/r' x y H Q):=by
 intro bt cb a9 s σ H x y v u Q I rx ry q hs;let q\/q:=q
 .show h bt cb a9 s σ H x y v u Q I rx ry q hs
 .show h' bt cb a9 s σ H x y v u Q I rx ry q hs
def _bK{r}(hr:IxR X r)(ha:PE X a ta)(hb:PE X b tb)(hs:_bJ b):PE X (.Subscript a b pos) (tOp r ta tb):=by
 intro a9 s σ H Q I h;show Subscript_ (_a2 ha hb I h λv u s2 x y H2 I2 rx ry q=>hr a b a9 s2 σ H2 x y v u Q I2 rx ry q (hs _ _))
def _bL(K:Frag):R2:=λx y H Q=>∃p xs i v,x=.J p/\y=.E i/\SqL K H p xs/\atI xs i=@v/\Q v H
def _bM(K:Frag):R2:=λx y H Q=>∃p xs i v,x=.J p/\y=.E i/\SqT K H p xs/\atI xs i=@v/\Q v H
def _bN:R2:=λx y H Q=>∃z i c,x=.ã z/\y=.E i/\z.B<=sizeLine/\atI z.cps.R i=@c/\Q (.ã #[%[c|0]]) H
def ix_list:IxR X (_bL X.K):=by
 intro bt cb a9 s σ H x y v u Q I rx ry h hs;let#[p,xs,i,z,rfl,rfl,hq,he,q]:=h;cases rx;let#[t,rfl]:=ry;let#[ac,r,pl,hz]:=I.list hq;let#[j,h1,h2,h3,h4,h5]:=_bI he;let#[w,ew,mi]:=r.get h2;let hl:=r.B;let hn:=XJ;let fin:EP X a9 σ Q w s:=#[z,H,I,mi,q]
 by_cases h0:0<=i
 .let hj:i.S=j:=by
   rw[seqIndex_of h0 h5]at h1;show _aa h1
  show item_listR pl.isList h0 .q (by rw[hj];simpa using ew) fin hs
 .let hj:(i+(ac.H.M:Int)).S=j:=by
   rw[seqIndex_neg .q h4]at h1;rw[Xe,<-hl];show _aa h1
  show subscriptTail_builtinR pl.isList.typeIs slot_list_getitem.Y
   (wpAny_getItem_list_neg pl.isList .q (by rw[Xe]<;>lia) .q (by rw[hj];simpa using ew) #[rfl,fin]) hs
def ix_tup:IxR X (_bM X.K):=by
 intro bt cb a9 s σ H x y v u Q I rx ry h hs;let#[p,xs,i,z,rfl,rfl,hq,he,q]:=h;cases rx;let#[t,rfl]:=ry;let#[ac,r,pl,hz]:=I.tuple hq;let#[j,h1,h2,h3,h4,h5]:=_bI he;let#[w,ew,mi]:=r.get h2;let hn:=XJ;let fin:EP X a9 σ Q w s:=#[z,H,I,mi,q];show subscriptTail_builtinR pl.typeIs slot_tuple_getitem.Y
  (getItem_tuple pl .q .q (by rw[Xe,<-r.B];show h1) (~~~ew) #[rfl,fin]) hs
def _bO:IxR X _bN:=by
 intro bt cb a9 s σ H x y v u Q I rx ry h hs;let#[z,i,c,rfl,rfl,hz,he,q]:=h;let#[t,rfl]:=rx;let#[t',rfl]:=ry;let#[j,h1,h2,h3,h4,h5]:=_bI he;let hl:z.cps.R.B=z.B:=by simp[Str.B]
 rw[hl]at h1 h4 h5;let hn:=XJ;show tail_any (typeIs_str s z t) slot_str_getitem.Y (getItem_str (c:=c) (by
  let e1:decide (i < -(2 ^ 63:Int))=false:=Xk .q;let e2:decide (i>=2 ^ 63)=false:=Xk .q;rw[e1,e2,Bool.or_false]) (by rw[h1];simpa using h2) #[.ã #[%[c|0]],H,I.tok _,#[_,rfl],q]) hs
def rIx(K:Frag):R2:=λx y H Q=>_bL K x y H Q\/_bM K x y H Q\/_bN x y H Q
def _bP:IxR X (rIx X.K):=ix_list.or (ix_tup.or _bO)
def _bQ(ac:List Value)(n j) u:Obj.mapSeq (·.õ j u) {cls:=.e "list",data:=.seq ac.H n}={cls:=.e "list",data:=.seq (ac.u j u).H n}:=by
 simp[Obj.mapSeq]
def Inv.L{a9}{σ:St}{H s p xs}(I:Inv X a9 σ H s)(h:H p=@(.L xs)):
  ∃(ac:List Value) (n:Nat),Vals xs ac/\s.G.get? p=some {cls:=.e "list",data:=.seq ac.H n}/\xs.B<=sizeLine:=by
 let#[z,ac,n,r,e]:=I.hok p _ h;show#[ac,n,r,e,z]
def Inv.lstUpd{a9}{σ:St}{H s p xs ys}{ac its':List Value}{n n' f}(I:Inv X a9 σ H s)(h:H p=@(.L xs))
  (ho:s.G.get? p=some {cls:=.e "list",data:=.seq ac.H n}) (hf:f {cls:=.e "list",data:=.seq ac.H n}={cls:=.e "list",data:=.seq its'.H n' }) (r:Vals ys its') (hz:ys.B<=sizeLine) t :
  Inv X a9 σ (upd H p (.L ys)) {s with heap:=s.G.update p f,toks:=t}:=by
 let e:(s.G.update p f).get? p=some {cls:=.e "list",data:=.seq its'.H n' }:=by
  rw[Ye f ho (by rw[hf]<;>rfl),hf]
 show I.write (by rw[h];trivial) (.O rfl) (λb u hb q=>(Zd _ _ (Ne.s hb)).I q) #[_,e] ?_;show#[hz,its',n',r,e]
def _bR:V->V->V->Hp->(Hp->Prop)->Prop:=λo i v H Q=>∃p xs k j,o=.J p/\i=.E k/\H p=@(.L xs)/\ixN xs.B k=@j/\Q (upd H p (.L (xs.u j v)))
def _bS:_aL X _bR:=by
 rintro a9 s σ H o i v ov iv u Q I ro ri rv ⟨p,xs,k,j,rfl,rfl,hp,hj,q⟩;cases ro;let#[t,rfl]:=ri;let#[ac,n,r,ho,hz]:=I.L hp;let#[h1,h2,h3,h4]:=_bH hj;let hl:=r.B;let hn:=XJ;let I':Inv X a9 σ _ {s with heap:=s.G.update p _}:=
  I.lstUpd hp ho (_bQ ac n j u) (r.u rv j) (by rw[Z6];show hz) s.ý
 by_cases h0:0<=k
 .let hk:k.S=j:=by
   rw[seqIndex_of h0 h4]at h1;show _aa h1
  show PySem.W.ki_setAt ho h0 .q (by rw[Xe,<-hl];show h4) (hk▸#[_,I',q])
 .let hk:(k+(ac.H.M:Int)).S=j:=by
   rw[seqIndex_neg .q h3]at h1;rw[Xe,<-hl];show _aa h1
  show PySem.W.ki_setBack ho .q (by rw[Xe,<-hl];show h3) .q (hk▸#[_,I',q])
def _bT:OpR X (compareOp .NotIn) (λx y H Q=>∃i j,x=.ã i/\y=.ã j/\Q (.bl (!(!(Builtin.Str.occurrences j i 0 j.B 1).ô))) H):=by
 rintro a9 s σ H x y v u Q I rx ry ⟨i,j,rfl,rfl,q⟩;let#[t,rfl]:=rx;let#[t',rfl]:=ry;show notIn_str #[.bl _,H,I,rfl,q]
def _Cq:CallR X (.à "len") (λxs H Q=>∃p ys,xs=[.J p]/\(SqL X.K H p ys\/SqT X.K H p ys)/\Q (.E ys.B) H):=by
 rintro a9 s σ H xs us Q I r ⟨p,ys,rfl,hq,q⟩;let#[u,rfl,rx]:=wZ r;cases rx;let hn:=XJ;let hq\/hq:=hq
 .let#[ac,r',pl,hz]:=I.list hq;let ai:=r'.B;show Calls.call_len_list pl.isList (by dsimp[Xe]<;>lia) #[.E ys.B,H,I.tok _,#[s.ý+1,by rw[Xe,ai]],q]
 .let#[ac,r',pl,hz]:=I.tuple hq;let ai:=r'.B;show len_tuple pl (by dsimp[Xe]<;>lia) #[.E ys.B,H,I.tok _,#[s.ý+1,by rw[Xe,ai]],q]
def _Cs:CallR X (.à "len") (λxs H Q=>∃z,xs=[.ã z]/\z.B<=sizeLine/\Q (.E z.B) H):=by
 rintro a9 s σ H xs us Q I r ⟨z,rfl,hz,q⟩;let#[u,rfl,t,rfl]:=wZ r;let hn:=XJ;show len_str .q #[.E z.B,H,I.tok _,#[_,rfl],q]
def CallR.or{f r r'}(h:CallR X f r)(h':CallR X f r'):CallR X f (λxs H Q=>r xs H Q\/r' xs H Q):=by
 intro a9 s σ H xs us Q I rs q;let q\/q:=q
 .show h a9 s σ H xs us Q I rs q
 .show h' a9 s σ H xs us Q I rs q
def _bU:CallR X (.e "list") (λxs H Q=>∃p ys,xs=[.J p]/\(SqL X.K H p ys\/SqT X.K H p ys)/\∀l,H l=none->Q (.J l) (upd H l (.L ys))):=by
 rintro a9 s σ H xs us Q I r ⟨p,ys,rfl,hq,q⟩;let#[u,rfl,rx]:=wZ r;cases rx;let fin:∀ac,Vals ys ac->ys.B<=sizeLine->∀h' (c'),_ ->
   h'.get? ↥s=some {cls:=.e "list",dict:=none,data:=.seq ac.H c',slots:=(List.H [])}->EP X a9 σ Q _ {s with heap:=h' }:=λac r' hz h' c' kp e=>
  #[.J ↥s,_,I.laid (t':=s.ý) kp (Xa _) (show ObjOk X.î X.w _ h' _ (.L ys)from#[hz,ac,c',r',e]),rfl,q _ (I.hok.fresh (Xa _))]
 let hq\/hq:=hq
 .let#[ac,r',pl,hz]:=I.list hq;let ai:=r'.B;let#[o,ho,hc,n,hd]:=pl.isList;show call_list_seq p (.O rfl) ho hc hd (λh' c' kp e=>fin ac r' hz h' c' kp e) (by dsimp[Xe]<;>lia)
 .let#[ac,r',pl,hz]:=I.tuple hq;let ai:=r'.B;let#[o,ho,hc,n,hd]:=pl;show call_list_seq p (.Z rfl) ho hc hd (λh' c' kp e=>fin ac r' hz h' c' kp e) (by dsimp[Xe]<;>lia)
def _bV:CallR X (.e "tuple") (λxs H Q=>∃p ys,xs=[.J p]/\((SqL X.K H p ys/\∀l,H l=none->Q (.J l) (upd H l (.X ys)))\/(SqT X.K H p ys/\Q (.J p) H))):=by
 rintro a9 s σ H xs us Q I r ⟨p,ys,rfl,h⟩;let#[u,rfl,rx]:=wZ r;cases rx;let#[hq,q]\/#[hq,q]:=h
 .let#[ac,r',pl,hz]:=I.list hq;let ai:=r'.B;show call_tuple_list pl.isList (λh' kp=>?_) (by symm);let I1:Inv X a9 σ H {s with heap:=h' }:=I.kept (t':=s.ý) kp;let I2:Inv X a9 σ _ {s with heap:=h'.ï {cls:=.e "tuple",data:=.seq ac.H}}:=
   I1.laid (t':=s.ý) (λb o e=>X4 _ e) (Xa _) (show ObjOk X.î X.w _ _ _ (.X ys)from#[hz,ac,r',IsTupD.new _ _])
  show#[.J h'.objs.M,_,I2,rfl,q _ (I1.hok.fresh (Xa _))]
 .let#[ac,r',pl,hz]:=I.tuple hq;show call_tuple_same pl #[.J p,H,I,rfl,q]
def tyV(K : Frag)(T : String)(x : V)(H : Hp): Prop:= match x with
  |.ã _=>T = "str"|.E _=>T = "int"
  |.J p=>(T = "list" /\ ∃xs,SqL K H p xs) \/ (T = "tuple" /\ ∃o,K.Y p = @o /\ o.cls = .e "tuple" /\ o.dict = none) \/
      (T = "dict" /\ ((∃ab,H p = @(.dK ab)) \/ ∃ab,H p = @(.dT ab))) \/ (T = "set" /\ ∃S n,H p = @(.u S n))
  |_=>False
def _bW{a9}{σ:St}{H s T x v}(I:Inv X a9 σ H s)(r:RelV x v)(ty:tyV X.K T x H):
  s.TypeIs v T/\∀a,v=.J a->∃ob,s.G.get? a=@ob/\ob.dict=none:=by
 cases x with
 | str z=>
  let#[t,rfl]:=r;cases(ty);show#[typeIs_str s z t,nofun]
 | int i=>
  let#[t,rfl]:=r;cases(ty);show#[typeIs_int s i t,nofun]
 | ref p=>
  cases r;let#[rfl,xs,hq]\/#[rfl,o,hk,hc,hd]\/#[rfl,hk]\/#[rfl,S,n,hk]:=ty
  .let#[ac,_,pl,_]:=I.list hq;show#[pl.isList.typeIs,λa e=>?_];cases e;let#[o,n,e,c,hd,_]:=pl;show#[o,e,hd]
  .show#[#[o,I.kIn p o hk,hc],λa e=>?_];cases e;show#[o,I.kIn _ o hk,hd]
  .let z:∃o,s.G.get? p=@o/\o.ExactDict:=by
    let#[ab,hk]\/#[ab,hk]:=hk
    .let#[_,_,_,_,o,_,_,e,ex,_]:=I.hok p _ hk;show#[o,e,ex]
    .let#[_,_,_,_,o,_,_,e,ex,_]:=I.hok p _ hk;show#[o,e,ex]
   let#[o,e,ex]:=z;show#[#[o,e,ex.1],λa e2=>?_];cases e2;show#[o,e,ex.2.1]
  .let#[o,_,_,_,e,ex,_]:=I.hok p _ hk;show#[#[o,e,ex.1],λa e2=>?_];cases e2;show#[o,e,ex.2.1]
 |_=>show False.ë ty
abbrev xz1(K:Frag)(T:String)(r:V->List V->Hp->VK->Prop)(to:TE):TE:=fun σ H Q=>to σ H λx H1=>tyV K T x H1/\r x [] H1 Q
abbrev tBM(K:Frag)(T:String)(r:V->List V->Hp->VK->Prop)(to:TE)(t:TA):TE:=fun σ H Q=>to σ H λx H1=>tyV K T x H1/\t σ H1 λxs H2=>r x xs H2 Q
variable {o e:Expr}{es:List Expr}{to:TE}{t:TA}{name:Str}{aq aj:Pos}{T id:String}{r:V->List V->Hp->VK->Prop}
abbrev _root_.Abe(p q:Pos):Prop:=(p.endLine==q.line)=true
def _bX(pa:PlainAttrs T)(slot:Slot T name id)(og:typeOf (.à id)=pure (.e "method_descriptor"))(hm:MtR X id r)(ho:PE X o to)
  (aw:attributeBase o name X.V (eval o X.V)=eval o X.V<|>Ŕ) (av:Abe aq aj<|>Ŕ):PE X (.û (.ù o name aq) [] [] aj) (xz1 X.K T r to):=by
 intro a9 s σ H Q I h;show wpAny_Call_method0_late aw av (thn (ho a9 s σ H _ I h) λv s1 hz=>?_);let#[x,H1,I1,r1,ty,q1]:=hz;let#[h1,h2]:=_bW I1 r1 ty;show#[T,id,pa,slot,og,h1,h2,Calls.callWith_builtin rfl (PySem.evalArgs_none (hm a9 s1 σ H1 x [] v [] Q I1 r1 .nil q1))]
def _bY(pa:PlainAttrs T)(slot:Slot T name id)(og:typeOf (.à id)=pure (.e "method_descriptor"))(hm:MtR X id r)(ho:PE X o to)(ha:PA X (e::es) t)
  (aw:attributeBase o name X.V (eval o X.V)=eval o X.V<|>Ŕ)
  (d9:autoParam (((backTo aj (starEach (e::es) X.V)).all (λx=>!x.1)&&(backToKw aj (keywordEach [] X.V)).all (λx=>x.1.isSome)
   && decide ((e::es).B+([]:List Keyword).B+(if([]:List Keyword).ô then 0 else 1)<30))=true) Ŕ)
  (av:Abe aq aj<|>Ŕ) (hs:Abs e es X<|>Ŕ) (ay:Abb aj es X<|>Ŕ):
  PE X (.û (.ù o name aq) (e::es) [] aj) (tBM X.K T r to t):=by
 intro a9 s σ H Q I h;show wpAny_Call_method_late aw d9 av rfl (thn (ho a9 s σ H _ I h) λv s1 hz=>?_);let#[x,H1,I1,r1,ty,q1]:=hz;let#[h1,h2]:=_bW I1 r1 ty;show#[T,id,pa,slot,og,h1,h2,?_];let hA:=ha aj a9 s1 σ H1 _ I1 q1;rw[hs]at hA ⊢;show Calls.callWith_builtin (by change(false||(backTo aj _).any _)=false;rw[ay]<;>rfl) (Calls.evalArgs_plain (thn hA λus s2 hz=>by let#[vs,H2,I2,r2,q2]:=hz;show hm a9 s2 σ H2 x vs v us Q I2 r1 r2 q2))
end
def MtM(X:Cx)(id:String)(r:V->List V->Hp->VK->Prop):Prop:=
 ∀(a9:LA9) (s:Shared) (σ:St) (H:Hp) (x:V) (xs:List V) (v:Value) (us:List Value) (Q:VK),Inv X a9 σ H s->RelV x v->Vals xs us->r x xs H Q ->
  ∅ (call (.à id) (v::us)) (EP X a9 σ Q) X.xe s
def Vals.one:∀{x us},Vals [x] us->∃u,us=[u]/\RelV x u:=by
 intro x us h;cases h with|cons r h=>cases h;show#[_,rfl,r]
def Vals.zero:∀{us},Vals [] us->us=[]
 |_,.nil=>rfl
def Vals.dropLast{xs:List V}{us:List Value}(h:Vals xs us):Vals xs.dropLast us.dropLast:=by
 induction h with
 |nil=>show .nil
 |cons r t ih=>
  cases t with|nil=>show .nil|cons q t'=>show .ê r ih
def Vals.rep{xs us}(h:Vals xs us):∀k,Vals (List.h k xs).flatten (List.h k us).flatten
 |0=>.nil
 |k+1=>by
  show Vals.append h (Vals.rep h k)
def _bZ{α:Type}(l:List α):l.eraseIdx (l.B - 1)=l.dropLast:=by
 induction l with
 | nil=>rfl
 | cons a r ih=>
  cases r with
  | nil=>rfl
  | cons b r=>
   let e:(a::b::r).B - 1=((b::r).B - 1)+1:=by
    let h1:(a::b::r).B=r.B+2:=rfl;let h2:(b::r).B=r.B+1:=rfl;lia
   rw[e,List.eraseIdx_cons_succ,ih]
   all_goals rfl
def _b0(ac):∀k (ae:List Value),
  List.foldl (λx1 x2=>x1++x2) ae.H (List.h k ac.H)=(ae++(List.h k ac).flatten).H
 | 0,ae=>by simp
 | k+1,ae=>by
  let e:ae.H++ac.H=(ae++ac).H:=by simp
  let e2:(ae++ac)++(List.h k ac).flatten=ae++(List.h (k+1) ac).flatten:=by
   rw[List.replicate_succ,List.flatten_cons,Y3]
  rw[<-e2,<-_b0 ac k _,<-e,List.replicate_succ,Yz]
section
variable {X:Cx}{a9:LA9}{σ:St}{H:Hp}{s:Shared}{l b:Addr}{xs ys zs:List V}
def Inv.lset{ac its':List Value}{n f t'}(I:Inv X a9 σ H s)(hH:H l=@(.L xs))
  (e:s.G.get? l=some {cls:=.e "list",data:=.seq ac.H n}) (hf:f ac.H=its'.H) (hv:Vals ys its') (hz:ys.B<=sizeLine):
  Inv X a9 σ (upd H l (.L ys)) {s with heap:=s.G.update l (Obj.mapSeq f),toks:=t' }:=by
 let q:=PySem.IsL.update e f;rw[hf]at q;show I.write (hH▸trivial) (.O rfl) (λb' u hb hu=>(Zd s.G _ (Ne.s hb)).I hu) #[_,q] ?_;show#[hz,its',_,hv,q]
def Inv.lnew{ac t'}(I:Inv X a9 σ H s)(hv:Vals ys ac)(hz:ys.B<=sizeLine):
  Inv X a9 σ (upd H ↥s (.L ys)) {s with heap:=s.G.ï {cls:=.e "list",data:=.seq ac.H},toks:=t' }:=
 I.laid (λ_ _ q=>X4 _ q) (Xa _) #[hz,ac,0,hv,Xd _ rfl]
def Inv.fresh(I:Inv X a9 σ H s):H ↥s=none:=I.hok.fresh (Xa _)
def Inv.lstM(I:Inv X a9 σ H s)(hH:H l=@(.L xs)):xs.B<=sizeLine/\∃(ac:List Value) (n:Nat),Vals xs ac/\xs.B=ac.B/\s.G.get? l=some {cls:=.e "list",data:=.seq ac.H n}:=by
 let#[z,ac,n,r,e]:=I.hok l _ hH;show#[z,ac,n,r,r.B,e]
def _b1{n}(h:n<=sizeLine):Builtin.List.listTooLong n=false:=by
 ext Builtin.List.listTooLong
 symm
end
section
variable {X:Cx}
def _b2:V->List V->Hp->VK->Prop:=λx vs H Q=>∃l xs y,x=.J l/\vs=[y]/\H l=@(.L xs)/\xs.B<sizeLine/\Q .ç (upd H l (.L (xs++[y])))
def _b3:MtM X "list.append" _b2:=by
 rintro a9 s σ H x vs v us Q I rx rv ⟨l,xs,y,rfl,rfl,hH,hz,q⟩;cases rx;let#[u,rfl,ru]:=rv.one;let#[z,ac,n,r,hl,e]:=I.lstM hH;show call_meets F.slot_list_append #[_,e,rfl] F.entry_list_append (F.args_list_append_2 _ _) (PySem.list_append l ac.H n u (by symm)) #[e,(#[.ç,_,I.lset (its':=ac++[u]) hH e (by simp) (r.append (.ê ru .nil)) ?_,rfl,q])];rw[Xj,Xy];lia
def _b4:V->List V->Hp->VK->Prop:=λx vs H Q=>∃l b xs zs,x=.J l/\vs=[.J b]/\H l=@(.L xs)/\H b=@(.L zs)/\xs.B+zs.B<=sizeLine/\Q .ç (upd H l (.L (xs++zs)))
def _b5:MtM X "list.extend" _b4:=by
 rintro a9 s σ H x vs v us Q I rx rv ⟨l,b,xs,zs,rfl,rfl,hH,hB,hz,q⟩;cases rx;let#[u,rfl,ru]:=rv.one;cases ru;let#[z,ac,n,r,hl,e]:=I.lstM hH;let#[z2,cz,n2,r2,lu,e2]:=I.lstM hB;let hsz:ac.H.M+cz.H.M<=sizeLine:=by rw[Xe,Xe];lia
 let ng:¬(!ac.H.ô&&Builtin.List.listTooLong (ac.H.M+cz.H.M))=true:=by
  rw[_b1 hsz,Bool.and_false];show Bool.false_ne_true
 show call_meets F.slot_list_extend #[_,e,rfl] F.entry_list_extend (F.args_list_extend_2 _ _)
  (AutoSeq1.list_extend_list_list_0 l ac.H n b cz.H n2 ng .q .q) #[e,e2,?_]
 show#[.ç,_,I.lset (its':=ac++cz) hH e (by simp) (r.append r2) ?_,rfl,q]
 symm
def _b6:V->List V->Hp->VK->Prop:=λx vs H Q=>∃l xs y,x=.J l/\vs=[]/\H l=@(.L xs)/\xs[xs.B - 1]?=@y/\Q y (upd H l (.L xs.dropLast))
def _b7:MtM X "list.pop" _b6:=by
 intro a9 s σ H x vs v us Q I rx rv h;let#[l,xs,y,rfl,rfl,hH,hy,q]:=h;cases rx;let hus:=rv.zero;subst hus;let#[z,ac,n,r,hl,e]:=I.lstM hH;let#[u,hu,ru]:=r.get hy;let hy':ac.H[ac.H.M - 1]?=@u:=by
  change ac.H[ac.B - 1]?=@u;rw[<-Xu,<-hl];show hu
 show call_meets F.slot_list_pop #[_,e,rfl] F.entry_list_pop (F.args_list_pop_1 _) (MeetsSeq.list_pop_last l ac.H n u hy' (by rw[Xe];lia)) #[e,?_];show#[y,_,I.lset (its':=ac.dropLast) hH e ?_ r.dropLast ?_,ru,q]
 .change ac.H.eraseIdxIfInBounds (ac.H.M - 1)=ac.dropLast.H;rw[Xe,List.eraseIdxIfInBounds_toArray,_bZ]
 .rw[List.length_dropLast];lia
def _b8:V->List V->Hp->VK->Prop:=λx vs H Q=>∃l xs,x=.J l/\vs=[]/\H l=@(.L xs)/\Q .ç (upd H l (.L []))
def _b9:MtM X "list.clear" _b8:=by
 intro a9 s σ H x vs v us Q I rx rv h;let#[l,xs,rfl,rfl,hH,q]:=h;cases rx;let hus:=rv.zero;subst hus;let#[z,ac,n,r,hl,e]:=I.lstM hH;show call_meets F.slot_list_clear #[_,e,rfl] F.entry_list_clear (F.args_list_clear_1 _) (AutoSeq1.list_clear_list_0 l ac.H n (by rw[Xe];lia)) #[e,?_];show#[.ç,_,I.lset (its':=[]) (ys:=[]) hH e rfl .nil (Y6 _),rfl,q]
def _ca{α:Type}(xs:List α) k:(List.h k xs).flatten.B=k*xs.B:=by
 induction k with|zero=>simp|succ k ih=>symm
end
end L2
namespace Att
open PySem PySem.W PySem.Calls PyProof.Rows
def _cb{P h}:∀ns vs,WellAll P h vs (ns.C WData.E)->IntsAre vs ns:=by
 intro ns
 induction ns with
 | nil=>
  intro vs w;cases w;show .nil
 | cons n ns ih=>
  intro vs w;cases w with
  |cons a b=>
   cases a;show .ê _ _ (ih _ b)
def script_of{l:OpenLaw}{n}(hn:l.most=@n){P h args}{dj}
  (oi:l.row.toRowW.claim.pre args=true) (hwl:WellAll P h dj args):
  ∃a vs ns,dj=[Value.J a]/\args=[WData.list (ns.C WData.E)]/\h.get? a=some {cls:=.e "list",data:=.seq vs.H}/\IntsAre vs ns/\ns.B<=n:=by
 let qp:WShape.hasAll [] args [.list .E]=true:=(pre_splitW oi).1;let hc:l.pre.holds [] {args:=args}=true:=(pre_splitW oi).2;let#[d,r,rfl,h1,h2]:=hasAllW_cons qp;obtain rfl:=hasAllW_nil h2;let#[xs,rfl,h3]:=hasW_list h1;let#[ns,rfl]:=items_int h3;let ai:ns.B<=n:=by
  unfold OpenLaw.pre at hc;let h4:(WTm.not (.lt (.lit (.E n)) (.len (.arg 0)))).holds [] {args:=[.list (ns.C .E)]}=true:=by
   let h4:=(holds_andW hc).1;rw[hn]at h4;show h4
  let h5:=condW_of h4 (w_not (w_lt w_lit (w_len_list (w_arg rfl))))
  grind
 cases hwl with
 |cons w1 w2=>
  cases w2;cases w1 with|list ho sj=>show#[_,_,ns,rfl,rfl,ho,_cb ns _ sj,ai]
def post_true(l:OpenLaw) args:l.row.toRowW.claim.post args (.bool true) args=true:=
 postW_of
  (show WShape.has [] _ .bool=true by first|rfl|decide|simp[WShape.armsAll])
  (w_eq_bool (w_res rfl) w_lit) rfl
end Att
namespace L2
open PySem PySem.Spec PyProof.Rows
def _cc(H:Hp):Prop:=∀b,H b=none\/∃o xs,H b=@(.ÿ o (.L xs))
def QZ(s:Stmt):Arguments:=match s with
 |.FunctionDef _ a _ _ _ _ _ _ _ _=>a|_=>{posonlyargs:=[],args:=[],vararg:=none,kwonlyargs:=[],kw_defaults:=[],kwarg:=none,defaults:=[]}
def Jv(s:Stmt):List Stmt:=match s with
 |.FunctionDef _ _ b _ _ _ _ _ _ _=>b|_=>[]
def k6(s:Stmt):Scope:=match s with
 |.FunctionDef _ _ _ _ _ _ sc _ _ _=>sc|_=>{kind:=.function,names:=[],isGenerator:=false,isCoroutine:=false}
structure Fun (K:Frag)(x qual:Str)(st:Stmt)(f:Addr)(fd:FuncData):Prop where
 ex:∃(oc:Value) (od:Option Addr) (kV iq pm:Value) (an:Option Addr) (d8 ct:Value) (pi:Array (Option Value)),
  fd=PySem.W.fnOf x qual (QZ st) (Jv st) (k6 st) .å kV iq pm an d8 ct/\K.Y f=@#[oc,od,.func fd,pi]/\PySem.W.codeIn K d8 qual=true
 kp:PySem.W.keepIn K (.J f)=true
section
variable {P:Program}{w:World}{K:Frag}{mg:Str->Option Value}{base:Heap}
def Fun.binds{x qual st f fd ps}(F:Fun K x qual st f fd)
  (h:∀kV iq pm an (d8 ct) us,us.B=ps.B->bindArgs (PySem.W.fnOf x qual (QZ st) (Jv st) (k6 st) .å kV iq pm an d8 ct) #[us,[]]=pure (ps.zip us)):Binds K fd ps []:=by
 let#[oc,od,kV,iq,pm,an,d8,ct,pi,rfl,lk,iy]:=F.ex;show .all (h kV iq pm an d8 ct)
def _cd{x qual st f oc od an pi kV iq pm d8 ct}(l:K.Y f=@#[oc,od,.func (PySem.W.fnOf x qual (QZ st) (Jv st) (k6 st) .å kV iq pm an d8 ct),pi])
  (c:PySem.W.codeIn K d8 qual=true) (k:PySem.W.keepIn K (.J f)=true):Fun K x qual st f (PySem.W.fnOf x qual (QZ st) (Jv st) (k6 st) .å kV iq pm an d8 ct):=#[#[oc,od,kV,iq,pm,an,d8,ct,pi,rfl,l,c],k]
end
section
variable {X:Cx}
def pv(i:Nat){x:Str}{pos:Pos}(hN:X.N[i]?=@x<|>Ŕ)(hv:Vis X.V.scope x<|>ř)(hd:Abd x<|>ŕ)
  (iy:(x==("__classdict__":Str))=false<|>ŕ):PE X (.é x pos) (vX i):=_as hN hv hd iy
end
def kj(H H':Hp):Prop:=∀b o,H b=@o->H' b=@o
section
variable {κ:Type}[DecidableEq κ]
def zZ(ab:List (κ×V))(k:κ):Option V:=(ab.find? λkv=>decide (kv.1=k)).C (·.2)
def _ce(ab:List (κ×V))(k:κ)(v:V):List (κ×V):=
 if(ab.any λkv=>decide (kv.1=k))=true then ab.C (λkv=>if kv.1=k then(kv.1,v)else kv)else ab++[(k,v)]
def _cf{p r}{k:κ}(e:p.1=k):zZ (p::r) k=@p.2:=by simp[zZ,e]
def _cg{p r}{k:κ}(e:¬p.1=k):zZ (p::r) k=zZ r k:=by simp[zZ,e]
def RelO.isSome_eq{o u}(r:RelO o u):o.isSome=u.isSome:=by
 cases o with
 |none=>cases u with|none=>rfl|some _=>show(r).ë
 |some _=>cases u with|none=>show(r).ë|some _=>rfl
def KV.val{ab vs}(r:KV ab vs)(k:κ):RelO (zZ ab k) (valueAt vs k):=by
 induction r with
 | nil=>show True.intro
 | @cons p q ps qs h t ih=>
  let#[h1,h2]:=h
  by_cases e:p.1=k
  .let e':q.1=k:=h1.s.I e;let b:valueAt (q::qs) k=@q.2:=by simp[valueAt,e']
   rw[_cf e,b];show h2
  .let e':¬q.1=k:=λz=>e (h1.I z)
   let b:valueAt (q::qs) k=valueAt qs k:=by simp[valueAt,e']
   rw[_cg e,b];show ih
def KV.any{ab vs}(r:KV ab vs)(k:κ):(ab.any λkv=>decide (kv.1=k))=vs.any λkv=>decide (kv.1=k):=by
 induction r with|nil=>rfl|cons h t ih=>symm
def KV.repl{ab vs}(r:KV ab vs)(k:κ){y u}(ry:RelV y u):
  KV (ab.C λkv=>if kv.1=k then(kv.1,y)else kv) (vs.C λkv=>if kv.1=k then(kv.1,u)else kv):=by
 induction r with
 |nil=>show .nil
 |@cons p q ps qs h t ih=>
  rw[List.l,List.l];show .ê ?_ ih;let#[h1,h2]:=h
  by_cases e:p.1=k
  .rw[X7 e,X7 (h1.s.I e)];show#[h1,ry]
  .rw[Xb e,Xb (λz=>e (h1.I z))];show#[h1,h2]
def KV.put{ab vs}(r:KV ab vs)(k:κ){y u}(ry:RelV y u):KV (_ce ab k y) (stored vs k u):=by
 ext _ce stored;rw[r.any k]
 by_cases e:(vs.any λkv=>decide (kv.1=k))=true
 .rw[X7 e,X7 e];show r.repl k ry
 .rw[Xb e,Xb e];show Paired.snoc r #[rfl,ry]
def KV.B{ab}{vs:List (κ×Value)}(r:KV ab vs):ab.B=vs.B:=Paired.B r
end
def _ch{P w k u}(r:RelV (kV k) u):(zJ P w).is k u=true:=by
 cases k with|inl i=>let#[t,e]:=(r);subst e;show _ak P w i t|inr x=>let#[t,e]:=(r);subst e;show _al P w x t
def _ci{P w}:∀{ks us},Vals (ks.C kV) us->ItemsAre (zJ P w) ks us
 |[],_,r=>by cases r;show .nil
 |k::ks,_,r=>by
  cases r with|cons h t=>show .ê (_ch h) (_ci t)
abbrev KT(H:Hp):List (List Key×V)->List (List Key×Addr×Value)->Prop:=Paired λp q=>p.1=q.1/\H q.2.1=@(.X (p.1.C kV))/\RelV p.2 q.2.2
def KT.val{H ab xs}(r:KT H ab xs) k:RelO (zZ ab k) ((atKey xs k).C (·.2)):=by
 induction r with
 | nil=>show True.intro
 | @cons p q ps qs h t ih=>
  let#[h1,_,h2]:=h
  by_cases e:p.1=k
  .let e':q.1=k:=h1.s.I e;let b:atKey (q::qs) k=@q.2:=by simp[atKey,e']
   rw[_cf e,b];show h2
  .let e':¬q.1=k:=λz=>e (h1.I z)
   let b:atKey (q::qs) k=atKey qs k:=by simp[atKey,e']
   rw[_cg e,b];show ih
section
variable {P:Program}{w:World}{H:Hp}{h:Heap}{a:Addr}
def _cj{u}(ok:HOk P w H h)(e:Rd H a u):ObjOk P w H h a u:=e.ok ok
def _ck{ab}(ok:HOk P w H h)(e:Rd H a (.dK ab)):ab.B<=sizeLine/\(a==sysModules)=false/\∃vs,KV ab vs/\h.DictOf (zJ P w) a vs:=
 show ObjOk P w H h a _ from _cj ok e
def _cl{ks}(ok:HOk P w H h)(e:H a=@(.X (ks.C kV))):(tupleKind (zJ P w)).is h ks a:=by
 let#[_,ac,r,o,h1,h2,_,n,h3]:=(ok a _ e);show#[o,ac.H,n,h1,h2,h3,~~~(_ci r)]
def _cm{ab}(ok:HOk P w H h)(e:Rd H a (.dT ab)):ab.B<=sizeLine/\(a==sysModules)=false /\
  ∃ xs,KT H ab xs/\h.DictOfH (tupleKind (zJ P w)) a xs:=by
 let#[z,y,xs,r,o,es,ep,h1,h2,h3,h4,h5]:=(_cj ok e);show#[z,y,xs,r,o,es,ep,h1,h2,h3,h4,λx hx=>?_,h5];let all:∀{l m},KT H l m->∀x>m,(tupleKind (zJ P w)).is h x.1 x.2.1:=by
  intro l m q
  induction q with
  | nil=>symm
  | @cons p q ps qs hq t ih=>
   intro x hx;let e\/hx:=aD hx
   .subst e;show _cl ok (by symm)
   .show ih x hx
 show all r x hx
end
def DGet(H:Hp)(a:Addr)(y:V)(r:Option V):Prop:=
 (∃ab k,Rd H a (.dK ab)/\y=kV k/\r=zZ ab k)\/∃ab k b,Rd H a (.dT ab)/\y=.J b/\H b=@(.X (k.C kV))/\r=zZ ab k
def DGet.k{H a ab k}(e:H a=@(.dK ab)):DGet H a (kV k) (zZ ab k):=.O #[ab,k,.O e,rfl,rfl]
section
variable {X:Cx}{a9:LA9}{σ:St}{H:Hp}{s:Shared}{a:Addr}{y v:V}{u r:Value}{o:Option V}{A:Around}{E:VP9}
def Inv.big(I:Inv X a9 σ H s):sysModules<↥s:=by
 show J3 .q ((I.mod.glob.keeps I.bk).lt)
def _cn{Q}(hu:A.â+1<cLine)(I:Inv X a9 σ H s)(g:DGet H a y @v)(ry:RelV y u)(h:∀w' s',Inv X a9 σ H s'->RelV v w'->Q w' s'):
  wpAny (model X.î X.w) A (getItem (.J a) u) Q E s:=by
 let#[ab,k,e,ey,l]\/#[ab,k,b,e,ey,eb,l]:=g
 .subst ey;let#[z,hd,vs,mh,dd]:=_ck I.hok e;let#[w',hw,mi]:=RelO.some_of (l▸mh.val k);show wpAny_getItem_of (_ch ry) dd.mapOf hw (h w' _ (I.tok _) mi)
 .subst ey;cases(ry);let#[z,hd,xs,mh,dd]:=_cm I.hok e;let#[w',hw,mi]:=RelO.some_of (l▸mh.val k);let#[p,hp,ye]:=Option.map_eq_some_iff.mp hw;show wpAny_getItem_heap (tupleKind_room_in1 hu) (_cl I.hok eb) dd hp ?_;rw[ye];show h w' _ (I.tok _) mi
def d_in{Q}(hu:A.â+1<cLine)(I:Inv X a9 σ H s)(g:DGet H a y o)(ry:RelV y u)(h:∀s',Inv X a9 σ H s'->Q (.bool o.isSome) s'):
  wpAny (model X.î X.w) A (compareOp .In u (.J a)) Q E s:=by
 let#[ab,k,e,ey,l]\/#[ab,k,b,e,ey,eb,l]:=g
 .subst ey;let#[z,hd,vs,mh,dd]:=_ck I.hok e;show wpAny_in_of (_ch ry) hd dd.mapOf ?_;rw[<-(mh.val k).isSome_eq,<-l];show h _ (I.tok _)
 .subst ey;cases(show u=Value.J b from ry);let#[z,hd,xs,mh,dd]:=_cm I.hok e;show wpAny_in_heap (tupleKind_room_in1 hu) (_cl I.hok eb) hd dd ?_;let q:=(mh.val k).isSome_eq;rw[Option.isSome_map]at q;rw[<-q,<-l];show h _ (I.tok _)
def _co{h' t' ob}(I:Inv X a9 σ H s)(mu:Mut (H a))(hs:Heap.SameBut a s.G h')(he:∃q,h'.get? a=@q)(new:ObjOk X.î X.w (upd H a ob) h' a ob):
  Inv X a9 σ (upd H a ob) {s with heap:=h',toks:=t' }:=
 I.write mu (.O rfl) (λb q hb z=>(hs.2 b hb).I z) he new
def _cp{P w H' h' ab vs}(z:ab.B<=sizeLine)(hd:(a==sysModules)=false)(mh:KV ab vs)(dd:h'.DictOf (zJ P w) a vs):
  ObjOk P w H' h' a (.dK ab):=#[z,hd,vs,mh,dd]
end
section
variable {X:Cx}{a9:LA9}{σ:St}{H:Hp}{s:Shared}{a:Addr}{ab:List (Key×V)}{k:Key}{u:Value}{A:Around}{E:VP9}
def _cq{Q}(I:Inv X a9 σ H s)(e:Rd H a (.dK ab))(h:∀t s',Inv X a9 σ H s'->Q (.E ab.B t) s'):wpAny (model X.î X.w) A (call (.à "len") [.J a]) Q E s:=by
 let#[z,hd,vs,mh,dd]:=_ck I.hok e;show call_len_dict hd dd (by rw[<-mh.B];rw[Za]at z;lia) ?_;rw[<-mh.B];show h _ _ (I.tok _)
end
def _cr(i:Expr):Prop:=∀ov iv,subscripted i false ov iv=operate [ov,iv] (getItem ov iv)
def _cs{prog w A E s env bt cb pos T id}{Q}
  (hl:typeLookup (.e T) "__getitem__"=pure @(.à id)) (hs:_cr cb)
  (h:wpAny (model prog w) A (eval bt env) (λo s₁=>wpAny (model prog w) A (eval cb env) (λi s₂=>s₂.TypeIs o T/\wpAny (model prog w) A (getItem o i) Q E s₂) E s₁) E s):
  wpAny (model prog w) A (eval (.Subscript bt cb pos) env) Q E s:=by
 show Subscript_ (wpAny_mono h (λo s₁ h₁=>wpAny_mono h₁ (λi s₂ h₂=>?_) λ_ _ x=>x) λ_ _ x=>x);let#[hT,h₂]:=h₂;show X0 ?_;rw[getitemInPython_of_ne hT.not_modules];show X0 (Zl hT hl ?_);let fin:wpAny (model prog w) A (subscripted cb false o i) (λr s₃=>wpAny (model prog w) A (letTemporaryGo bt o r >>= λ_=>pure r) Q E s₃) E s₂:=by
  rw[hs o i];show wpAny_operating (wpAny_mono h₂ (λr s₃ h₃=>X0 (wpAny_letTemporaryGo (X5 h₃))) λ_ _ x=>x)
 first
  |show X5 (X0 fin)
def _ct{X a9}{σ:St}{H s a y o}(I:Inv X a9 σ H s)(g:DGet H a y o):s.TypeIs (.J a) "dict":=by
 let#[ab,k,e,_,_]\/#[ab,k,b,e,_,_,_]:=g
 .let#[_,_,vs,_,dd]:=_ck I.hok e;show dd.typeIs
 .let#[_,_,xs,_,dd]:=_cm I.hok e;show dd.typeIs
abbrev xvd(td ty:TE):TE:=fun σ H Q=>td σ H λx H1=>ty σ H1 λy H2=>∃a v,x=.J a/\DGet H2 a y @v/\Q v H2
section
variable {X:Cx}{o i e bt:Expr}{pos bw lv:Pos}{td ty tv:TE}
def _cu(hu:X.A.â+1<cLine)(ho:PE X o td)(hi:PE X i ty)(hs:_cr i):PE X (.Subscript o i pos) (xvd td ty):=by
 intro a9 s σ H Q I h;show _cs PySem.F.slot_dict_getitem.Y hs (thn (ho a9 s σ H _ I h) λu s1 #[x,H1,I1,rx,q1]=>thn (hi a9 s1 σ H1 _ I1 q1) λiv s2 hz=>?_);let#[y,H2,I2,ry,a,v,ex,g,q2]:=hz;subst ex;obtain rfl:u=Value.J a:=rx;show#[_ct I2 g,_cn hu I2 g ry λw' s3 I3 mi=>#[v,H2,I3,mi,q2]]
end
section
variable {X:Cx}
def _cv:CallR X (.à "len") (λxs H Q=>∃a ab,xs=[V.J a]/\H a=@(.dK ab)/\Q (.E ab.B) H):=by
 rintro a9 s σ H xs us Q I r ⟨a,ab,rfl,ha,q⟩;let#[u,rfl,ru]:=wZ r;cases ru;show _cq I (.O ha) λt s' I'=>#[.E ab.B,H,I',#[t,rfl],q]
end
end L2
set_option maxHeartbeats 4000000
namespace L3
open PySem PySem.Spec PyProof.Rows L2
abbrev vjz(fm:List Expr)(env:Env):Sem Bool:=
 forIn fm true λc r=>if r=true then do let ok <-isTrue c env (eval c env);pure (ForInStep.yield ok)else pure (ForInStep.yield r)
def _cw (env): ∀(l : List (Str × NameKind)) (cs),(∀y > l,y.2 = .free -> ∃c,env.cells.Y y.1 = @c) ->
    (∀x c,cs.Y x = @c -> env.cells.Y x = @c) ->
    ∃ cl,(forIn l cs (λx r=>if(x.2==NameKind.free) = true then do let a <-cellOf env x.1; pure (ForInStep.yield ((x.1,a)::r))else pure (ForInStep.yield r)): Sem (List (Str × Addr))) = pure cl /\
      (∀x c,cl.Y x = @c -> env.cells.Y x = @c) /\ (∀x c,cs.Y x = @c -> ∃c',cl.Y x = @c') /\ ∀y > l,y.2 = .free -> ∃c,cl.Y y.1 = @c
  | [],cs,_,hs=>#[cs,rfl,hs,λx c h=>#[c,h],nofun]
  | (n,k)::r,cs,hl,hs=>by
    by_cases hk : k = .free
    . subst hk
      let#[c,hc]:= hl _ X2 rfl;let im : ∀x d,((n,c)::cs).Y x = @d -> env.cells.Y x = @d:= λx d h=>by
        rw[List.lookup_cons]at h;cases hx : x==n with| true=>symm| false=>rw[hx]at h; show hs x d h
      let#[cl,e,a,b,d]:= _cw env r _ (λy hy=>hl y (_ad _ hy)) im;show#[cl,?_,a,λx c' h=> ?_,λy hy hf=> ?_]
      . rw[List.forIn_cons]
        let q : cellOf env n = pure c:= by ext cellOf; rw[hc]
        dsimp[q];show e
      . cases hx : x==n with| true=>show b x c (by rw[List.lookup_cons,hx])| false=>show b x c' (by rw[List.lookup_cons,hx]; show h)
      . let z\/z:=aD hy
        . symm
        . show d y z hf
    . let#[cl,e,a,b,d]:= _cw env r cs (λy hy=>hl y (_ad _ hy)) hs
      show#[cl,?_,a,b,λy hy hf=> ?_]
      . rw[List.forIn_cons]
        let q : (k==NameKind.free) = false:= ~~~hk
        dsimp[q];show e
      . let z\/z:=aD hy
        . subst z
          show absurd hf hk
        . show d y z hf
def _cx(h:∀y>scope.ð,y.2=.free->∃c,env.cells.Y y.1=@c):
  ∃cl,closureFor scope env=pure cl/\(∀x c,cl.Y x=@c->env.cells.Y x=@c)/\∀y>scope.ð,y.2=.free->∃c,cl.Y y.1=@c:=by
 let#[cl,e,a,_,d]:=_cw env scope.ð [] h (nofun);show#[cl,?_,a,d];ext closureFor
 symm
def lcX(X:Cx)(scope:Scope)(N:List Str)(cl:List (Str×Addr))(C:Addr)(s0:Shared)(H0:Hp)(fp:List Addr):Cx:=
 {X with N:=N,s₀:=s0,H₀:=H0,env:=compEnvC scope cl C X.V,outer:=X.stack,ex:=fp,fn:=λ_=>false,pn:=[],xe:=λ_ _=>False}
noncomputable def Jw(k:Nat)(R:List Nat)(σ:L2.St):L2.St:=List.h k none++R.C λj=>(σ[j]?).join
structure LcOk (X:Cx)(scope:Scope)(N:List Str)(k:Nat)(R:List Nat):Prop where
 kind:scope.kind=.function
 nocell:∀y>scope.ð,y.2≠.cell
 names:∀y>scope.ð,y.2=.local->scope.ð.Y y.1=@.local
 caps:∀y>scope.ð,y.2=.free->X.V.kindOf y.1=@.cell\/X.V.kindOf y.1=@.free
 len:N.B=k+R.B
 outs:∀i j x,R[i]?=@j->N[k+i]?=@x->X.N[j]?=@x/\scope.ð.Y x=@.free
def Kz(XN:List Str)(sc scope:Scope)(N:List Str)(k:Nat)(R:List Nat):Bool:=
 scope.ð.all (λy=>y.2 != .cell)&&scope.ð.all (λy=>y.2 != .local||scope.ð.Y y.1==@.local) &&
 scope.ð.all (λy=>y.2 != .free||(sc.ð.Y y.1==@.cell||sc.ð.Y y.1==@.free)) &&
 (N.B==k+R.B)&&(R.zip (N.drop k)).all (λp=>XN[p.1]? == @p.2&&scope.ð.Y p.2==@.free)
def _cy(hk:scope.kind=.function)(h:Kz X.N X.V.scope scope N k R=true):LcOk X scope N k R:=by
 unfold Kz at h;dsimp[Bool.æ,Yb,bne_iff_ne,Bool.or_eq_true,beq_iff_eq]at h;let#[#[#[#[h1,h2],h3],h4],h5]:=h;show#[hk,λy hy=>h1 y hy,λy hy e=>(h2 y hy).resolve_left (λz=>z e),λy hy e=>(h3 y hy).resolve_left (λz=>z e),h4,λi j x e1 e2=>?_];let m:(j,x)>R.zip (N.drop k):=by
  show Y5 (i:=i) ?_;rw[List.getElem?_zip_eq_some]
  symm
 show h5 _ m
def _cz {env : Env}: ∀{names : List (Str × NameKind)},(names.C λ(n,k)=>if(k==NameKind.free&&env.scope.kind == .function&&env.kindOf n==@.cell)then(n,NameKind.cell)else(n,k)).Y x = @q ->
    (x,q) > names \/ (q = .cell /\ (x,NameKind.free) > names)
  | [],h=>nomatch h
  | (n,k)::r,h=>by
    let h : List.Y x ((if _ = true then _ else _)::_) = @q:= h
    by_cases hc : (k==NameKind.free&&env.scope.kind == .function&&env.kindOf n==@.cell) = true
    . rw[X7 hc,List.lookup_cons]at h
      cases hx : x==n with
      | true=>symm
      | false=>
        rw[hx]at h;let z\/#[z,y]:=_cz h
        . show .O (_ad _ z)
        . show .Z #[z,_ad _ y]
    . rw[Xb hc,List.lookup_cons]at h
      cases hx : x==n with
      | true=>symm
      | false=>
        rw[hx]at h;let z\/#[z,y]:=_cz h
        . show .O (_ad _ z)
        . show .Z #[z,_ad _ y]
section
def _cA(sc : LcOk X scope N k R)(c9 : ∀y > scope.ð,y.2 = .free -> ∃c,cl.Y y.1 = @c)
 (h : (compEnvC scope cl C X.V).kindOf x = @.cell \/ (compEnvC scope cl C X.V).kindOf x = @.free): ∃c,cl.Y x = @c:= by
  let h\/h:=h
  . let z\/#[_,z]:=_cz h
    . show absurd rfl (sc.nocell _ z)
    . show c9 _ z rfl
  . let z\/#[z,_]:=_cz h
    . show c9 _ z rfl
    . cases z
def _cB(I:Inv X a9 σ H s)(sc:LcOk X scope N k R)(hf:∀b>fp,x9 X a9 H b)(ho:∀b>fp,∃o,s.G.get? b=@o)
  (hC:↥s<=C) (dk:∀x c,cl.Y x=@c->X.V.cells.Y x=@c) (c9:∀y>scope.ð,y.2=.free->∃c,cl.Y y.1=@c):(lcX X scope N cl C s H fp).Ok where
 mod:=I.ok.mod
 kind:=sc.kind
 glob:=I.ok.glob
 blt:=I.ok.blt
 above:=hC
 inj:=λx y c h1 h2=>I.ok.inj x y c (dk _ _ h1) (dk _ _ h2)
 has:=λx h=>_cA sc c9 h
 cab:=λx c h=>by cases h
 hd:=I.ok.hd
 frames:=I.ok.frames
 stk:=.O rfl
 exf:=λb hb=>by
  let#[o,e]:=ho b hb;show#[Xq (Xv (Xh e) hC),λx c h=>(hf b hb).2.2.2.2.1 x c (dk x c h)]
 bs:=λb o e=>I.bs b o e
 bsz:=Z5 I.ok.bsz I.sz
 noex:=λb o e hb=>by
  let z\/z:=(hf b hb).2.2.2.1
  .show I.ok.noex b o e z
  .show absurd (Xv (Xh e) (Z5 I.ok.bsz z)) (Z4 _)
 exfs:=λb hb hs=>by
  let z\/z:=aD (I.stkSub b hs)
  .show(hf b hb).2.1 z
  .show(hf b hb).2.2.1 z
 funs:=I.stack
 frf:=I.stkFree
def _cC(I:Inv X a9 σ H s)(h:↥s<=a):a∉frs X.stack:=λz=>by
 let e\/e:=aD (I.stkSub a z)
 .subst e;show absurd (Xv I.lt h) (Z4 _)
 .show I.nofs h e
def _cD (I:Inv X a9 σ H s) (sc:LcOk X scope N k R)
  (hf:∀ b>fp,x9 X a9 H b) (ho:∀b>fp,∃o,s.G.get? b=@o)
  (hC:↥s<=C) (hD:↥s<=D) (u9:D≠C) (dk:∀x c,cl.Y x=@c->X.V.cells.Y x=@c) (c9:∀y>scope.ð,y.2=.free->∃c,cl.Y y.1=@c)
  (ca:∀ b o,s.G.get? b=@o->h1.get? b=@o) (hn:h1.Ns C m) (eD:h1.get? D=@oD) (dD:∀v,oD.data≠.cell v):
  Inv (lcX X scope N cl C s H fp) [(D,oD)] (Jw k R σ) H {s with heap:=h1,toks:=t} where
 ok:=_cB I sc hf ho hC dk c9
 os:=rfl
 bare:=I.bare
 base:=Un.kept ca
 loc:=#[m,hn,λi x v e1 e2 vis=>by
  let#[mX,hnX,hl]:=I.loc;unfold Jw at e2
  by_cases hi:i<k
  .rw [Xx (by symm),List.getElem?_replicate,X7 hi]at e2
   symm
  .let hk:k<=i:=Nat.le_of_not_lt hi;rw [Y9 (Y0▸hk),Y0,Xf]at e2;cases er:R[i - k]? with
   | none=>symm
   | some j=>
    rw [er]at e2;let ej:(σ[j]?).join=@v:= ~~~e2
    let ej':σ[j]?=@(@v):=by
     cases q:σ[j]? with| none=>rw[q]at ej;cases ej| some z=>symm
    let#[o1,o2]:=sc.outs _ j x er (by rw[show k+(i - k)=i by lia];show e1);let cap:=sc.caps (x,.free) (Zf o2) rfl;let visX:Vis X.V.scope x:=cap.ë (λz=>.Z (.O z)) λz=>.Z (.Z z)
    let#[u,ru,q]:=hl j x v o1 ej' visX;show#[u,ru,?_];let#[q,_]\/#[_,c,ec,hc]:=q
    .symm
    .let#[c',ec']:=c9 (x,.free) (Zf o2) rfl;let e:=_aa ((dk x c' ec').s.I ec);subst e;show .Z #[?_,c',ec',?_]
     .let z\/z\/z:=vis
      .let y\/#[y,_]:=_cz (env:=X.V) (names:=scope.ð) z
       .let y':=sc.ð _ y rfl
        symm
       .cases y
      .show .O z
      .show .Z z
     .let#[o,h1,h2]:=hc;show#[o,ca _ _ h1,h2]]
 cell:=λx c h=>by
  let#[v,o,h1,h2]:=I.cell x c (dk x c h);show#[v,o,ca _ _ h1,h2]
 free:=I.hok.fresh hC
 freeC:=λx c h=>I.freeC x c (dk x c h)
 pin:=λp hp=>by
  let e:p=(D,oD):=by
   let hp:p>([]++[(D,oD)]:LA9):=hp
   simpa using hp
  subst e;show#[eD,I.hok.fresh hD,u9,_cC I hD,dD]
 hok:=I.hok.kept ca
 len:=by
  change(Jw k R σ).B=N.B;ext Jw;rw[sc.len,Xj,Y0,X3]
def _cE(I:Inv X a9 σ H s)(hn:H a=none)(hL:a≠X.V.locals)(h1:a>X.ex\/X.s₀.G.objs.M<=a)(h2:∀x c,X.V.cells.Y x=@c->c≠a)(h3:∀p>X.pn++a9,p.1≠a)
  (new:ObjOk X.î X.w (upd H a o) s.G a o):Inv X a9 σ (upd H a o) s:=by
 let hok:HOk X.î X.w (upd H a o) s.G:=λb u e=>by
  by_cases hb:b=a
  .subst hb;rw[wj]at e;cases e;show new
  .rw[qj hb]at e;show(I.hok b u e).stay (λ_ _ _ q=>q) (λc q=>by rw[qj (JJ q hn)];show q) λc xs q=>by rw[qj (JJ q hn)];show q
 let na:∀b,b∉[a]->b≠a:=λb hb z=>hb (z▸aB rfl)
 show I.step (h':=s.G) (H':=upd H a o) (g':=s.gens) (t':=s.ý) (d':=s.drawn)
  (λb hb=>by rw[aC hb];show#[h1.imp id λz=>Yq z,hL,h2,h3]) (λb o _ _ _ e _=>e) (λb o _ _ _ e _=>#[o.slots,e]) (λb o hb _ q=>by rw[qj (na b hb)];show q)
  (λb o _ e=>#[o,e]) (λb xs q=>by rw[qj (JJ q hn)];show q) (λb o u q=>by rw[qj (JJ q hn)];show q) (λb ps q=>#[(List.H []),by rw[qj (JJ q hn),q];rfl])
  (λm hm=>hm) hok I.bare
end
def PTs(X:Cx)(fm:List Expr)(t:TT):Prop:=
 ∀(a9:LA9) (s:Shared) (σ:L2.St) (H:Hp) (Q:Bool->Hp->Prop),Inv X a9 σ H s->t σ H Q->∅ (vjz fm X.V) (TP X a9 σ Q) X.xe s
abbrev tYes:TT:=λ_ H Q=>Q true H
def _cF:PTs X [] tYes:=λ_ _ _ H _ I h=>wpAny_tests_nil #[H,I,h]
def _cG(hc:PT X c t):PTs X [c] t:=λa9 s σ H Q I h=>wpAny_tests_one (hc a9 s σ H Q I h)
def LcW(g:TG)(tt:TT)(te:TE)(Q:VK)(J:It)(W:Nat->Nat->List V->L2.St->Hp->Prop):Prop:=∀i m ys σ H,W i m ys σ H ->
 (J.stop i H/\ys.B<=sizeLine/\∀p,H p=none->Q (.J p) (upd H p (.L ys))) \/
 (J.go i H/\∀x H1,J.yld i H x H1->g x σ H1 fun σ2 H2=>∃(Ny:VK) (Nn:Hp->Prop),(∀y H4,Ny y H4->ys.B<=sizeLine/\∃m',m'<m/\W (i+1) m' (ys++[y]) σ2 H4) /\
  (∀H4,Nn H4->∃m',m'<m/\W (i+1) m' ys σ2 H4)/\tt σ2 H2 λb H3=>if b=true then te σ2 H3 Ny else Nn H3)
abbrev tLC(wi:TI)(g:TG)(tt:TT)(te:TE)(k:Nat)(R:List Nat):TE:=fun σ H Q=>wi σ H λJ H1=>
 ∃W:Nat->Nat->List V->L2.St->Hp->Prop,(∃m,W 0 m [] (Jw k R σ) H1)/\LcW g tt te Q J W
abbrev wvz(ac:List Value)(n:Nat):Obj:={cls:=.e "list",data:=.seq ac.H n}
section
def op_mulI:OpR X (binaryOp .Mult) (rI IntMulOk λi j=>.E (i*j)):=opI λ_ _ _ _ _ _ _ hc q=>mul_int q hc
def _cH(_i j:Int):Prop:=0<j/\j.natAbs.log2<9000
def _cI:OpR X (binaryOp .FloorDiv) (rI _cH λi j=>.E (i / j)):=opI λi j _ _ _ _ _ hc q=>by
 let h1:=hc.1;show floordiv_int .q (by rw[Int.fdiv_eq_ediv_of_nonneg i .q];show q) (.O (PyProof.noPylong_of_log2 hc.2))
def kinds:List String:=["NoneType","bool","int","str","list","tuple","dict"]
def _cJ(T U:String):Bool:=T==U||(T == "bool" && U == "int")
def _cK{K}(hT:T>kinds)(hU:U>kinds.tail):kitOne K (.e T) (.e U)=@(_cJ T U):=by
 dsimp[kinds,List.tail_cons,Zh,Zb,or_false]at hT hU;let rfl\/rfl\/rfl\/rfl\/rfl\/rfl\/rfl:=hT<;>let rfl\/rfl\/rfl\/rfl\/rfl\/rfl:=hU<;>ac_rfl
def _cL(K:Frag):List V->Hp->VK->Prop:=λxs H Q=>∃x T U,xs=[x,.ty U]/\TyOf K H x (.e T)/\T>kinds/\U>kinds.tail/\Q (.bl (_cJ T U)) H
def _cM:CallR X (.à "isinstance") (_cL X.K):=by
 rintro a9 s σ H xs us Q I r ⟨x,T,U,rfl,ty,hT,hU,q⟩;let#[u,w',rfl,r1,r2]:=_bm r;cases(r2);show _bq I r1 ty (_cK hT hU) λtk=>#[.bl _,H,I.tok _,rfl,q]
def _cN:∀{bs:List Bool} {ac} {i:Nat} {v},Vals (bs.C V.bl) ac->ac[i]?=@v->∃b,bs[i]?=@b/\v=.bool b
 |[],_,_,_,.nil,e=>by symm
 |b::bs,_,0,v,.ê r _,e=>by
  simp at e;subst e;show#[b,rfl,r]
 |b::bs,_,i+1,v,.ê _ t,e=>by
  let#[b',e1,e2]:=_cN t (~~~e);show#[b',~~~e1,e2]
def _cO(bs:List Bool):((List.r bs.B).all λi=>(bs[i]?).p true)=bs.all id:=by
 rw[Bool.eq_iff_iff,Yb,Yb];constructor
 .intro h b hb;let#[i,hi,e]:=Yu hb;let:=h i (List.á.y hi);rw[X1 hi,e]at this;show this
 .intro h i hi;let lq:=List.á.mp hi;rw[X1 lq];show h _ (Xr lq)
def _cP(K:Frag):List V->Hp->VK->Prop:=λxs H Q=>∃(p:Addr) (bs:List Bool),xs=[.J p]/\SqL K H p (bs.C V.bl)/\Q (.bl (bs.all id)) H
def _cQ(hc:X.calm=true):CallR X (.à "all") (_cP X.K):=by
 rintro a9 s σ H xs us Q I r ⟨p,bs,rfl,hq,q⟩;let#[u,rfl,ru]:=wZ r;cases ru;let#[ac,rv,pl,hz]:=I.list hq;let hl:=pl.isList;let b9:p<↥s:=by let#[_,e,_]:=hl;show Xh e
 let ai:bs.B=ac.B:=by rw[<-rv.B,X3]
 show call_all_walk (Zc hl ?_);show#[↥s,[↥s,p],[↥s],ac.H.M,_,_,λi=>(bs[i]?).p true,rfl,Walks.list (A:=X.A.in1) (I.ok.hd hc) _ p (Xq b9) ac.H,
  #[#[_,Xd _ rfl,rfl,rfl],hl.ï _],λi v s' Q' E' hP hQ=>?_,λh' tk hk=>?_]
 .let#[b,e,rfl]:=_cN rv (~~~hP);dsimp[e]at hQ;show wpAny_truthy_bool hQ
 .let e:((List.r ac.H.M).all λi=>(bs[i]?).p true)=bs.all id:=by
   rw[Xe,<-ai];show _cO bs
  rw[e];show#[.bl _,H,I.kept (t':=tk) (h':=h') λb o e=>hk b o (λz=>?_) (X4 _ e),rfl,q];show absurd (Xh e) (aC z▸Z4 _)
noncomputable def Its(x:Str):It:=#[λi _=>i<x.cps.M,λi H v H'=>H'=H/\∃c,x.cps[i]?=@c/\v=.ã #[%[c|0]],λi _=>i=x.cps.M]
def _cR{K}
  (W:∀A',A'.ó=none->Walks P w A' it [it] [it] x.cps.M (SignAt x) (λi h=>h.IsStrIter it ty x t i))
  (xo:∀A (i) (s) (Q) (E),s.G.IsStrIter it ty x t i->Q (.J it) s->wpAny (model P w) A (pyIter (.J it)) Q E s)
  (og:["enumerate","zip","dict_itemiterator","dict_reverseitemiterator","odict_iterator","itertools.zip_longest","itertools.pairwise"].contains ty=false):
  Turn P w K tg (Its x) [it] it (λi h=>h.IsStrIter it ty x t i) where
 mem:=by simp
 obj:=λi h st b hb=>by
  let e:b=it:= ~~~hb
  let#[o,e,c,d]:=st
  symm
 keep:=λi h h' st k=>by
  let#[o,e,r]:=st;show#[o,k it (by simp) o e,r]
 item:=by
  intro X hP hw hK hc i a9 s σ H E I hf st hg;subst hP hw hK;let#[f0,f1,f2,f3,f4,f5]:=hf it (by simp);show(W X.A (I.ok.hd hc)).item i s _ _ hg st λv h' tk hv f9 kk=>?_
  let#[c,u,dh,rfl]:=hv;let I1:Inv X a9 σ H {s with heap:=h',toks:=tk}:=I.turned (λb o hb e=>kk b o (~~~hb) e) f0 f1 f3 f4 f5;let#[o,e,c1,d]:=id f9;show#[_,rfl,_aR e c1 d og #[.ã #[%[c|0]],H,I1,#[u,rfl],#[rfl,c,dh,rfl],f9,λb hb=>(hf b hb).1]]
 done:=by
  intro X hP hw hK hc i a9 s σ H E I hf st hg;subst hP hw hK;let#[f0,f1,f2,f3,f4,f5]:=hf it (by simp);subst hg;show(W X.A (I.ok.hd hc)).done s _ _ st λh' tk kk=>#[rfl,I.turned (λb o hb e=>kk b o (~~~hb) e) f0 f1 f3 f4 f5]
 self:=λA i s Q E st hQ=>xo A i s Q E st hQ
def _cS:R2:=λx y H Q=>∃z n,x=.ã z/\y=.E n/\(z.B<=1024/\n<=1024/\-1024<=n)/\Q (.ã (Txt.mul z n)) H
def _cT:OpR X (binaryOp .Mult) _cS:=by
 rintro a9 s σ H x y v u Q I rx ry ⟨z,n,rfl,rfl,⟨h1,h2,h3⟩,q⟩;let#[t,rfl]:=rx;let#[t',rfl]:=ry;show SB.mul (mulOk_of 1024 1024 h1 h2 .q (by simp) (by simp)) λt' k=>#[.ã _,H,I.tok k,#[t',rfl],q]
def _cU(K:Frag):List V->Hp->VK->Prop:=λxs H Q=>(∃p ys,xs=[.J p]/\(SqL K H p ys\/SqT K H p ys)/\Q (.E ys.B) H)\/(∃z,xs=[.ã z]/\z.B<=sizeLine/\Q (.E z.B) H)\/(∃a ab,xs=[V.J a]/\H a=@(.dK ab)/\Q (.E ab.B) H)
def _cV K (hK:X.K=K<|>Ŕ):CallR X (.à "len") (_cU K):=by subst hK;show _Cq.or (_Cs.or _cv)
def _cW:CallR X (.e "int") (λxs H Q=>(∃i,xs=[.E i]/\Q (.E i) H)\/∃k,xs=[.bl k]/\Q (.E (if k then 1 else 0)) H):=_bn
def _cX K (hK:X.K=K<|>Ŕ)(hc:X.calm=true<|>Ŕ):CallR X (.à "all") (_cP K):=by subst hK;show _cQ hc
def _cY(K){id}
  (pa:PlainAttrs T) (slot:Slot T name id) (og:typeOf (.à id)=pure (.e "method_descriptor")) (hm:MtR X id r) (ho:PE X o to) (ha:PA X (e::es) t)
  (aw:attributeBase o name X.V (eval o X.V)=eval o X.V<|>Ŕ)
  (d9:autoParam (((backTo aj (starEach (e::es) X.V)).all (λx=>!x.1)&&(backToKw aj (keywordEach [] X.V)).all (λx=>x.1.isSome)
   && decide ((e::es).B+([]:List Keyword).B+(if([]:List Keyword).ô then 0 else 1)<30))=true) Ŕ)
  (av:Abe aq aj<|>Ŕ) (hs:Abs e es X<|>Ŕ) (ay:Abb aj es X<|>Ŕ) (hK:X.K=K<|>Ŕ):
  PE X (.û (.ù o name aq) (e::es) [] aj) (tBM K T r to t):=by subst hK;show _bY pa slot og hm ho ha aw d9 av hs ay
def _cZ:bootBuiltins "len"=@(.à "len"):=by decide +kernel
def _c0:bootBuiltins "isinstance"=@(.à "isinstance"):=by decide +kernel
def _c1:bootBuiltins "all"=@(.à "all"):=by decide +kernel
def _c2:bootBuiltins "sum"=@(.à "sum"):=by decide +kernel
def XX:bootBuiltins "int"=@(.e "int"):=by decide +kernel
def _c3:bootBuiltins "bool"=@(.e "bool"):=by decide +kernel
def ZV:bootBuiltins "list"=@(.e "list"):=by decide +kernel
def _c4:bootBuiltins "tuple"=@(.e "tuple"):=by decide +kernel
def _c5:bootBuiltins "dict"=@(.e "dict"):=by decide +kernel
def _c6:bootBuiltins "zip"=@(.e "zip"):=by decide +kernel
end
def Cst(mg:Str->Option Value)(x:Str)(v:V):Prop:=∃u,mg x=@u/\RelV v u
section
def _c7(c:Cst X.mg x v)(hg:Gl X x<|>Ŕ)(hd:Abd x<|>ŕ):PE X (.é x pos) (tC v):=by
 let#[u,m,r]:=c;show _ay hg m r hd
end
def _c8:∀{ns:List Int} {m},PySem.W.WData.weightAll (ns.C PySem.W.WData.E)<=m->∀n>ns,Builtin.Int.intBits n<=m
 | [],_,_,_,h=>nomatch h
 | a::r,m,h,n,hn=>by
  let h':(if a==0 then 0 else a.natAbs.log2+1)+1+PySem.W.WData.weightAll _<=m:=h;let z\/z:=aD hn
  .subst z;let e:Builtin.Int.intBits n=(if n==0 then 0 else n.natAbs.log2+1):=rfl
   grind
  .show _c8 .q n z
def _c9{ns:List Int}(h:PySem.W.WData.layableAll [PySem.W.WData.list (ns.C PySem.W.WData.E)]=true):∀n>ns,Builtin.Int.intBits n<=1048576:=by
 let h1:=(PySem.W.layW_cons h).1;unfold PySem.W.WData.layable at h1;simp at h1;let h2:PySem.W.WData.weightAll _<=2 ^ 20:=h1.2;show _c8 (~~~h2)
section
def in1_units(A:Around):A.in1.â<=A.â+1:=by
 symm
end
section
def _da(K:Frag):List V->Hp->VK->Prop:=λxs H Q=>∃p ys,xs=[.J p]/\(SqL K H p ys\/SqT K H p ys)/\∀l,H l=none->Q (.J l) (upd H l (.L ys))
def _db K (hK:X.K=K<|>Ŕ):CallR X (.e "list") (_da K):=by subst hK;show _bU
def _dc(K){id}
  (pa:PlainAttrs T) (slot:Slot T name id) (og:typeOf (.à id)=pure (.e "method_descriptor")) (hm:MtR X id r) (ho:PE X o to)
  (aw:attributeBase o name X.V (eval o X.V)=eval o X.V<|>Ŕ) (av:Abe aq aj<|>Ŕ) (hK:X.K=K<|>Ŕ):
  PE X (.û (.ù o name aq) [] [] aj) (xz1 K T r to):=by subst hK;show _bX pa slot og hm ho aw av
end
section
def _dd(fp:List Addr)(I:Inv X a9 σ H s)(k:∀b o,b∉fp->s.G.get? b=@o->h'.get? b=@o)(hf:∀b>fp,x9 X a9 H b):Inv X a9 σ H {s with heap:=h',toks:=t' }:=by
 let yi:∀b u,H b=@u->b∉fp:=λb u e z=>by rw[(hf b z).1]at e;cases e
 show I.step (g':=s.gens) (d':=s.drawn) (λb hb=>?_) (λb o _ _ hc e _=>k b o hc e) (λb o _ _ hc e _=>#[o.slots,k b o hc e]) (λ_ _ _ _ n=>n)
  (λb o hc e=>#[o,k b o hc e]) (λ_ _ e=>e) (λ_ _ _ e=>e) (λb ps e=>#[(List.H []),by rw[e];rfl]) (λm hm=>?_) (λb u e=>?_) I.bare
 .let#[_,f1,_,f3,f4,f5]:=hf b hb;show#[f3.imp id λz=>Yq z,f1,f4,f5]
 .let#[o,es,ep,ho,r]:=hm;show#[o,es,ep,k _ o (λz=>(hf _ z).2.1 rfl) ho,r]
 .show(I.hok b u e).stay (λc v hc q=>k c v ?_ q) (λ_ q=>q) λ_ _ q=>q
  let z\/z:=hc
  .rw[z];show yi b u e
  .show yi c _ z
end
noncomputable def Itz(K:Frag)(l1 l2:Addr):It:=#[λi H=>∃xs ys x y,SqL K H l1 xs/\SqL K H l2 ys/\xs[i]?=@x/\ys[i]?=@y,
 λi H v H'=>∃T x y,H T=none/\v=.J T/\H'=upd H T (.X [x,y])/\(∀xs,SqL K H l1 xs->xs[i]?=@x)/\∀ys,SqL K H l2 ys->ys[i]?=@y,
 λi H=>∃xs ys,SqL K H l1 xs/\SqL K H l2 ys/\(xs.B<=i\/ys.B<=i)]
abbrev znt(z TI TO i1 i2 l1 l2:Addr)(i:Nat)(h:Heap):Prop:=IsZip h z TI TO .å/\IsPair h TI (.J i1) (.J i2)/\(∃a b,IsPair h TO a b)/\h.IsListIter i1 l1 i/\h.IsListIter i2 l2 i
def _de{K z TI TO i1 i2 l1 l2}(ap:ZipApart z TI TO i1 i2 l1 l2):
  Turn P w K (.Tuple elts k1 pos) (Itz K l1 l2) [z,TI,TO,i1,i2] z (znt z TI TO i1 i2 l1 l2) where
 mem:=by simp
 obj:=λi h st b hb=>by
  let#[h1,h2,#[a,c,h3],#[o4,e4,c4,d4],o5,e5,c5,d5]:=st;simp at hb;let rfl\/rfl\/rfl\/rfl\/rfl:=hb
  .show#[_,h1,λv z=>by cases z]
  .show#[_,h2,λv z=>by cases z]
  .show#[_,h3,λv z=>by cases z]
  .show#[_,e4,λv z=>by rw[d4]at z;cases z]
  .show#[_,e5,λv z=>by rw[d5]at z;cases z]
 keep:=λi h h' st k=>by
  let#[h1,h2,#[a,c,h3],#[o4,e4,c4,d4],o5,e5,c5,d5]:=st;show#[k _ (by simp) _ h1,k _ (by simp) _ h2,#[a,c,k _ (by simp) _ h3],#[o4,k _ (by simp) _ e4,c4,d4],o5,k _ (by simp) _ e5,c5,d5]
 item:=by
  intro X hP hw hK hc i a9 s σ H E I hf st hg;subst hP hw hK;let#[xs,ys,x,y,q1,q2,hx,hy]:=hg;let#[gl,nk,p1,mo]:=I.list q1;let#[u1,hu1,ru1]:=nk.get hx;let#[cz,rv2,p2,nr]:=I.list q2;let#[u2,hu2,ru2]:=rv2.get hy;let#[t1,t2,#[a,b,t3],t4,t5]:=st;show wpAny_pyNext_zip_item ap t1 t2 t3 t4 t5 p1.isList p2.isList (x:=u1) (y:=u2) (~~~hu1) (~~~hu2) λh1 g1 g3 g4 g5 gT gs gk=>(#[_,rfl,wpAny_letOwnedTupleGo_zip (s:={s with heap:=h1}) g1 λh2 f1 sb=>?_])
  let fT:=I.fpOk (Xa _) (I.hok.fresh (Xa _));let nT:∀b>[z,TI,TO,i1,i2],b≠↥s:=λb hb e=>by
   obtain⟨o,eo,_⟩:∃o,s.G.get? b=@o/\True:=by
    simp at hb;let#[o4,e4,_]:=t4;let#[o5,e5,_]:=t5;let rfl\/rfl\/rfl\/rfl\/rfl:=hb
    .show#[_,t1,trivial]
    .show#[_,t2,trivial]
    .show#[_,t3,trivial]
    .show#[_,e4,trivial]
    .show#[_,e5,trivial]
   show absurd (Xh eo) (e▸Z4 _)
  let kk:∀b o,b∉[z,TO,i1,i2]->s.G.get? b=@o->h2.get? b=@o:=λb o hb e=>by
   simp at hb;show(sb.2 b hb.1).I (gk b o hb.1 hb.2.1 hb.2.2.1 hb.2.2.2 e)
  let I1:Inv X a9 σ H {s with heap:=h2,toks:=s.ý}:=_dd [z,TO,i1,i2] I kk λb hb=>hf b (by
   simp at hb ⊢;let h\/h\/h\/h:=hb<;>simp[h])
  let nz:↥s≠z:=λe=>nT z (by simp) e.s
  let I2:=_cE (a:=↥s) (o:=.X [x,y]) I1 fT.1 fT.2.1 fT.2.2.2.1 fT.2.2.2.2.1 fT.2.2.2.2.2
   (show ObjOk X.î X.w _ h2 _ (.X [x,y])from#[by change(2:Nat)<=sizeLine;decide,[u1,u2],.ê ru1 (.ê ru2 .nil),#[_,(sb.2 _ nz).I gT,rfl,rfl,0,rfl]])
  show#[.J ↥s,_,I2,rfl,#[_,x,y,fT.1,rfl,rfl,λzs p9=>by rw[I.list_inj p9 q1];show hx,λzs p9=>by rw[I.list_inj p9 q2];show hy],(#[f1,((sb.2 _ ap.TIz).I (gk _ _ ap.TIz ap.TITO ap.TIi1 ap.TIi2 t2)),#[u1,u2,(sb.2 _ ap.TOz).I g3],g4.at λo e=>(sb.2 _ ap.i1z).I e,g5.at λo e=>(sb.2 _ ap.i2z).I e]),λb hb=>by rw[qj (nT b hb)];show(hf b hb).1]
 done:=by
  intro X hP hw hK hc i a9 s σ H E I hf st hg;subst hP hw hK;let#[xs,ys,q1,q2,hx]:=hg;let#[gl,nk,p1,mo]:=I.list q1;let#[cz,rv2,p2,nr]:=I.list q2;let#[t1,t2,#[a,b,t3],t4,t5]:=st;let kr:=nk.B;let lu:=rv2.B;show wpAny_pyNext_zip_end (I.ok.hd hc) ap t1 t2 t3 t4 t5 p1.isList p2.isList (hx.imp (λh=>by simp;lia) λh=>by simp;lia) λh' kk=>#[rfl,?_]
  show _dd (t':=s.ý) [z,TO,i1,i2] I (λb o hb e=>?_) λb hb=>hf b (by
   dsimp[Zh,Zb,or_false]at hb ⊢;let h\/h\/h\/h:=hb<;>simp[h])
  dsimp[Zh,Zb,or_false,not_or]at hb;show kk b o hb.1 hb.2.1 hb.2.2.1 hb.2.2.2 e
 self:=λ_ _ _ _ _ st h=>wpAny_pyIter_zip st.1 h
abbrev iZip(K:Frag)(ta:TA):TI:=fun σ H R=>ta σ H λvs H1=>∃l1 l2,vs=[.J l1,.J l2]/\(∃xs,SqL K H1 l1 xs)/\(∃ys,SqL K H1 l2 ys)/\R (Itz K l1 l2) H1
section
def _df K (hg:Gl X "zip")(hm:X.mg "zip"=none)(ha:PA X [a,b] ta)(hK:X.K=K<|>Ŕ)
  (hs:starEach [a,b] X.V=[(false,eval a X.V),(false,eval b X.V)]<|>Ŕ) (jd:starEach [b] X.V=[(false,eval b X.V)]<|>Ŕ):
  PI X (.Tuple elts k1 lv) (.û (.é "zip" p) [a,b] [] pos) (iZip K ta):=by
 subst hK;intro a9 s σ H R I h;show Call_ (xQ I hg hm _c6 (Y1 (thn (ha pos a9 s σ H _ I h) λus s1 #[vs,H1,I1,r1,q1]=>?_) (by rw[hs,jd]) (by rw[jd];rfl)));let#[l1,l2,rfl,#[xs,q1],#[ys,q2],q]:=q1;let#[u1,u2,rfl,e1,e2]:=_bm r1;cases e1;cases e2;let#[gl,nk,p1,mo]:=I1.list q1;let#[cz,rv2,p2,nr]:=I1.list q2;let lt:∀{l ar},s1.G.IsList l ar->l<↥s1:=λh=>by let#[_,e,_]:=h;show Xh e
 show call_zip_2 p1.isList p2.isList λh' g1 g2 g3 g4 g5 gs gk=>?_
 show wpAny_pyIter_zip g1 #[_,[_,↥s1+2,↥s1+3,↥s1,↥s1+1],_,_,H1,rfl,I1.kept (t':=s1.ý) gk,
  _de (zipApart_new (lt p1.isList) (lt p2.isList)),#[g1,g2,#[_,_,g3],g4,g5],λb hb=>?_,q]
 let gz:↥s1<=b:=by
  simp at hb;let rfl\/rfl\/rfl\/rfl\/rfl:=hb<;>simp
 show I1.fpOk gz (I1.hok.fresh gz)
end
section
def _dg:List V->Hp->VK->Prop:=λxs H Q=>(∃i,xs=[.E i]/\Q (.E i) H)\/(∃k,xs=[.bl k]/\Q (.E (if k then 1 else 0)) H)\/∃(x:Str) (n:Int),xs=[.ã x]/\PySem.intText? x=@n/\x.B<=640/\Q (.E n) H
def _dh:CallR X (.e "int") _dg:=by
 intro a9 s σ H xs us Q I r h;let h\/h\/#[x,n,rfl,hx,hl,q]:=h
 .show _cW a9 s σ H xs us Q I r (.O h)
 .show _cW a9 s σ H xs us Q I r (.Z h)
 .let#[u,rfl,t,rfl]:=wZ r;show PySem.W.KIN.call_text hx hl #[.E n,H,I.tok _,#[_,rfl],q]
end
def _di(h:env.frame=env0.frame):noteFrame e env=noteFrame e env0:=by
 ext noteFrame PySem.frameOf;rw[h]
structure Fl0 (h:Heap)(x:Addr)(C:Value)(vs:Array Value):Prop where
 ob:h.get? x=some {cls:=C,data:=.fields vs}
 sz:1<vs.M
structure FlT (h:Heap)(x T:Addr)(C:Value)(fl:Value):Prop where
 ex:∃vs,h.get? x=some {cls:=C,data:=.fields vs}/\vs[1]?=@(.J T)
 tb:∃oT ts,h.get? T=@oT/\oT.data=.fields ts/\ts[3]?=@fl
 ne:T≠x
structure Chg (fs ch:List Addr)(h h':Heap):Prop where
 keep:∀b o,h.get? b=@o->b∉fs->b∉ch->h'.get? b=@o
 slot:∀b o,h.get? b=@o->b∉ch->∃sl,h'.get? b=some {cls:=o.cls,dict:=o.dict,data:=o.data,slots:=sl}
 size:h.objs.M<=h'.objs.M
def Chg.I(a:Chg fs ch h h1)(b:Chg fs ch' h1 h2)(hc:∀x>ch',x>ch\/h.get? x=none):Chg fs ch h h2 where
 keep:=λx o e h1 h2=>b.keep x o (a.keep x o e h1 h2) h1 λz=>(hc x z).ë h2 λq=>by rw[q]at e;cases e
 slot:=λx o e hn=>by
  let#[sl,e1]:=a.slot x o e hn;let#[ue,e2]:=b.slot x _ e1 λz=>(hc x z).ë hn λq=>by rw[q]at e;cases e
  show#[ue,e2]
 size:=Z5 a.M b.M
def Chg.mono(a:Chg fs ch h h1)(hc:∀x>ch,x>ch'):Chg fs ch' h h1:=#[λb o e h1 h2=>a.keep b o e h1 λz=>h2 (hc b z),λb o e h2=>a.slot b o e λz=>h2 (hc b z),a.M]
def Chg.of_upd : Chg fs [a] h (h.update a f):=
  #[λb o e _ hn=>by rw[Zm _ _ _ _ (λz=>hn (aB z))]; show e,
   λb o e hn=>#[o.slots,by rw[Zm _ _ _ _ (λz=>hn (aB z))]; show e],by rw[Heap.size_update]; show Xa _]
def Chg.of_push:Chg fs [] h (h.ï o):=
 #[λb o e _ _=>X4 _ e,λb o e _=>#[o.slots,X4 _ e],by rw[Zp];simp]
def Chg.of_slots(s:Heap.SlotsOnly fs h h'):Chg fs [] h h':=
 #[λb o e hn _=>(s.2.1 b hn).I e,λb o e _=>s.2.2 b o e,by rw[s.1];show Xa _]
def Chg.ñ:Chg fs ch h h:=#[λ_ _ e _ _=>e,λb o e _=>#[o.slots,e],Xa _]
section
variable {L x T:Addr}
def _dj(hA:A.frames=@(env::outer))(hF:s.G.FunFrames base (env::outer))(hL:env.frame=@L)(ho:Fl0 s.G x C vs)
  (h:∀h' T',Chg (frs (env::outer)) [x] s.G h'->↥s<=T'->FlT h' x T' C (rawInt ↑L)->Q () {s with heap:=h' }):
  wpAny M A (do
   let a <-PySem.frameOf env
   let pl <-entryPlaceOf L hadNext
   let b <-EntryCells.newEntry head a Value.å (rawInt ↑L) Value.å pl
   setField (Value.J x) 1 b) Q E s:=by
 show X0 (wpAny_frameOf_fun hA hF hL λh1 s1=>?_);let hx:x∉frs _:=λz=>by
  let#[_,o,e,hn]:=hF.mem z;rw[ho.ob]at e;cases e;show hn _ rfl
 let o1:h1.get? x=some {cls:=C,data:=.fields vs}:=(s1.2.1 x hx).I ho.ob;let fin:∀pl,IsPlace pl->wpAny M A (do
   let b <-EntryCells.newEntry head _ Value.å _ Value.å pl
   setField _ 1 b) Q E {s with heap:=h1}:=λpl bu=>by
  show X0 ?_;ext EntryCells.newEntry newFields;let har:([head,Value.J L,Value.å,rawInt ↑L,Value.å]++if pl.ô=true then List.h 6 Value.å else pl).H[3]?=@(rawInt ↑L):=by rfl
  let hsz:([head,Value.J L,Value.å,rawInt ↑L,Value.å]++if pl.ô=true then List.h 6 Value.å else pl).H.M<=sizeLine+2:=by
   let rfl\/#[_,_,_,_,_,_,_,rfl]:=bu<;>simp<;>decide
  generalize ([head,Value.J L,Value.å,rawInt ↑L,Value.å]++if pl.ô=true then List.h 6 Value.å else pl).H=ar at har hsz;show Ya ?_ hsz;let o2:(h1.ï {cls:=.e "traceback",data:=.fields ar}).get? x=some {cls:=C,data:=.fields vs}:=X4 _ o1;show Yr o2 rfl ho.sz ?_;let bc:h1.objs.M≠x:=λe=>absurd (Xh o1) (e▸Z4 _)
  let o3:((h1.ï {cls:=.e "traceback",data:=.fields ar}).update x (Obj.mapFields λy=>y.õ 1 (.J h1.objs.M))).get? h1.objs.M=some {cls:=.e "traceback",data:=.fields ar}:=by
   rw[Zm _ _ _ _ bc];show Xd _ rfl
  show h _ h1.objs.M (((Chg.of_slots s1).mono (nofun)).I ((Chg.of_push.mono nofun).I Chg.of_upd λy hy=>.O hy) λy hy=>.O hy) (s1.1▸Xa _) #[#[vs.õ 1 _,?_,Array.getElem?_setIfInBounds_self_of_lt ho.sz],#[_,_,o3,rfl,har],bc];show Ye _ o2 rfl
 show X0 (wpAny_entryPlaceOf λpl bu=>fin pl bu)
def _dk(hA:A.frames=@(env::outer))(hF:s.G.FunFrames base (env::outer))(hL:env.frame=@L)(ho:Fl0 s.G x C vs)(hv:vs[1]?=@.å)
  (h:∀h' T',Chg (frs (env::outer)) [x] s.G h'->↥s<=T'->FlT h' x T' C (rawInt ↑L)->Q () {s with heap:=h' }):wpAny M A (noteFrame (.J x) env) Q E s:=by
 ext noteFrame;rw[hL];show X0 (Zt ho.ob rfl hv (_dj hA hF hL ho h))
def upd3{h:Heap}(e:h.get? T=@oT)(ed:oT.data=.fields ts)(h3:3<ts.M):
  ∃o' ts',(h.update T (Obj.mapFields λy=>y.õ 3 v)).get? T=@o'/\o'.data=.fields ts'/\ts'[3]?=@v:=by
 let#[c,d,dt,sl]:=oT;cases(ed);show#[_,ts.õ 3 v,Ye _ e rfl,rfl,Array.getElem?_setIfInBounds_self_of_lt h3]
def _dl(hA:A.frames=@(env::outer))(hF:s.G.FunFrames base (env::outer))(hL:env.frame=@L)(f:FlT s.G x T C fl)
  (h:∀h' T',Chg (frs (env::outer)) [x,T] s.G h'->(↥s<=T'\/T'=T)->FlT h' x T' C (rawInt ↑L)->Q () {s with heap:=h' }):wpAny M A (noteFrame (.J x) env) Q E s:=by
 let#[#[vs,e1,v1],#[oT,ts,e2,d2,v2],bc]:=f;let h3:3<ts.M:=by
  rw[Array.getElem?_eq_some_iff]at v2;show v2.1
 let h1:1<vs.M:=by
  rw[Array.getElem?_eq_some_iff]at v1;show v1.1
 ext noteFrame;rw[hL];show X0 (Zt e1 rfl v1 (X0 (Zt e2 d2 v2 ?_)))
 by_cases hf:(fl==rawInt ↑L)=true
 .rw[X7 hf];let e:=eq_of_beq hf;subst e;show X5 (h s.G T Chg.ñ (.Z rfl) #[#[vs,e1,v1],#[oT,ts,e2,d2,v2],bc])
 .rw[Xb hf];show X0 (Yr e2 d2 h3 ?_);let c1:Chg (frs (env::outer)) [x,T] s.G (s.G.update T (Obj.mapFields λy=>y.õ 3 Value.å)):=Chg.of_upd.mono λy hy=>by
   grind
  let e1':(s.G.update T (Obj.mapFields λy=>y.õ 3 Value.å)).get? x=some {cls:=C,data:=.fields vs}:=by
   rw[Zm _ _ _ _ bc.s];show e1
  let hF':(s.G.update T (Obj.mapFields λy=>y.õ 3 Value.å)).FunFrames base (env::outer):=by
   show hF.of_keeps λb o e hn=>#[o,?_,rfl]
   rw[Zm _ _ _ _ λz=>?_]
   .show e
   .symm
  show _dj hA hF' hL #[e1',h1] λh' T' c2 hs f'=>(h h' T' (c1.I (c2.mono (ch':=[x,T]) λy hy=>by rw[aC hy];simp) λy hy=>.O hy) (.O ?_) f')
  rw[Heap.size_update]at hs;show hs
def _dm(f:FlT s.G x T C fl)(h:∀h',Chg (frs outer) [x,T] s.G h'->FlT h' x T C (fr.ë Value.å λf=>rawInt ↑f)->Q () {s with heap:=h' }):wpAny M A (setFlight (.J x) fr) Q E s:=by
 let#[#[vs,e1,v1],#[oT,ts,e2,d2,v2],bc]:=f;let h3:3<ts.M:=by
  rw[Array.getElem?_eq_some_iff]at v2;show v2.1
 show X0 (Zt e1 rfl v1 (Yr e2 d2 h3 (h _ (Chg.of_upd.mono λy hy=>by rw[aC hy];simp) #[#[vs,?_,v1],upd3 e2 d2 h3,bc])))
 rwa [Zm _ _ _ _ bc.s]
end
structure XCls (K:Frag)(C:Addr):Prop where
 ga:findIn K (.J C) "__getattribute__"=some @(.à "BaseException.__getattribute__")
 gt:findIn K (.J C) "__getattr__"=@none
 fo:PySem.W.findObj K C none "__class__"=@(.bind (.à "getset_descriptor.__get__") (.à "object.__class__"))
 ob:PySem.W.mroIn K C (.e "object")=@true
 bx:PySem.W.mroIn K C (.e "BaseException")=@true
 cl:(PySem.W.clsIn K C).isSome=true
def FpX(X:Cx)(a9:LA9)(H:Hp)(b:Addr):Prop:=
 H b=none/\b≠X.V.locals/\b∉X.fs/\(b>X.ex\/X.s₀.G.get? b=none)/\(∀x c,X.V.cells.Y x=@c->c≠b)/\∀p>X.pn++a9,p.1≠b
section
def fpX(I:Inv X a9 σ H s)(hb:s.G.get? b=none)(hn:H' b=none):FpX X a9 H' b:=by
 show#[hn,λz=>?_,λz=>?_,?_,λx c e z=>?_,λp hp z=>?_]
 .let#[m,#[o,_,_,ho,_],_]:=I.loc
  symm
 .let#[_,o,e,_]:=I.ok.funs.mem z
  by_cases hx:b>X.ex
  .show I.ok.exfs b hx z
  .obtain _:=I.base.there b o e hx
   grind
 .by_cases hx:b>X.ex
  .show .O hx
  .cases e:X.s₀.G.get? b with
   |none=>show .Z rfl
   |some o=>
    let#[o',e']:=I.base.there b o e hx
    symm
 .let#[v,o,ho,_]:=I.cell x c e
  symm
 .let:=(I.pin p hp).1
  symm
def FpX.of(h:x9 X a9 H b):FpX X a9 H b:=#[h.1,h.2.1,h.2.2.1,h.2.2.2.1.imp id λz=>Yq z,h.2.2.2.2]
def _dn(I:Inv X a9 σ H s)(c:Chg (frs X.stack) ch s.G h')(hf:∀b>ch,FpX X a9 H b):Inv X a9 σ H {s with heap:=h' }:=by
 show I.call (g':=s.gens) (t':=s.ý) (d':=s.drawn) #[λb o e _ h1 h2=>c.keep b o e h1 h2,λb o e _ _ h2=>c.slot b o e h2,λ_ _ _ n _=>n,λb o e h2=>?_,λ_ _ e=>e,λ_ _ _ e=>e,λ_ _ e=>#[(List.H []),by rw[e];rfl]] (λb u e=>?_) I.bare λb hb=>?_
 .let#[sl,q]:=c.slot b o e h2;show#[_,q]
 .let no:∀d v,H d=@v->d∉frs X.stack/\d∉ch:=λd v e=>#[λz=>(by rw[I.stkFree d z]at e;cases e),λz=>(by rw[(hf d z).1]at e;cases e)]
  show(I.hok b u e).stay (λd v hc q=>?_) (λ_ q=>q) λ_ _ q=>q
  let z\/z:=hc
  .rw[z]at q ⊢;show c.keep b v q (no b u e).1 (no b u e).2
  .show c.keep d v q (no d _ z).1 (no d _ z).2
 .let#[_,f1,_,f3,f4,f5]:=hf b hb;show#[f3,f1,f4,f5]
end
structure Fx (X:Cx)(a9:LA9)(H:Hp)(h:Heap)(x:Addr)(C:Value):Prop where
 fp:FpX X a9 H x
 st:(∃vs,Fl0 h x C vs/\vs[1]?=@.å)\/∃T fl,FlT h x T C fl/\FpX X a9 H T
structure Xt (X:Cx)(a9:LA9)(σ:L2.St)(H:Hp)(x T:Addr)(C fl:Value)(s:Shared):Prop where
 inv:Inv X a9 σ H s
 fx:FpX X a9 H x
 fT:FpX X a9 H T
 f:FlT s.G x T C fl
def Xt.to(h:Xt X a9 σ H x T C fl s):Fx X a9 H s.G x C:=#[h.fx,.Z #[T,fl,h.f,h.fT]]
def Xo(X:Cx)(E:XK)(e:Value)(s:Shared):Prop:=∃a9 σ H x C,e=.J x/\Inv X a9 σ H s/\Fx X a9 H s.G x C/\E C none H
def xv(X:Cx)(E:XK):Prop:=∀a9 σ H s x C,Inv X a9 σ H s->Fx X a9 H s.G x C->E C none H->X.xe (.J x) s
abbrev Cx.ex'(X:Cx)(E:XK):Cx:=X.wish (Xo X E)
def z7:xv (Cx.ex' X E) E:=λa9 σ H s x C I f q=>#[a9,σ,H,x,C,rfl,I.unwish,#[f.fp,f.st],q]
def Jk(X:Cx):Prop:=∃env0 out,X.stack=env0::out/\X.V.frame=env0.frame
section
def _do(top:Jk X)(hA:A.frames=X.A.frames)(I:Inv X a9 σ H s)(f:Fx X a9 H s.G x C)(h:∀L T s',X.V.frame=@L->Xt X a9 σ H x T C (rawInt ↑L) s'->Q () s'):
  wpAny M A (noteFrame (.J x) X.V) Q E' s:=by
 let#[env0,out,e1,e2]:=top;let hF:=I.stack;let ub:A.frames=@(env0::out):=by rw[hA,I.ok.frames,e1]
 rw[e1]at hF;let#[_,#[L,o,hL,_],_]:=id hF;rw[_di e2];let hL':=e2.I hL;let#[vs,f0,hv]\/#[T,fl,fT,pT]:=f.st
 .show _dk ub hF hL f0 hv λh' T' c hs pj=>h L T' _ hL' #[?_,f.fp,fpX I (Yq hs) (I.hok.fresh hs),pj]
  rw[<-e1]at c;show _dn I c λb hb=>by rw[aC hb];show f.fp
 .show _dl ub hF hL fT λh' T' c hs pj=>?_
  rw[<-e1]at c;show h L T' _ hL' #[_dn I c λb hb=>?_,f.fp,?_,pj]
  .dsimp[Zh,Zb,or_false]at hb;let rfl\/rfl:=hb
   .show f.fp
   .show pT
  .let hs\/hs:=hs
   .show fpX I (Yq hs) (I.hok.fresh hs)
   .rw[hs];show pT
def _dp(t:Xt X a9 σ H x T C fl s)(h:∀s',Xt X a9 σ H x T C (fr.ë Value.å λf=>rawInt ↑f) s'->Q () s'):wpAny M A (setFlight (.J x) fr) Q E' s:=by
 show _dm t.f λh' c pj=>h _ #[_dn t.inv c λb hb=>?_,t.fx,t.fT,pj]
 simp at hb;let rfl\/rfl:=hb
 .show t.fx
 .show t.fT
def _dq(t:Xt X a9 σ H x T C fl s)(h:∀s' pj,Xt X a9 σ H x T C pj s'->E' (.J x) s'):wpAny M A (PySem.passOn what (.J x) oh:Sem α) Q E' s:=by
 let#[vs,e1,v1]:=t.f.ex;show X0 (Zt e1 rfl v1 (X0 (_dp t λs' t'=>(wpAny_throw (h s' _ t')))))
def _dr(top:Jk X):PassesOwn M X.A X.V (Xo X E):=by
 rintro e s' ⟨a9,σ,H,x,C,rfl,I,f,q⟩;show _do top rfl I f λL T s1 _ t=>?_
 let#[vs,e1,v1]:=t.f.ex;show X0 (Zt e1 rfl v1 (_dp t λs2 t2=>#[a9,σ,H,x,C,rfl,t2.inv,t2.to,q]))
end
def CXE(P:Program)(w:World):CXT:=λouter H s E e s'=>∃x T C fl H',e=.J x/\s'.os=s.os/\AllBare s'.gens/\Un (frs outer) [] H H' s.G s'.G/\HOk P w H' s'.G /\
 s.G.get? x=none/\s.G.get? T=none/\H' x=none/\H' T=none/\FlT s'.G x T C fl/\E C none H'
def _ds(g:xv X E):_bt (CXE X.î X.w) X E:=by
 rintro a9 σ H s e s' I ⟨x,T,C,fl,H',rfl,os,bare,un,hok,hx,hT,nx,nT,f,q⟩;show g a9 σ H' s' x C (I.call' os un hok bare nofun) #[fpX I hx nx,.Z #[T,fl,f,fpX I hT nT]] q
def _dt{K}:
  Jk (Jj CX P w K mg base N qual scope f cd A outer s H E):=#[_,_,rfl,rfl]
def _du{K}
  (h:Xo (Jj (CXE P w) P w K mg base N qual scope f cd A outer s H E) E e s'):(Jj (CXE P w) P w K mg base N qual scope f cd A outer s H E).xe e s':=by
 let#[a9,σ,H',x,C,rfl,I,fx,q]:=h;change wpAny _ _ _ _ _ s';show X0 (_do _dt rfl I fx λL T s1 _ t=>(_dp t λs2 t2=>?_));let ge:∀b,FpX (Jj (CXE P w) P w K mg base N qual scope f cd A outer s H E) a9 H' b->s.G.get? b=none:=λb hb=>hb.2.2.2.1.ë (nofun) λz=>z
 show#[x,T,C,_,H',rfl,t2.inv.os,t2.inv.bare,t2.inv.base,t2.inv.hok,ge x t2.fx,ge T t2.fT,t2.fx.1,t2.fT.1,t2.f,q]
section
variable {K:Frag}
def _dv{st f}(F:Fun K x qual st f fd)(S:FnScope N ps (k6 st))(len:∀vs H Q E,sp vs H Q E->vs.B=ps.B)
  (n9:∀d8 (A) (outer) (s) (H) (vs) (Q) (E),Room k (A.deeper (envOfC qual (k6 st) ↥s f d8))->sp vs H Q E ->
   ∃t,PSs (Cx.ex' (Jj (CXE P w) P w K mg base N qual (k6 st) f d8 A outer s H E) E) (Jv st) t/\t {nx:=λ_ H'=>Q .ç H',rt:=Q} (L2.start N vs) H):FnOk P w K mg base (CXE P w) (k+1) f fd ps sp:=by
 let#[oc,od,kV,iq,pm,an,d8,ct,pi,rfl,lk,iy]:=F.ex;show _bC lk iy S len λA outer s H vs Q E hr cx=>?_
 let#[t,h,q]:=n9 d8 A outer s H vs Q E hr cx;show#[t,λa9 s' σ H' D I hw=>wpAny_mono (h a9 s' σ H' D (I.wish _) hw) (λf lx z=>z.unwish) λe lx z=>_du z,q]
def kW(P:Program)(w:World)(K:Frag)(mg:Str->Option Value)(base:Heap)(k:Nat)(x:Str)(ps:List Str)(sp:Sp):Prop:=
 ∃(f:Addr) (fd:FuncData),FnOk P w K mg base (CXE P w) k f fd ps sp/\Binds K fd ps []/\PySem.W.keepIn K (.J f)=true/\mg x=@(.J f)
end
section
def _dw(D:kW X.î X.w X.K X.mg X.base k x ps sp)(hr:Room k X.A)(g:xv X E)(ha:PA X (e::es) t)(hg:Gl X x<|>Ŕ)(gr:Abd x<|>ŕ)
  (he:Abs e es X<|>Ŕ) (bu:Abb pos es X<|>Ŕ):
  PE X (.û (.é x p) (e::es) [] pos) (wwi sp [] E t):=by
 let#[f,fd,F,b,kp,m]:=D;show _bv F hr hg m kp b .nil (_ds g) ha gr he bu
end
abbrev lcE(X:Cx)(scope:Scope)(N:List Str)(cl:List (Str×Addr))(C:Addr)(s0:Shared)(H0:Hp)(fp:List Addr)(EX:XK):Cx:=Cx.ex' (lcX X scope N cl C s0 H0 fp) EX
section
#where in
def _dx(Ex)(I:Nat->Shared->Prop)
  (gm:∀n s,I n s->wpAny (model prog w) A (pyNext it) (λr s1=>match r with
   | none=>R (.ok .next) s1
   | some v=>wpAny (model prog w) A (letOwnedTupleGo ig it v) (λ_ s2=>wpAny (model prog w) A (assign ig env v) (λ_ s3=>
     wpAny (model prog w) A (vjz fm env) (λok s4=>
      if ok=true then
       wpAny (model prog w) A (eval elt env) (λx s5=>wpAny (model prog w) A (call (.à "list.append") [ae,x]) (λ_ s6=>∃m,m<n/\I m s6) Ex s5) Ex s4
      else ∃m,m<n/\I m s4) Ex s3) Ex s2) Ex s1) Ex s)
  (hx:∀e s,Ex e s->notedBy (model prog w) A env (λe s'=>R (.error e) s') e s) n (h:I n s):codeAny (model prog w) A (.compLoop (.ListComp elt [#[ig,iter,fm,0]] scope pos) 0 it ae env) R s:=by
 show codeAny_loop rfl I (λn s hI=>(wpAny_noted ?_)) n h;rw[compTurn_list];show wpAny_mono (X0 (wpAny_standAt (X0 (thn (gm n s hI) λr s1 h1=>?_)))) (λ_ _ q=>q) (λe s q=>?_)
 rotate_left
 .show hx e s q
 cases r with
 |none=>show X5 h1
 |some v=>
  show X0 (thn h1 λ_ s2 h2=>(X0 (thn h2 λ_ s3 h3=>(X0 (thn h3 λok s4 h4=>?_)))));cases ok with|false=>show X5 #[rfl,h4]|true=>show X0 (X0 (thn h4 λx s5 h5=>X0 (thn h5 λ_ s6 h6=>X5 (X5 #[rfl,h6]))))
end
section
def _dy(gx:xv X EX)
  (I2:Inv X a9 σ H2 s2) (f2:∀b>fp,x9 X a9 H2 b) (hC:↥s2<=C) (t:Xt (lcX X scope N cl C s2 H2 fp) dq σ' H' x T Cc fl s') (q:EX Cc none H'):
  compPost (model X.î X.w) X.A X.xe use Q ae C (.error (.J x)) s':=by
 let#[m,hn,_]:=t.inv.loc;show#[m,hn,λh' sb oh _=>?_];let fC:=I2.fpOk hC t.inv.free;let J2:Inv X a9 σ H' {s' with heap:=h',toks:=s'.ý}:=(I2.call' t.inv.os t.inv.base t.inv.hok t.inv.bare λb hb=>#[((f2 b hb).2.2.2.1.imp id λz=>Yq z),(f2 b hb).2.1,(f2 b hb).2.2.2.2.1,(f2 b hb).2.2.2.2.2]).turned (λb o hb e=>(sb.2 b hb).I e) fC.1 fC.2.1 fC.2.2.2.1 fC.2.2.2.2.1 fC.2.2.2.2.2;let fp':∀b,FpX (lcX X scope N cl C s2 H2 fp) dq H' b->FpX X a9 H' b:=λb hb=>by
  let z\/z:=hb.2.2.2.1
  .show#[hb.1,(FpX.of (f2 b z)).2]
  .show fpX I2 z hb.1
 let nx:=t.fx.2.1;let nT:=t.fT.2.1;let f:FlT h' x T Cc fl:=by
  let#[#[vs,e1,v1],#[oT,ts,e2,d2,v2],bc]:=t.f;show#[#[vs,(sb.2 x nx).I e1,v1],#[oT,ts,(sb.2 T nT).I e2,d2,v2],bc]
 show _dq #[J2,fp' x t.fx,fp' T t.fT,f] λs3 pj t3=>gx a9 σ H' s3 x Cc t3.inv t3.to q
#where in
def _dz
  {RR:Value->Addr->Result->Shared->Prop} (hc:X.calm=true) (top:Jk X) (sc:LcOk X scope N k R)
  (dk:∀x c,cl.Y x=@c->X.V.cells.Y x=@c) (c9:∀y>scope.ð,y.2=.free->∃c,cl.Y y.1=@c)
  (hg:∀C s0 H0 fp,PG (lcE X scope N cl C s0 H0 fp EX) tg g) (ht:∀C s0 H0 fp,PTs (lcE X scope N cl C s0 H0 fp EX) fm tt) (he:∀C s0 H0 fp,PE (lcE X scope N cl C s0 H0 fp EX) elt te)
  (I2:Inv X a9 σ H2 s2) (T:Turn X.î X.w X.K tg J fp it tn) (bv:tn 0 s2.G) (f2:∀b>fp,x9 X a9 H2 b) (w0:∃m,W 0 m [] (Jw k R σ) H2) (gm:LcW g tt te Q J W)
  (hRR:∀D C oC m ys H' s',Inv X (a9++[(C,oC)]) σ (upd H' D (.L ys)) s'->s'.G.get? C=@oC->s'.G.Ns C m->x9 X a9 (upd H' D (.L ys)) C->Q (.J D) (upd H' D (.L ys))->RR (.J D) C (.ok .next) s')
  (hER:∀D C s' dq σ' H' x T Cc fl,↥s2<=C->Xt (lcX X scope N cl C s2 H2 fp) dq σ' H' x T Cc fl s'->EX Cc none H'->RR (.J D) C (.error (.J x)) s'):
  ∅ (newList []) (λae s3=>∅ (newFunctionEnv scope X.V.globals cl [] X.V.qual none .å @X.V) (λoh s4=>
   codeAny (model X.î X.w) X.A (.compStart (.ListComp elt [#[tg,iter,fm,0]] scope pos) 0 (.J it) ae {oh with scope:=relabel scope X.V}) (RR ae oh.locals) s4) E s3) E s2:=by
 let xa:∀b>fp,∃o,s2.G.get? b=@o:=λb hb=>let ⟨o,e,_⟩:=T.obj 0 _ bv b hb;#[o,e]
 show Ya (wpAny_newFunctionEnv sc.nocell (by intro y hy;simp at hy) (λh1 yh sb1=>?_) sc.kind);generalize eH:s2.G.ï {cls:=.e "list",dict:=none,data:=.seq ([]:List Value).H}=Hx at yh sb1 ⊢;let eC:Hx.objs.M=↥s2+1:=by rw[<-eH,Zp]
 generalize eD:↥s2=D at eC;generalize eC':Hx.objs.M=C at yh sb1 eC ⊢;let u9:D≠C:=by symm
 let hC:↥s2<=C:=by symm
 let hD:↥s2<=D:=by symm
 let ca:=λb o e=>by
  show sb1.extBut b o (Xq (Xv (Xh e) hC)) (X4 _ (eH▸X4 _ e))
 let accD:h1.get? D=@(wvz [] 0):=by
  show sb1.extBut _ _ u9 (X4 _ ?_);rw [<-eH,<-eD];show Xd _ rfl
 let below:∀b>fp,b≠D/\b≠C:=λb hb=>by
  let#[o,e]:=xa b hb;show#[Xq (Xv (Xh e) hD),Xq (Xv (Xh e) hC)]
 let jr:∀{H' oD},(∀b>fp,H' b=none)->∀b>fp,x9 (lcE X scope N cl C s2 H2 fp EX) [(D,oD)] H' b:=fun {H' oD} hn b hb=>by
  let#[_,f1,f3,f4,f5,f6]:=f2 b hb;show#[hn b hb,(below b hb).2,λz=>?_,.O hb,λx c h=>f5 x c (dk x c h),λp hp=>?_]
  .let y\/y:=aD (I2.stkSub b z)
   .show f1 y
   .show f3 y
  .let e:p=(D,oD):=by
    let hp:p>([]++[(D,oD)]:LA9):=hp
    simpa using hp
   rw [e];show(below b hb).1.s
 let loop:∀s3,s3={s2 with heap:=h1,toks:=s2.ý+([]:List (Str×Value)).B} ->
   codeAny (model X.î X.w) X.A (.compLoop (.ListComp elt [#[tg,iter,fm,0]] scope pos) 0 (.J it) (.J D) (compEnvC scope cl C X.V)) (RR (.J D) C) s3:=by
  rintro s3 rfl;let#[m0,w0]:=w0;let hxx:∀e s,Xo (lcX X scope N cl C s2 H2 fp) EX e s->notedBy (model X.î X.w) X.A (compEnvC scope cl C X.V) (λe s'=>RR (.J D) C (.error e) s') e s:=by
   rintro e s ⟨dq,σ',H',x,Cc,rfl,I',f',q'⟩;show _do (X:=lcX X scope N cl C s2 H2 fp) top rfl I' f' λL T s1 _ t=>hER D C s1 dq σ' H' x T Cc _ hC t q'
  show _dx (Xo (lcX X scope N cl C s2 H2 fp) EX) (λn s'=>∃i ys ac nn σ' H',Inv (lcE X scope N cl C s2 H2 fp EX) [(D,wvz ac nn)] σ' H' s'/\Vals ys ac/\tn i s'.G/\(∀b>fp,H' b=none)/\W i n ys σ' H') ?_ hxx m0
   #[0,[],[],0,_,H2,(_cD I2 sc f2 xa hC hD u9 dk c9 ca yh accD (λv z=>by cases z)).wish _,.nil,T.keep _ _ _ bv (λb hb o e=>ca b o e),λb hb=>(f2 b hb).1,w0]
  rintro n s3 ⟨i,ys,ac,nn,σ3,H3,I3,rv,ft,fr3,w3⟩;let#[stop,hz,qn]\/#[go,step]:=gm i n ys σ3 H3 w3
  .show thn (T.done (lcE X scope N cl C s2 H2 fp EX) rfl rfl rfl hc i _ s3 σ3 H3 _ I3 (jr fr3) ft stop) λr s4 hz=>?_
   let#[hr,I4]:=hz;subst hr;change RR (.J D) C (.ok .next) s4;let hD4:=I4.pin (D,wvz ac nn) (by change _>([]++[(D,wvz ac nn)]:LA9);simp);let fD:=I2.fpOk hD hD4.2.1;let fC:=I2.fpOk hC I4.free;let J2:Inv X a9 σ (upd H3 D (.L ys)) s4:=_cE (I2.call' I4.os I4.base I4.hok I4.bare λb hb=>#[((f2 b hb).2.2.2.1.imp id λz=>Yq z),(f2 b hb).2.1,(f2 b hb).2.2.2.2.1,(f2 b hb).2.2.2.2.2]) hD4.2.1 fD.2.1 fD.2.2.2.1 fD.2.2.2.2.1 fD.2.2.2.2.2 #[hz,ac,nn,rv,hD4.1];let#[mC,nC,_]:=I4.loc;let#[oC,es,ep,hoC,hdC,kt]:=id nC;let fC':x9 X a9 (upd H3 D (.L ys)) C:=#[by rw[qj u9.s];show fC.1,fC.2];show hRR D C oC mC ys H3 s4 (J2.pins_of λp hp=>?_) hoC nC fC' (qn D hD4.2.1);let z\/z:=aA hp
   .show J2.pin p (_ab _ z)
   .rw[aC z];show#[hoC,fC'.1,fC'.2.1,fC'.2.2.1,λv y=>by rw[hdC]at y;cases y]
  .show thn (T.item (lcE X scope N cl C s2 H2 fp EX) rfl rfl rfl hc i _ s3 σ3 H3 _ I3 (jr fr3) ft go) λr s4 hz=>?_
   let#[u,hr,h4]:=hz;subst hr;show thn h4 λ_ s5 hz=>?_
   let#[x,H5,I5,r5,y5,om,fr5]:=hz;let ku:∀{σ' H' s' pl},Inv (lcE X scope N cl C s2 H2 fp EX) (pl++V5 fp s5.G) σ' H' s'->tn (i+1) s'.G/\∀b>fp,H' b=none:=fun {σ' H' s' pl} I'=>by
    let q:∀b>fp,∀o,s5.G.get? b=@o->s'.G.get? b=@o/\H' b=none:=λb hb o e=>by
     let#[a1,a2,_]:=I'.pin (b,o) (_ab _ (_ab _ (_aZ hb e)));show#[a1,a2]
    show#[T.keep _ _ _ om λb hb o e=>(q b hb o e).1,λb hb=>?_];let#[o,e,_]:=T.obj _ _ om b hb;show(q b hb o e).2
   show thn (hg C s2 H2 fp _ s5 σ3 H5 x u _ (I5.pinned (jr fr5) (T.obj _ _ om)) r5 (step x H5 y5)) λ_ s6 #[σ6,H6,I6,Ny,Nn,hNy,hNn,q6]=>(thn (ht C s2 H2 fp _ s6 σ6 H6 _ I6 q6) λok s7 hz=>?_)
   let#[H7,I7,q7]:=hz;cases ok with
   | false=>
    let#[m',hm,w7]:=hNn _ q7;show#[m',hm,i+1,ys,ac,nn,σ6,H7,I7.unpinned,rv,(ku I7).1,(ku I7).2,w7]
   | true=>
    show thn (he C s2 H2 fp _ s7 σ6 H7 _ I7 q7) λu8 s8 hz=>?_
    let#[y,H8,I8,r8,q8]:=hz;let#[hz,m',hm,w8]:=hNy _ _ q8;let pD:=I8.pin (D,wvz ac nn) (_ab _ (_ac _ (aB rfl)));let ai:=rv.B;show append_at (hsz:=by rw[Xe];symm) pD.1 λh9 sb9 e9=>?_
    let I9:Inv (lcE X scope N cl C s2 H2 fp EX) ([]++V5 fp s5.G) σ6 H8 {s8 with heap:=h9,toks:=s8.ý}:=(I8.pins_of λp hp=>I8.pin p (_ab _ (_ab _ hp))).turned (it:=D) (λb o hb e=>(sb9.2 b hb).I e) pD.2.1 u9 (.Z hD)
     (λx c h z=>by
      let#[v,q]:=I2.cell x c (dk x c h);show absurd (Xv q.lt (z▸hD)) (Z4 _))
     (λp hp z=>by
      let hp:p>([]++([]++V5 fp s5.G):LA9):=hp;let hp:p>V5 fp s5.G:= ~~~hp
      show(below p.1 (_a0 hp).1).1 z)
    let e9':h9.get? D=@(wvz (ac++[u8]) (nn+1)):=by rw[e9];simp
    show#[m',hm,i+1,ys++[y],ac++[u8],nn+1,σ6,H8,I9.pins_of λp hp=>?_,rv.append (.ê r8 .nil),(ku I9).1,(ku I9).2,w8];rw[aC hp];show#[e9',pD.2.1,pD.2.2.1,pD.2.2.2.1,λv z=>by cases z]
 show codeAny_compStart_list (loop _ rfl) (T.self _ 0 _ _ _ (T.keep _ _ _ bv λb hb o e=>ca b o e) (loop _ rfl))
def _dA(N)(k)(R)(hi:PI X tg iter wi)
  (hg:∀cl C s0 H0 fp,PG (lcE X scope N cl C s0 H0 fp EX) tg g) (ht:∀cl C s0 H0 fp,PTs (lcE X scope N cl C s0 H0 fp EX) fm tt) (he:∀cl C s0 H0 fp,PE (lcE X scope N cl C s0 H0 fp EX) elt te)
  (gx:xv X EX) (top:Jk X) (hc:X.calm=true<|>Ŕ) (hk:scope.kind=.function<|>Ŕ) (jy:Kz X.N X.V.scope scope N k R=true<|>Ŕ) (hs:(∀x,foldedSetIterable iter X.V x=pure x)<|>Ŗ):
  PE X (.ListComp elt [#[tg,iter,fm,0]] scope pos) (tLC wi g tt te k R):=by
 intro a9 s σ H Q I h;let sc:=_cy hk jy;let#[cl,mr,dk,c9]:=_cx λy hy e=>I.ok.has y.1 (sc.caps y hy e)
 show wpAny_comprehension_free rfl hs mr sc.kind sc.ð (thn (hi a9 s σ H _ I h) λv s1 h1=>thn h1 λitv s2 h2=>?_);let#[it,fp,tn,J,H2,e,I2,T,bv,f2,W,w0,gm]:=h2;subst e;show _dz hc top sc dk c9 (hg cl) (ht cl) (he cl) I2 T bv f2 w0 gm ?_ ?_
 rotate_left
 .intro D C s' dq σ' H' x T Cc fl hC t q;show _dy gx I2 f2 hC t q
 intro D C oC m ys H' s' I' _ nC fC q;show#[m,nC,λh' sb=>#[.J D,_,I'.unpinned.turned (t':=s'.ý) (λb o hb e=>(sb.2 b hb).I e) fC.1 fC.2.1 fC.2.2.2.1 fC.2.2.2.2.1 fC.2.2.2.2.2,rfl,q]]
end
structure ExAt (K:Frag)(x:Addr)(ox:Obj)(C:Addr):Prop where
 cls:ox.cls=.J C
 no:PySem.W.notCls ox=true
 di:ox.dict=none
 xc:XCls K C
end L3
namespace Q
open PySem
inductive D where
 |non|bl (b:Bool)|int (i:Int)|str (z:Str)|tup (xs:List D)|lst (xs:List D)|dct (ab:List (D×D))|obj (c:Str) (fs:List (Str×D))
instance:DecidableEq D:=λa b=>Classical.propDecidable (a=b)
instance:Inhabited D:=#[.ç]
mutual
def D.pure:D->Bool
 |.tup xs=>D.pures xs|.lst _=>false|.dct _=>false|.obj _ _=>false|_=>true
def D.pures:List D->Bool
 |[]=>true|a::x=>D.pure a&&D.pures x
end
def D.pures_all:∀xs,D.pures xs=xs.all D.pure
 |[]=>by rfl|a::x=>by rw[D.pures,List.all_cons,D.pures_all x]
@[simp] theorem D.pures_map f (xs:List α)(h:∀x∈xs,(f x).pure=true):D.pures (xs.map f)=true:=by
 rw[D.pures_all,Yb];intro d hd;obtain⟨x,hx,rfl⟩:=aE hd;exact h x hx
mutual
def peq:D->D->Bool
 |.non,y=>(match y with|.non=>true|_=>false)
 |.bl a,y=>(match y with|.bl b=>a==b|.int b=>(if a then 1 else 0)==b|_=>false)
 |.int a,y=>(match y with|.bl b=>a==(if b then 1 else 0)|.int b=>a==b|_=>false)
 |.str a,y=>(match y with|.str b=>a==b|_=>false)
 |.lst a,y=>(match y with|.lst b=>peqs a b|_=>false)
 |.dct _,_=>false|.obj _ _,_=>false|.tup a,y=>match y with|.tup b=>peqs a b|_=>false
def peqs:List D->List D->Bool
 |[],[]=>true|a::as,b::bs=>peq a b&&peqs as bs|_,_=>false
end
mutual
def D.flat:Nat->D->Bool
 |0,.tup _=>false|0,.lst _=>false|n+1,.tup xs=>D.flats n xs|n+1,.lst xs=>D.flats n xs|_,.dct _=>false|_,.obj _ _=>false|_,_=>true
def D.flats:Nat->List D->Bool
 |_,[]=>true|n,a::x=>D.flat n a&&D.flats n x
end
mutual
def jX:Nat->D->Bool
 |_,.non=>true|_,.int _=>true|_,.str _=>true|n+1,.tup xs=>keyDs n xs|_,_=>false
def keyDs:Nat->List D->Bool
 |_,[]=>true|n,a::x=>jX n a&&keyDs n x
end
def unm : List (D × D) -> Bool
  |(.ã _,_)::_=>false|_=>true
inductive Own where
 |no|rt|dp
 deriving DecidableEq
abbrev Sd:=Own×D
abbrev En:=List (Option Sd)
inductive Res (α:Type) where
 |ok (E:En) (a:α)
 |exc (E:En) (c:Str)
abbrev Ev(α:Type):=En->Option (Res α)
abbrev Ex:=Ev Sd
def bnd(m:Option (Res α))(f:En->α->Option (Res β)):Option (Res β):=
 match m with
 |some (.ok E a)=>f E a|some (.exc E c)=>@(.exc E c)|none=>none
@[simp] theorem xzo (E:En)(a:α)(f:En->α->Option (Res β)):bnd ⇑(.ok E a) f=f E a:=rfl
@[simp] theorem xxp (E:En)(c:Str)(f:En->α->Option (Res β)):bnd ⇑(.exc E c) f=⇑(.exc E c):=rfl
@[simp] theorem xv2 (f:En->α->Option (Res β)):bnd none f=none:=rfl
def val(E:En)(x:Option α):Option (Res α):=x.C (Res.ok E)
@[simp] theorem xqg (E:En)(x:α):val E ⇑x=⇑(.ok E x):=rfl
@[simp] theorem xqh (E:En):val E (none:Option α)=none:=rfl
def cC(d:D):Ex:=λE=>@(.ok E (.dp,d))
def cV(i:Nat):Ex:=λE=>match E[i]? with
 |some @(_,d)=>@(.ok (E.u i @(.x,d)) (.x,d))|_=>none
def cMv(i:Nat):Ex:=λE=>match E[i]? with
 |some @x=>@(.ok (E.u i none) x)|_=>none
def vV(i:Nat):Ex:=λE=>match E[i]? with
 |some @x=>@(.ok E x)|_=>none
def vE(c:Ex):Ex:=λE=>bnd (c E) λE x=>@(.ok E (.x,x.2))
abbrev C9(z:Int):Ex:=vE (cC (.E z))
def cH(v:Ex):Ex:=λE=>bnd (v E) λE x=>if x.1=.x then @(.ok E (.x,x.2))else if x.2.pure then @(.ok E (.dp,x.2))else none
def cF1(f:Sd->Option Sd)(a:Ex):Ex:=λE=>bnd (a E) λE x=>val E (f x)
def cF2(f:Sd->Sd->Option Sd)(a b:Ex):Ex:=λE=>bnd (a E) λE x=>bnd (b E) λE y=>val E (f x y)
def pu1(f:D->Option D):Sd->Option Sd:=λx=>(f x.2).C λd=>(.dp,d)
def pu2(f:D->D->Option D):Sd->Sd->Option Sd:=λx y=>(f x.2 y.2).C λd=>(.dp,d)
def _dB:D->List D
 |.L xs=>xs|.X xs=>xs|.dct ab=>ab.C (·.2)|_=>[]
def qV(x:Sd):Bool:=x.1 != .dp||D.pures (_dB x.2)
def sub:Own->Own
 |.dp=>.dp|_=>.x
def ixN(n:Nat)(i:Int):Option Nat:=if 0<=i then(if i<n then @i.S else none)else if -(n:Int)<=i then @(i+n).S else none
def ixD:D->D->Option D
 |.L xs,.E i=>(ixN xs.B i).bind λj=>xs[j]?|.X xs,.E i=>(ixN xs.B i).bind λj=>xs[j]?|.ã z,.E i=>(ixN z.cps.M i).bind λj=>(z.cps.R[j]?).C λc=>.ã #[%[c|0]]|.dct ab,k=>(ab.find? λe=>decide (e.1=k)).C (·.2)|_,_=>none
def big:Nat:=16777216
def i2(f:Int->Int->Option Int):D->D->Option D
 |.E a,.E b=>(f a b).C .E|_,_=>none
def c2(f:Int->Int->Bool):D->D->Option D
 |.E a,.E b=>@(.bl (f a b))|_,_=>none
def W3(a:Int):Bool:=decide (-(2 ^ 64)<a)&&decide (a<2 ^ 64)
def kw:Sd->Sd->Option Sd:=λx y=>match x.2,y.2 with
 |.E a,.E b=>@(.dp,.E (a+b))|.ã a,.ã b=>if a.cps.M+b.cps.M<=big then @(.dp,.ã (a++b))else none|.L a,.L b=>if a.B+b.B<=big/\qV x/\qV y then @(.rt,.L (a++b))else none|.X a,.X b=>if a.B+b.B<=big/\qV x/\qV y then @(.x,.X (a++b))else none|_,_=>none
def Qk(a b:Int):Bool:=W3 a||W3 b||(decide (a.natAbs.log2<2000000)&&decide (b.natAbs.log2<2000000))
def KQ:Sd->Sd->Option Sd:=λx y=>match x.2,y.2 with
 |.E a,.E b=>if Qk a b then @(.dp,.E (a*b))else none|.L a,.E k=>if -(2 ^ 63)<=k/\k<2 ^ 63/\a.B*k.S<=big/\qV x then @(.rt,.L (List.h k.S a).flatten)else none|.ã z,.E n=>if(z.cps.M<=1024/\n<=1024/\-1024<=n)/\(Txt.mul z n).cps.M<=big then @(.dp,.ã (Txt.mul z n))else none|_,_=>none
def Q0:D->D->Option D:=i2 λa b=>@(a - b)
def Kv:D->D->Option D:=i2 λa b=>if 0<b/\b.natAbs.log2<9000 then @(a / b)else none
def v6:D->D->Option D:=i2 λa b=>if 0<b then @(a % b)else none
def fEq:D->D->Option D:=λa b=>if a.flat 40&&b.flat 40 then @(.bl (peq a b))else none
def fNe:D->D->Option D:=λa b=>if a.flat 40&&b.flat 40 then @(.bl (!peq a b))else none
def isNon:D->Bool
 |.ç=>true|_=>false
def fLt:D->D->Option D:=c2 λa b=>decide (a<b)
def fLe:D->D->Option D:=c2 λa b=>decide (a<=b)
def fGt:D->D->Option D:=c2 λa b=>decide (b<a)
def fGe:D->D->Option D:=c2 λa b=>decide (b<=a)
def _dC(a b:Str):Bool:=!(Builtin.Str.occurrences b a 0 b.B 1).ô
def fIn:D->D->Option D:=λx y=>match y with
 |.L ys=>if x.flat 30&&D.flats 30 ys then @(.bl (ys.any λz=>peq z x))else none|.X ys=>if x.flat 30&&D.flats 30 ys then @(.bl (ys.any λz=>peq z x))else none
 |.ã b=>(match x with
  |.ã a=>@(.bl (_dC a b))
  |_=>none)
 |.dct ab=>@(.bl (ab.any λe=>decide (e.1=x)))|_=>none
def Wk:D->D->Option D:=λx y=>(fIn x y).bind λd=>match d with
 |.bl k=>@(.bl (!k))|_=>none
def v8:D->Option D
 |.L xs=>@(.E xs.B)|.X xs=>@(.E xs.B)|.ã z=>@(.E z.B)|_=>none
def kind:D->String
 |.ç=>"NoneType"|.bl _=>"bool"|.E _=>"int"|.ã _=>"str"|.X _=>"tuple"|.L _=>"list"|.dct _=>"dict"|.obj _ _=>""
def isaK(t u:String):Bool:=t==u||(t == "bool" && u == "int")
def JY(u:String):D->Option D:=λd=>match d with
 |.obj _ _=>none|.dct _=>none|_=>@(.bl (isaK (kind d) u))
def fIsNon:D->Option D:=λd=>@(.bl (isNon d))
abbrev Ts:=Ev Bool
def truth:D->Option Bool
 |.bl b=>@b|.ç=>@false|.E i=>@(i != 0)|.ã z=>@(z.cps.M != 0)|.L xs=>@(!xs.ô)|.X xs=>@(!xs.ô)|.dct xs=>@(!xs.ô)|.obj _ _=>none
def tE(c:Ex):Ts:=λE=>bnd (c E) λE x=>val E (truth x.2)
def tOr(a b:Ts):Ts:=λE=>bnd (a E) λE x=>if x then @(.ok E true)else b E
def tNot(a:Ts):Ts:=λE=>bnd (a E) λE x=>@(.ok E (!x))
def tYes:Ts:=λE=>@(.ok E true)
def cIf(t:Ts)(a b:Ex):Ex:=λE=>bnd (t E) λE x=>if x then a E else b E
def Wv(a b:Ex):Ex:=λE=>bnd (a E) λE x=>match x.2 with
 |.bl true=>b E|.bl false=>@(.ok E (.dp,.bl false))|_=>none
def Jz:D->D->Option D:=λx y=>match y with
 |.dct _=>none|_=>fIn x y
def V1:D->D->Option D:=λx y=>match y with
 |.dct _=>none|_=>Wk x y
def f2First(f:D->Option D):Sd->Sd->Option Sd:=λx y=>if isNon y.2 then(f x.2).C λd=>(.dp,d)else none
def kQ:D->D->Option D:=λx y=>match x with
 |.dct _=>none|_=>ixD x y
def jw(a b:Ex):Ex:=λE=>bnd (a E) λE x=>bnd (b E) λE y=>val E ((kQ x.2 y.2).C λd=>(sub x.1,d))
def truthQ:D->Option Bool:=λd=>match d with
 |.dct _=>none|_=>truth d
def tEQ(c:Ex):Ts:=λE=>bnd (c E) λE x=>val E (truthQ x.2)
noncomputable def vK:List Ex->Ev (List Sd)
 |[],E=>@(.ok E [])|c::cs,E=>bnd (c E) λE x=>bnd (vK cs E) λE xs=>@(.ok E (x::xs))
def qz(x:Sd):Bool:=x.1 == .dp||x.2.pure
def k9(o:Own)(cs:List Ex):Ex:=λE=>bnd (vK cs E) λE xs=>if o=.dp then(if xs.all qz then @(.ok E (.dp,.L (xs.C (·.2))))else none)else @(.ok E (.rt,.L (xs.C (·.2))))
def jZ(o:Own)(cs:List Ex):Ex:=λE=>bnd (vK cs E) λE xs=>if o=.dp then(if xs.all qz then @(.ok E (.dp,.X (xs.C (·.2))))else none)else @(.ok E (.x,.X (xs.C (·.2))))
inductive Fl where
 |nx (E:En)|rt (E:En) (x:Sd)|ct (E:En)|bk (E:En)|xc (E:En) (c:Str)
abbrev Sm:=En->Option Fl
def ofE(m:Option (Res α))(f:En->α->Option Fl):Option Fl:=
 match m with
 |some (.ok E a)=>f E a|some (.exc E c)=>@(.xc E c)|none=>none
@[simp] theorem xzh (E:En)(a:α)(f:En->α->Option Fl):ofE ⇑(.ok E a) f=f E a:=rfl
@[simp] theorem xwj (E:En)(c:Str)(f:En->α->Option Fl):ofE ⇑(.exc E c) f=⇑(.xc E c):=rfl
@[simp] theorem xqs (f:En->α->Option Fl):ofE none f=none:=rfl
def jk(a b:Sm):Sm:=λE=>match a E with
 |some (.nx E)=>b E|r=>r
def vY:Sm:=λE=>@(.nx E)
def jx(i:Nat)(c:Ex):Sm:=λE=>ofE (c E) λE x=>@(.nx (E.u i @x))
def kq(c:Ex):Sm:=λE=>ofE (c E) λE x=>@(.rt E x)
def sIf(t:Ts)(a b:Sm):Sm:=λE=>ofE (t E) λE x=>if x then a E else b E
inductive Tg where
 |n (i:Nat)|t (ts:List Nat)
def setAll:List Nat->List D->En->Option En
 |[],[],E=>@E|i::is,d::ds,E=>setAll is ds (E.u i @(.x,d))|_,_,_=>none
def Tg.put:Tg->D->En->Option En
 |.n i,d,E=>@(E.u i @(.x,d))|.t is,.X ds,E=>setAll is ds E|.t is,.L ds,E=>setAll is ds E|.t _,_,_=>none
def _dD(is:List Nat)(c:Ex):Sm:=λE=>ofE (c E) λE x=>(Tg.put (.t is) x.2 E).C .nx
def Q3(tg:Tg)(b:Sm):List D->En->Option Fl
 | [],E=>@(.nx E)
 | d::ds,E=>match tg.put d E with
  |none=>none
  |some E=>match b E with
   |some (.nx E)=>Q3 tg b ds E|some (.ct E)=>Q3 tg b ds E|some (.bk E)=>@(.nx E)|r=>r
def wJ(it:Ev (List D))(tg:Tg)(b:Sm):Sm:=λE=>ofE (it E) λE ds=>Q3 tg b ds E
def whF(t:Ts)(b:Sm)(f:Sm):Sm:=λE=>match t E with
 |some (.ok E true)=>(match b E with
  |some (.nx E)=>f E|some (.ct E)=>f E|some (.bk E)=>@(.nx E)
  |r=>r)
 |some (.ok E false)=>@(.nx E)|some (.exc E c)=>@(.xc E c)|none=>none
def whN(t:Ts)(b:Sm):Nat->Sm
 |0=>λ_=>none|n+1=>whF t b (whN t b n)
open Classical in
def K0(t:Ts)(b:Sm):Sm:=λE=>if h:∃n r,whN t b n E=@r then @h.choose_spec.choose else none
#where in
def _dE(h:K0 t b E=@r):∃n,whN t b n E=@r:=by
 unfold K0 at h
 split at h
 .revert h2;show#[_,h▸h2.choose_spec.choose_spec]
 .symm
def _dF(E):(∃E2,∀g,whF t b g E=g E2)\/∃q,∀g,whF t b g E=q:=by
 ext whF;cases t E with
 | none=>show .Z #[_,λ_=>rfl]
 | some r=>
  cases r with
  | exc=>show .Z #[_,λ_=>rfl]
  | ok E1 k=>
   cases k with
   |false=>show .Z #[_,λ_=>rfl]
   |true=>
    right;cases b E1 with|none=>show .Z #[_,λ_=>rfl]|some f=>cases f<;>first|show .O #[_,λ_=>rfl]|show .Z #[_,λ_=>rfl]
def _dG:∀{n E r},whN t b n E=@r->whN t b (n+1) E=@r
 |n+1,E,r,h=>by
  let#[E2,e]\/#[q,e]:=_dF E
  .show(e _).I (_dG ((e _).s.I h))
  .show(e _).I ((e _).s.I h)
def _dH(h:whN t b n E=@r):∀k,whN t b (n+k) E=@r
 |0=>h|k+1=>_dG (_dH h k)
def _dI(h:whN t b n E=@r):K0 t b E=@r:=by
 let h2:∃n r,whN t b n E=@r:=#[n,r,h];ext K0;rw[dif_pos h2];let b:=_dH h h2.choose;rw[Nat.add_comm]at b;show(_dH h2.choose_spec.choose_spec n).s.I b
def _dJ (E) : K0 t b E = whF t b (K0 t b) E:= by
  show Option.ext λr=>#[λh=> ?_,λh=> ?_]
  . let#[n,h]:= _dE h
    cases n with
    | zero=>cases h
    | succ n => let#[E2,e]\/#[q,e]:=_dF E
                . show(e _).I (_dI ((e _).s.I h))
                . show(e _).I ((e _).s.I h)
  . let#[E2,e]\/#[q,e]:=_dF E
    . let#[n,h]:= _dE ((e _).s.I h)
      show _dI (n:= n+1) ((e _).I h)
    . show _dI (n:= 1) ((e _).I ((e _).s.I h))
def at'(L:List (Option α))(j:Nat):Option α:=(L[j]?).join
def clr:List Nat->List (Option α)->List (Option α)
 |[],L=>L|j::R,L=>clr R (L.u j none)
def back:List Nat->List (Option α)->List (Option α)->List (Option α)
 |j::R,q::B,L=>back R B (L.u j q)|_,_,L=>L
def _dK(k:Nat)(R:List Nat)(E:En):En:=List.h k none++R.C (at' E)
def JW(k:Nat)(R:List Nat)(B E:En):En:=back R (B.drop k) (clr R E)
def lcL(tg:Tg)(t:Ts)(c:Ex):List D->En->List Sd->Option (Res (List Sd))
 |[],B,ae=>@(.ok B ae)
 |d::ds,B,ae=>match tg.put d B with
  |none=>none|some B=>bnd (t B) λB x=>if x then bnd (c B) λB y=>lcL tg t c ds B (ae++[y])else lcL tg t c ds B ae
def mkL(o:Own)(E:En)(xs:List Sd):Option (Res Sd):=
 if o=.dp then(if xs.all qz then @(.ok E (.dp,.L (xs.C (·.2))))else none)else @(.ok E (.rt,.L (xs.C (·.2))))
def cLC(o:Own)(k:Nat)(R:List Nat)(it:Ev (List D))(tg:Tg)(t:Ts)(c:Ex):Ex:=λE=>bnd (it E) λE ds=>
 match lcL tg t c ds (_dK k R E) []with
 |some (.ok B xs)=>mkL o (JW k R B E) xs|some (.exc B e)=>@(.exc (JW k R B E) e)|none=>none
def Wx:Option (Option Sd)->Bool
 |some @(_,.L _)=>true|_=>false
def _dL(g0:Option (Option Sd)->Bool)(g:Sd->D->D->Option D)(i:Nat)(kc vc:Ex):Sm:=λE=>ofE (vc E) λE v=>if g0 E[i]?=true then ofE (kc E) λE k=>(match E[i]? with
 |some @s=>(g s k.2 v.2).C λd=>.nx (E.u i @(.rt,d))
 |_=>none)else none
def v0(f:List D->D->Option (List D))(i:Nat)(c:Ex):Sm:=λE=>if Wx E[i]? then ofE (c E) λE x=>match E[i]? with
 |some @(o,.L xs)=>if o=.x then none else(match f xs x.2 with
  |some ys=>@(.nx (E.u i @(if o=.dp/\qz x then .dp else .rt,.L ys)))
  |none=>none)
 |_=>none
 else none
def qY:List D->D->Option (List D):=λxs d=>if xs.B<big then @(xs++[d])else none
def VW:D->Option D
 |.E i=>@(.E i)|.bl k=>@(.E (if k then 1 else 0))|.ã z=>if z.B<=640 then(PySem.intText? z).C .E else none|_=>none
def _dM:Sd->Option Sd:=λx=>match x.2 with
 |.L xs=>if qV x then @(.rt,.L xs)else none|.X xs=>if qV x then @(.rt,.L xs)else none|_=>none
def zV:Sd->Option Sd:=λx=>match x.2 with
 |.L xs=>if qV x then @(.x,.X xs)else none|.X xs=>if qV x then @(.x,.X xs)else none|_=>none
def bls:List D->Option (List Bool)
 |[]=>⇑[]|.bl b::ds=>(bls ds).C (b :: ·)|_=>none
def _dN:D->Option D
 |.L ds=>(bls ds).C λbs=>.bl (bs.all id)|_=>none
def seqOf:D->Option (List D)
 |.L xs=>@xs|.X xs=>@xs|.ã z=>if z.cps.M<=big then @(z.cps.R.C λc=>.ã #[%[c|0]])else none|_=>none
noncomputable def itS(c:Ex):Ev (List D):=λE=>bnd (c E) λE x=>val E (seqOf x.2)
def kY(i:Int):Bool:=decide (-(2 ^ 62)<=i)&&decide (i<2 ^ 62)
def jV(lo hi:Int):List D:=(List.r (hi - lo).S).C λ(k:Nat)=>.E (lo+(k:Int))
noncomputable def ww(c:Ex):Ev (List D):=λE=>bnd (c E) λE x=>match x.2 with
 |.E j=>if kY j/\j.S<=big then @(.ok E (jV 0 j))else none|_=>none
noncomputable def Wj(c d:Ex):Ev (List D):=λE=>bnd (c E) λE x=>bnd (d E) λE y=>match x.2,y.2 with
 |.E i,.E j=>if kY i/\kY j/\(j - i).S<=big then @(.ok E (jV i j))else none|_,_=>none
def W8(c:Ex):Ex:=λE=>bnd (c E) λE x=>match x.2 with
 |.E j=>if kY j/\j.S<=big then @(.ok E (.rt,.L (jV 0 j)))else none|_=>none
abbrev Fn:=List Sd->Option (Res Sd)
def fn(n:Nat)(b:Sm):Fn:=λxs=>match b (xs.C some++List.h (n - xs.B) none)with
 |some (.rt E x)=>@(.ok E x)|some (.nx E)=>@(.ok E (.dp,.ç))|some (.xc E c)=>@(.exc E c)|_=>none
def letAll(xs:List Sd):List Sd:=xs.C λx=>(.x,x.2)
def jQ(f:Fn)(cs:List Ex):Ex:=λE=>bnd (vK cs E) λE xs=>match f (letAll xs)with
 |some (.ok _ y)=>@(.ok E y)|some (.exc _ c)=>@(.exc E c)|none=>none
end Q
namespace Q
open PySem PySem.Spec PyProof.Rows L2 L3
mutual
def J5(w:PySem.World):D->Int
 |.int i=>hashInt i|.str z=>hashStr w z|.tup xs=>reduceHash (Builtin.Tuple.tupleHashOf (hashDs w xs))|_=>4238894112
def hashDs(w:PySem.World):List D->List Int
 |[]=>[]|a::x=>J5 w a::hashDs w x
end
def Kd:Type:={d:D // jX 6 d=true}
instance:DecidableEq Kd:=λa b=>Classical.propDecidable (a=b)
abbrev Ent:=Kd×Addr×Value
def qZ(a:Addr)(es:List Ent)(ep:Nat):HO:=.ext λw h=>∃o ds,h.get? a=@o/\o.ExactDict/\o.data=.dict ds ep/\ds.R=es.C λx=>(#[J5 w x.1.1,.J x.2.1,x.2.2]:DictEntry)
mutual
def PuR(K:Frag)(H:Hp):D->V->Prop
 |.non,v=>v=.non|.int i,v=>v=.int i|.str z,v=>v=.str z/\z.length<=sizeLine|.tup ds,v=>∃a xs,v=.ref a/\SqT K H a xs/\PuRs K H ds xs|_,_=>False
def PuRs(K:Frag)(H:Hp):List D->List V->Prop
 |[],xs=>xs=[]|d::ds,xs=>∃x r,xs=x::r/\PuR K H d x/\PuRs K H ds r
end
def DcN(K:Frag)(H:Hp)(a:Addr)(ks:List D)(vs:List V):Prop:=∃(es:List Ent) (ep:Nat),H a=@(qZ a es ep)/\(a==sysModules)=false/\es.B<=sizeLine/\(es.C (·.1)).U/\ks=es.C (·.1.1)/\(∀x>es,PuR K H x.1.1 (.J x.2.1))/\Vals vs (es.C (·.2.2))
def DcI(H:Hp)(a:Addr)(ks:List D)(vs:List V):Prop:=∃(kv:List (Int×V)) (m:Str),H a=@(.dK (kv.C λp=>(Sum.O p.1,p.2)))/\ks=.ã m::kv.C (λp=>D.E p.1)/\vs=.ç::kv.C (·.2)
def DcA(K:Frag)(H:Hp)(a:Addr)(ks:List D)(vs:List V):Prop:=DcN K H a ks vs\/DcI H a ks vs
def DcA.un{K}(h:DcA K H a (ab.C (·.1)) vs)(hu:unm ab=true):DcN K H a (ab.C (·.1)) vs:=by
 let h\/#[kv,m,_,h,_]:=h
 .show h
 .cases ab with
  |nil=>cases h
  |cons p r=>
   let#[k,d]:=p;injection h with h1 _;subst h1;cases hu
def _dO(K:Frag)(a:Addr)(xs:List V):Prop:=∃(ac:Array Value) (n:Nat),K.Y a=some {cls:=.e "list",data:=.seq ac n}/\ac.M<=sizeLine/\Vals xs ac.R
def _dP(K:Frag)(H:Hp)(a:Addr)(xs:List V):Prop:=(∃o,H a=@(.ÿ o (.L xs)))\/_dO K a xs
def LsR(K:Frag)(H:Hp)(a:Addr)(xs:List V):Prop:=Rd H a (.L xs)\/_dO K a xs
def LsR.of{K}(h:_dP K H a xs):LsR K H a xs:=h.imp .Z id
def LsR.sq{K}(h:LsR K H a xs):SqL K H a xs:=by
 let h\/#[ac,n,h1,h2,h3]:=h
 .show .O h
 .show .Z #[_,ac,n,h1,rfl,rfl,rfl,h2,h3]
def LsR.is(I:L2.Inv X a9 σ H s)(h:LsR X.K H a xs):xs.B<=sizeLine/\∃(ac:List Value) (n:Nat),Vals xs ac/\s.G.get? a=some {cls:=.e "list",data:=.seq ac.H n}:=by
 let h\/#[ac,n,h1,h2,h3]:=h
 .let#[z,ac,n,r,e]:=h.ok I.hok;show#[z,ac,n,r,e]
 .let hl:=h3.B;simp at hl;show#[by symm,ac.R,n,h3,~~~(I.kIn a _ h1)]
def ExD(K:Frag)(H:Hp)(c:Str)(v:V):Prop:=∃x o C,v=.J x/\H x=@(.ÿ o (.ext λ_ _=>True))/\ExAt K x o C/\nsIn K mainGlobals c=some @(.J C)
mutual
def RepL(K:Frag)(H:Hp)(g:Bool):D->V->List Addr->Prop
 |.non,v,as=>v=.non/\as=[]|.bl b,v,as=>v=.bl b/\as=[]|.int i,v,as=>v=.int i/\as=[]|.str z,v,as=>v=.str z/\as=[]/\z.length<=sizeLine|.tup ds,v,as=>∃a xs,v=.ref a/\SqT K H a xs/\RepA K H g ds xs as|.lst ds,v,as=>∃a xs bs,v=.ref a/\RepA K H g ds xs bs/\((H a=⇑(.lst xs)/\as=a::bs)\/(g=true/\_dP K H a xs/\as=bs))|.dct ab,v,as=>∃a xs bs,v=.ref a/\RepP K H g ab xs bs/\DcA K H a (ab.map (·.1)) xs/\as=a::bs|.obj c _,v,as=>as=[]/\ExD K H c v
def RepA(K:Frag)(H:Hp)(g:Bool):List D->List V->List Addr->Prop
 |[],xs,as=>xs=[]/\as=[]|d::ds,xs,as=>∃x r bs cs,xs=x::r/\as=bs++cs/\RepL K H g d x bs/\RepA K H g ds r cs
def RepP(K:Frag)(H:Hp)(g:Bool):List (D×D)->List V->List Addr->Prop
 |[],xs,as=>xs=[]/\as=[]|(_,d)::ds,xs,as=>∃x r bs cs,xs=x::r/\as=bs++cs/\RepL K H g d x bs/\RepP K H g ds r cs
end
def RepR(K:Frag)(H:Hp):D->V->List Addr->Prop
 |.L ds,v,as=>∃a xs bs,v=.J a/\RepA K H true ds xs bs/\H a=@(.L xs)/\as=a::bs|.dct ab,v,as=>∃a xs bs,v=.J a/\RepP K H true ab xs bs/\DcA K H a (ab.C (·.1)) xs/\as=a::bs|_,_,_=>False
def RepO(K:Frag)(H:Hp):Own->D->V->List Addr->Prop
 |.x=>RepL K H true|.rt=>RepR K H|.dp=>RepL K H false
section
variable {K:Frag}{H H':Hp}
def Kp(H H':Hp)(as:List Addr):Prop:=(∀a xs,H a=@(.X xs)->H' a=@(.X xs))/\(∀a o u,H a=@(.ÿ o u)->H' a=@(.ÿ o u))/\∀a>as,∀ob,H a=@ob->H' a=@ob
def Kp.left(k:Kp H H' (as++bs)):Kp H H' as:=#[k.1,k.2.1,λa ha=>k.2.2 a (_ac _ ha)]
def Kp.right(k:Kp H H' (as++bs)):Kp H H' bs:=#[k.1,k.2.1,λa ha=>k.2.2 a (_ab _ ha)]
def Kp.tail(k:Kp H H' (a::bs)):Kp H H' bs:=#[k.1,k.2.1,λb hb=>k.2.2 b (_ad _ hb)]
def Kp.tupT(k:Kp H H' as)(h:SqT K H a xs):SqT K H' a xs:=by
 let(h\/#[o,h])\/h:=h
 .show .O (.O (k.1 a xs h))
 .show .O (.Z #[o,k.2.1 a o _ h])
 .show .Z h
def Kp.frzL(k:Kp H H' as)(h:_dP K H a xs):_dP K H' a xs:=by
 let#[o,h]\/h:=h
 .show .O #[o,k.2.1 a o _ h]
 .show .Z h
mutual
theorem PuR.kp{as}(k:Kp H H' as):∀{d v},PuR K H d v->PuR K H' d v
 |.non,_,h=>h|.int _,_,h=>h
 |.tup ds,_,h=>by
  obtain⟨a,xs,e,s,r⟩:=h;exact#[a,xs,e,k.tupT s,PuRs.kp k r]
 |.bl _,_,h=>h.elim|.str _,_,h=>by unfold PuR at h ⊢;exact h|.lst _,_,h=>h.elim|.dct _,_,h=>h.elim|.obj _ _,_,h=>h.elim
theorem PuRs.kp{as}(k:Kp H H' as):∀{ds xs},PuRs K H ds xs->PuRs K H' ds xs
 |[],_,h=>by unfold PuRs at h ⊢;exact h
 |d::ds,_,h=>by
  obtain⟨x,r,e,h1,h2⟩:=h;exact#[x,r,e,PuR.kp k h1,PuRs.kp k h2]
end
def Kp.dcn(k:Kp H H' (a::bs))(h:DcN K H a ks vs):DcN K H' a ks vs:=by
 let#[es,ep,e,h1,h2,h3,h4,h5,h6]:=h;show#[es,ep,k.2.2 a X2 _ e,h1,h2,h3,h4,λx hx=>PuR.kp k (h5 x hx),h6]
def Kp.dca(k:Kp H H' (a::bs))(h:DcA K H a ks vs):DcA K H' a ks vs:=by
 let h\/#[kv,m,e,h]:=h
 .show .O (k.dcn h)
 .show .Z #[kv,m,k.2.2 a X2 _ e,h]
def Kp.of_same(s:kj H H'):Kp H H' as:=#[λa xs h=>s a _ h,λa o u h=>s a _ h,λa _ ob h=>s a ob h]
mutual
theorem RepL.kp{g}:∀{d v as},RepL K H g d v as->Kp H H' as->RepL K H' g d v as
 | .non,_,_,h,_=>h| .bl _,_,_,h,_=>h| .int _,_,_,h,_=>h| .str _,_,_,h,_=>by unfold RepL at h ⊢;exact h
 | .tup ds,_,_,h,k=>by
  obtain⟨a,xs,e,s,r⟩:=h;exact#[a,xs,e,k.tupT s,RepA.kp r k]
 | .lst ds,_,_,h,k=>by
  obtain⟨a,xs,bs,e,r,q⟩:=h;refine#[a,xs,bs,e,?_,?_]
  ·rcases q with⟨_,rfl⟩|⟨_,_,rfl⟩
   ·exact RepA.kp r k.tail
   ·exact RepA.kp r k
  ·rcases q with⟨h1,rfl⟩|⟨hg,h1,rfl⟩
   ·exact .inl #[k.2.2 a X2 _ h1,rfl]
   ·exact .inr #[hg,k.frzL h1,rfl]
 |.dct ab,_,_,h,k=>by
  obtain⟨a,xs,bs,e,r,q,rfl⟩:=h;exact#[a,xs,bs,e,RepP.kp r k.tail,k.dca q,rfl]
 |.obj _ _,_,_,h,k=>by
  obtain⟨e,x,o,C,h1,h2,h3⟩:=h;exact#[e,x,o,C,h1,k.2.1 _ _ _ h2,h3]
theorem RepA.kp{g}:∀{ds xs as},RepA K H g ds xs as->Kp H H' as->RepA K H' g ds xs as
 |[],_,_,h,_=>by unfold RepA at h ⊢;exact h
 |d::ds,_,_,h,k=>by
  obtain⟨x,r,bs,cs,e1,rfl,h1,h2⟩:=h;exact#[x,r,bs,cs,e1,rfl,RepL.kp h1 k.left,RepA.kp h2 k.right]
theorem RepP.kp{g}:∀{ds xs as},RepP K H g ds xs as->Kp H H' as->RepP K H' g ds xs as
 |[],_,_,h,_=>by unfold RepP at h ⊢;exact h
 |_::ds,_,_,h,k=>by
  obtain⟨x,r,bs,cs,e1,rfl,h1,h2⟩:=h;exact#[x,r,bs,cs,e1,rfl,RepL.kp h1 k.left,RepP.kp h2 k.right]
end
mutual
theorem RepL.wk:∀{d v as},RepL K H false d v as->RepL K H true d v as
 |.non,_,_,h=>h|.bl _,_,_,h=>h|.int _,_,_,h=>h|.str _,_,_,h=>by unfold RepL at h ⊢;exact h
 |.tup ds,_,_,h=>by
  obtain⟨a,xs,e,s,r⟩:=h;exact#[a,xs,e,s,RepA.wk r]
 |.lst ds,_,_,h=>by
  obtain⟨a,xs,bs,e,r,q⟩:=h;refine#[a,xs,bs,e,RepA.wk r,?_];rcases q with q|⟨z,_⟩
  ·exact .inl q
  ·simp_all
 |.dct ab,_,_,h=>by
  obtain⟨a,xs,bs,e,r,q,z⟩:=h;exact#[a,xs,bs,e,RepP.wk r,q,z]
 |.obj _ _,_,_,h=>h
theorem RepA.wk:∀{ds xs as},RepA K H false ds xs as->RepA K H true ds xs as
 |[],_,_,h=>h
 |d::ds,_,_,h=>by
  obtain⟨x,r,bs,cs,e1,e2,h1,h2⟩:=h;exact#[x,r,bs,cs,e1,e2,RepL.wk h1,RepA.wk h2]
theorem RepP.wk:∀{ds xs as},RepP K H false ds xs as->RepP K H true ds xs as
 |[],_,_,h=>h
 |_::ds,_,_,h=>by
  obtain⟨x,r,bs,cs,e1,e2,h1,h2⟩:=h;exact#[x,r,bs,cs,e1,e2,RepL.wk h1,RepP.wk h2]
end
mutual
theorem RepL.al{g}:∀{d v as},RepL K H g d v as->∀a∈as,(∃xs,H a=⇑(.lst xs))\/(∃ φ,H a=⇑(.ext φ))\/∃ab,H a=⇑(.dK ab)
 | .non,_,_,h=>by rw[h.2];exact λ_ z=>nomatch z| .bl _,_,_,h=>by rw[h.2];exact λ_ z=>nomatch z| .int _,_,_,h=>by rw[h.2];exact λ_ z=>nomatch z| .str _,_,_,h=>by rw[h.2.1];exact nofun
 | .tup ds,_,_,h=>by
  obtain⟨a,xs,e,s,r⟩:=h;exact RepA.al r
 | .lst ds,_,_,h=>by
  obtain⟨a,xs,bs,e,r,q⟩:=h;rcases q with⟨h1,rfl⟩|⟨_,_,rfl⟩
  ·intro b hb;rcases aD hb with rfl|hb
   ·exact .inl #[_,h1]
   ·exact RepA.al r b hb
  ·exact RepA.al r
 | .dct ab,_,_,h=>by
  obtain⟨a,xs,bs,e,r,q,rfl⟩:=h;intro b hb;rcases aD hb with rfl|hb
  ·rcases q with⟨es,ep,q,_⟩|⟨kv,m,q,_⟩
   ·exact .inr (.inl #[_,q])
   ·exact .inr (.inr #[_,q])
  ·exact RepP.al r b hb
 |.obj _ _,_,_,h=>by rw[h.1];exact nofun
theorem RepA.al{g}:∀{ds xs as},RepA K H g ds xs as->∀a∈as,(∃xs,H a=⇑(.lst xs))\/(∃ φ,H a=⇑(.ext φ))\/∃ab,H a=⇑(.dK ab)
 |[],_,_,h=>by rw[h.2];exact nofun
 |d::ds,_,_,h=>by
  obtain⟨x,r,bs,cs,e1,rfl,h1,h2⟩:=h;intro a ha;rcases aA ha with ha|ha
  ·exact RepL.al h1 a ha
  ·exact RepA.al h2 a ha
theorem RepP.al{g}:∀{ds xs as},RepP K H g ds xs as->∀a∈as,(∃xs,H a=⇑(.lst xs))\/(∃ φ,H a=⇑(.ext φ))\/∃ab,H a=⇑(.dK ab)
 |[],_,_,h=>by rw[h.2];exact nofun
 |_::ds,_,_,h=>by
  obtain⟨x,r,bs,cs,e1,rfl,h1,h2⟩:=h;intro a ha;rcases aA ha with ha|ha
  ·exact RepL.al h1 a ha
  ·exact RepP.al h2 a ha
end
mutual
theorem RepL.pu{g g'}:∀{d v as},RepL K H g d v as->d.pure=true->as=[]/\RepL K H g' d v []
 |.non,_,_,h,_=>#[h.2,h.1,rfl]|.bl _,_,_,h,_=>#[h.2,h.1,rfl]|.int _,_,_,h,_=>#[h.2,h.1,rfl]|.str _,_,_,h,_=>#[h.2.1,h.1,rfl,h.2.2]
 |.tup ds,_,_,h,p=>by
  obtain⟨a,xs,e,s,r⟩:=h;obtain⟨z,r'⟩:=RepA.pu (g':=g') r (p);exact#[z,a,xs,e,s,r']
 |.lst ds,_,_,h,p=>by cases p|.dct ds,_,_,h,p=>by cases p|.obj _ _,_,_,h,p=>by unfold D.pure at p;cases p
theorem RepA.pu{g g'}:∀{ds xs as},RepA K H g ds xs as->D.pures ds=true->as=[]/\RepA K H g' ds xs []
 |[],_,_,h,_=>#[h.2,h.1,rfl]
 |d::ds,_,_,h,p=>by
  unfold D.pures at p;rw[Bool.and_eq_true]at p;obtain⟨x,r,bs,cs,e1,rfl,h1,h2⟩:=h;obtain⟨rfl,q1⟩:=RepL.pu (g':=g') h1 p.1;obtain⟨rfl,q2⟩:=RepA.pu (g':=g') h2 p.2;exact#[rfl,x,r,[],[],e1,rfl,q1,q2]
end
def RepR.wk(h:RepR K H d v as):RepL K H true d v as:=by
 cases d<;>first|show False.ë h|skip
 all_goals
  let#[a,xs,bs,e,r,q,z]:=h
  first|show#[a,xs,bs,e,r,.O #[q,z]]|show#[a,xs,bs,e,r,q,z]
def RepR.kp(h:RepR K H d v as)(k:Kp H H' as):RepR K H' d v as:=by
 cases d<;>first|show False.ë h|skip
 all_goals
  let#[a,xs,bs,e,r,q,rfl]:=h
  first|show#[a,xs,bs,e,r.kp k.tail,k.2.2 a X2 _ q,rfl]|show#[a,xs,bs,e,r.kp k.tail,k.dca q,rfl]
def RepO.wk:∀{o d v as},RepO K H o d v as->RepL K H true d v as
 |.x,_,_,_,h=>h|.rt,_,_,_,h=>RepR.wk h|.dp,_,_,_,h=>RepL.wk h
def RepO.kp:∀{o d v as},RepO K H o d v as->Kp H H' as->RepO K H' o d v as
 |.x,_,_,_,h,k=>RepL.kp h k|.rt,_,_,_,h,k=>RepR.kp h k|.dp,_,_,_,h,k=>RepL.kp h k
end
structure Sl where
 o:Own
 d:D
 v:V
 as:List Addr
def Sl.ì(x:Sl):List Addr:=match x.o with
 |.x=>[]|.rt=>x.as.take 1|.dp=>x.as
def Sl.ÿ(x:Sl):List Addr:=match x.o with
 |.x=>x.as|.rt=>x.as.drop 1|.dp=>[]
def Sl.parts(x:Sl):x.ì++x.ÿ=x.as:=by
 ext Sl.ì Sl.ÿ;cases x.o with|no=>rfl|rt=>show List.take_append_drop 1 x.as|dp=>show Xz _
def Sl.own_as{x:Sl}(h:a>x.ì):a>x.as:=by rw[<-x.parts];show _ac _ h
def Sl.frz_as{x:Sl}(h:a>x.ÿ):a>x.as:=by rw[<-x.parts];show _ab _ h
def Sl.as_of{x:Sl}(h:a>x.as):a>x.ì\/a>x.ÿ:=by rw[<-x.parts]at h;show aA h
def Sl.let(x:Sl):Sl:={x with o:=.x}
abbrev Ls:=List (Option Sl)
def j7(L:Ls):List Addr:=L.flatMap λx=>x.ë [] Sl.ì
def jW(L:Ls):List Addr:=L.flatMap λx=>x.ë [] Sl.ÿ
@[simp] theorem wzl:j7 []=[]:=rfl
@[simp] theorem ww2:jW []=[]:=rfl
@[simp] theorem jz x (L:Ls):j7 (⇑x::L)=x.own++j7 L:=by rfl
@[simp] theorem v4 x (L:Ls):jW (⇑x::L)=x.frz++jW L:=by rfl
@[simp] theorem qvl (L:Ls):j7 (none::L)=j7 L:=by rfl
@[simp] theorem qjt (L:Ls):jW (none::L)=jW L:=by rfl
@[simp] theorem k5 (L T):j7 (L++T)=j7 L++j7 T:=by simp[j7]
@[simp] theorem qK (L T):jW (L++T)=jW L++jW T:=by simp[jW]
def mem_owned:a>j7 L↔∃x,@x>L/\a>x.ì:=by
 ext j7;rw[List.mem_flatMap];constructor
 .rintro ⟨y,hy,h⟩;cases y with|none=>symm|some x=>show#[x,hy,h]
 .rintro ⟨x,hx,h⟩;show#[@x,hx,h]
def mem_frozen:a>jW L↔∃x,@x>L/\a>x.ÿ:=by
 ext jW;rw[List.mem_flatMap];constructor
 .rintro ⟨y,hy,h⟩;cases y with|none=>symm|some x=>show#[x,hy,h]
 .rintro ⟨x,hx,h⟩;show#[@x,hx,h]
def Sl.ok(K:Frag)(H:Hp)(x:Sl):Prop:=RepO K H x.o x.d x.v x.as
def Sl.ok.al{K}{x:Sl}(h:x.ok K H):∀a>x.as,(∃xs,H a=@(.L xs))\/(∃ φ,H a=@(.ext φ))\/∃ab,H a=@(.dK ab):=(RepO.wk h).al
def Sl.ok.some{K}{x:Sl}(h:x.ok K H)(ha:a>x.as):H a≠none:=λz=>by
 let#[xs,e]\/#[xs,e]\/#[xs,e]:=h.al a ha<;>(rw[z]at e;cases e)
structure World (K:Frag)(H:Hp)(L:Ls):Prop where
 ok:∀x,@x>L->x.ok K H
 nd:(j7 L).U
 ds:∀a>j7 L,a∉jW L
structure Step (H:Hp)(L:Ls)(H':Hp)(L':Ls):Prop where
 keep:∀a ob,H a=@ob->a∉j7 L->H' a=@ob
 own:∀a>j7 L',a>j7 L\/H a=none
 frz:∀a>jW L',a>jW L\/a>j7 L\/H a=none
section
variable {K:Frag}{H H1 H2 H':Hp}{L L1 L2' L' T:Ls}{x y:Sl}
def World.own_al(w:World K H L)(h:a>j7 L):(∃xs,H a=@(.L xs))\/(∃ φ,H a=@(.ext φ))\/∃ab,H a=@(.dK ab):=by
 let#[x,hx,ha]:=mem_owned.mp h;show(w.ok x hx).al a (Sl.own_as ha)
def World.own_some(w:World K H L)(h:a>j7 L):H a≠none:=by
 let#[x,hx,ha]:=mem_owned.mp h;show(w.ok x hx).some (Sl.own_as ha)
def World.frz_some(w:World K H L)(h:a>jW L):H a≠none:=by
 let#[x,hx,ha]:=mem_frozen.mp h;show(w.ok x hx).some (Sl.frz_as ha)
def Step.ñ:Step H L H L:=#[λ_ _ h _=>h,λ_ h=>.O h,λ_ h=>.O h]
def Step.I(a:Step H L H1 L1)(b:Step H1 L1 H2 L2'):Step H L H2 L2' where
 keep:=λc ob h hn=>b.keep c ob (a.keep c ob h hn) λz=>(a.ì c z).ë hn λe=>by rw[h]at e;cases e
 own:=λc hc=>by
  let z\/z:=b.ì c hc
  .show a.ì c z
  .by_cases h:c>j7 L
   .show .O h
   .show .Z ?_;cases e:H c with|none=>rfl|some ob=>rw[a.keep c ob e h]at z;cases z
 frz:=λc hc=>by
  let z\/z\/z:=b.ÿ c hc
  .show a.ÿ c z
  .show .Z (a.ì c z)
  .by_cases h:c>j7 L
   .show .Z (.O h)
   .show .Z (.Z ?_);cases e:H c with|none=>rfl|some ob=>rw[a.keep c ob e h]at z;cases z
def Step.kp(a:Step H L H' L')(w:World K H L)(h:∀b>as,b∉j7 L):Kp H H' as:=by
 let no:∀b ob,H b=@ob->(∀xs,ob≠.L xs)->(∀ φ,ob≠.ext φ)->(∀ab,ob≠.dK ab)->H' b=@ob:=λb ob e h1 h2 h3=>a.keep b ob e λz=>by
  let _\/_\/_:=w.own_al z
  .grind
  .grind
  .grind
 show#[λb xs e=>no b _ e (λ_ z=>(nomatch z)) (λ_ z=>(nomatch z)) (λ_ z=>(nomatch z)),λb o u e=>no b _ e (λ_ z=>(nomatch z)) (λ_ z=>(nomatch z)) (λ_ z=>(nomatch z)),λb hb ob e=>a.keep b ob e (h b hb)]
def Step.frame(a:Step H L H' L')(w:World K H (L++T))(w':World K H' L')(wL:World K H L):World K H' (L'++T):=by
 let nd:=w.nd;rw [k5,X9]at nd;let dis:=λb hb hT=>nd.2.2 b hb b hT rfl
 let okT:=λx hx=>w.ok x (_ab _ hx)
 let nT:∀x,@x>T->∀b>x.as,b∉j7 L:=λx hx b hb hL=>by
  let z\/z:=Sl.as_of hb
  .show dis b hL (mem_owned.y #[x,hx,z])
  .show w.ds b (by rw[k5];show _ac _ hL) ?_;rw[qK];show _ab _ (mem_frozen.y #[x,hx,z])
 show#[λx hx=>?_,?_,λb hb=>?_]
 .let hx\/hx:=aA hx
  .show w'.ok x hx
  .show(okT x hx).kp (a.kp wL (nT x hx))
 .rw[k5,X9];show#[w'.nd,nd.2.1,λb hb c hc e=>?_];subst e;let#[x,hx,jo]:=mem_owned.mp hc;let z\/z:=a.ì b hb
  .show dis b z hc
  .show(okT x hx).some (Sl.own_as jo) z
 .rw[k5]at hb;rw[qK];intro hf;let hb\/hb:=aA hb
  .let hf\/hf:=aA hf
   .show w'.ds b hb hf
   .let#[x,hx,jo]:=mem_frozen.mp hf;let z\/z:=a.ì b hb
    .show nT x hx b (Sl.frz_as jo) z
    .show(okT x hx).some (Sl.frz_as jo) z
  .let hf\/hf:=aA hf
   .let#[x,hx,jo]:=mem_owned.mp hb;let z\/z\/z:=a.ÿ b hf
    .show w.ds b (by rw[k5];show _ab _ hb) (by rw[qK];show _ac _ z)
    .show dis b z hb
    .show(okT x hx).some (Sl.own_as jo) z
   .show w.ds b (by rw[k5];show _ab _ hb) (by rw[qK];show _ab _ hf)
def World.left(w:World K H (L++T)):World K H L:=by
 let nd:=w.nd;rw[k5,X9]at nd;show#[λx hx=>w.ok x (_ac _ hx),nd.1,λa ha hf=>w.ds a (by rw[k5];show _ac _ ha) (by rw[qK];show _ac _ hf)]
def World.right(w:World K H (L++T)):World K H T:=by
 let nd:=w.nd;rw[k5,X9]at nd;show#[λx hx=>w.ok x (_ab _ hx),nd.2.1,λa ha hf=>w.ds a (by rw[k5];show _ab _ ha) (by rw[qK];show _ab _ hf)]
def World.comm(w:World K H (L++T)):World K H (T++L):=by
 show#[λx hx=>w.ok x ?_,?_,λa ha hf=>w.ds a ?_ ?_]
 .grind
 .let nd:=w.nd;rw[k5,X9]at nd ⊢;show#[nd.2.1,nd.1,λa ha b hb e=>nd.2.2 b hb a ha e.s]
 .rw[k5]at ha ⊢;let h\/h:=aA ha
  .show _ab _ h
  .show _ac _ h
 .rw[qK]at hf ⊢;let h\/h:=aA hf
  .show _ab _ h
  .show _ac _ h
def World.tail(w:World K H (q::L)):World K H L:=World.right (L:=[q]) w
def World.head(w:World K H (@x::L)):x.ok K H:=w.ok x X2
def World.apart(w:World K H (@x::L)):∀a>x.as,a∉j7 L:=λa ha hL=>by
 let z\/z:=Sl.as_of ha
 .let nd:=w.nd;rw[jz,X9]at nd;show nd.2.2 a z a hL rfl
 .show w.ds a (_ab _ hL) (_ac _ z)
def World.ê(w:World K H L)(h:x.ok K H)(n:x.ì.U)(h1:∀a>x.ì,a∉j7 L)(h2:∀a>x.ì,a∉jW L)(h3:∀a>x.ÿ,a∉j7 L)(h4:∀a>x.ì,a∉x.ÿ):World K H (@x::L):=by
 show#[λy hy=>?_,?_,λa ha hf=>?_]
 .let z\/z:=aD hy
  .symm
  .show w.ok y z
 .rw[jz,X9];show#[n,w.nd,λa ha b hb e=>by subst e;show h1 a ha hb]
 .let ha\/ha:=aA ha
  .symm
  .let hf\/hf:=aA hf
   .show h3 a hf ha
   .show w.ds a ha hf
def World.consNo(w:World K H L)(h:x.ok K H)(ho:x.o=.x)(h3:∀a>x.as,a∉j7 L):World K H (@x::L):=by
 let e1:x.ì=[]:=by ext Sl.ì;rw[ho]
 let e2:x.ÿ=x.as:=by ext Sl.ÿ;rw[ho]
 show w.ê h (by symm) (e1▸nofun) (by symm) (e2▸h3) (by symm)
def World.consPu(w:World K H L)(h:x.ok K H)(e:x.as=[]):World K H (@x::L):=by
 let e1:∀a,a∉x.ì:=λa ha=>by let:=Sl.own_as ha;rw[e]at this;show nomatch this
 let e2:∀a,a∉x.ÿ:=λa ha=>by let:=Sl.frz_as ha;rw[e]at this;show nomatch this
 let e3:=List.eq_nil_iff_forall_not_mem.y e1;show w.ê h (by symm) (λa z=>absurd z (e1 a)) (λa z=>absurd z (e1 a)) (λa z=>absurd z (e2 a)) (λa z=>absurd z (e1 a))
def _dQ(h:@y>L.u i q):q=@y\/@y>L:=by
 let z\/z:=List.mem_or_eq_of_mem_set h
 .show .Z z
 .show .O z.s
def ZW(h:a>j7 (L.u i @x)):a>x.ì\/a>j7 L:=by
 let#[y,hy,ha]:=mem_owned.mp h;let z\/z:=_dQ hy
 .symm
 .show .Z (mem_owned.y #[y,z,ha])
def _dR(h:a>jW (L.u i @x)):a>x.ÿ\/a>jW L:=by
 let#[y,hy,ha]:=mem_frozen.mp h;let z\/z:=_dQ hy
 .symm
 .show .Z (mem_frozen.y #[y,z,ha])
def _dS:∀{L i},(x.ì++j7 L).U->(j7 (L.u i @x)).U
 |[],_,h=>by simp
 |q::L,0,h=>by
  rw[List.ö,jz];let e:j7 (q::L)=q.ë [] Sl.ì++j7 L:=by rfl
  rw[e,X9]at h;let#[h1,h2,h3]:=h;rw[X9]at h2 ⊢;show#[h1,h2.2.1,λa ha b hb=>h3 a ha b (_ab _ hb)]
 |q::L,i+1,h=>by
  rw[List.ø];let e:∀M,j7 (q::M)=q.ë [] Sl.ì++j7 M:=λM=>by rfl
  rw[e]at h ⊢;rw[X9]at h;let#[h1,h2,h3]:=h;rw[X9]at h2;rw[X9];show#[h2.1,_dS (by rw[X9];show#[h1,h2.2.1,λa ha b hb=>h3 a ha b (_ab _ hb)]),λa ha b hb e=>?_];subst e;let z\/z:=ZW hb
  .show h3 a z a (_ac _ ha) rfl
  .show h2.2.2 a ha a z rfl
def World.u(w:World K H (@x::L)):World K H (L.u i @x):=by
 show#[λy hy=>?_,_dS (by let:=w.nd;rwa [jz]at this),λa ha hf=>?_]
 .let z\/z:=_dQ hy
  .cases z;show w.head
  .show w.ok y (_ad _ z)
 .show w.ds a ?_ ?_
  .rw[jz];show List.mem_append.y (ZW ha)
  .rw[v4];show List.mem_append.y (_dR hf)
def Step.u:Step H (@x::L) H (L.u i @x) where
 keep:=λ_ _ h _=>h
 own:=λa ha=>.O (List.mem_append.y (ZW ha))
 frz:=λa ha=>.O (List.mem_append.y (_dR ha))
def Step.drop:Step H (q::L) H L where
 keep:=λ_ _ h _=>h
 own:=λa ha=>.O (by rw[show(q::L:Ls)=[q]++L from rfl];show _ab _ ha)
 frz:=λa ha=>.O (by rw[show(q::L:Ls)=[q]++L from rfl];show _ab _ ha)
def vQ{i:Nat}(h:L[i]?=some @x):@x>L:=Y5 h
def _dT(x:Sl):x.let.ì=[]/\x.let.ÿ=x.as/\x.let.as=x.as:=#[rfl,rfl,rfl]
def _dU(h:a>j7 (L.u i @x.let)):a>j7 L:=by
 let z\/z:=ZW h
 .show nomatch z
 .show z
def _dV:∀{L i},(j7 L).U->(∀a>j7 L,a∉jW L)->L[i]?=@(@x)->∀a>x.as,a∉j7 (L.u i @x.let)
 | [],_,_,_,h,_,_=>by symm
 | q::L,0,nd,ds,h,a,ha=>by
  let e:q=@x:= ~~~h
  subst e;intro hm;let z\/z:=Sl.as_of ha
  .rw[jz,X9]at nd;show nd.2.2 a z a hm rfl
  .show ds a (_ab _ hm) (_ac _ z)
 | q::L,i+1,nd,ds,h,a,ha=>by
  let e:∀M,j7 (q::M)=q.ë [] Sl.ì++j7 M:=λM=>by rfl
  let f:jW (q::L)=q.ë [] Sl.ÿ++jW L:=by rfl
  intro hm;rw[e,X9]at nd;let hm\/hm:=aA hm
  .let z\/z:=Sl.as_of ha
   .show nd.2.2 a hm a (mem_owned.y #[x,vQ h,z]) rfl
   .show ds a (_ac _ hm) (by rw[f];show _ab _ (mem_frozen.y #[x,vQ h,z]))
  .show _dV nd.2.1 (λb hb hf=>ds b (_ab _ hb) (f▸_ab _ hf)) h a ha hm
def xZ(h:x.ok K H):x.let.ok K H:=RepO.wk h
def World.let(w:World K H L)(h:L[i]?=some @x):World K H (L.u i @x.let):=by
 show#[λy hy=>?_,_dS ((_dT x).1▸w.nd),λa ha hf=>?_]
 .let z\/z:=_dQ hy
  .cases z;show xZ (w.ok x (vQ h))
  .show w.ok y z
 .let z\/z:=_dR hf
  .show(_dV w.nd w.ds h) a z ha
  .show w.ds a (_dU ha) z
def World.read(w:World K H L)(h:L[i]?=some @x):World K H (@x.let::L.u i @x.let):=
 (w.let h).consNo (xZ (w.ok x (vQ h))) rfl (_dV (x:=x) w.nd w.ds h)
def Step.read(h:L[i]?=some @x):Step H L H (@x.let::L.u i @x.let) where
 keep:=λ_ _ h _=>h
 own:=λa ha=>.O (_dU ha)
 frz:=λa ha=>by
  let hx:=vQ h;let q:∀a>x.as,a>jW L\/a>j7 L\/H a=none:=λa ha=>by
   let z\/z:=Sl.as_of ha
   .show .Z (.O (mem_owned.y #[x,hx,z]))
   .show .O (mem_frozen.y #[x,hx,z])
  let z\/z:=aA ha
  .show q a z
  .let z\/z:=_dR z
   .show q a z
   .show .O z
end
inductive Mt:En->L2.St->Ls->Prop
 |nil:Mt [] [] []
 |un {E:En} {σ:L2.St} {L:Ls} {y:Option V}:Mt E σ L->Mt (none::E) (y :: σ) (none::L)
 |cons {E:En} {σ:L2.St} {L:Ls} {x:Sl}:Mt E σ L->Mt (@(x.o,x.d)::E) (@x.v :: σ) (@x::L)
def Mt.get:∀{E σ L} {i:Nat} {o d},Mt E σ L->E[i]?=@(@(o,d))->∃x,L[i]?=some @x/\x.o=o/\x.d=d/\σ[i]?=some @x.v
 |_,_,_,_,_,_,.nil,h=>by symm|_,_,_,0,_,_,.un _,h=>by symm|_,_,_,i+1,_,_,.un m,h=>by simpa using m.get (~~~h)
 |_,_,_,0,_,_,.ê (x:=x) m,h=>by
  simp at h;show#[x,by rfl,h.1,h.2,by rfl]
 |_,_,_,i+1,_,_,.ê m,h=>by simpa using m.get (~~~h)
def Mt.u:∀{E σ L} (i),Mt E σ L->Mt (E.u i @(x.o,x.d)) (σ.u i @x.v) (L.u i @x)
 |_,_,_,_,.nil=>.nil|_,_,_,0,.un m=>.ê m|_,_,_,i+1,.un m=>.un (m.u i)|_,_,_,0,.ê m=>.ê m|_,_,_,i+1,.ê m=>.ê (m.u i)
def Mt.let:∀{E σ L i},Mt E σ L->L[i]?=@(@x)->Mt (E.u i @(.x,x.d)) σ (L.u i @x.let)
 |_,_,_,_,.nil,h=>by symm|_,_,_,i+1,.un m,h=>.un (m.let (~~~h))
 |_,_,_,0,.ê (x:=y) m,h=>by
  let e:y=x:= ~~~h
  subst e;show .ê (x:=y.let) m
 |_,_,_,i+1,.ê m,h=>.ê (m.let (~~~h))
def Mt.len:∀{E σ L},Mt E σ L->E.B=σ.B/\L.B=σ.B
 |_,_,_,.nil=>#[rfl,rfl]|_,_,_,.un m=>by simp[m.len]|_,_,_,.ê m=>by simp[m.len]
def sls(L:Ls):List Sl:=L.filterMap id
def Qw L:j7 L=(sls L).flatMap Sl.ì:=by
 induction L with
 |nil=>rfl
 |cons q L ih=>
  cases q with|none=>rw[qvl,ih];rfl|some x=>rw[jz,ih];rfl
def V7 L:jW L=(sls L).flatMap Sl.ÿ:=by
 induction L with
 |nil=>rfl
 |cons q L ih=>
  cases q with|none=>rw[qjt,ih];rfl|some x=>rw[v4,ih];rfl
def mem_sls:x>sls L↔@x>L:=by simp[sls]
@[simp] theorem WV (L T):sls (L++T)=sls L++sls T:=by simp[sls]
@[simp] theorem vvj (L:Ls):sls (none::L)=sls L:=rfl
@[simp] theorem xql (x:Sl)(L:Ls):sls (⇑x::L)=x::sls L:=rfl
@[simp] theorem xvh:sls []=[]:=rfl
@[simp] theorem xvi T:sls (T.map some)=T:=by simp[sls]
@[simp] theorem xvg k:sls (List.replicate k none)=[]:=by
 induction k with|zero=>rfl|succ k ih=>rw[List.replicate_succ,vvj,ih]
def _dW(f:α->List β){l l':List α}(h:l.Sublist l'):(l.flatMap f).Sublist (l'.flatMap f):=by
 induction h with|slnil=>show Zu _|cons a _ ih=>rw[List.flatMap_cons];show List.Sublist.I ih (List.sublist_append_right _ _)|cons_cons a _ ih=>rw[List.flatMap_cons];show List.Sublist.append (Zu _) ih
section
variable {K:Frag}
def World.same(w:World K H L)(p:(sls L).ä (sls L')):World K H L':=by
 let po:(j7 L).ä (j7 L'):=by rw[Qw,Qw];show p.flatMap_right _
 let pf:(jW L).ä (jW L'):=by rw[V7,V7];show p.flatMap_right _
 show#[λx hx=>w.ok x (mem_sls.mp (p.è.y (mem_sls.y hx))),po.nodup_iff.mp w.nd,λa ha hf=>w.ds a (po.è.y ha) (pf.è.y hf)]
def Step.same(s:Step H L H' L')(p:(sls L).ä (sls M))(p':(sls L').ä (sls M')):Step H M H' M':=by
 let po:(j7 L).ä (j7 M):=by rw[Qw,Qw];show p.flatMap_right _
 let pf:(jW L).ä (jW M):=by rw[V7,V7];show p.flatMap_right _
 let po':(j7 L').ä (j7 M'):=by rw[Qw,Qw];show p'.flatMap_right _
 let pf':(jW L').ä (jW M'):=by rw[V7,V7];show p'.flatMap_right _
 show#[λa ob h hn=>s.keep a ob h λz=>hn (po.è.mp z),λa ha=>(s.ì a (po'.è.y ha)).imp (λz=>po.è.mp z) id,
  λa ha=>(s.ÿ a (pf'.è.y ha)).imp (λz=>pf.è.mp z) λz=>z.imp (λz=>po.è.mp z) id]
def World.sub(w:World K H L)(p:(sls L').Sublist (sls L)):World K H L':=by
 show#[λx hx=>w.ok x (mem_sls.mp (p.subset (mem_sls.y hx))),?_,λa ha hf=>w.ds a ?_ ?_]
 .let:=w.nd;rw[Qw]at this ⊢;show(_dW _ p).nodup this
 .rw[Qw]at ha ⊢;show(_dW _ p).subset ha
 .rw[V7]at hf ⊢;show(_dW _ p).subset hf
def Step.sub(s:Step H L H' L')(p:(sls M).Sublist (sls L')):Step H L H' M:=by
 show#[s.keep,λa ha=>s.ì a ?_,λa ha=>s.ÿ a ?_]
 .rw[Qw]at ha ⊢;show(_dW _ p).subset ha
 .rw[V7]at ha ⊢;show(_dW _ p).subset ha
end
def _dX:∀{L:Ls} {j},(sls (at' L j::L.u j none)).ä (sls L)
 | [],j=>by simp[at']
 | q::L,0=>by
  cases q with|none=>simp[at']|some x=>simp[at']
 | q::L,j+1=>by
  let ih:=_dX (L:=L) (j:=j);let e:at' (q::L) (j+1)=at' L j:=by rfl
  rw[e];let e2:∀a b M,(sls (a::b::M)).ä (sls (b::a::M)):=λa b M=>by
   cases a<;>cases b<;>simp
   show List.ä.swap ..
  show(e2 _ _ _).I ?_;cases q with|none=>simpa [sls]using ih|some y=>simpa [sls]using ih
def _dY:∀{R} {L:Ls},R.U->(sls (R.C (at' L)++clr R L)).ä (sls L)
 | [],L,_=>by simp[clr]
 | j::R,L,h=>by
  rw[Yh]at h;let e:R.C (at' L)=R.C (at' (L.u j none)):=by
   apply Xw;intro i hi;let:j≠i:=λe=>h.1 (e▸hi)
   ext at';rw[Yi this]
  rw[List.l,clr,e];let ih:=_dY (L:=L.u j none) h.2;show List.ä.I ?_ (_dX (j:=j));cases hq:at' L j with|none=>simpa [sls]using ih|some x=>simpa [sls]using ih
def _dZ:∀{R} {L:List (Option α)},(clr R L).B=L.B
 |[],_=>rfl|j::R,L=>by rw[clr,_dZ,Z6]
def _d0:∀{R} {L:List (Option α)} {j},j>R->at' (clr R L) j=none
 | [],_,_,h=>by grind
 | i :: R,L,j,h=>by
  rw [clr]
  by_cases hR:j>R
  .show _d0 hR
  .let e:j=i:=by simpa [hR]using h
   subst e;let gen:∀{R} {M:List (Option α)},j∉R->at' (clr R M) j=at' M j:=by
    intro R
    induction R with
    |nil=>intro M _;rfl
    |cons r R ih=>
     intro M h;rw[Zh,not_or]at h;rw[clr,ih h.2];ext at';rw[Yi (Ne.s h.1)]
   rw[gen hR];ext at'
   by_cases hl:j<L.B
   .rw[Z0 hl];rfl
   .rw[List.set_eq_of_length_le .q,Y2 .q];rfl
def _d1:∀{R} {B L:Ls},R.U->(∀j>R,at' L j=none)->(∀j>R,j<L.B)->B.B=R.B->(sls (back R B L)).ä (sls (B++L))
 | [],B,L,_,_,_,hl=>by
  let:B=[]:= ~~~hl
  subst this;simp [back]
 | j :: R,q::B,L,hn,hz,hr,hl=>by
  rw [Yh]at hn;let ih:=_d1 (L:=L.u j q) hn.2 (λi hi=>by
   let:j≠i:=λe=>hn.1 (e▸hi)
   ext at';rw [Yi this];show hz i (_ad _ hi)) (λi hi=>by rw[Z6];show hr i (_ad _ hi)) (~~~hl)
  show ih.I ?_;let sp:∀{M i},at' M i=none->i<M.B->(sls (M.u i q)).ä (sls (q::M)):=by
   intro M
   induction M with
   | nil=>intro i _ h;simp at h
   | cons r M ihM=>
    intro i h1 h2;cases i with
    | zero=>
     let:r=none:=by simpa [at']using h1
     subst this;cases q<;>rfl
    | succ i=>
     let:=ihM (by simpa [at']using h1) (~~~h2);cases r with
     | none=>cases q<;>simpa [sls]using this
     | some y=>
      cases q with
      |none=>simpa [sls]using this
      |some x=>
       show(this.ê y).I (List.ä.swap ..)
  rw[WV];let h2:(sls B++sls _).ä _:=(sp (hz j X2) (hr j X2)).append_left _;show h2.I ?_;cases q with
  |none=>simp
  |some x=>
   dsimp[WV];show List.perm_middle
section
variable {K:Frag}
def YY(p:L.ä L'):(j7 L).ä (j7 L'):=p.flatMap_right _
def _d2(p:L.ä L'):(jW L).ä (jW L'):=p.flatMap_right _
def World.perm(w:World K H L)(p:L.ä L'):World K H L':=
 #[λx hx=>w.ok x (p.è.y hx),(YY p).nodup_iff.mp w.nd,λa ha hf=>w.ds a ((YY p).è.y ha) ((_d2 p).è.y hf)]
def Step.perm(s : Step H L H' L')(p : L.ä M)(p' : L'.ä M'): Step H M H' M':=
  #[λa ob h hn=>s.keep a ob h λz=>hn ((YY p).è.mp z),
   λa ha=>(s.ì a ((YY p').è.y ha)).imp (λz=>(YY p).è.mp z) id,
   λa ha=>(s.ÿ a ((_d2 p').è.y ha)).imp (λz=>(_d2 p).è.mp z) λz=>z.imp (λz=>(YY p).è.mp z) id]
def Step.frm(s:Step H L H' L'):Step H (L++T) H' (L'++T) where
 keep:=λa ob h hn=>s.keep a ob h λz=>hn (by rw[k5];show _ac _ z)
 own:=λa ha=>by
  rw[k5]at ha ⊢;let z\/z:=aA ha
  .show(s.ì a z).imp (_ac _) id
  .show .O (_ab _ z)
 frz:=λa ha=>by
  rw[qK]at ha ⊢;rw[k5];let z\/z:=aA ha
  .show(s.ÿ a z).imp (_ac _) λz=>z.imp (_ac _) id
  .show .O (_ab _ z)
def XQ(w:World K H (T++L))(s:Step H L H' L')(w':World K H' L'):World K H' (T++L')/\Step H (T++L) H' (T++L'):=by
 let w1:=w.comm;show#[(s.frame w1 w' w1.left).comm,s.frm.perm List.perm_append_comm List.perm_append_comm]
end
def ex8{P:Prop}{a b c d e:α->β->γ->Prop}(h:∃x y z,a x y z/\b x y z/\c x y z/\d x y z/\e x y z)(f:∀x y z,a x y z->b x y z->c x y z->d x y z->e x y z->P):P:=
 h.ë λx h=>h.ë λy h=>h.ë λz h=>f x y z h.1 h.2.1 h.2.2.1 h.2.2.2.1 h.2.2.2.2
def ex7{P:Prop}{a b c d:α->β->γ->Prop}(h:∃x y z,a x y z/\b x y z/\c x y z/\d x y z)(f:∀x y z,a x y z->b x y z->c x y z->d x y z->P):P:=
 h.ë λx h=>h.ë λy h=>h.ë λz h=>f x y z h.1 h.2.1 h.2.2.1 h.2.2.2
def qv(h:PE X e t)(w:∀ σ H Q,t' σ H Q->t σ H Q):PE X e t':=λa9 s σ H Q I q=>h a9 s σ H Q I (w σ H Q q)
def _d3(h:PT X e t)(w:∀ σ H Q,t' σ H Q->t σ H Q):PT X e t':=λa9 s σ H Q I q=>h a9 s σ H Q I (w σ H Q q)
def z0(h:PS X e t)(w:∀D σ H,t' D σ H->t D σ H):PS X e t':=λa9 s σ H D I q=>h a9 s σ H D I (w D σ H q)
def _d4(h:PSs X e t)(w:∀D σ H,t' D σ H->t D σ H):PSs X e t':=λa9 s σ H D I q=>h a9 s σ H D I (w D σ H q)
structure Fx0 where
 K:Frag
 mg:Str->Option Value
 EX:XK
def Xc(Z:Fx0)(σ:L2.St)(H:Hp)(L:Ls)(r:Res α):Prop:=∀E' c,r=.exc E' c->∀C L' H',Z.mg c=@(.J C)->Mt E' σ L'->World Z.K H' L'->Step H L H' L'->Z.EX (.J C) none H'
def Xc.step{α Z σ H H1 L L1}{r:Res α}(x:Xc Z σ H L r)(s:Step H L H1 L1):Xc Z σ H1 L1 r:=λE' c e C L' H' hm m w s'=>x E' c e C L' H' hm m w (s.I s')
def Xc.C(x:Xc Z σ H L r)(e:r=.exc E' c):Xc Z σ H L (.exc E' c:Res β):=λE1 c1 e1=>by
 injection e1 with h1 h2;subst h1 h2;show x _ _ e
def tQ(Z:Fx0)(q:Bool)(c:Ex):TE:=fun σ H Q=>∃E L r,Mt E σ L/\World Z.K H L/\c E=@r/\Xc Z σ H L r /\
 ∀E' a,r=.ok E' a->∀(x:Sl) L' H',x.o=a.1->x.d=a.2->Mt E' σ L'->World Z.K H' (@x::L')->Step H L H' (@x::L')->(q=true->kj H H'/\∀b>x.ì,H b=none)->Q x.v H'
def Src(H:Hp)(L:Ls)(as:List Addr):Prop:=∀b>as,b>jW L\/b>j7 L\/H b=none
def Src.back(h:Src H1 L1 as)(s:Step H L H1 L1):Src H L as:=λb hb=>by
 let z\/z\/z:=h b hb
 .show s.ÿ b z
 .show .Z (s.ì b z)
 .by_cases ho:b>j7 L
  .show .Z (.O ho)
  .show .Z (.Z ?_);cases e:H b with|none=>rfl|some ob=>rw[s.keep b ob e ho]at z;cases z
def tV(Z:Fx0)(q:Bool)(c:Ex):TE:=fun σ H Q=>∃E L r,Mt E σ L/\World Z.K H L/\c E=@r/\Xc Z σ H L r /\
 ∀E' a,r=.ok E' a->∀(x:Sl) L' H',x.o=a.1->x.d=a.2->Mt E' σ L'->World Z.K H' L'->x.ok Z.K H'->(∀b>x.ÿ,b∉j7 L')->Src H L x.as->Step H L H' L'->(q=true->kj H H')->Q x.v H'
def QE(X:Cx)(Z:Fx0)(q:Bool)(c:Ex)(e:Expr):Prop:=PE X e (tQ Z q c)
def QV(X:Cx)(Z:Fx0)(q:Bool)(c:Ex)(e:Expr):Prop:=PE X e (tV Z q c)
section
variable {Z:Fx0}{a b c:Ex}{H:Hp}
def wY(h:bnd m F=@r):(∃E1 x,m=@(.ok E1 x)/\F E1 x=@r)\/∃E1 c,m=@(.exc E1 c)/\r=.exc E1 c:=by
 cases m with
 |none=>cases h
 |some q=>
  cases q with|ok E1 x=>show .O #[E1,x,rfl,h]|exc E1 c=>show .Z #[E1,c,rfl,(_aa h).s]
def VQ(m:Mt E σ L)(w:World Z.K H L)(h:bnd (a E) F=@r)(xc:Xc Z σ H L r)
  (k:∀E1 s,F E1 s=@r->∀x L1 H1,x.o=s.1->x.d=s.2->Mt E1 σ L1->World Z.K H1 (@x::L1)->Step H L H1 (@x::L1)->(q=true->kj H H1/\∀b>x.ì,H b=none)->G x.v H1):tQ Z q a σ H G:=by
 let#[E1,s,h1,h2]\/#[E1,c,h1,h2]:=wY h
 .show#[E,L,_,m,w,h1,(λ_ _ z=>by cases z),λE' s' z x L' H' e1 e2 m' w' st sm=>by
   injection z with z1 z2;subst z1 z2;show k _ _ h2 x L' H' e1 e2 m' w' st sm]
 .show#[E,L,_,m,w,h1,xc.C h2,λE' s' z=>by cases z]
def vJ(m:Mt E σ L)(w:World Z.K H L)(h:bnd (a E) F=@r)(xc:Xc Z σ H L r)
  (k:∀E1 s,F E1 s=@r->∀(x:Sl) L1 H1,x.o=s.1->x.d=s.2->Mt E1 σ L1->World Z.K H1 L1->x.ok Z.K H1->(∀b>x.ÿ,b∉j7 L1)->Src H L x.as->Step H L H1 L1->(q=true->kj H H1)->G x.v H1):tV Z q a σ H G:=by
 let#[E1,s,h1,h2]\/#[E1,c,h1,h2]:=wY h
 .show#[E,L,_,m,w,h1,(λ_ _ z=>by cases z),λE' s' z x L' H' e1 e2 m' w' ok fr sr st sm=>by
   injection z with z1 z2;subst z1 z2;show k _ _ h2 x L' H' e1 e2 m' w' ok fr sr st sm]
 .show#[E,L,_,m,w,h1,xc.C h2,λE' s' z=>by cases z]
def W6{x:Sl}{K}(ok:x.ok K H1)(fr:∀b>x.ÿ,b∉j7 L1)(st:Step H1 L1 H2 L2')(sm:kj H1 H2):x.ok K H2/\∀b>x.ÿ,b∉j7 L2':=
 #[RepO.kp ok (Kp.of_same sm),λb hb ho=>(st.ì b ho).ë (fr b hb) λz=>ok.some (Sl.frz_as hb) z]
def J8(h:val E x=@r):∃y,x=@y/\r=.ok E y:=by
 cases x with|none=>cases h|some y=>show#[y,rfl,(_aa h).s]
def _d5(st:Step H L H1 (@x::L1)):Src H L x.as:=λb hb=>by
 let z\/z:=Sl.as_of hb
 .show .Z (st.ì b (_ac _ z))
 .show st.ÿ b (_ac _ z)
def j8(h:QE X Z q c e):QV X Z q (vE c) e:=qv h fun σ H Q am=>ex8 am λE L r m w hc xc k=>
 VQ m w hc xc λE1 s h1 x L1 H1 e1 e2 m1 w1 st sm=>by
  cases _aa h1;show k _ _ rfl x.let L1 H1 rfl e2 m1 w1.tail (xZ w1.head) (λb hb=>w1.apart b hb) (_d5 (x:=x) st) (st.I Step.drop) λhq=>(sm hq).1
def KJ(st:Step H L H1 L1)(sr:Src H L x.as)(ho:x.ì=[]):Step H L H1 (@x::L1) where
 keep:=st.keep
 own:=λb hb=>by rw[jz,ho]at hb;show st.ì b hb
 frz:=λb hb=>by
  let z\/z:=aA hb
  .show sr b (Sl.frz_as z)
  .show st.ÿ b z
def _d6{x:Sl}(h:x.o=.x):x.ì=[]:=by ext Sl.ì;rw[h]
def _d7{x:Sl}(h:x.o=.x):x.ÿ=x.as:=by ext Sl.ÿ;rw[h]
def _d8{x:Sl}(h:x.as=[]):x.ì=[]:=List.eq_nil_iff_forall_not_mem.y λa ha=>by let:=Sl.own_as ha;rw[h]at this;show nomatch this
def kJ(h:QV X Z q c e):QE X Z q (cH c) e:=qv h fun σ H Q am=>ex8 am λE L r m w hc xc k=>
 vJ m w hc xc λE1 s h1 x L1 H1 e1 e2 m1 w1 ok fr sr st sm=>by
  by_cases ho:s.1=.x
  .rw[X7 ho]at h1;cases _aa h1;let eo:=e1.I ho;show k _ _ rfl x L1 H1 eo e2 m1 (w1.consNo ok eo λb hb=>fr b (_d7 eo▸hb)) (KJ st sr (_d6 eo)) λhq=>#[sm hq,by rw[_d6 eo];show λ_ z=>(nomatch z)]
  .rw[Xb ho]at h1
   by_cases hp:s.2.pure=true
   .rw[X7 hp]at h1;cases _aa h1;let#[z,rp]:=RepL.pu (g':=false) (RepO.wk ok) (by symm);show k _ _ rfl #[.dp,x.d,x.v,[]] L1 H1 rfl e2 m1 (w1.consPu rp rfl) (KJ st (nofun) rfl) λhq=>#[sm hq,λ_ z=>(nomatch z)]
   .symm
def q_C(h:PE X e (tC v))(hr:∀H,RepL Z.K H false d v []):QE X Z true (cC d) e:=qv h fun σ H Q am=>ex8 am λE L r m w hc xc k=>by
 cases _aa hc;show k _ _ rfl #[.dp,d,v,[]] L H rfl rfl m (w.consPu (hr H) rfl) (KJ Step.ñ (nofun) rfl) λ_=>#[λ_ _ z=>z,λ_ z=>(nomatch z)]
#where in
def q_V(h:PE X e (vX i)):QE X Z true (cV i) e:=qv h fun σ H Q am=>ex8 am λE L r m w hc xc k=>by
 unfold cV at hc
 split at hc
 .revert o d hE;cases _aa hc;let#[x,h1,h2,h3,h4]:=m.get hE;show#[x.v,h4,k _ _ rfl x.let _ H rfl h3 ?_ (w.read h1) (Step.read h1) λ_=>#[λ_ _ z=>z,λ_ z=>(nomatch z)]];let:=m.let h1
  rwa [h3]at this
 .cases hc
def _d9:∀{E σ} {L} j,Mt E σ L->Mt (E.u j none) σ (L.u j none):=by
 intro E σ L j m
 induction m generalizing j with
 |nil=>show .nil
 |un m ih=>cases j with|zero=>show .un m|succ j=>show .un (ih j)
 |cons m ih=>cases j with|zero=>show .un m|succ j=>show .ê (ih j)
def _ea:∀{L:Ls} {i},L[i]?=@(@x)->(none::L).ä (@x::L.u i none)
 |[],_,h=>by symm
 |q::L,0,h=>by
  let e:q=@x:= ~~~h
  subst e;show List.ä.swap ..
 |q::L,i+1,h=>by
  let:=_ea (~~~h);show(List.ä.swap ..).I ((this.ê q).I (List.ä.swap ..))
#where in
def _eb(h:PE X e (vX i)):QE X Z false (cMv i) e:=qv h fun σ H Q am=>ex8 am λE L r m w hc xc k=>by
 unfold cMv at hc
 split at hc
 .revert s hE;cases _aa hc;let#[x,h1,h2,h3,h4]:=m.get hE;let wn:World Z.K H (none::L):=#[λy hy=>w.ok y (by symm),~~~w.nd,~~~w.ds];let sn:Step H L H (none::L):=#[λ_ _ z _=>z,λa z=>.O (by symm),λa z=>.O (by symm)];show#[x.v,h4,k _ _ rfl x _ H h2 h3 (_d9 i m) (wn.perm (_ea h1)) (sn.I (Step.ñ.perm (List.ä.ñ _) (_ea h1))) λz=>(nomatch z)]
 .cases hc
#where in
def q_vV(h:PE X e (vX i)):QV X Z true (vV i) e:=qv h fun σ H Q am=>ex8 am λE L r m w hc xc k=>by
 unfold vV at hc
 split at hc
 .revert s hE;cases _aa hc;let#[x,h1,h2,h3,h4]:=m.get hE;let hx:=vQ h1;show#[x.v,h4,k _ _ rfl x L H h2 h3 m w (w.ok x hx) (λb hb ho=>w.ds b ho (mem_frozen.y #[x,hx,hb])) (λb hb=>?_) Step.ñ λ_=>λ_ _ z=>z];let z\/z:=Sl.as_of hb
  .show .Z (.O (mem_owned.y #[x,hx,z]))
  .show .O (mem_frozen.y #[x,hx,z])
 .cases hc
structure Out (K:Frag)(H H':Hp)(z:Sl)(fr:List Addr):Prop where
 same:kj H H'
 ok:z.ok K H'
 new:∀b>z.ì,H b=none
 nd:z.ì.U
 fr:∀b>z.ÿ,b>fr
def Ad1(K:Frag)(r:V->Hp->VK->Prop)(f:Sd->Option Sd):Prop:=∀(H:Hp) (x:Sl) (s:Sd) (Q:VK),x.ok K H->f (x.o,x.d)=@s->(∀(z:Sl) H',z.o=s.1->z.d=s.2->Out K H H' z x.ÿ->Q z.v H')->r x.v H Q
def Ad2(K:Frag)(r:R2)(f:Sd->Sd->Option Sd):Prop:=∀(H:Hp) (x y:Sl) (s:Sd) (Q:VK),x.ok K H->y.ok K H->f (x.o,x.d) (y.o,y.d)=@s->(∀(z:Sl) H',z.o=s.1->z.d=s.2->Out K H H' z (x.ÿ++y.ÿ)->Q z.v H')->r x.v y.v H Q
def _ec{K}(s:kj H H')(r:RepL K H' false d v []):Out K H H' #[.dp,d,v,[]] fr:=#[s,r,λ_ h=>(nomatch h),Y7,λ_ h=>(nomatch h)]
noncomputable def xq:kj H H:=λ_ _ z=>z
def kX(a:kj H H1)(b:kj H1 H2):kj H H2:=λc ob h=>b c ob (a c ob h)
def ZZ(w:World Z.K H1 L1)(st:Step H L H1 L1)(o:Out Z.K H1 H2 z fr)(ap:∀b>fr,b∉j7 L1)(al:∀b>fr,H1 b≠none)(sr:Src H L fr):
  World Z.K H2 (@z::L1)/\Step H L H2 (@z::L1):=by
 let w2:World Z.K H2 L1:=#[λx hx=>RepO.kp (w.ok x hx) (Kp.of_same o.same),w.nd,w.ds];show#[w2.ê o.ok o.nd (λb hb ho=>w.own_some ho (o.new b hb)) (λb hb hf=>w.frz_some hf (o.new b hb)) (λb hb=>ap b (o.fr b hb)) (λb hb hf=>al b (o.fr b hf) (o.new b hb)),(#[λb ob h hn=>o.same b ob (st.keep b ob h hn),λb hb=>?_,λb hb=>?_])]
 .let z\/z:=aA hb
  .by_cases ho:b>j7 L
   .show .O ho
   .show .Z ?_;cases e:H b with|none=>rfl|some ob=>let:=o.new b z;rw[st.keep b ob e ho]at this;cases this
  .show st.ì b z
 .let z\/z:=aA hb
  .show sr b (o.fr b z)
  .show st.ÿ b z
def _ed(h:Src H L as)(hb:∀b>bs,b>as):Src H L bs:=λb z=>h b (hb b z)
def _ee(h:Src H L as)(h':Src H L bs):Src H L (as++bs):=λb z=>(aA z).ë (h b) (h' b)
def K4{b}(s:kj H H1)(h:H1 b=none):H b=none:=by
 cases e:H b with|none=>rfl|some ob=>rw[s b ob e]at h;cases h
def _ef(ad:Ad1 Z.K r f)(h:tQ Z q (cF1 f a) σ H Q):tUn r (tV Z q a) σ H Q:=by
 let#[E,L,R,m,w,hc,xc,k]:=h;show vJ m w hc xc λE1 s h1 x L1 H1 e1 e2 m1 w1 ok fr sr st sm=>?_
 let#[z,hz,rfl]:=J8 h1;show ad H1 x z Q ok (by symm) λy H' ho hd o=>?_
 let#[w3,ft]:=ZZ w1 st o fr (λb hb=>ok.some (Sl.frz_as hb)) (_ed sr λb hb=>Sl.frz_as hb);show k _ _ rfl y L1 H' ho hd m1 w3 ft λhq=>#[kX (sm hq) o.same,λb hb=>K4 (sm hq) (o.new b hb)]
def _eg(ad:Ad2 Z.K r f)(h:tQ Z qa (cF2 f a b) σ H Q):tOp r (tV Z qa a) (tV Z true b) σ H Q:=by
 let#[E,L,R,m,w,hc,xc,k]:=h;show vJ m w hc xc λE1 s h1 x L1 H1 e1 e2 m1 w1 ok fr sr st sm=>(vJ m1 w1 h1 (xc.step st) λE2 s2 h2 y L2 H2 e3 e4 m2 w2 ir ug ui bv ff=>?_)
 let#[z,hz,rfl]:=J8 h2;let kx:=W6 ok fr bv (ff rfl);show ad H2 x y z Q kx.1 ir (by symm) λy' H' ho hd o=>?_
 let#[w3,ft]:=ZZ w2 (st.I bv) o (λb hb=>(aA hb).ë (kx.2 b) (ug b)) (λb hb=>(aA hb).ë (λz=>kx.1.some (Sl.frz_as z)) λz=>ir.some (Sl.frz_as z))
  (_ee (_ed sr λb hb=>Sl.frz_as hb) (_ed (ui.back st) λb hb=>Sl.frz_as hb))
 show k _ _ rfl y' L2 H' ho hd m2 w3 ft λhq=>#[kX (sm hq) (kX (ff rfl) o.same),λb hb=>K4 (kX (sm hq) (ff rfl)) (o.new b hb)]
def QK(ho:OpR X (binaryOp op) r)(ad:Ad2 Z.K r f)(ha:QV X Z qa a ea)(hb:QV X Z true b eb):QE X Z qa (cF2 f a b) (.BinOp ea op eb pos):=
 qv (_a3 ho ha hb) fun σ H Q h=>_eg ad h
def _eh(ho:OpR X (compareOp op) r)(ad:Ad2 Z.K r f)(ha:QV X Z qa a ea)(hb:QV X Z true b eb)(hm:behindInMarks op eb=false):QE X Z qa (cF2 f a b) (.Compare ea [op] [eb] pos):=
 qv (_bf ho ha hb hm) fun σ H Q h=>_eg ad h
def RepA.get{K}:∀{ds xs as} {i:Nat} {d},RepA K H g ds xs as->ds[i]?=@d->∃v bs,xs[i]?=@v/\RepL K H g d v bs/\∀b>bs,b>as
 | [],_,_,_,_,_,e=>by symm
 | d::ds,_,_,i,d',h,e=>by
  let#[x,r,bs,cs,rfl,rfl,h1,h2]:=h;cases i with
  |zero=>
   let e:d=d':= ~~~e
   subst e;show#[x,bs,by rfl,h1,λb hb=>_ac _ hb]
  |succ i=>
   let#[v,bf,e1,e2,e3]:=RepA.get h2 (~~~e);show#[v,bf,~~~e1,e2,λb hb=>_ab _ (e3 b hb)]
def RepA.len{K}:∀{ds xs as},RepA K H g ds xs as->ds.B=xs.B
 |[],_,_,h=>by rw[h.1];rfl
 |d::ds,_,_,h=>by
  let#[x,r,bs,cs,rfl,rfl,h1,h2]:=h;simp[RepA.len h2]
def items{K}{x:Sl}(ok:x.ok K H)(h:x.d=.L ds\/x.d=.X ds):∃a xs bs,x.v=.J a/\((x.d=.L ds/\LsR K H a xs)\/(x.d=.X ds/\SqT K H a xs))/\RepA K H (x.o != .dp) ds xs bs/\(∀b>bs,b>x.as)/\(x.o≠.dp->∀b>bs,b>x.ÿ):=by
 let#[o,d,v,as]:=x;let rfl\/rfl:=h
 .cases o with
  |no=>
   let ok:RepL K H true _ v as:=ok;let#[a,xs,bs,rfl,r,q]:=ok;let#[q,rfl]\/#[_,q,rfl]:=q
   .show#[a,xs,bs,rfl,.O #[rfl,.O (.O q)],r,λb hb=>_ad _ hb,λ_ b hb=>_ad _ hb]
   .show#[a,xs,as,rfl,.O #[rfl,.of q],r,λb hb=>hb,λ_ b hb=>hb]
  |rt=>
   let#[a,xs,bs,rfl,r,q,rfl]:=(ok);show#[a,xs,bs,rfl,.O #[rfl,.O (.O q)],r,λb hb=>_ad _ hb,λ_ b hb=>by simpa [Sl.ÿ]using hb]
  |dp=>
   let ok:RepL K H false _ v as:=ok;let#[a,xs,bs,rfl,r,q]:=ok;let#[q,rfl]\/#[z,_]:=q
   .show#[a,xs,bs,rfl,.O #[rfl,.O (.O q)],r,λb hb=>_ad _ hb,λz=>absurd rfl z]
   .symm
 .cases o with
  |no=>
   let#[a,xs,rfl,q,r]:=ok;show#[a,xs,as,rfl,.Z #[rfl,q],r,λb hb=>hb,λ_ b hb=>hb]
  |rt=>show(ok).ë
  |dp=>
   let#[a,xs,rfl,q,r]:=ok;show#[a,xs,as,rfl,.Z #[rfl,q],r,λb hb=>hb,λz=>absurd rfl z]
def JZ{K}{x:Sl}(ok:x.ok K H)(h:x.d=.L ds\/x.d=.X ds)(hl:qV (x.o,x.d)=true):∃a xs bs,x.v=.J a/\((x.d=.L ds/\LsR K H a xs)\/(x.d=.X ds/\SqT K H a xs))/\RepA K H true ds xs bs/\(∀b>bs,b>x.ÿ):=by
 let#[a,xs,bs,e,q,r,h1,h2]:=items ok h
 by_cases ho:x.o=.dp
 .let hp:D.pures ds=true:=by
   unfold qV at hl;rw[show(x.o,x.d).1=Own.dp from ho]at hl;let:_dB x.d=ds:=by let h\/h:=h<;>rw[h]<;>rfl
   simpa [this]using hl
  let#[rfl,r']:=RepA.pu (g':=true) r hp;show#[a,xs,[],e,q,r',nofun]
 .let:(x.o != Own.dp)=true:= ~~~ho
  rw[this]at r;show#[a,xs,bs,e,q,r,h2 ho]
end
section
variable {K:Frag}{x y:Sl}
def qx(ok:x.ok K H)(h:x.d=.E i):x.v=.E i:=by
 let:=RepO.wk ok;rw[h]at this;show this.1
def _ei(ok:x.ok K H)(h:x.d=.bl i):x.v=.bl i:=by
 let:=RepO.wk ok;rw[h]at this;show this.1
def _ej(ok:x.ok K H)(h:x.d=.ç):x.v=.ç:=by
 let:=RepO.wk ok;rw[h]at this;show this.1
def zQ(ok:x.ok K H)(h:x.d=.ã z):x.v=.ã z/\z.B<=sizeLine:=by
 let:=RepO.wk ok;rw[h]at this;show#[this.1,this.2.2]
def xz:RepL K H g (.E i) (.E i) []:=#[rfl,rfl]
def _ek:RepL K H g (.bl i) (.bl i) []:=#[rfl,rfl]
def _el:RepL K H g .ç .ç []:=#[rfl,rfl]
def _em(h:z.B<=sizeLine):RepL K H g (.ã z) (.ã z) []:=#[rfl,rfl,h]
def Qz:Out K H H #[.dp,.E i,.E i,[]] fr:=_ec xq xz
def x6:Out K H H #[.dp,.bl i,.bl i,[]] fr:=_ec xq _ek
def _en(h:z.B<=sizeLine):Out K H H #[.dp,.ã z,.ã z,[]] fr:=_ec xq (_em h)
#where in
def _eo{g:Int->Int->Int}(h:∀i j k,f i j=@k->C i j/\k=g i j):Ad2 K (rI C λi j=>.E (g i j)) (pu2 (i2 f)):=by
 intro H x y s Q ox oy hf k;unfold pu2 i2 at hf;dsimp only at hf
 split at hf
 .revert i j e1 e2;cases hk:f i j with
  |none=>rw[hk]at hf;cases hf
  |some n=>
   rw[hk]at hf;cases _aa hf;let#[hc,rfl]:=h i j n hk;show#[i,j,qx ox e1,qx oy e2,hc,k _ H rfl rfl Qz]
 .cases hf
#where in
def _ep{g:Int->Int->Int}(h:∀i j,f i j=@(g i j)):Ad2 K (rI0 λi j=>.E (g i j)) (pu2 (i2 f)):=by
 intro H x y s Q ox oy hf k;unfold pu2 i2 at hf;dsimp only at hf
 split at hf
 .revert i j e1 e2;rw[h]at hf;cases _aa hf;show#[i,j,qx ox e1,qx oy e2,k _ H rfl rfl Qz]
 .cases hf
#where in
def _eq:Ad2 K (rI0 λi j=>.bl (g i j)) (pu2 (c2 g)):=by
 intro H x y s Q ox oy hf k;unfold pu2 c2 at hf;dsimp only at hf
 split at hf
 .revert i j e1 e2;cases _aa hf;show#[i,j,qx ox e1,qx oy e2,k _ H rfl rfl x6]
 .cases hf
def _er:Ad2 K (rI0 λi j=>.E (i - j)) (pu2 Q0):=_ep λ_ _=>rfl
#where in
def _es:Ad2 K (rI _cH λi j=>.E (i / j)) (pu2 Kv):=_eo λi j k h=>by
 split at h
 .revert c;show#[c,(_aa h).s]
 .symm
#where in
def _et:Ad2 K (rI (λ_ j=>0<j) λi j=>.E (i % j)) (pu2 v6):=_eo λi j k h=>by
 split at h
 .revert c;show#[c,(_aa h).s]
 .symm
end
def _eu(K:Frag):R2:=λx y H Q=>∃l b xs zs,x=.J l/\y=.J b/\LsR K H l xs/\LsR K H b zs/\xs.B+zs.B<=sizeLine/\∀p,H p=none->Q (.J p) (upd H p (.L (xs++zs)))
def op_catL:OpR X (binaryOp .Add) (_eu X.K):=by
 rintro a9 s σ H x y v u Q I rx ry ⟨l,b,xs,zs,rfl,rfl,hH,hB,hz,q⟩;cases rx;cases ry;let#[z,ac,n,r,e]:=hH.is I;let#[z2,cz,n2,r2,e2]:=hB.is I;let hl:=r.B;let lu:=r2.B;show PySem.P.add_list e e2 ?_ (by rw[Xe,Xe];symm);let ea:ac.H++cz.H=(ac++cz).H:=by simp
 rw[ea];show#[.J _,_,I.lnew (t':=s.ý) (r.append r2) (by rw[Xj];omega),rfl,q _ I.fresh]
def _ev(K:Frag):R2:=λx y H Q=>∃a b ys,x=.J a/\y=.J b/\SqT K H a []/\SqT K H b ys/\Q (.J b) H
def op_catE:OpR X (binaryOp .Add) (_ev X.K):=by
 rintro a9 s σ H x y v u Q I rx ry ⟨a,b,ys,rfl,rfl,ha,hb,q⟩;cases rx;cases ry;let#[ac,r1,p1,_]:=I.tuple ha;let#[cz,r2,p2,_]:=I.tuple hb;let#[#[cls,dd,data,sl],ho,hc,n,hd]:=id p1;let#[#[cls2,dd2,data2,ue],jh,oz,n2,iu]:=id p2;subst hc hd oz iu;let e:=r1.nil_iff.y rfl;subst e;show concat_meets #[_,ho,rfl] #[_,jh,rfl] noFill_tuple_add seq_tuple_add PySem.F.slot_tuple_add PySem.F.entry_tuple_add (PySem.F.args_tuple_add_2 _ _)
   (tuple_addW0 a b [].H cz.H n n2 dd dd2 sl ue (by rfl)) #[ho,jh,#[.J b,H,I,rfl,q]]
def _ew(K:Frag):R2:=λx y H Q=>rI0 (λi j=>.E (i+j)) x y H Q\/(∃i j,x=.ã i/\y=.ã j/\i.B+j.B<=sizeLine/\Q (.ã (i++j)) H)\/_eu K x y H Q\/_ev K x y H Q\/_bF K x y H Q
def _ex{K}(hK:X.K=K):OpR X (binaryOp .Add) (_ew K):=by subst hK;show op_add.or (_Oa.or (op_catL.or (op_catE.or _bG)))
def RepA.app{K}(h':RepA K H g ds' xs' bf):∀{ds xs as},RepA K H g ds xs as->RepA K H g (ds++ds') (xs++xs') (as++bf)
 |[],_,_,h=>by rw[h.1,h.2];show h'
 |d::ds,_,_,h=>by
  let#[x,r,bs,cs,rfl,rfl,h1,h2]:=h;rw[List.cons_append];show#[x,r++xs',bs,cs++bf,rfl,by rw[Y3],h1,RepA.app h' h2]
def vw(h:H p=none):kj H (upd H p o):=λb u q=>by rw[qj (JJ q h)];show q
def Vw{K}(hp:H p=none)(r:RepA K H true ds xs bs)(hb:∀b>bs,b>fr):Out K H (upd H p (.L xs)) #[.rt,.L ds,.J p,p::bs] fr:=by
 show#[vw hp,#[p,xs,bs,rfl,r.kp (Kp.of_same (vw hp)),wj,rfl],λb hb=>?_,?_,λb gc=>hb b (by simpa [Sl.ÿ]using gc)]
 .let:b=p:=by simpa [Sl.ì]using hb
  rw[this];show hp
 .simp[Sl.ì]
def _ey{K}(hp:H p=none)(r:RepA K H true ds xs bs)(hb:∀b>bs,b>fr):Out K H (upd H p (.X xs)) #[.x,.X ds,.J p,bs] fr:=by
 show#[vw hp,?_,λb hb=>(nomatch hb),Y7,λb gc=>hb b gc];change RepL K _ true _ _ bs;show#[p,xs,rfl,SqT.of wj,r.kp (Kp.of_same (vw hp))]
#where in
def _ez{K}:Ad2 K (_ew K) kw:=by
 intro H x y s Q ox oy hf k;unfold kw at hf;dsimp only at hf
 split at hf
 .revert i j e1 e2;cases _aa hf;show .O #[i,j,qx ox e1,qx oy e2,k _ H rfl rfl Qz]
 .revert i j e1 e2
  split at hf
  .revert hl;cases _aa hf;let hl':(i++j).B<=sizeLine:=by rw[strLen_append];show hl
   show .Z (.O #[i,j,(zQ ox e1).1,(zQ oy e2).1,hl,k _ H rfl rfl (_en hl')])
  .cases hf
 .revert i j e1 e2
  split at hf
  .revert hl;cases _aa hf;let#[a,xs,bs,e3,q3,r3,h3]:=JZ ox (.O e1) hl.2.1;let#[b,ys,cs,e4,q4,r4,h4]:=JZ oy (.O e2) hl.2.2;let q3:LsR K H a xs:=by let#[_,z]\/#[z,_]:=q3;show z;rw[e1]at z;cases z
   let q4:LsR K H b ys:=by let#[_,z]\/#[z,_]:=q4;show z;rw[e2]at z;cases z
   show .Z (.Z (.O #[a,b,xs,ys,e3,e4,q3,q4,by rw[<-r3.len,<-r4.len];show hl.1,λp hp=>(k _ _ rfl rfl (Vw hp (r4.app r3) λb hb=>(aA hb).ë (λz=>_ac _ (h3 b z)) λz=>_ab _ (h4 b z)))]))
  .cases hf
 .revert i j e1 e2
  split at hf
  .revert hl;cases _aa hf;let#[a,xs,bs,e3,q3,r3,h3]:=JZ ox (.Z e1) hl.2.1;let#[b,ys,cs,e4,q4,r4,h4]:=JZ oy (.Z e2) hl.2.2;let q3:SqT K H a xs:=by let#[z,_]\/#[_,z]:=q3;rw[e1]at z;cases z;show z
   let q4:SqT K H b ys:=by let#[z,_]\/#[_,z]:=q4;rw[e2]at z;cases z;show z
   let ap:=r4.app r3;let ub:=λb hb=>(aA hb).ë (λz=>_ac _ (h3 b z)) λz=>_ab _ (h4 b z)
   let same:∀c zs,zs=xs++ys->SqT K H c zs->Q (.J c) H:=λc zs e hq=>by
    show k #[.x,.X _,.J c,bs++cs] H rfl rfl #[xq,?_,λb hb=>(nomatch hb),Y7,ub];change RepL K H true _ _ _;show#[c,zs,rfl,hq,by rw[e];show ap]
   by_cases hx:xs=[]
   .subst hx;show .Z (.Z (.Z (.O #[a,b,ys,e3,e4,q3,q4,same b ys rfl q4])))
   .show .Z (.Z (.Z (.Z #[a,b,xs,ys,e3,e4,q3,q4,hx,by rw[<-r3.len,<-r4.len];show hl.1,λhy=>?_,λhy p hp=>?_])))
    .show same a xs (by rw[hy,Xz]) q3
    .show k _ _ rfl rfl (_ey hp ap ub)
  .cases hf
 .cases hf
noncomputable def tT(Z:Fx0)(q:Bool)(c:Ts):TT:=fun σ H Q=>∃E L r,Mt E σ L/\World Z.K H L/\c E=@r/\Xc Z σ H L r /\
 ∀E' k,r=.ok E' k->∀L' H',Mt E' σ L'->World Z.K H' L'->Step H L H' L'->(q=true->kj H H')->Q k H'
def QT(X:Cx)(Z:Fx0)(q:Bool)(c:Ts)(e:Expr):Prop:=PT X e (tT Z q c)
def QW(X:Cx)(Z:Fx0)(q:Bool)(c:Ts)(e:Expr):Prop:=PW X e (tT Z q c)
section
def _eA(h:PW X e t)(w:∀ σ H Q,t' σ H Q->t σ H Q):PW X e t':=λwh a9 s σ H Q I q=>h wh a9 s σ H Q I (w σ H Q q)
def _eB(m:Mt E σ L)(w:World Z.K H L)(h:bnd (u E) F=@r)(xc:Xc Z σ H L r)
  (k:∀E1 s,F E1 s=@r->∀L1 H1,Mt E1 σ L1->World Z.K H1 L1->Step H L H1 L1->(q=true->kj H H1)->G s H1):tT Z q u σ H G:=by
 let#[E1,s,h1,h2]\/#[E1,c,h1,h2]:=wY h
 .show#[E,L,_,m,w,h1,(λ_ _ z=>by cases z),λE' s' z L' H' m' w' st sm=>by
   injection z with z1 z2;subst z1 z2;show k _ _ h2 L' H' m' w' st sm]
 .show#[E,L,_,m,w,h1,xc.C h2,λE' s' z=>by cases z]
def _eC(ha:QT X Z q u ea):QW X Z q u (.BoolOp .Or [ea] pos):=_aA ha
def _eD(ha:QT X Z q u ea)(hb:QW X Z q v (.BoolOp .Or (eb::es) pos)):QW X Z q (Q.tOr u v) (.BoolOp .Or (ea::eb::es) pos):=
 _eA (_aB ha hb) fun σ H Q am=>ex8 am λE L r m w hc xc k=>_eB m w hc xc λE1 s h1 L1 H1 m1 w1 st sm=>by
  cases s with
  |false=>
   show#[E1,L1,r,m1,w1,h1,xc.step st,λE' k' z L' H' m' w' f9 tf=>k E' k' z L' H' m' w' (st.I f9) λhq=>kX (sm hq) (tf hq)]
  |true=>grind
def QW.pt(h:QW X Z q u e):QT X Z q u e:=PW.pt h
def _eE(ha:QT X Z q u ea):QT X Z q (Q.tNot u) (.UnaryOp .Not ea pos):=
 _d3 (_aC ha) fun σ H Q am=>ex8 am λE L r m w hc xc k=>_eB m w hc xc λE1 s h1 L1 H1 m1 w1 st sm=>by
  cases _aa h1;show k _ _ rfl L1 H1 m1 w1 st sm
def xw(ho:OpR X (compareOp op) r)(ad:Ad2 Z.K r f)(ha:QV X Z qa a ea)(hb:QV X Z true b eb)(hm:behindInMarks op eb=false)(hf:∀x y s,f x y=@s->∃k,s.2=.bl k):QT X Z qa (Q.tE (cF2 f a b)) (.Compare ea [op] [eb] pos):=
 _d3 (_bg ho ha hb hm) fun σ H Q am=>ex8 am λE L r m w hc xc k=>by
  show _eg ad ?_;let#[E1,s,h1,h2]\/#[E1,c,h1,h2]:=wY hc
  .show#[E,L,_,m,w,h1,(λ_ _ z=>by cases z),λE' s' z x L' H' e1 e2 m' w' st sm=>?_];injection z with z1 z2;subst z1 z2;obtain⟨kk,hk⟩:∃k,s.2=.bl k:=by
    let#[E2,s2,h3,h4]\/#[_,_,_,z]:=wY h1
    .let#[E3,s3,h5,h6]\/#[_,_,_,z]:=wY h4
     .let#[y,hy,z]:=J8 h6;cases z;show hf _ _ _ hy
     .cases z
    .cases z
   rw[hk]at h2;cases _aa h2;show#[kk,_ei w'.head (e2.I hk),k _ _ rfl L' H' m' w'.tail (st.I Step.drop) λhq=>(sm hq).1]
  .show#[E,L,_,m,w,h1,xc.C h2,λE' s' z=>by cases z]
end
def Pn(pn:List Nat)(σ σ':L2.St):Prop:=∀p>pn,σ'[p]?=σ[p]?
def Pn.ñ:Pn pn σ σ:=λ_ _=>rfl
def Pn.I(a:Pn pn σ σ1)(b:Pn pn σ1 σ2):Pn pn σ σ2:=λp hp=>(b p hp).I (a p hp)
def Pn.u(a:Pn pn σ σ1)(h:i∉pn):Pn pn σ (σ1.u i y):=λp hp=>by
 let:i≠p:=λe=>h (e▸hp)
 rw[Yi this];show a p hp
def FlP(Z:Fx0)(pn:List Nat)(D:Ends)(σ:L2.St)(H:Hp)(L:Ls):Fl->Prop
 |.nx E'=>∀ σ' L' H',Pn pn σ σ'->Mt E' σ' L'->World Z.K H' L'->Step H L H' L'->D.nx σ' H'|.ct E'=>∀ σ' L' H',Pn pn σ σ'->Mt E' σ' L'->World Z.K H' L'->Step H L H' L'->D.ct σ' H'|.bk E'=>∀ σ' L' H',Pn pn σ σ'->Mt E' σ' L'->World Z.K H' L'->Step H L H' L'->D.bk σ' H'|.rt E' a=>∀(x:Sl) σ' L' H',x.o=a.1->x.d=a.2->Pn pn σ σ'->Mt E' σ' L'->World Z.K H' (@x::L')->Step H L H' (@x::L')->D.rt x.v H'|.xc E' c=>∀C σ' L' H',Z.mg c=@(.J C)->Pn pn σ σ'->Mt E' σ' L'->World Z.K H' L'->Step H L H' L'->Z.EX (.J C) none H'
def FlP.step{Z pn D σ σ1 H H1 L L1 r}(k:FlP Z pn D σ H L r)(s:Step H L H1 L1)(p:Pn pn σ σ1):FlP Z pn D σ1 H1 L1 r:=by
 cases r with|nx E'=>show fun σ' L' H' p' m w s'=>k σ' L' H' (p.I p') m w (s.I s')|ct E'=>show fun σ' L' H' p' m w s'=>k σ' L' H' (p.I p') m w (s.I s')|bk E'=>show fun σ' L' H' p' m w s'=>k σ' L' H' (p.I p') m w (s.I s')|rt E' a=>show λx σ' L' H' e1 e2 p' m w s'=>k x σ' L' H' e1 e2 (p.I p') m w (s.I s')|xc E' c=>show λC σ' L' H' hm p' m w s'=>k C σ' L' H' hm (p.I p') m w (s.I s')
def FlP.xc{D}(k:FlP Z pn D σ H L (.xc E' c)):Xc Z σ H L (.exc E' c:Res α):=λE1 c1 e C L' H' hm m w s=>by
 injection e with h1 h2;subst h1 h2;show k C σ L' H' hm Pn.ñ m w s
def tS(Z:Fx0)(pn:List Nat)(c:Sm):TS:=λD σ H=>∃E L r,Mt E σ L/\World Z.K H L/\c E=@r/\FlP Z pn D σ H L r
def QS(X:Cx)(Z:Fx0)(pn:List Nat)(c:Sm)(st:Stmt):Prop:=PS X st (tS Z pn c)
def QSs(X:Cx)(Z:Fx0)(pn:List Nat)(c:Sm)(st:List Stmt):Prop:=PSs X st (tS Z pn c)
section
variable {X:Cx}{Z:Fx0}{pn:List Nat}{q qa qb:Bool}{a b c:Ex}{u v:Ts}{A B:Sm}{st:Stmt}{σ:L2.St}{H:Hp}{L:Ls}{E:En}{D:Ends}
def _eF(h:ofE m F=@r):(∃E1 x,m=@(.ok E1 x)/\F E1 x=@r)\/∃E1 c,m=@(.exc E1 c)/\r=.xc E1 c:=by
 cases m with
 |none=>cases h
 |some q=>
  cases q with|ok E1 x=>show .O #[E1,x,rfl,h]|exc E1 c=>show .Z #[E1,c,rfl,(_aa h).s]
def QQ(m:Mt E σ L)(w:World Z.K H L)(h:ofE (a E) F=@r)(k:FlP Z pn D σ H L r)
  (g:∀E1 s,F E1 s=@r->∀x L1 H1,x.o=s.1->x.d=s.2->Mt E1 σ L1->World Z.K H1 (@x::L1)->Step H L H1 (@x::L1)->(q=true->kj H H1/\∀b>x.ì,H b=none)->G x.v H1):tQ Z q a σ H G:=by
 let#[E1,s,h1,h2]\/#[E1,c,h1,rfl]:=_eF h
 .show#[E,L,_,m,w,h1,(λ_ _ z=>by cases z),λE' s' z x L' H' e1 e2 m' w' st sm=>by
   injection z with z1 z2;subst z1 z2;show g _ _ h2 x L' H' e1 e2 m' w' st sm]
 .show#[E,L,_,m,w,h1,k.xc,λE' s' z=>by cases z]
def _eG(m:Mt E σ L)(w:World Z.K H L)(h:ofE (u E) F=@r)(k:FlP Z pn D σ H L r)
  (g:∀E1 s,F E1 s=@r->∀L1 H1,Mt E1 σ L1->World Z.K H1 L1->Step H L H1 L1->G s H1):tT Z q u σ H G:=by
 let#[E1,s,h1,h2]\/#[E1,c,h1,rfl]:=_eF h
 .show#[E,L,_,m,w,h1,(λ_ _ z=>by cases z),λE' s' z L' H' m' w' st sm=>by
   injection z with z1 z2;subst z1 z2;show g _ _ h2 L' H' m' w' st]
 .show#[E,L,_,m,w,h1,k.xc,λE' s' z=>by cases z]
def _eH:QSs X Z pn vY []:=_d4 _aG λD σ H am=>ex7 am λE L r m w hc k=>by
 cases _aa hc;show k σ L H Pn.ñ m w Step.ñ
noncomputable def jq(h1:QS X Z pn A st)(h2:QSs X Z pn B ss):QSs X Z pn (jk A B) (st::ss):=_d4 (_aH h1 h2) λD σ H am=>ex7 am λE L r m w hc k=>by
 unfold jk at hc;cases ha:A E with
 |none=>rw[ha]at hc;cases hc
 |some f=>
  rw[ha]at hc;cases f with|nx E1=>show#[E,L,_,m,w,ha,fun σ' L' H' p m' w' s=>#[E1,L',r,m',w',hc,k.step s p]]|ct E1=>cases _aa hc;show#[E,L,_,m,w,ha,k]|bk E1=>cases _aa hc;show#[E,L,_,m,w,ha,k]|rt E1 x=>cases _aa hc;show#[E,L,_,m,w,ha,k]|xc E1 x=>cases _aa hc;show#[E,L,_,m,w,ha,k]
def qJ(h1:QS X Z pn A st):QSs X Z pn A [st]:=_aI h1
def _eI(h:QE X Z q a ea):QS X Z pn (kq a) (.Return @ea pos):=z0 (_aJ h) λD σ H am=>ex7 am λE L r m w hc k=>
 QQ m w hc k λE1 s h1 x L1 H1 e1 e2 m1 w1 st _=>by
  cases _aa h1;show k x σ L1 H1 e1 e2 Pn.ñ m1 w1 st
def _eJ(hc:QT X Z q u e)(ha:QSs X Z pn A ss)(hb:QSs X Z pn B tt):QS X Z pn (sIf u A B) (.If e ss tt pos):=z0 (_aK hc ha hb) λD σ H am=>ex7 am λE L r m w hc k=>
 _eG m w hc k λE1 s h1 L1 H1 m1 w1 st=>by
  cases s with|true=>rw[X7 rfl]at h1 ⊢;show#[E1,L1,r,m1,w1,h1,k.step st Pn.ñ]|false=>rw[Xb .q]at h1 ⊢;show#[E1,L1,r,m1,w1,h1,k.step st Pn.ñ]
def VV(m:Mt E σ L)(e1:x.o=s.1)(e2:x.d=s.2):Mt (E.u i @s) (σ.u i @x.v) (L.u i @x):=by
 let:=m.u (x:=x) i;rw[e1,e2]at this;show this
def _eK(hN:X.N.U)(hi:X.N[i]?=@y)(hx:Loc X.V.scope y)(h:QE X Z q a ea)(hp:i∉pn<|>ŕ)(hs:swapsWith ea @(.é y bw) pos.line X.V=pure false<|>Ŕ)(hf:X.fn y=true\/X.V.scope.ð.Y y=@.local<|>Ř):
  QS X Z pn (jx i a) (.Assign [.é y bw] ea pos):=z0 (_aP hN hi hx h hs hf) λD σ H am=>ex7 am λE L r m w hc k=>
 QQ m w hc k λE1 s h1 x L1 H1 e1 e2 m1 w1 st _=>by
  cases _aa h1;show k _ _ H1 (Pn.ñ.u hp) (VV m1 e1 e2) w1.u (st.I Step.u)
def _eL(hp:i∉pn)(h:PS X (.Assign [.é y bw] ea pos) (λD σ H=>tQ Z q a σ H λv H1=>D.nx (σ.u i @v) H1)):
  QS X Z pn (jx i a) (.Assign [.é y bw] ea pos):=z0 h λD σ H am=>ex7 am λE L r m w hc k=>
 QQ m w hc k λE1 s h1 x L1 H1 e1 e2 m1 w1 st _=>by
  cases _aa h1;show k _ _ H1 (Pn.ñ.u hp) (VV m1 e1 e2) w1.u (st.I Step.u)
def _eM(hp:PassesOwn (model X.î X.w) X.A X.V X.xe)(hc:QT X Z q u e)(hb:QSs X Z pn B ss):QS X Z pn (K0 u B) (.While e ss [] pos):=z0 (_aQ hp hc hb) λD σ H am=>ex7 am λE L r m w hr k=>by
 let#[n0,hn]:=_dE hr;show#[λn σ1 H1=>∃E1 L1,Mt E1 σ1 L1/\World Z.K H1 L1/\whN u B n E1=@r/\Step H L H1 L1/\Pn pn σ σ1,#[n0,E,L,m,w,hn,Step.ñ,Pn.ñ],?_];rintro n σ1 H1 ⟨E1,L1,m1,w1,h1,jg,p1⟩;cases n with
 | zero=>cases h1
 | succ n=>
  let k1:=k.step jg p1;unfold whN whF at h1;cases ht:u E1 with
  | none=>rw[ht]at h1;cases h1
  | some f=>
   rw [ht]at h1;cases f with
   | exc E2 c=>
    cases _aa h1;show#[E1,L1,_,m1,w1,ht,k1.xc,λE' s' z=>by cases z]
   | ok E2 kk=>
    show#[E1,L1,_,m1,w1,ht,(λ_ _ z=>by cases z),λE' s' z L' H' m' w' st sm=>?_];injection z with z1 z2;subst z1 z2;cases kk with
    | false=>
     rw[Xb .q];cases _aa h1;show k1 σ1 L' H' Pn.ñ m' w' st
    | true=>
     rw[X7 rfl];dsimp only at h1;show#[fun σ2 H2=>∃E2 L2,Mt E2 σ2 L2/\World Z.K H2 L2/\whN u B n E2=@r/\Step H L H2 L2/\Pn pn σ σ2,fun σ2 H2 h2=>#[n,by omega,h2],?_];cases hB:B E2 with
     |none=>rw[hB]at h1;cases h1
     |some g=>
      rw[hB]at h1;let k2:=k1.step st Pn.ñ;show#[E2,L',g,m',w',hB,?_];cases g with|nx E3=>show fun σ3 L3 H3 p3 m3 w3 s3=>#[E3,L3,m3,w3,h1,jg.I (st.I s3),p1.I p3]|ct E3=>show fun σ3 L3 H3 p3 m3 w3 s3=>#[E3,L3,m3,w3,h1,jg.I (st.I s3),p1.I p3]|bk E3=>cases _aa h1;show k2|rt E3 x=>cases _aa h1;show k2|xc E3 c=>cases _aa h1;show k2
end
structure Walks (K:Frag)(J:It)(T:List Sl)(ds:List D):Prop where
 no:∀t>T,t.o=.x
 go:∀i H,(∀t>T,t.ok K H)->i<ds.B->J.go i H
 stop:∀H,(∀t>T,t.ok K H)->J.stop ds.B H
 yld:∀i H v H' d,(∀t>T,t.ok K H)->J.yld i H v H'->ds[i]?=@d->∃z:Sl,z.o=.x/\z.d=d/\z.v=v/\kj H H'/\z.ok K H'/\∀b>z.as,∃t>T,b>t.as
def tI(Z:Fx0)(q:Bool)(it:Ev (List D)):TI:=fun σ H R=>∃E L r,Mt E σ L/\World Z.K H L/\it E=@r/\Xc Z σ H L r /\
 ∀E' ds,r=.ok E' ds->∀J T L' H',Mt E' σ L'->World Z.K H' (L'++T.C some)->Step H L H' (L'++T.C some)->ds.B<=sizeLine->(q=true->kj H H')->Walks Z.K J T ds->R J H'
def QI(X:Cx)(Z:Fx0)(q:Bool)(tg:Expr)(it:Ev (List D))(e:Expr):Prop:=PI X tg e (tI Z q it)
def _eN(K:Frag)(H0:Hp)(T:List Sl)(H:Hp):Prop:=(∀t>T,t.ok K H)/\∀t>T,Kp H0 H t.as
structure WalksD (K:Frag)(H0:Hp)(J:It)(T:List Sl)(ds:List D):Prop where
 no:∀t>T,t.o=.x
 go:∀i H,_eN K H0 T H->i<ds.B->J.go i H
 stop:∀H,_eN K H0 T H->J.stop ds.B H
 yld:∀i H v H' d,_eN K H0 T H->J.yld i H v H'->ds[i]?=@d->∃z:Sl,z.o=.x/\z.d=d/\z.v=v/\kj H H'/\z.ok K H'/\∀b>z.as,∃t>T,b>t.as
def Walks.D{K}(h:Walks K J T ds):WalksD K H0 J T ds:=#[h.x,λi H o=>h.go i H o.1,λH o=>h.stop H o.1,λi H v H' d o=>h.yld i H v H' d o.1]
def tID(Z:Fx0)(q:Bool)(it:Ev (List D)):TI:=fun σ H R=>∃E L r,Mt E σ L/\World Z.K H L/\it E=@r/\Xc Z σ H L r /\
 ∀E' ds,r=.ok E' ds->∀J T L' H',Mt E' σ L'->World Z.K H' (L'++T.C some)->Step H L H' (L'++T.C some)->ds.B<=sizeLine->(q=true->kj H H')->WalksD Z.K H' J T ds->R J H'
def QID(X:Cx)(Z:Fx0)(q:Bool)(tg:Expr)(it:Ev (List D))(e:Expr):Prop:=PI X tg e (tID Z q it)
def QI.D(h:QI X Z q tg it e):QID X Z q tg it e:=λa9 s σ H R I hz=>h a9 s σ H R I (by
 let#[E,L,r,m,w,e,x,k]:=hz;show#[E,L,r,m,w,e,x,λE' ds z J T L' H' m' w' st hl sm wk=>k E' ds z J T L' H' m' w' st hl sm wk.D])
structure WalksS (K:Frag)(q:Bool)(H0:Hp)(J:It)(T:List Sl)(ds:List D):Prop where
 no:∀t>T,t.o=.x
 go:∀i H,(∀t>T,t.ok K H)->(q=true->kj H0 H)->i<ds.B->J.go i H
 stop:∀H,(∀t>T,t.ok K H)->(q=true->kj H0 H)->J.stop ds.B H
 yld:∀i H v H' d,(∀t>T,t.ok K H)->(q=true->kj H0 H)->J.yld i H v H'->ds[i]?=@d->∃z:Sl,z.o=.x/\z.d=d/\z.v=v/\kj H H'/\z.ok K H'/\∀b>z.as,∃t>T,b>t.as
def _eO{K}(h:Walks K J T ds):WalksS K q H0 J T ds:=#[h.x,λi H o _=>h.go i H o,λH o _=>h.stop H o,λi H v H' d o _=>h.yld i H v H' d o]
def tIS(Z:Fx0)(q:Bool)(it:Ev (List D)):TI:=fun σ H R=>∃E L r,Mt E σ L/\World Z.K H L/\it E=@r/\Xc Z σ H L r /\
 ∀E' ds,r=.ok E' ds->∀J T L' H',Mt E' σ L'->World Z.K H' (L'++T.C some)->Step H L H' (L'++T.C some)->ds.B<=sizeLine->(q=true->kj H H')->WalksS Z.K q H J T ds->R J H'
def QIS(X:Cx)(Z:Fx0)(q:Bool)(tg:Expr)(it:Ev (List D))(e:Expr):Prop:=PI X tg e (tIS Z q it)
def _eP(h:QI X Z q tg it e):QIS X Z q tg it e:=λa9 s σ H R I hz=>h a9 s σ H R I (by
 let#[E,L,r,m,w,e,x,k]:=hz;show#[E,L,r,m,w,e,x,λE' ds z J T L' H' m' w' st hl sm wk=>k E' ds z J T L' H' m' w' st hl sm (_eO wk)])
def tG(Z:Fx0)(pn:List Nat)(tg:Tg):TG:=λv σ H Q=>∃(E:En) (L:Ls) (z:Sl) (E':En),Mt E σ L/\World Z.K H (@z::L)/\z.o=.x/\z.v=v/\tg.put z.d E=@E' /\
 ∀ σ' L',Pn pn σ σ'->Mt E' σ' L'->World Z.K H L'->Step H (@z::L) H L'->Q σ' H
def QG(X:Cx)(Z:Fx0)(pn:List Nat)(tg:Tg)(e:Expr):Prop:=PG X e (tG Z pn tg)
section
variable {Z:Fx0}
def _eQ(h:PG X e t)(w:∀v σ H Q,t' v σ H Q->t v σ H Q):PG X e t':=λa9 s σ H x v Q I r q=>h a9 s σ H x v Q I r (w x σ H Q q)
noncomputable def zq(h:PG X e (qw5 i))(hp:i∉pn<|>ŕ):QG X Z pn (.n i) e:=_eQ h λv σ H Q hz=>by
 let#[E,L,z,E',m,w,ho,hv,c8,k]:=hz;cases _aa c8;rw[<-hv];show k _ _ (Pn.ñ.u hp) (VV m ho rfl) w.u Step.u
def gNs:List Nat->TGs
 |[]=>xzj|i::is=>xk2 (qw5 i) (gNs is)
def _eR:∀{is ds xs bs E L σ E'},Mt E σ L->World Z.K H L->RepA Z.K H true ds xs bs->(∀b>bs,b∉j7 L)->(∀b>bs,b>jW M)->Step H M H L->Pn pn σ0 σ ->
  setAll is ds E=@E'->(∀i>is,i∉pn)->(∀ σ' L',Pn pn σ0 σ'->Mt E' σ' L'->World Z.K H L'->Step H M H L'->Q σ' H)->gNs is xs σ H Q
 | [],[],xs,bs,E,L,σ,E',m,w,r,_,_,st,p,e,_,k=>by
  cases _aa e;show#[r.1,k σ L p m w st]
 | [],_::_,_,_,_,_,_,_,_,_,_,_,_,_,_,e,_,_=>by cases e| _::_,[],_,_,_,_,_,_,_,_,_,_,_,_,_,e,_,_=>by cases e
 | i::is,d::ds,xs,bs,E,L,σ,E',m,w,r,hb,hf,st,p,e,hi,k=>by
  let#[x,rr,cs,es,rfl,rfl,h1,h2]:=r;let s1:Step H M H (L.u i @#[.x,d,x,cs]):=by
   show#[λ_ _ h _=>h,λa ha=>?_,λa ha=>?_]
   .let z\/z:=ZW ha
    .show nomatch z
    .show st.ì a z
   .let z\/z:=_dR ha
    .show .O (hf a (_ac _ z))
    .show st.ÿ a z
  show#[x,rr,rfl,_eR (VV (x:=#[.x,d,x,cs]) m rfl rfl) (w.consNo (x:=#[.x,d,x,cs]) h1 rfl λb gc=>hb b (_ac _ gc)).u h2 (λb gc ho=>by
   let z\/z:=ZW ho
   .show nomatch z
   .show hb b (_ab _ gc) z) (λb gc=>hf b (_ab _ gc)) s1 (p.u (hi i X2)) e (λj hj=>hi j (_ad _ hj)) k]
def _eS:∀{is ds E E'},setAll is ds E=@E'->is.B=ds.B
 |[],[],_,_,_=>rfl|i::is,d::ds,E,E',e=>by rw[Xn,Xn,_eS (E:=E.u i _) e]
def _eT(K:Frag)(n:Nat)(t:TGs):TG:=λv σ H Q=>∃a xs,v=.J a/\(SqT K H a xs\/SqL K H a xs)/\xs.B=n/\t xs σ H Q
section
def _eU{items}(bc:t≠it):∀n i (s) (Q),s.G.IsListIter it t i->s.G.IsList t items->i+n<=items.M ->
  (∀h',h'.IsListIter it t (i+n)->Heap.SameBut it s.G h'->Q ((items.R.drop i).take n) {s with heap:=h' })->wpAny (model prog w) A (draw (.J it) n) Q E' s
 | 0,i,s,Q,fw,_,_,hQ=>by
  show X5 (~~~(hQ s.G fw (Heap.SameBut.ñ ..)))
 | n+1,i,s,Q,fw,ht,gz,hQ=>by
  let b9:i<items.M:=by omega
  show X0 (wpAny_pyNext_list_item fw ht (x:=items[i]) (by simp) λh₁ rz vh=>?_);let ht₁:h₁.IsList t items:=by
   let#[o,ho,r]:=ht;show#[o,(vh.2 t bc).I ho,r]
  show X0 (Y4 (_eU bc n _ _ _ rz ht₁ (by omega) λh₂ hit₂ hs₂=>X5 ?_));let hd:items.R.drop i=items[i]::items.R.drop (i+1):=by simp[List.drop_eq_getElem_cons,b9]
  let:=hQ h₂ .q (vh.I hs₂)
  symm
def _eV{t items}(hh:A.ó=none)(ht:s.G.IsList t items)
  (hQ:∀h',Heap.ExtBut ↥s s.G h'->Q items.R {s with heap:=h' }):wpAny (model prog w) A (unpackItems (.J t) items.M none) Q E' s:=by
 let b9:t≠↥s:=by let#[o,ho,_]:=ht;show Xq (Xh ho)
 show X0 (X0 (Zl ht.typeIs slot_list_iter.Y (X5 (X0 (Y4 (Zc ht ?_))))));let ht0:∀o,(s.G.ï o).IsList t items:=λo=>by
  let#[ob,ho,r]:=ht;show#[ob,X4 _ ho,r]
 show X0 (Y4 (_eU b9 items.M 0 _ _ #[_,Xd _ rfl,rfl,rfl] (ht0 _) (by simp) λh₁ rz vh=>?_));let sj:List.take items.M (List.drop 0 items.R)=items.R:=by
  rw[List.drop_zero];show List.take_of_length_le (by simp)
 rw[sj,Xb (by simp)];let ht₁:h₁.IsList t items:=by
  let#[o,ho,r]:=ht0 _;show#[o,(vh.2 t b9).I ho,r]
 show X0 (Y4 (wpAny_pyNext_list_end hh rz ht₁ (by simp) λh₂ he₂=>(X5 (hQ h₂ λb o hb e=>he₂ b o hb (vh.extBut b o hb (X4 _ e))))))
def _eW{items}(hh:A.ó=none)(ht:s.G.IsList t items)
  (hn:(assignEach elts env).B=items.M) (uo:(assignEach elts env).findIdx? (·.1)=none)
  (h:∀h',Heap.ExtBut ↥s s.G h'->wpAny (model prog w) A (assignInOrder ((assignEach elts env).C (·.2)) items.R) Q E' {s with heap:=h' }):
  wpAny (model prog w) A (assign (.Tuple elts x1 pos) env (.J t)) Q E' s:=by
 show X0 (wpAny_standAt ?_);ext unpack;rw[hn,uo];show X0 (Y4 (_eV hh ht h))
end
def V2 K (h:PGs X es t)(hc:X.calm=true<|>Ŕ)(hK:X.K=K<|>Ŕ)
  (hn:(assignEach es X.V).B=n<|>Ŕ) (b7:(assignEach es X.V).findIdx? (·.1)=none<|>Ŕ):PG X (.Tuple es k pos) (_eT K n t):=by
 subst hK;rintro a9 s σ H v u Q I r ⟨a,xs,e1,hq,hl,hw⟩;subst e1;cases r;let hq\/hq:=hq
 .let#[ac,rv,ht,hz]:=I.tuple hq;show assign_Tuple_tuple (I.ok.hd hc) ht (by simp[hn,<-hl,rv.B]) b7 λh' hx=>?_
  let I1:L2.Inv X a9 σ H {s with heap:=h' }:=I.kept (t':=s.ý) λb o e=>hx b o (Xq (Xh e)) e
  show h a9 _ σ H xs _ Q I1 (by symm) hw
 .let#[ac,rv,ht,hz]:=I.list hq;show _eW (I.ok.hd hc) ht.isList (by simp[hn,<-hl,rv.B]) b7 λh' hx=>?_
  let I1:L2.Inv X a9 σ H {s with heap:=h' }:=I.kept (t':=s.ý) λb o e=>hx b o (Xq (Xh e)) e
  show h a9 _ σ H xs _ Q I1 (~~~rv) hw
noncomputable def Vq(h:PG X e (_eT Z.K is.B (gNs is)))(hp:(∀i>is,i∉pn)<|>ŕ):QG X Z pn (.t is) e:=_eQ h λv σ H Q hz=>by
 let#[E,L,z,E',m,w,ho,hv,c8,k]:=hz;let fin:∀ds,_->setAll is ds E=@E'->_eT Z.K is.B (gNs is) v σ H Q:=λds hd c8=>by
  let#[a,xs,bs,e1,q1,r,h1,h2]:=items w.head hd;rw[ho]at r;show#[a,xs,hv.s.I e1,?_,by rw[_eS c8,r.len],_eR m w.tail r (λb hb=>w.apart b (h1 b hb)) (λb hb=>?_) Step.drop Pn.ñ c8 hp k]
  .let#[_,z']\/#[_,z']:=q1
   .show .Z z'.sq
   .show .O z'
  .rw[v4,_d7 ho];show _ac _ (h1 b hb)
 cases hd:z.d with|tup ds=>rw[hd]at c8;show fin ds (.Z hd) c8|lst ds=>rw[hd]at c8;show fin ds (.O hd) c8|_=>rw[hd]at c8;cases c8
def _eX(h:QE X Z q c ea)(hg:QG X Z pn (.t is) tg)(hs:swapsWithSole [tg] ea pos.line X.V=pure false<|>Ŕ)(hw:swappedStores [tg] ea X.V=pure none<|>Ŕ)(h1:(assignEach [tg] X.V).C (·.2)=[assign tg X.V]<|>Ŕ):
  QS X Z pn (_dD is c) (.Assign [tg] ea pos):=z0 (_aO h hg hs hw h1) λD σ H am=>ex7 am λE L r m w hc k=>
 QQ m w (hc) k λE1 s h1 x L1 H1 e1 e2 m1 w1 st _=>by
  cases hp:Tg.put _ s.2 E1 with
  |none=>rw[hp]at h1;cases h1
  |some E2=>
   rw[hp]at h1;cases _aa h1;show#[E1,L1,x.let,E2,m1,(w1.tail.consNo (xZ w1.head) rfl λb hb=>w1.apart b hb),rfl,rfl,by rw[show x.let.d=s.2 from e2];show hp,fun σ' L' p m' w' s'=>k σ' L' H1 p m' w' ((KJ (x:=x.let) (st.I Step.drop) (_d5 (x:=x) st) rfl).I s')]
end
section
def _eY{K}{T:List Sl}(w:World K H1 (L1++T.C some))(hT:∀t>T,t.o=.x)(sm:kj H1 H2)(ok:z.ok K H2)(ho:z.o=.x)(hz:∀b>z.as,∃t>T,b>t.as):
  World K H2 ((@z::L1)++T.C some)/\Step H1 (L1++T.C some) H2 ((@z::L1)++T.C some):=by
 let w2:World K H2 _:=#[λx hx=>RepO.kp (w.ok x hx) (Kp.of_same sm),w.nd,w.ds];let hf:∀b>z.as,b>jW (L1++T.C some):=λb hb=>by
  let#[t,ht,hbt]:=hz b hb;rw[qK];show _ab _ (mem_frozen.y #[t,Yc ht,by rw[_d7 (hT t ht)];show hbt])
 show#[w2.consNo ok ho λb hb hL=>w2.ds b hL (hf b hb),λa ob h _=>sm a ob h,λa ha=>?_,λa ha=>?_]
 .rw[List.cons_append,jz,_d6 ho]at ha;show .O ha
 .rw[List.cons_append,v4,_d7 ho]at ha;let q\/q:=aA ha
  .show .O (hf a q)
  .show .O q
def stay{K}(w:World K H1 (L1++T))(s:Step H1 L1 H2 L2)(w2:World K H2 L2):World K H2 (L2++T)/\Step H1 (L1++T) H2 (L2++T):=#[s.frame w w2 w.left,s.frm]
def Step.dropT:Step H1 (L1++T) H1 L1:=#[λ_ _ h _=>h,λa ha=>.O (by rw[k5];show _ac _ ha),λa ha=>.O (by rw[qK];show _ac _ ha)]
def Kp.I(a:Kp H H1 as)(b:Kp H1 H2 as):Kp H H2 as:=#[λc xs e=>b.1 c xs (a.1 c xs e),λc o u e=>b.2.1 c o u (a.2.1 c o u e),λc hc ob e=>b.2.2 c hc ob (a.2.2 c hc ob e)]
def _eZ{K}{T:List Sl}(w:World K H2 (L2++T.C some))(hT:∀t>T,t.o=.x)(s:Step H2 L2 H3 L3)(h:∀t>T,Kp H0 H2 t.as):∀t>T,Kp H0 H3 t.as:=λt ht=>
 (h t ht).I (s.kp w.left λb hb z=>w.ds b (by rw[k5];show _ac _ z) (by
  rw[qK];show _ab _ (mem_frozen.y #[t,Yc ht,by rw[_d7 (hT t ht)];show hb])))
def _e0(hp:PassesOwn (model X.î X.w) X.A X.V X.xe)(hc:X.calm=true)(hi:QID X Z q tg it iter)(hg:QG X Z pn t tg)(hb:QSs X Z pn B ss)(hs:(∀x,foldedSetIterable iter X.V x=pure x)<|>Ŗ):QS X Z pn (wJ it t B) (.For tg iter ss [] pos):=z0 (_a1 hp hc hi hg hb hs) λD σ H am=>ex7 am λE L r m w hr k=>by
 let#[E1,ds,h1,h2]\/#[E1,c,h1,rfl]:=_eF hr
 rotate_left
 .show#[E,L,_,m,w,h1,k.xc,λE' s' z=>by cases z]
 show#[E,L,_,m,w,h1,(λ_ _ z=>by cases z),λE' ds' z J T L' H' m' w' st hz _ wk=>?_];injection z with z1 z2;subst z1 z2;let okT:∀{H2 L2},World Z.K H2 (L2++T.C some)->∀t>T,t.ok Z.K H2:=λw2 t ht=>w2.ok t (_ab _ (Yc ht))
 show#[λi n σ1 H1=>∃E1 L1,Mt E1 σ1 L1/\World Z.K H1 (L1++T.C some)/\Step H L H1 (L1++T.C some)/\Pn pn σ σ1/\Q3 t B (ds.drop i) E1=@r/\i<=ds.B/\n=ds.B - i/\∀t>T,Kp H' H1 t.as,#[_,E1,L',m',w',st,Pn.ñ,h2,Y6 _,rfl,λ_ _=>Kp.of_same xq],?_];rintro i n σ1 H1 ⟨E1,L1,m1,w1,jg,p1,f1,hi,rfl,a9⟩
 by_cases b9:i<ds.B
 .let hd:ds.drop i=ds[i]::ds.drop _:=List.drop_eq_getElem_cons b9;rw [hd]at f1;unfold Q3 at f1;cases c8:t.put ds[i] E1 with
  | none=>rw[c8]at f1;cases f1
  | some E2=>
   rw[c8]at f1;dsimp only at f1;show .Z #[wk.go i H1 #[okT w1,a9] b9,fun σ2 H2=>∃E2 L2,Mt E2 σ2 L2/\World Z.K H2 _/\Step H L H2 _/\Pn pn σ σ2/\Q3 t B _ E2=@r/\∀t>T,Kp H' H2 t.as,fun σ2 H2 hz=>by let#[E2,L2,a1,a2,a3,a4,a5,a6]:=hz;show#[ds.B - _,by omega,E2,L2,a1,a2,a3,a4,a5,b9,rfl,a6],λv H2 hy=>?_];let#[z,zo,zd,zv,sm,vd,zas]:=wk.yld i H1 v H2 ds[i] #[okT w1,a9] hy (X1 b9);let#[wz,sz]:=_eY w1 wk.x sm vd zo zas;show#[E1,L1,z,E2,m1,wz.left,zo,zv,by rw[zd];show c8,fun σ2 L2 p2 m2 w2 bv=>?_];let#[w3,ft]:=stay wz bv w2;let mn:=jg.I (sz.I ft);let pd:=λt ht=>(a9 t ht).I (Kp.of_same sm)
   cases hB:B E2 with
   | none=>rw[hB]at f1;cases f1
   | some g=>
    rw[hB]at f1;show#[E2,L2,g,m2,w2,hB,?_];cases g with
    |nx E3=>
     intro σ3 L3 H3 p3 m3 w4 s3;let#[w5,s5]:=stay w3 s3 w4;show#[E3,L3,m3,w5,mn.I s5,(p1.I p2).I p3,f1,_eZ w3 wk.x s3 pd]
    |ct E3=>
     intro σ3 L3 H3 p3 m3 w4 s3;let#[w5,s5]:=stay w3 s3 w4;show#[E3,L3,m3,w5,mn.I s5,(p1.I p2).I p3,f1,_eZ w3 wk.x s3 pd]
    |bk E3=>
     let e:=_aa f1;subst e;intro σ3 L3 H3 p3 m3 w4 s3;show k σ3 L3 H3 ((p1.I p2).I p3) m3 w4 ((mn.I Step.dropT).I s3)
    |rt E3 x=>
     let e:=_aa f1;subst e;intro y σ3 L3 H3 e1 e2 p3 m3 w4 s3;show k y σ3 L3 H3 e1 e2 ((p1.I p2).I p3) m3 w4 ((mn.I Step.dropT).I s3)
    |xc E3 c=>
     let e:=_aa f1;subst e;intro C σ3 L3 H3 hm p3 m3 w4 s3;show k C σ3 L3 H3 hm ((p1.I p2).I p3) m3 w4 ((mn.I Step.dropT).I s3)
 .let e:i=ds.B:=.q
  subst e;rw[List.drop_length]at f1;cases _aa f1;show .O #[wk.stop H1 #[okT w1,a9],k σ1 L1 H1 p1 m1 w1.left (jg.I Step.dropT)]
def _e1(hp:PassesOwn (model X.î X.w) X.A X.V X.xe)(hc:X.calm=true)(hi:QI X Z q tg it iter)(hg:QG X Z pn t tg)(hb:QSs X Z pn B ss)(hs:(∀x,foldedSetIterable iter X.V x=pure x)<|>Ŗ):QS X Z pn (wJ it t B) (.For tg iter ss [] pos):=_e0 hp hc hi.D hg hb hs
end
mutual
def jK(h:Heap):D->Value->Prop
 |.non,u=>u=.none|.bl b,u=>u=.bool b|.int i,u=>∃t,u=.int i t|.str z,u=>∃t,u=.str z t|.tup ds,u=>∃a us,u=.ref a/\h.IsTuple a us.toArray/\CReps h ds us|.lst ds,u=>∃a us,u=.ref a/\h.IsList a us.toArray/\CReps h ds us|.dct _,_=>False|.obj _ _,_=>False
def CReps(h:Heap):List D->List Value->Prop
 |[],us=>us=[]|d::ds,us=>∃u r,us=u::r/\jK h d u/\CReps h ds r
end
def _e2:D.flat n (.dct k)=false:=by cases n<;>simp[D.flat]
def _e3:D.flat n (.obj c k)=false:=by cases n<;>rfl
section
variable {X:Cx}{a9:LA9}{σ:L2.St}{H:Hp}{s:Shared}
mutual
theorem V9(I:Inv X a9 σ H s){g}:∀{n d v as u},RepL X.K H g d v as->d.flat n=true->RelV v u->jK s.heap d u
 | _,.non,_,_,_,h,_,r=>by
  unfold RepL at h;rw[h.1]at r;exact r
 | _,.bl _,_,_,_,h,_,r=>by
  unfold RepL at h;rw[h.1]at r;exact r
 | _,.int _,_,_,_,h,_,r=>by
  unfold RepL at h;rw[h.1]at r;exact r
 | _,.str _,_,_,_,h,_,r=>by
  unfold RepL at h;rw[h.1]at r;unfold jK;exact r
 | 0,.tup ds,_,_,_,h,f,r=>by cases f
 | n+1,.tup ds,_,_,_,h,f,r=>by
  obtain⟨a,xs,rfl,q,ra⟩:=h;cases r;obtain⟨ac,rv,p,_⟩:=I.tuple q;exact#[a,ac,rfl,p,creps_of I ra f rv]
 | 0,.lst ds,_,_,_,h,f,r=>by cases f
 | n+1,.lst ds,_,_,_,h,f,r=>by
  obtain⟨a,xs,bs,rfl,ra,q⟩:=h;cases r;have q':SqL X.K H a xs:=by
   rcases q with⟨q,_⟩|⟨_,q,_⟩
   ·exact SqL.of q
   ·exact(LsR.of q).sq
  obtain⟨ac,rv,p,_⟩:=I.list q';exact#[a,ac,rfl,p.isList,creps_of I ra f rv]
 |_,.dct _,_,_,_,h,f,r=>by rw[_e2]at f;cases f|_,.obj _ _,_,_,_,h,f,r=>by rw[_e3]at f;cases f
theorem creps_of(I:Inv X a9 σ H s){g}:∀{n ds xs as us},RepA X.K H g ds xs as->D.flats n ds=true->Vals xs us->CReps s.heap ds us
 | _,[],_,_,_,h,_,r=>by
  rw[h.1]at r;cases r;unfold CReps;rfl
 | n,d::ds,_,_,_,h,f,r=>by
  unfold D.flats at f;rw[Bool.and_eq_true]at f;obtain⟨x,rr,bs,cs,rfl,rfl,h1,h2⟩:=h;cases r with
  |cons r1 r2=>
   exact#[_,_,rfl,V9 I h1 f.1 r1,creps_of I h2 f.2 r2]
end
end
def CReps.len:∀{ds us},CReps h ds us->ds.B=us.B
 |[],_,r=>by rw[r];rfl
 |d::ds,_,r=>by
  let#[u,rr,rfl,_,h2]:=r;simp[CReps.len h2]
def CReps.get:∀{ds us} {j:Nat} {d},CReps h ds us->ds[j]?=@d->∃u,us[j]?=@u/\jK h d u
 | [],_,_,_,_,e=>by symm
 | d::ds,_,j,d',r,e=>by
  let#[u,rr,rfl,h1,h2]:=r;cases j with
  |zero=>symm
  |succ j=>
   obtain _:=CReps.get h2 (~~~e)
   symm
def _e4{h:Heap}(p:h.IsTuple a x)(q:h.IsTuple a y):x=y:=by
 let#[o,h1,_,n,h2]:=p;let#[o',h3,_,n',h4]:=q
 symm
def _e5{h:Heap}(p:h.IsList a x)(q:h.IsList a y):x=y:=by
 let#[o,h1,_,n,h2]:=p;let#[o',h3,_,n',h4]:=q
 symm
def _e6{h:Heap}(p:h.IsList a x)(q:h.IsTuple a y):False:=by
 let#[o,h1,h2,_]:=p;let#[o',h3,h4,_]:=q
 grind
inductive Cv (h:Heap):D->Value->Prop
 |non:Cv h .ç .å
 |bl (b:Bool):Cv h (.bl b) (.bool b)
 |int (i:Int) (t:_):Cv h (.E i) (.E i t)
 |str (z:Str) (t:_):Cv h (.ã z) (.ã z t)
 |lst {ds:List D} {a:Addr} {us:List Value} (p:h.IsList a us.H) (q:CReps h ds us):Cv h (.L ds) (.J a)
 |tup {ds:List D} {a:Addr} {us:List Value} (p:h.IsTuple a us.H) (q:CReps h ds us):Cv h (.X ds) (.J a)
def crv(r:jK h d u):Cv h d u:=by
 cases d<;>unfold jK at r
 all_goals first|show r.ë|(subst r;constructor)|(let#[_,rfl]:=r;constructor)|(let#[_,_,rfl,p,q]:=r;first|show .L p q|show .X p q)
#where in
mutual
theorem _e7{h d d' u}(a:jK h d u)(b:jK h d' u):d=d':=by
 cases d<;>cases crv a<;>cases crv b<;>try rfl
 ·exact(_e6 ‹_› ‹_›).elim
 ·rename_i p r _ _ r' p';cases Array.mk.inj (_e4 p p');rw[_Ci r r']
 ·rename_i p r _ _ r' p';cases Array.mk.inj (_e5 p p');rw[_Ci r r']
 ·exact(_e6 ‹_› ‹_›).elim
theorem _Ci{h}:∀{ds ds' us},CReps h ds us->CReps h ds' us->ds=ds'
 | [],ds',us,a,b=>by
  unfold CReps at a;subst a;cases ds' with|nil=>rfl|cons d ds=>unfold CReps at b;obtain⟨_,_,e,_⟩:=b;cases e
 | d::ds,ds',us,a,b=>by
  unfold CReps at a;obtain⟨u,r,rfl,h1,h2⟩:=a;cases ds' with
  |nil=>unfold CReps at b;cases b
  |cons d' ds'=>
   obtain⟨u',r',e,h3,h4⟩:=b;cases e;rw[_e7 h1 h3,_Ci h2 h4]
end
mutual
theorem _e8:∀{n d},d.flat n=true->peq d d=true
 |_,.non,_=>by rfl|_,.bl b,_=>by unfold peq;simp|_,.int b,_=>by unfold peq;simp|_,.str b,_=>by unfold peq;simp|n+1,.tup ds,f=>peqs_refl f|n+1,.lst ds,f=>peqs_refl f|_,.dct _,f=>by rw[_e2]at f;cases f|_,.obj _ _,f=>by rw[_e3]at f;cases f
theorem peqs_refl:∀{n d},D.flats n d=true->peqs d d=true
 |_,[],_=>by rfl
 |n,d::ds,f=>by
  unfold D.flats at f;rw[Bool.and_eq_true]at f;unfold peqs;rw[_e8 f.1,peqs_refl f.2];rfl
end
def _e9:∀{n ds} {j:Nat} {d},D.flats n ds=true->ds[j]?=@d->d.flat n=true
 |_,[],_,_,_,e=>by symm
 |n,d::ds,j,d',f,e=>by
  unfold D.flats at f;rw[Bool.æ]at f;cases j with|zero=>symm|succ j=>show _e9 f.2 (~~~e)
def pAt(as bs:List D)(j:Nat):Bool:=match as[j]?,bs[j]? with
 |some a,@b=>peq a b|_,_=>true
def _fa:∀as bs,as.B=bs.B->(List.r as.B).all (pAt as bs)=peqs as bs
 |[],[],_=>by rfl
 |a::as,b::bs,h=>by
  rw[Xn,List.range_succ_eq_map,List.all_cons,List.all_map];ext peqs;rw[<-(_fa as bs (~~~h))];rfl
def _fb:∀as bs,as.B≠bs.B->peqs as bs=false
 |[],[],h=>by symm
 |a::as,b::bs,h=>by
  ext peqs;rw[_fb as bs (~~~h),Bool.and_false]
 |[],_::_,_=>by rfl|_::_,[],_=>by rfl
def _fc(as bs):((List.r (min as.B bs.B)).all (pAt as bs)&&as.B==bs.B)=peqs as bs:=by
 by_cases e:as.B=bs.B
 .rw[<-e,Nat.min_self,_fa as bs e];simp
 .rw[_fb as bs e]
  symm
section
def _fd(ra:CReps s.G as us)(rb:CReps s.G bs ws)
  (h:∀(j:Nat) (d d') (u w),as[j]?=@d->bs[j]?=@d'->jK s.G d u->jK s.G d' w->SeqAt.EqAt A s u w (peq d d')):
  ∀j h1 (h2:j<ws.H.M),SeqAt.EqAt A s us.H[j] ws.H[j] (pAt as bs j):=λj h1 h2=>by
 let l1:=ra.len;let l2:=rb.len;simp at h1 h2;let ha:j<as.B:=.q
 let hb:j<bs.B:=.q
 let#[u,eu,ru]:=ra.get (X1 ha);let#[w,ew,mi]:=rb.get (X1 hb);let e1:us.H[j]=u:=by
  symm
 let e2:ws.H[j]=w:=by
  symm
 let e3:pAt as bs j=peq as[j] bs[j]:=by
  ext pAt;rw[X1 ha,X1 hb]
 rw[e1,e2,e3];show h j _ _ u w (X1 ha) (X1 hb) ru mi
#where in
def _fe(hu:A.â<cLine)(r:jK s.G d u)(r':jK s.G d' w)
  (el:∀as bs (us ws),(d=.L as\/d=.X as)->(d'=.L bs\/d'=.X bs)->CReps s.G as us->CReps s.G bs ws->∀j (h1) (h2:j<ws.H.M),SeqAt.EqAt A.in1 s us.H[j] ws.H[j] (pAt as bs j)):
  SeqAt.RcAt A s u w (peq d d'):=by
 cases crv r<;>cases crv r'<;>ext peq<;>try right
 .show SeqAt.RcAt.none_none
 .show SeqAt.RcAt.none_bool _
 .show SeqAt.RcAt.none_int _ _
 .show SeqAt.RcAt.none_str _ _
 .show SeqAt.RcAt.none_list ‹_› hu
 .show SeqAt.RcAt.none_tuple ‹_› hu
 .show SeqAt.RcAt.bool_none _
 .show SeqAt.RcAt.bool_bool _ _
 .show SeqAt.RcAt.bool_int _ _ _
 .show SeqAt.RcAt.bool_str _ _ _
 .show SeqAt.RcAt.bool_list _ ‹_› hu
 .show SeqAt.RcAt.bool_tuple _ ‹_› hu
 .show SeqAt.RcAt.int_none _ _
 .show SeqAt.RcAt.int_bool _ _ _
 .show SeqAt.RcAt.int_int _ _ _ _
 .show SeqAt.RcAt.int_str _ _ _ _
 .show SeqAt.RcAt.int_list _ _ ‹_› hu
 .show SeqAt.RcAt.int_tuple _ _ ‹_› hu
 .show SeqAt.RcAt.str_none _ _
 .show SeqAt.RcAt.str_bool _ _ _
 .show SeqAt.RcAt.str_int _ _ _ _
 .show SeqAt.RcAt.str_str _ _ _ _
 .show SeqAt.RcAt.str_list _ _ ‹_› hu
 .show SeqAt.RcAt.str_tuple _ _ ‹_› hu
 .show SeqAt.RcAt.list_none ‹_› hu
 .show SeqAt.RcAt.list_bool _ ‹_› hu
 .show SeqAt.RcAt.list_int _ _ ‹_› hu
 .show SeqAt.RcAt.list_str _ _ ‹_› hu
 .revert as a us p ra bs b ws p' rb;let l1:=ra.len;let l2:=rb.len
  by_cases hl:as.B=bs.B
  .rw[<-_fa as bs hl];let z:=SeqAt.RcAt.lists (A:=A) (s:=s) (e:=pAt as bs) p p' (by simp;symm) hu (el as bs us ws (.O rfl) (.O rfl) ra rb);rw[Xe,<-l1]at z;show z
  .rw[_fb as bs hl];show SeqAt.RcAt.lists_lengths p p' (by simp;symm) hu
 .show SeqAt.RcAt.list_tuple ‹_› ‹_› hu
 .show SeqAt.RcAt.tuple_none ‹_› hu
 .show SeqAt.RcAt.tuple_bool _ ‹_› hu
 .show SeqAt.RcAt.tuple_int _ _ ‹_› hu
 .show SeqAt.RcAt.tuple_str _ _ ‹_› hu
 .show SeqAt.RcAt.tuple_list ‹_› ‹_› hu
 .revert as a us p ra bs b ws p' rb;rw[<-_fc as bs];let z:=SeqAt.RcAt.tuples (A:=A) (s:=s) (e:=pAt as bs) p p' hu (el as bs us ws (.Z rfl) (.Z rfl) ra rb);rw[Xe,Xe,<-ra.len,<-rb.len]at z;show z
#where in
def _ff(hu:A.â<cLine)(r:jK s.G d u)(r':jK s.G d' w)
  (el:∀as bs (us ws),(d=.L as\/d=.X as)->(d'=.L bs\/d'=.X bs)->CReps s.G as us->CReps s.G bs ws->∀j (h1) (h2:j<ws.H.M),SeqAt.EqAt A.in1 s us.H[j] ws.H[j] (pAt as bs j)):
  SeqAt.ü A s u w (!peq d d'):=by
 cases crv r<;>cases crv r'<;>ext peq<;>try right
 .show SeqAt.ü.none_none
 .show SeqAt.ü.none_bool _
 .show SeqAt.ü.none_int _ _
 .show SeqAt.ü.none_str _ _
 .show SeqAt.ü.none_list ‹_› hu
 .show SeqAt.ü.none_tuple ‹_› hu
 .show SeqAt.ü.bool_none _
 .show SeqAt.ü.bool_bool _ _
 .show SeqAt.ü.bool_int _ _ _
 .show SeqAt.ü.bool_str _ _ _
 .show SeqAt.ü.bool_list _ ‹_› hu
 .show SeqAt.ü.bool_tuple _ ‹_› hu
 .show SeqAt.ü.int_none _ _
 .show SeqAt.ü.int_bool _ _ _
 .show SeqAt.ü.int_int _ _ _ _
 .show SeqAt.ü.int_str _ _ _ _
 .show SeqAt.ü.int_list _ _ ‹_› hu
 .show SeqAt.ü.int_tuple _ _ ‹_› hu
 .show SeqAt.ü.str_none _ _
 .show SeqAt.ü.str_bool _ _ _
 .show SeqAt.ü.str_int _ _ _ _
 .show SeqAt.ü.str_str _ _ _ _
 .show SeqAt.ü.str_list _ _ ‹_› hu
 .show SeqAt.ü.str_tuple _ _ ‹_› hu
 .show SeqAt.ü.list_none ‹_› hu
 .show SeqAt.ü.list_bool _ ‹_› hu
 .show SeqAt.ü.list_int _ _ ‹_› hu
 .show SeqAt.ü.list_str _ _ ‹_› hu
 .revert as a us p ra bs b ws p' rb;let l1:=ra.len;let l2:=rb.len
  by_cases hl:as.B=bs.B
  .rw[<-_fa as bs hl];let z:=SeqAt.ü.lists (A:=A) (s:=s) (e:=pAt as bs) p p' (by simp;symm) hu (el as bs us ws (.O rfl) (.O rfl) ra rb);rw[Xe,<-l1]at z;show z
  .rw[_fb as bs hl];show SeqAt.ü.lists_lengths p p' (by simp;symm) hu
 .show SeqAt.ü.list_tuple ‹_› ‹_› hu
 .show SeqAt.ü.tuple_none ‹_› hu
 .show SeqAt.ü.tuple_bool _ ‹_› hu
 .show SeqAt.ü.tuple_int _ _ ‹_› hu
 .show SeqAt.ü.tuple_str _ _ ‹_› hu
 .show SeqAt.ü.tuple_list ‹_› ‹_› hu
 .revert as a us p ra bs b ws p' rb;rw[<-_fc as bs];let z:=SeqAt.ü.tuples (A:=A) (s:=s) (e:=pAt as bs) p p' hu (el as bs us ws (.Z rfl) (.Z rfl) ra rb);rw[Xe,Xe,<-ra.len,<-rb.len]at z;show z
def _fg(qi:Value.J a=Value.J a'->b=true)(rc:SeqAt.RcAt A s (.J a) (.J a') b):SeqAt.EqAt A s (.J a) (.J a') b:=by
 by_cases e:a=a'
 .subst e;rw[qi rfl];show SeqAt.EqAt.same _
 .show SeqAt.EqAt.of_refs e rc
def _fh(hu:A.â<cLine)(r:jK s.G d u)(r':jK s.G d' w)(qi:u=w->peq d d'=true)(rc:SeqAt.RcAt A s u w (peq d d')):SeqAt.EqAt A s u w (peq d d'):=by
 cases crv r<;>cases crv r'<;>try ext peq
 .show SeqAt.EqAt.same _
 .show SeqAt.EqAt.none_bool _
 .show SeqAt.EqAt.none_int _ _
 .show SeqAt.EqAt.none_str _ _
 .show SeqAt.EqAt.none_list ‹_› hu
 .show SeqAt.EqAt.none_tuple ‹_› hu
 .show SeqAt.EqAt.bool_none _
 .show SeqAt.EqAt.bool_bool _ _
 .show SeqAt.EqAt.bool_int _ _ _
 .show SeqAt.EqAt.bool_str _ _ _
 .show SeqAt.EqAt.bool_list _ ‹_› hu
 .show SeqAt.EqAt.bool_tuple _ ‹_› hu
 .show SeqAt.EqAt.int_none _ _
 .show SeqAt.EqAt.int_bool _ _ _
 .show SeqAt.EqAt.int_int _ _ _ _
 .show SeqAt.EqAt.int_str _ _ _ _
 .show SeqAt.EqAt.int_list _ _ ‹_› hu
 .show SeqAt.EqAt.int_tuple _ _ ‹_› hu
 .show SeqAt.EqAt.str_none _ _
 .show SeqAt.EqAt.str_bool _ _ _
 .show SeqAt.EqAt.str_int _ _ _ _
 .show SeqAt.EqAt.str_str _ _ _ _
 .show SeqAt.EqAt.str_list _ _ ‹_› hu
 .show SeqAt.EqAt.str_tuple _ _ ‹_› hu
 .show SeqAt.EqAt.list_none ‹_› hu
 .show SeqAt.EqAt.list_bool _ ‹_› hu
 .show SeqAt.EqAt.list_int _ _ ‹_› hu
 .show SeqAt.EqAt.list_str _ _ ‹_› hu
 .show _fg qi rc
 .show _fg qi rc
 .show SeqAt.EqAt.tuple_none ‹_› hu
 .show SeqAt.EqAt.tuple_bool _ ‹_› hu
 .show SeqAt.EqAt.tuple_int _ _ ‹_› hu
 .show SeqAt.EqAt.tuple_str _ _ ‹_› hu
 .show _fg qi rc
 .show _fg qi rc
def W7:∀n {d d' u w A},d.flat n=true->jK s.G d u->jK s.G d' w->A.â+n<cLine->SeqAt.EqAt A s u w (peq d d'):=by
 let h0:∀{n d d' u w A},d.flat n=true->jK s.G d u->jK s.G d' w->A.â+n<cLine->(∀m,n=m+1->∀{d d' u w A},d.flat m=true->jK s.G d u->jK s.G d' w->A.â+m<cLine->SeqAt.EqAt A s u w (peq d d'))->SeqAt.EqAt A s u w (peq d d'):=fun {n d d' u w A} f r r' hu ih=>by
  show _fh .q r r' (λe=>?_) (_fe .q r r' λas bs us ws h1 h2 ra rb=>?_)
  .subst e;rw[_e7 r' r];show _e8 f
  .cases n with
   |zero=>let rfl\/rfl:=h1<;>(unfold D.flat at f;cases f)
   |succ n=>
    let fs:D.flats n as=true:=by let rfl\/rfl:=h1<;>(unfold D.flat at f;show f)
    show _fd ra rb λj d d' u w e1 e2 q1 q2=>ih n rfl (_e9 fs e1) q1 q2 .q
 intro n
 induction n with|zero=>show λf r r' hu=>h0 f r r' hu λm e=>nomatch e|succ n ih=>show λf r r' hu=>h0 f r r' hu λm e=>by cases e;show ih
end
section
variable {K:Frag}
def _fi(K:Frag):R2:=λx y H Q=>∃d d' as bs,RepL K H true d x as/\RepL K H true d' y bs/\d.flat 40=true/\d'.flat 40=true/\Q (.bl (peq d d')) H
def _fj(K:Frag):R2:=λx y H Q=>∃d d' as bs,RepL K H true d x as/\RepL K H true d' y bs/\d.flat 40=true/\d'.flat 40=true/\Q (.bl (!peq d d')) H
def _fk(hu:X.A.â+64<cLine)(hK:X.K=K<|>Ŕ):OpR X (compareOp .Eq) (_fi K):=by
 subst hK;rintro a9 s σ H x y v u Q I rx ry ⟨d,d',as,bs,h1,h2,f1,f2,q⟩;show _fe .q (V9 I h1 f1 rx) (V9 I h2 f2 ry) (λas bs us ws e1 e2 ra rb=>_fd ra rb λj d d' u w e3 e4 q1 q2=>?_) _ _ _ _ #[.bl _,H,I,rfl,q];let fs:D.flats 39 as=true:=by let rfl\/rfl:=e1<;>(unfold D.flat at f1;show f1)
 show W7 39 (_e9 fs e3) q1 q2 .q
def _fl(hu:X.A.â+64<cLine)(hK:X.K=K<|>Ŕ):OpR X (compareOp .NotEq) (_fj K):=by
 subst hK;rintro a9 s σ H x y v u Q I rx ry ⟨d,d',as,bs,h1,h2,f1,f2,q⟩;show _ff .q (V9 I h1 f1 rx) (V9 I h2 f2 ry) (λas bs us ws e1 e2 ra rb=>_fd ra rb λj d d' u w e3 e4 q1 q2=>?_) _ _ _ _ #[.bl _,H,I,rfl,q];let fs:D.flats 39 as=true:=by let rfl\/rfl:=e1<;>(unfold D.flat at f1;show f1)
 show W7 39 (_e9 fs e3) q1 q2 .q
def _fm:Ad2 K (_fi K) (pu2 fEq):=by
 intro H x y s Q ox oy hf k;unfold pu2 fEq at hf
 by_cases hc:(x.d.flat 40&&y.d.flat 40)=true
 .rw[X7 hc]at hf;rw[Bool.æ]at hc;cases _aa hf;show#[x.d,y.d,x.as,y.as,RepO.wk ox,RepO.wk oy,hc.1,hc.2,k _ H rfl rfl x6]
 .symm
def _fn:Ad2 K (_fj K) (pu2 fNe):=by
 intro H x y s Q ox oy hf k;unfold pu2 fNe at hf
 by_cases hc:(x.d.flat 40&&y.d.flat 40)=true
 .rw[X7 hc]at hf;rw[Bool.æ]at hc;cases _aa hf;show#[x.d,y.d,x.as,y.as,RepO.wk ox,RepO.wk oy,hc.1,hc.2,k _ H rfl rfl x6]
 .symm
end
mutual
def WK:D->Nat
 |.tup xs=>drwDs xs+1|_=>1
def drwDs:List D->Nat
 |[]=>0|a::x=>WK a+drwDs x
end
mutual
theorem _fo{n:Nat}{d:D}(h:jX n d=true):d.flat n=true:=by
 cases d<;>cases n<;>unfold jX at h<;>first|rfl|(cases h)|skip
 exact _Kf h
theorem _Kf{n:Nat}{ds:List D}(h:keyDs n ds=true):D.flats n ds=true:=by
 cases ds<;>unfold keyDs at h<;>unfold D.flats
 ·rfl
 rw[Bool.and_eq_true]at h;rw[_fo h.1,_Kf h.2];rfl
end
mutual
theorem _fp{n m:Nat}{a b:D}(ha:jX n a=true)(hb:jX m b=true):peq a b=decide (a=b):=by
 cases a<;>first|(cases n<;>(unfold jX at ha;cases ha);done)|(cases b<;>first|(cases m<;>(unfold jX at hb;cases hb);done)|(simp[peq];done)|(simp;first|rfl|exact Bool.beq_eq_decide_eq _ _)|skip)
 cases n<;>cases m<;>unfold jX at ha hb<;>first|(cases ha)|(cases hb)|simpa [peq]using keys_peq ha hb
theorem keys_peq{n m:Nat}{a b:List D}(ha:keyDs n a=true)(hb:keyDs m b=true):peqs a b=decide (a=b):=by
 cases a<;>cases b<;>unfold keyDs at ha hb<;>simp[peqs]
 rw[Bool.and_eq_true]at ha hb;rw[_fp ha.1 hb.1,keys_peq ha.2 hb.2]
end
#where in
def _fq:∀{ds:List D} {us:List Value},keyDs n ds=true->CReps h ds us->∀u>us,∃d,jX n d=true/\jK h d u:=by
 intro ds
 induction ds<;>intro us hk r u hu<;>unfold CReps at r
 .subst r;cases hu
 .revert ih;let#[v,r,rfl,h1,h2]:=r;unfold keyDs at hk;rw[Bool.æ]at hk;let rfl\/hu:=aD hu
  .show#[_,hk.1,h1]
  .show ih hk.2 h2 u hu
#where in
def _fr{P : Nat -> Value -> Prop}(b : ∀n u,(u = .å \/ (∃i t,u = .E i t) \/ ∃x t,u = .ã x t) -> P n u)(st : ∀n a (us : List Value),h.IsTuple a us.H -> (∀u > us,P n u) -> P (n+1) (.J a)): ∀n {d : D} {u : Value},jX n d = true -> jK h d u -> P n u:= by
  intro n
  induction n <;> intro d u hk hr <;> cases crv hr <;> unfold jX at hk <;> first
    |(cases hk; done)
    |show b _ _ (.O rfl)
    |show b _ _ (.Z (.O ⟨_,_,rfl⟩))
    |show b _ _ (.Z (.Z ⟨_,_,rfl⟩))
    |skip
  revert ih _ _ _ p q;show st _ _ _ p λu hu=> ?_
  let#[d,k,r]:= _fq hk q u hu;show ih k r
section
def _fs(h:Q 4238894112 {s with toks:=s.ý+1}):wpAny (model prog w) A (pyHash .å) Q E s:=by
 let ty:s.TypeIs Value.å "NoneType":=rfl;ext pyHash;show X0 ?_;show X5 (X0 (Zl ty F.slot_NoneType_hash.Y ?_));change wpAny _ _ (callSpecialIfBoundUnlessNone? Value.å "__hash__" _ >>= _) Q E s;show X0 (wpAny_callSpecialIfBoundUnlessNone?_slot ty F.slot_NoneType_hash (Y8 F.slot_NoneType_hash ty F.entry_NoneType_hash ?_ (F.args_NoneType_hash_1 _)));show wpAny_ret_mkInt ?_;change wpAny _ _ (if(decide (-(2:Int) ^ 63<=(4238894112:Int))&&decide ((4238894112:Int)<2 ^ 63))=true then _ else _) Q E _;rw[X7 (by rfl)];show X5 h
def _ft:∀ds:List D,hashDs w (ds++[d])=hashDs w ds++[J5 w d]
 |[]=>by rfl|a::x=>by rw[List.cons_append,hashDs,_ft x];rfl
def _fu:∀ds:List D,drwDs (ds++[d])=drwDs ds+WK d
 |[]=>by simp[drwDs]|a::x=>by rw[List.cons_append,drwDs,drwDs,_fu x];lia
#where in
def _fv:∀(n:Nat) {d:D} {u:Value} {A:Around} {s:Shared} {Q:Int->Shared->Prop},jX n d=true->jK s.G d u->A.â+4*n<cLine->Q (J5 w d) {s with toks:=s.ý+WK d}->wpAny (model prog w) A (pyHash u) Q E s:=by
 intro n
 induction n<;>intro d u A s Q hk hr hu h<;>cases crv hr<;>unfold jX at hk<;>first|(cases hk;done)|((with_reducible show _fs ?_);show h)|((with_reducible show wpAny_pyHash_int ?_);show h)|((with_reducible show wpAny_pyHash_str ?_);show h)|skip
 revert n ih ds a us ht hi;let ty:=ht.typeIs;let#[ob,io,dk,nn,m6]:=ht;ext pyHash;ext pyHashByItsType;show X0 (wpAny_cRoomFor_or (.Z .q) ?_);show X0 (Zl ty F.slot_tuple_hash.Y ?_);change wpAny _ _ (if(@(Value.à "tuple.__hash__")==@Value.å)=true then _ else _) Q E s;rw [Xb (show ¬(@(Value.à "tuple.__hash__")==@Value.å)=true by rw[beq_builtin_none];show Bool.false_ne_true)];show X0 (Zl ty F.slot_tuple_hash.Y ?_);change wpAny _ _ (callSpecialIfBoundUnlessNone? (Value.J a) "__hash__" _ >>= _) Q E s;show X0 (wpAny_callSpecialIfBoundUnlessNone?_slot ty F.slot_tuple_hash (Y8 F.slot_tuple_hash ty F.entry_tuple_hash ?_ (F.args_tuple_hash_1 _)));change wpAny _ _ (Builtin.Tuple.tupleItemsOf (Value.J a) >>= _) _ _ s;show X0 (wpAny_tupleItemsOf io m6 ?_);show X0 ?_;rw [<-Array.forIn_toList];show Zw _ (λaf (b:Array Int) s'=>∃pre post,ds=pre++post/\keyDs n post=true/\CReps s.G post af/\b.R=hashDs w pre/\s'={s with toks:=s.ý+drwDs pre}) _ ?_ ?_ _ _ #[[],ds,rfl,hk,hi,rfl,rfl]
 .rintro x af b s' ⟨pre,post,rfl,p8,hl,hb,rfl⟩;cases post with
  | nil=>unfold CReps at hl;cases hl
  | cons d post=>
   unfold CReps at hl;let#[u1,r1,e1,h1,h2]:=hl;injection e1 with e1 e2;subst e1 e2;unfold keyDs at p8;rw[Bool.æ]at p8;let ru:A.in1.â+4*n<cLine:=by change A.â+1+4*n<cLine;lia
   let fin:∃p q,pre++d::post=p++q/\keyDs n q=true/\CReps s.G q af/\(b.ï (J5 w d)).R=hashDs w p/\({s with toks:=s.ý+drwDs pre+WK d}:Shared)={s with toks:=s.ý+drwDs p}:=
    #[pre++[d],post,by simp,p8.2,h2,by rw[_ft,<-hb];simp,by rw[_fu,Nat.add_assoc]]
   show X0 (ih p8.1 h1 ru ?_)
   first
    |show X5 fin
    |show X0 (X5 (X5 fin))
 .rintro b s' ⟨pre,post,rfl,p8,hl,hb,rfl⟩;let:post=[]:=by
   cases post with|nil=>rfl|cons d post=>unfold CReps at hl;let#[_,_,z,_]:=hl;cases z
  subst this;rw[Xz]at h;change wpAny _ _ (retInt (Builtin.Tuple.tupleHashOf b.R)) _ _ _;rw[hb];show wpAny_ret_mkInt ?_;generalize hv:Builtin.Tuple.tupleHashOf (hashDs w pre)=v;let h:Q (reduceHash v) {s with toks:=s.ý+drwDs pre+1}:=by rw[<-hv];unfold J5 WK at h;rw[Nat.add_assoc];show h
  change wpAny _ _ (if(decide (-(2:Int) ^ 63<=v)&&decide (v<2 ^ 63))=true then _ else _) Q E _;unfold reduceHash at h
  by_cases hq:(decide (-(2:Int) ^ 63<=v)&&decide (v<2 ^ 63))=true
  .rw[X7 hq]at h ⊢;show X5 h
  .rw[Xb hq]at h ⊢;show X0 (Zq (X5 h))
def _fw(n m:Nat)(hm:n<=m)(hk:jX n d=true)(hr:jK s.G d u)(h:Q true s):wpAny (model prog w) A (eqIsQuiet m u) Q E s:=by
 show _fr (P:=λn u=>∀m (Q:Bool->Shared->Prop),n<=m->Q true s->wpAny (model prog w) A (eqIsQuiet m u) Q E s) ?_ (λn a us ht hi m Q hm h=>?_) n hk hr m Q hm h
 .rintro n u (rfl|⟨i,t,rfl⟩|⟨i,t,rfl⟩) m Q _ h<;>(rw[eqIsQuiet_byValue m rfl];show X5 h)
 let ty:=ht.typeIs;let#[ob,io,dk,nn,m6]:=ht;cases m
 .symm
 ext eqIsQuiet;show X0 (Zl ty F.slot_tuple_eq.Y ?_);change wpAny _ _ (isInstance (Value.J a) (.e "tuple") >>= _) _ _ s;show X0 (Zx ty isSubtype_tuple_tuple ?_);dsimp[Bool.not_true,Bool.false_eq_true,if_false];show X0 (Zy io m6 (X0 ?_));change wpAny _ _ (forIn us.H _ _) _ _ s;rw[<-Array.forIn_toList];show Zw _ (λaf r s'=>r.1=none/\s'=s/\∀u>af,u>us) _ ?_ ?_ _ _ #[rfl,rfl,λ_ h=>h]
 .rintro v af r s' ⟨hr,rfl,hu⟩;show X0 (hi v (hu v X2) _ _ (by symm) ?_);simp;show X5 #[rfl,rfl,λu h=>hu u (_ad _ h)]
 .rintro ⟨r1,r2⟩ s' ⟨hz,rfl,_⟩;cases hz;show X5 h
end
mutual
theorem _fx{h h':Heap}(et:∀b ob us n,h.get? b=⇑ob->ob.cls=.type "tuple"->ob.data=.seq us n->h'.get? b=⇑ob){n:Nat}{d:D}{u:Value}(hk:jX n d=true)(r:jK h d u):jK h' d u:=by
 cases d<;>cases n<;>unfold jX at hk<;>unfold jK at r ⊢<;>first|exact r|(cases hk;done)|skip
 obtain⟨a,us,e,⟨ob,io,hc,nn,m6⟩,hi⟩:=r;exact#[a,us,e,#[ob,et a ob _ _ io hc m6,hc,nn,m6],_Ck et hk hi]
theorem _Ck{h h':Heap}(et:∀b ob us n,h.get? b=⇑ob->ob.cls=.type "tuple"->ob.data=.seq us n->h'.get? b=⇑ob){n:Nat}{ds:List D}{us:List Value}(hk:keyDs n ds=true)(r:CReps h ds us):CReps h' ds us:=by
 cases ds<;>unfold CReps at r ⊢
 ·exact r
 unfold keyDs at hk;rw[Bool.and_eq_true]at hk;obtain⟨u,rr,e,h1,h2⟩:=r;exact#[u,rr,e,_fx et hk.1 h1,_Ck et hk.2 h2]
end
def KW(prog:Program)(w:PySem.World):HeapKind prog w Kd where
 is:=λh k a=>jK h k.1 (.J a)
 hash:=λk=>J5 w k.1
 draws:=λk=>WK k.1
 room:=λA=>A.â+40<cLine
 inj:=λhx hy=>Subtype.ext (_e7 hx hy)
 keeps:=fun {h h' k a d o es ep} x ho hd hs=>_fx (λb ob us n e _ z=>(hs.2 b (by rintro rfl;rw[ho]at e;cases e;rw[hd]at z;cases z)).I e) k.2 x
 pyHash:=fun {A E s k a Q} hu hk h=>_fv 6 k.2 hk (Nat.lt_of_le_of_lt (Nat.add_le_add_left .q _) hu) h
 eqBool:=fun {A E s x y a b Q} hu hx hy h=>by
  let e:peq x.1 y.1=decide (x=y):=by
   rw[_fp x.2 y.2]
   by_cases z:x=y
   .rw[X8 z,X8 (congrArg Subtype.val z)]
   .rw[Xk z,Xk λq=>z (Subtype.ext q)]
  let:=W7 (s:=s) 6 (A:=A) (_fo x.2) hx hy (Nat.lt_of_le_of_lt (Nat.add_le_add_left .q _) hu);rw[e]at this;show this prog w E Q h
 quiet:=fun {A E s k a Q} hk h=>_fw 6 8 .q k.2 hk h
abbrev Sl.sd(x:Sl):Sd:=(x.o,x.d)
def tA(Z:Fx0)(q:Bool)(cs:List Ex):TA:=fun σ H Q=>∃E L r,Mt E σ L/\World Z.K H L/\vK cs E=@r/\Xc Z σ H L r /\
 ∀E' ys,r=.ok E' ys->∀(xs:List Sl) L' H',xs.C Sl.sd=ys->Mt E' σ L'->World Z.K H' (xs.C some++L')->Step H L H' (xs.C some++L')->(q=true->kj H H'/\∀b>j7 (xs.C some),H b=none)->Q (xs.C Sl.v) H'
def QA(X:Cx)(Z:Fx0)(q:Bool)(cs:List Ex)(es:List Expr):Prop:=PA X es (tA Z q cs)
def _fy(h:PA X es t)(w:∀ σ H Q,t' σ H Q->t σ H Q):PA X es t':=λpos a9 s σ H Q I q=>h pos a9 s σ H Q I (w σ H Q q)
section
def j9:QA X Z true [] []:=_fy vx fun σ H Q am=>ex8 am λE L r m w hc xc k=>by
 cases _aa hc;show k _ _ rfl [] L H rfl m w Step.ñ λ_=>#[λ_ _ z=>z,λ_ z=>(nomatch z)]
def j6(h:QE X Z q c e)(hs:QA X Z q cs es)(b7:Abs e es X<|>Ŕ):QA X Z q (c::cs) (e::es):=
 _fy (qX h hs b7) fun σ H Q am=>ex8 am λE L r m w hc xc k=>by
  show VQ m w (hc) xc λE1 s h1 x L1 H1 e1 e2 m1 w1 st sm=>?_
  let#[E2,ys,h2,h3]\/#[E2,cc,h2,h3]:=wY h1
  .cases _aa h3;show#[E1,L1,_,m1,w1.tail,h2,(λ_ _ z=>by cases z),λE' ys' z xs L2 H2 e3 m2 w2 bv ff=>?_];injection z with z1 z2;subst z1 z2;let#[w3,ft]:=XQ (T:=[@x]) w1 bv w2;show k _ _ rfl (x::xs) L2 H2 (by rw[List.l,e3];simp[Sl.sd,e1,e2]) m2 w3 (st.I ft) λhq=>?_
   let#[a1,a2]:=sm hq;let#[b1,b2]:=ff hq;show#[kX a1 b1,λb hb=>?_];let z\/z:=aA hb
   .show a2 b z
   .show K4 a1 (b2 b z)
  .show#[E1,L1,_,m1,w1.tail,h2,(xc.step (st.I Step.drop)).C h3,λE' s' z=>by cases z]
end
section
variable {Z:Fx0}
def _fz:∀{cs E E' ys},vK cs E=@(.ok E' ys)->ys.B=cs.B
 | [],E,E',ys,h=>by cases _aa h;rfl
 | c::cs,E,E',ys,h=>by
  let#[E1,x,h1,h2]\/#[_,_,_,z]:=wY (h)
  .let#[E2,xs,h3,h4]\/#[_,_,_,z]:=wY h2
   .cases _aa h4;rw[Xn,Xn,_fz h3]
   .cases z
  .cases z
def _fA(m:Mt E σ L)(w:World Z.K H L)(h:bnd (vK cs E) F=@r)(xc:Xc Z σ H L r)
  (k:∀E1 ys,F E1 ys=@r->ys.B=cs.B->∀(xs:List Sl) L1 H1,xs.C Sl.sd=ys->Mt E1 σ L1->World Z.K H1 (xs.C some++L1)->Step H L H1 (xs.C some++L1)->(q=true->kj H H1/\∀b>j7 (xs.C some),H b=none)->G (xs.C Sl.v) H1):tA Z q cs σ H G:=by
 let#[E1,s,h1,h2]\/#[E1,c,h1,h2]:=wY h
 .show#[E,L,_,m,w,h1,(λ_ _ z=>by cases z),λE' s' z xs L' H' e1 m' w' st sm=>by
   injection z with z1 z2;subst z1 z2;show k _ _ h2 (_fz h1) xs L' H' e1 m' w' st sm]
 .show#[E,L,_,m,w,h1,xc.C h2,λE' s' z=>by cases z]
def _fB{K}(g):∀{xs:List Sl},(∀x>xs,x.ok K H)->(g=false->∀x>xs,qz x.sd=true)->∃bs,RepA K H g (xs.C Sl.d) (xs.C Sl.v) bs/\(∀b>bs,∃x>xs,b>x.as)/\(g=false->bs=j7 (xs.C some))/\(g=true->bs=xs.flatMap Sl.as)
 | [],_,_=>#[[],#[rfl,rfl],λ_ h=>(nomatch h),λ_=>rfl,λ_=>rfl]
 | x :: xs,h,ht=>by
  let#[bs,r,hb,ho,hg]:=_fB g (λy hy=>h y (_ad _ hy)) λhg y hy=>ht hg y (_ad _ hy)
  let hx:=h x X2;let key:∃cs,RepL K H g x.d x.v cs/\(∀b>cs,b>x.as)/\(g=false->cs=x.ì)/\(g=true->cs=x.as):=by
   cases g with
   | true=>show#[x.as,RepO.wk hx,λb hb=>hb,(λz=>by cases z),λ_=>rfl]
   | false=>
    by_cases ho:x.o=.dp
    .show#[x.as,?_,λb hb=>hb,λ_=>?_,λz=>by cases z]
     .let:=hx;unfold Sl.ok at this;rw[ho]at this;show this
     .ext Sl.ì;rw[ho]
    .let hp:x.d.pure=true:=by
      let z\/z:=Bool.or_eq_true_iff.mp (ht rfl x X2)
      .symm
      .show z
     let#[z,rp]:=RepL.pu (g':=false) (RepO.wk hx) hp;show#[[],rp,λ_ h=>(nomatch h),λ_=>(_d8 z).s,λz=>by cases z]
  let#[cs,r1,h1,h2,h3]:=key;show#[cs++bs,?_,λb gc=>?_,λxh=>?_,λxh=>?_]
  .show#[x.v,xs.C Sl.v,cs,bs,rfl,rfl,r1,r]
  .let z\/z:=aA gc
   .show#[x,X2,h1 b z]
   .symm
  .rw[List.l,jz,h2 xh,ho xh]
  .rw[List.flatMap_cons,h3 xh,hg xh]
def _fC{K}{xs:List Sl}(w:World K H (xs.C some++L))(out:∀bs,RepA K H true (xs.C Sl.d) (xs.C Sl.v) bs->Out K H H' #[o,d,v,ps++bs] bs):
  ∃bs,World K H' (@#[o,d,v,ps++bs]::L)/\Step H (xs.C some++L) H' (@#[o,d,v,ps++bs]::L):=by
 let#[bs,r,hb,_,_]:=_fB true (λx hx=>w.ok x (_ac _ (Yc hx))) (λz=>by cases z);let ap:∀b>bs,b∉j7 L:=λb gc hL=>by
  let#[x,hx,jo]:=hb b gc;let z\/z:=Sl.as_of jo
  .let nd:=w.nd;rw[k5,X9]at nd;show nd.2.2 b (mem_owned.y #[x,Yc hx,z]) b hL rfl
  .show w.ds b (by rw[k5];show _ab _ hL) (by rw[qK];show _ac _ (mem_frozen.y #[x,Yc hx,z]))
 let al:∀b>bs,H b≠none:=λb gc=>by
  let#[x,hx,jo]:=hb b gc;show(w.ok x (_ac _ (Yc hx))).some jo
 let sr:Src H (xs.C some++L) bs:=λb gc=>by
  let#[x,hx,jo]:=hb b gc;let z\/z:=Sl.as_of jo
  .show .Z (.O (by rw[k5];show _ac _ (mem_owned.y #[x,Yc hx,z])))
  .show .O (by rw[qK];show _ac _ (mem_frozen.y #[x,Yc hx,z]))
 let st:Step H (xs.C some++L) H L:=#[λ_ _ h _=>h,λa ha=>.O (by rw[k5];show _ab _ ha),λa ha=>.O (by rw[qK];show _ab _ ha)];show#[bs,ZZ (Z:=#[K,λ_=>none,λ_ _ _=>True]) w.right st (out bs r) ap al sr]
def _fD{K}{xs:List Sl}(w:World K H (xs.C some++L))(hp:H p=none):
  ∃bs,World K (upd H p (.L (xs.C Sl.v))) (@#[.rt,.L (xs.C Sl.d),.J p,p::bs]::L)/\Step H (xs.C some++L) (upd H p (.L (xs.C Sl.v))) (@#[.rt,.L (xs.C Sl.d),.J p,p::bs]::L):=
 _fC (ps:=[p]) w λ_ r=>Vw hp r λ_ h=>h
def _fE{K}{xs:List Sl}(w:World K H (xs.C some++L))(hp:H p=none):
  ∃bs,World K (upd H p (.X (xs.C Sl.v))) (@#[.x,.X (xs.C Sl.d),.J p,bs]::L)/\Step H (xs.C some++L) (upd H p (.X (xs.C Sl.v))) (@#[.x,.X (xs.C Sl.d),.J p,bs]::L):=
 _fC (ps:=[]) w λ_ r=>_ey hp r λ_ h=>h
def _fF{K}{xs:List Sl}(w:World K H (xs.C some++L))(ht:∀x>xs,qz x.sd=true)(hp:∀b>ps,H b=none)(nd:ps.U)(sm:kj H H')
  (rep:∀bs,RepA K H false (xs.C Sl.d) (xs.C Sl.v) bs->RepL K H' false d v (ps++bs)):
  World K H' (@#[.dp,d,v,ps++j7 (xs.C some)]::L)/\Step H (xs.C some++L) H' (@#[.dp,d,v,ps++j7 (xs.C some)]::L):=by
 let#[bs,r,hb,ho,_]:=_fB false (λx hx=>w.ok x (_ac _ (Yc hx))) (λ_=>ht);let e:=ho rfl;subst e;let w2:World K H' _:=#[λx hx=>RepO.kp (w.ok x hx) (Kp.of_same sm),w.nd,w.ds];let ndx:=w.nd;rw[k5,X9]at ndx;let al:∀b>j7 _,H b≠none:=λb hb=>w.own_some (by rw[k5];show _ac _ hb)
 show#[w2.right.ê (rep _ r) ?_ (λa ha hL=>?_) (λa ha hf=>?_) (λa ha=>(nomatch ha)) (λa ha=>λz=>(nomatch z)),#[λa ob h _=>sm a ob h,λa ha=>?_,λa ha=>?_]]
 .change(ps++j7 _).U;rw[X9];show#[nd,ndx.1,λa ha b hb e=>by subst e;show al a hb (hp a ha)]
 .let z\/z:=aA (ha)
  .show w.own_some (by rw[k5];show _ab _ hL) (hp a z)
  .show ndx.2.2 a z a hL rfl
 .let z\/z:=aA (ha)
  .show w.frz_some (by rw[qK];show _ab _ hf) (hp a z)
  .show w.ds a (by rw[k5];show _ac _ z) (by rw[qK];show _ab _ hf)
 .rw[jz]at ha;let z\/z:=aA ha
  .let y\/y:=aA (z)
   .show .Z (hp a y)
   .show .O (by rw[k5];show _ac _ y)
  .symm
 .show .O (by rw[qK];show _ab _ ha)
def _fG{xs:List Sl}(h:xs.C Sl.sd=ys):xs.C Sl.d=ys.C (·.2):=by rw[<-h,Xg];rfl
def _fH{xs:List Sl}(h:xs.C Sl.sd=ys)(ht:ys.all qz=true):∀x>xs,qz x.sd=true:=λx hx=>by
 rw[<-h,List.all_map,Yb]at ht;show ht x hx
def _fI{o}{xs:List Sl}{ys}{Q:VK}(h:mkL o E' ys=@r)(e:xs.C Sl.sd=ys)(w:World Z.K H1 (xs.C some++L'))(st:Step Hq Lq H1 (xs.C some++L'))(sm:q=true->kj Hq H1/\∀b>j7 (xs.C some),Hq b=none)
  (k:∀E'' a,r=.ok E'' a->∀x L'' H',x.o=a.1->x.d=a.2->Mt E'' σ L''->World Z.K H' (@x::L'')->Step Hq Lq H' (@x::L'')->(q=true->kj Hq H'/\∀b>x.ì,Hq b=none)->Q x.v H') (m:Mt E' σ L'):
  ∀ p,H1 p=none->Q (.J p) (upd H1 p (.L (xs.C Sl.v))):=by
 intro p hp;unfold mkL at h
 by_cases ho:o=.dp
 .rw[X7 ho]at h
  by_cases ht:ys.all qz=true
  .rw[X7 ht]at h;cases _aa h;let#[w2,s2]:=_fF (d:=.L _) w (_fH e ht) (λb hb=>by rw[aC hb];show hp) (by simp) (vw hp) (λbs r=>by
    show#[p,_,bs,rfl,r.kp (Kp.of_same (vw hp)),.O #[wj,rfl]])
   show k _ _ rfl _ L' _ rfl (by rw[_fG e]) m w2 (st.I s2) λhq=>#[kX (sm hq).1 (vw hp),λb hb=>?_]
   let z\/z:=aA (hb)
   .rw[aC z];show K4 (sm hq).1 hp
   .show(sm hq).2 b z
  .symm
 .rw[Xb ho]at h;cases _aa h;let#[bs,w2,s2]:=_fD w hp;show k _ _ rfl _ L' _ rfl (by rw[_fG e]) m w2 (st.I s2) λhq=>#[kX (sm hq).1 (vw hp),λb hb=>?_]
  let:b=p:=by simpa [Sl.ì]using hb
  rw[this];show K4 (sm hq).1 hp
def _fJ{xs:List Sl}(h:xs.C Sl.sd=ys)(hl:ys.B=n)(hz:n<=1000):(xs.C Sl.v).B<=sizeLine:=by
 let:xs.B=n:=by rw[<-hl,<-h,X3]
 rw[X3,this];show Z5 hz .q
def wK(h:QA X Z q cs es)(hz:(cs.B<=1000)<|>ŕ):QE X Z q (k9 o cs) (.List es pos):=qv (_bs h) fun σ H Q am=>ex8 am λE L r m w hc xc k=>
 _fA m w (hc) xc λE1 ys h1 hl xs L1 H1 e1 m1 w1 st sm=>#[_fJ e1 hl hz,_fI (E':=E1) (h1) e1 w1 st sm k m1]
def kK(h:QA X Z q cs es)(hz:(cs.B<=1000)<|>ŕ):QE X Z q (jZ o cs) (.Tuple es x1 pos):=qv (_br h) fun σ H Q am=>ex8 am λE L r m w hc xc k=>
 _fA m w (hc) xc λE1 ys h1 hl xs L1 H1 e1 m1 w1 st sm=>#[_fJ e1 hl hz,λp hp=>by
  by_cases ho:o=.dp
  .rw[X7 ho]at h1
   by_cases ht:ys.all qz=true
   .rw[X7 ht]at h1;cases _aa h1;let#[w2,s2]:=_fF (d:=.X _) (ps:=[]) w1 (_fH e1 ht) (λb hb=>(nomatch hb)) (by simp) (vw hp) (λbs r=>by
     show#[p,_,rfl,SqT.of wj,r.kp (Kp.of_same (vw hp))])
    show k _ _ rfl _ L1 _ rfl (by rw[_fG e1]) m1 w2 (st.I s2) λhq=>#[kX (sm hq).1 (vw hp),λb hb=>(sm hq).2 b hb]
   .symm
  .rw[Xb ho]at h1;cases _aa h1;let#[bs,w2,s2]:=_fE w1 hp;show k _ _ rfl _ L1 _ rfl (by rw[_fG e1]) m1 w2 (st.I s2) λhq=>#[kX (sm hq).1 (vw hp),λb hb=>(nomatch hb)]]
end
def spF(K:Frag)(mg:Str->Option Value)(n:Nat)(f:Fn):Sp:=λvs H Q E=>∃(xs:List Sl) (r:Res Sd),vs=xs.C Sl.v/\xs.B=n/\World K H (xs.C some)/\f (xs.C Sl.sd)=@r /\
 (∀E' c,r=.exc E' c->∀C H',mg c=@(.J C)->Step H (xs.C some) H' []->E (.J C) none H') /\
 ∀E' a,r=.ok E' a->∀(x:Sl) H',x.o=a.1->x.d=a.2->World K H' [@x]->Step H (xs.C some) H' [@x]->Q x.v H'
def _fK{K}{ps:List Str}(hn:ps.B=n):∀vs H Q E,spF K mg n f vs H Q E->vs.B=ps.B:=λvs H Q E hz=>by let#[xs,r,e,hl,_]:=hz;rw[e,X3,hl,hn]
def _fL:∀(xs:List Sl) (k),Mt (xs.C (λx=>@x.sd)++List.h k none) (xs.C (λx=>@x.v)++List.h k none) (xs.C some++List.h k none)
 |[],0=>.nil
 |[],k+1=>by
  show .un (_fL [] k)
 |x::xs,k=>.ê (_fL xs k)
def _fM{K}(hN:N.B=nn)(t:QSs X #[K,mg,E] [] B body)(h:spF K mg n (fn nn B) vs H Q E):
  ∃t,PSs X body t/\t {nx:=λ_ H'=>Q .ç H',rt:=Q} (L2.start N vs) H:=by
 show#[_,t,?_];let#[xs,r,rfl,hl,w,hf,hx,hk]:=h;unfold fn at hf;rw[X3,Xg]at hf;let e1:L2.start N (xs.C Sl.v)=xs.C (λx=>@x.v)++List.h (nn - xs.B) none:=by
  ext L2.start;rw[Xg,X3,hN];rfl
 let wL:World K H (xs.C some++List.h (nn - xs.B) none):=w.same (by simp);let sL:Step H (xs.C some) H (xs.C some++List.h (nn - xs.B) none):=Step.ñ.same (List.ä.ñ _) (by simp);cases hB:B _ with
 | none=>rw[show(some∘Sl.sd)=(λx:Sl=>@x.sd)from rfl,hB]at hf;cases hf
 | some g=>
  rw[show(some∘Sl.sd)=(λx:Sl=>@x.sd)from rfl,hB]at hf;show#[_,_,g,e1▸(_fL xs _),wL,hB,?_];cases g with
  |nx E1=>
   cases _aa hf;intro σ' L' H' _ m' w' s';show hk _ _ rfl _ H' rfl rfl (World.consPu (x:=#[.dp,.ç,.ç,[]]) #[λ_ z=>(nomatch z),Y7,λ_ z=>(nomatch z)] (show RepL K H' false .ç .ç []from _el) rfl) (KJ ((sL.I s').sub (by simp)) (λb hb=>(nomatch hb)) rfl)
  |rt E1 a=>
   cases _aa hf;intro x σ' L' H' e2 e3 _ m' w' s';show hk _ _ rfl x H' e2 e3 (w'.sub (by simp)) ((sL.I s').sub (by simp))
  |xc E1 c=>
   cases _aa hf;intro C σ' L' H' hm _ m' w' s';show hx _ _ rfl C H' hm ((sL.I s').sub (by simp))
  |ct E1=>cases hf|bk E1=>cases hf
section
def Kk:∀xs:List Sl,j7 ((xs.C Sl.let).C some)=[]
 |[]=>rfl|x::xs=>by rw[List.l,List.l,jz,Kk xs];rfl
def _fN:∀xs:List Sl,jW ((xs.C Sl.let).C some)=xs.flatMap Sl.as
 |[]=>rfl|x::xs=>by rw[List.l,List.l,v4,_fN xs];rfl
def _fO(xs:List Sl):(xs.C Sl.let).C Sl.sd=letAll (xs.C Sl.sd):=by
 ext letAll;rw[Xg,Xg];rfl
def _fP{K}{xs:List Sl}(w:World K H (xs.C some++L)):World K H ((xs.C Sl.let).C some++L)/\Step H (xs.C some++L) H ((xs.C Sl.let).C some++L):=by
 let nd:=w.nd;rw[k5,X9]at nd;let cl:∀a>xs.flatMap Sl.as,a>j7 _\/a>jW _:=λa ha=>by
  let#[x,hx,hax]:=List.mem_flatMap.mp ha;show(Sl.as_of hax).imp (λz=>mem_owned.y #[x,Yc hx,z]) λz=>mem_frozen.y #[x,Yc hx,z]
 show#[#[λx hx=>?_,by rw[k5,Kk];show nd.2.1,λa ha hf=>?_],λ_ _ h _=>h,λa ha=>?_,λa ha=>?_]
 .let hx\/hx:=aA hx
  .let#[y,hy,e]:=aE hx;cases e;let#[z,hz,rfl]:=aE hy;show xZ (w.ok z (_ac _ (Yc hz)))
  .show w.ok x (_ab _ hx)
 .rw[k5,Kk]at ha;rw[qK,_fN]at hf;let z\/z:=aA hf
  .let z\/z:=cl a z
   .show nd.2.2 a z a ha rfl
   .show w.ds a (by symm) (by symm)
  .show w.ds a (by symm) (by symm)
 .rw[k5,Kk]at ha
  symm
 .rw[qK,_fN]at ha;rw[qK,k5];let z\/z:=aA ha
  .let z\/z:=cl a z
   .show .Z (.O (_ac _ z))
   .show .O (_ac _ z)
  .show .O (_ab _ z)
def _fQ(D:kW X.î X.w X.K X.mg X.base k x ps (spF Z.K Z.mg n f))(hr:Room k X.A)(g:xv X Z.EX)(ha:QA X Z q cs (e::es))(hn:cs.B=n<|>Ŕ)(hg:Gl X x<|>Ŕ)(gr:Abd x<|>ŕ)
  (he:Abs e es X<|>Ŕ) (bu:Abb pos es X<|>Ŕ):
  QE X Z q (jQ f cs) (.û (.é x p) (e::es) [] pos):=qv (_dw D hr g ha hg gr he bu) fun σ H Q am=>ex8 am λE L r m w hc xc kk=>
 _fA m w (hc) xc λE1 ys h1 hl xs L1 H1 e1 m1 w1 st sm=>by
  rw [Xz];let ai:xs.B=n:=by rw[<-hn,<-hl,<-e1,X3]
  cases hf:f (letAll ys)with
  | none=>symm
  | some fr=>
   rw[hf]at h1;let#[wl,sl]:=_fP w1;let ev:xs.C Sl.v=(xs.C Sl.let).C Sl.v:=by rw[Xg];rfl
   rw[ev];show#[xs.C Sl.let,fr,rfl,by rw[X3];show ai,wl.left,by rw[<-e1]at hf;rw[_fO];show hf,λE' c ee C H' hm s'=>?_,λE' a ee y H' e2 e3 w' s'=>?_]
   .subst ee;cases _aa h1;let#[w2,s2]:=stay wl s' #[λ_ z=>(nomatch z),Y7,λ_ z=>(nomatch z)];show xc _ _ rfl C L1 H' hm m1 w2 ((st.I sl).I s2)
   .subst ee;cases _aa h1;let#[w2,s2]:=stay wl s' w';show kk _ _ rfl y L1 H' e2 e3 m1 w2 ((st.I sl).I s2) λhq=>?_
    let#[a1,a2]:=sm hq;show#[λb ob hb=>s'.keep b ob (a1 b ob hb) λz=>?_,λb hb=>?_]
    .rw[Kk]at z;show nomatch z
    .let z\/z:=s'.ì b (_ac _ hb)
     .rw[Kk]at z;show nomatch z
     .show K4 a1 z
end
def _fR(K:Frag):R2:=λx y H Q=>∃l k xs,x=.J l/\y=.E k/\LsR K H l xs/\-(2 ^ 63)<=k/\k<2 ^ 63/\xs.B*k.S<=sizeLine /\
 ∀p,H p=none->Q (.J p) (upd H p (.L (List.h k.S xs).flatten))
def op_repR:OpR X (binaryOp .Mult) (_fR X.K):=by
 rintro a9 s σ H x y v u Q I rx ry ⟨l,k,xs,rfl,rfl,hH,h1,h2,hz,q⟩;cases rx;let#[t,rfl]:=ry;let#[z,ac,n,r,e]:=hH.is I;let ai:ac.H.M*k.S<=sizeLine:=by rw[Xe,<-r.B];show hz
 let hcap:¬(2 ^ 63 - 1) / 8<ac.H.M*k.S:=by
  let:sizeLine<=(2 ^ 63 - 1) / 8:=.q
  lia
 let rj:¬(!Builtin.List.listFitsIndex k)=true:=by
  rw[fitsIndex_both h1 h2];show Bool.false_ne_true
 let ng:¬Builtin.List.listTooLong (ac.H.M*k.S)=true:=by
  rw[_b1 ai];show Bool.false_ne_true
 let fe:List.foldl (λx1 x2=>x1++x2) (List.H []) (List.h (if ac.H.ô=true then 0 else k.S) ac.H)=(List.h k.S ac).flatten.H:=by
  let f0:∀m,List.foldl (λx1 x2=>x1++x2) (List.H []) (List.h m ac.H)=(List.h m ac).flatten.H:=λm=>by
   let:=_b0 ac m []
   symm
  cases ac with|nil=>simp|cons a r'=>symm
 show wpAny_binaryOp_repeat_ref .q #[_,e,rfl] (λs'=>typeIs_int s' k t) noFill_list_mul F.fills_int_mul F.slot_int_rmul repeat_list F.slot_int_index.Y
  (call_meets F.slot_int_rmul (typeIs_int s k t) F.entry_int_rmul (F.args_int_rmul_2 _ _) (int___rmul___int_list k t l ac.H n)
   #[e,rfl,#[_,e,rfl],call_meets F.slot_list_mul #[_,e,rfl] F.entry_list_mul (F.args_list_mul_2 _ _) (AutoListH.list___mul___list_int_3 l ac.H n k t rj hcap ng) #[e,?_]])
 rw[fe];show#[.J _,_,I.lnew (t':=s.ý) (r.rep k.S) (by rw[_ca,Nat.mul_comm];show hz),rfl,q _ I.fresh]
def _fS(K:Frag):R2:=λx y H Q=>rI IntMulOk (λi j=>.E (i*j)) x y H Q\/_fR K x y H Q\/_cS x y H Q
def _fT{K}(hK:X.K=K<|>Ŕ):OpR X (binaryOp .Mult) (_fS K):=by subst hK;show op_mulI.or (op_repR.or _cT)
def _fU(h:a.natAbs.log2<2000000):Builtin.Int.intBits a<=2000000:=by
 ext Builtin.Int.intBits
 split
 .symm
 .omega
def mulOk_of(h:Qk a b=true):IntMulOk a b:=by
 unfold Qk W3 at h;simp at h;let(h\/h)\/h:=h
 .show .of_left (intBits_le_64 h.1 h.2)
 .show .of_right (intBits_le_64 h.1 h.2)
 .let h1:=_fU h.1;let h2:=_fU h.2;ext IntMulOk Builtin.Int.intTooBig;let e:2 ^ 27=134217728:=.q
  let hb:bitsLine=134217728:=e
  grind
def RepA.reps{K}(h:RepA K H true ds xs bs):∀k,∃cs,RepA K H true (List.h k ds).flatten (List.h k xs).flatten cs/\∀b>cs,b>bs
 |0=>#[[],by dsimp[List.replicate_zero,List.flatten_nil];ext RepA;show#[rfl,rfl],λ_ z=>(nomatch z)]
 |k+1=>by
  let#[cs,r,hc]:=RepA.reps h k;show#[bs++cs,r.app h,λb hb=>(aA hb).ë id (hc b)]
#where in
def _fV{K}:Ad2 K (_fS K) KQ:=by
 intro H x y s Q ox oy hf k;unfold KQ at hf;dsimp only at hf
 split at hf
 .revert i j e1 e2
  split at hf
  .revert hm;cases _aa hf;show .O #[i,j,qx ox e1,qx oy e2,mulOk_of hm,k _ H rfl rfl Qz]
  .cases hf
 .revert a n e1 e2
  split at hf
  .revert hc;cases _aa hf;let#[l,xs,bs,e3,q3,r3,h3]:=JZ ox (.O e1) hc.2.2.2;let q3:LsR K H l xs:=by let#[_,z]\/#[z,_]:=q3;show z;rw[e1]at z;cases z
   let#[cs,r4,h4]:=r3.reps n.S;show .Z (.O #[l,n,xs,e3,qx oy e2,q3,hc.1,hc.2.1,by rw[<-r3.len];show hc.2.2.1,λp hp=>(k _ _ rfl rfl (Vw hp r4 λb hb=>_ac _ (h3 b (h4 b hb))))])
  .cases hf
 .revert z n e1 e2
  split at hf
  .revert hc;cases _aa hf;show .Z (.Z #[z,n,(zQ ox e1).1,qx oy e2,hc.1,k _ H rfl rfl (_en hc.2)])
  .cases hf
 .cases hf
def dec(h:Heap)(u:Value):D:=open Classical in if e:∃d,jK h d u then e.choose else .ç
def _fW(r:jK h d u):dec h u=d:=by
 ext dec;let e:∃d,jK h d u:=#[d,r];rw[dif_pos e];show _e7 e.choose_spec r
def _fX:∀{ds us},CReps h ds us->us.any (λu=>peq (dec h u) d)=ds.any λz=>peq z d
 |[],_,r=>by rw[r];rfl
 |z::ds,_,r=>by
  let#[u,rr,rfl,h1,h2]:=r;rw[List.any_cons,List.any_cons,_fW h1,_fX h2]
def _fY:∀{ds us u},CReps h ds us->u>us->∃d>ds,jK h d u
 | [],_,_,r,hu=>by rw[r]at hu;cases hu
 | z::ds,_,u,r,hu=>by
  let#[u',rr,rfl,h1,h2]:=r;let rfl\/hu:=aD hu
  .show#[z,X2,h1]
  .let#[d,hd,c]:=_fY h2 hu;show#[d,_ad _ hd,c]
def _fZ:∀{n ds d},D.flats n ds=true->d>ds->d.flat n=true
 |_,[],_,_,h=>by grind
 |n,z::ds,d,f,h=>by
  unfold D.flats at f;rw[Bool.æ]at f;let rfl\/h:=aD h
  .show f.1
  .show _fZ f.2 h
section
variable {K:Frag}
def _f0(K:Frag)(m5:Bool):R2:=λx y H Q=>∃d ds as bs p xs,RepL K H true d x as/\y=.J p/\(SqL K H p xs\/SqT K H p xs)/\RepA K H true ds xs bs/\d.flat 30=true/\D.flats 30 ds=true/\Q (.bl (if m5 then !(ds.any λz=>peq z d)else ds.any λz=>peq z d)) H
def _f1(hu:X.A.â+64<cLine):OpR X (compareOp .In) (_f0 X.K false):=by
 rintro a9 s σ H x y v u Q I rx ry ⟨d,ds,as,bs,p,xs,h1,rfl,hq,ra,f1,f2,q⟩;cases ry;let he:∀{us},CReps s.G ds us->∀w,w>us.H->SeqAt.EqAt X.A.in1 s w v (peq (dec s.G w) d):=fun {us} cr w hw=>by
  let#[d',hd,c]:=_fY cr (~~~hw);rw[_fW c];show W7 30 (_fZ f2 hd) c (V9 I h1 f1 rx) (by grind)
 let hq\/hq:=hq
 .let#[ac,r,pl,hz]:=I.list hq;let cr:=creps_of I ra f2 r;show SeqAt.in_listAt _ pl.isList (he cr) #[.bl _,H,I,rfl,?_]
  rwa [List.any_toArray,_fX cr]
 .let#[ac,r,pl,hz]:=I.tuple hq;let cr:=creps_of I ra f2 r;show SeqAt.in_tupleAt _ pl (he cr) #[.bl _,H,I,rfl,?_]
  rwa [List.any_toArray,_fX cr]
def _f2(hu:X.A.â+64<cLine):OpR X (compareOp .NotIn) (_f0 X.K true):=by
 rintro a9 s σ H x y v u Q I rx ry ⟨d,ds,as,bs,p,xs,h1,rfl,hq,ra,f1,f2,q⟩;cases ry;let he:∀{us},CReps s.G ds us->∀w,w>us.H->SeqAt.EqAt X.A.in1 s w v (peq (dec s.G w) d):=fun {us} cr w hw=>by
  let#[d',hd,c]:=_fY cr (~~~hw);rw[_fW c];show W7 30 (_fZ f2 hd) c (V9 I h1 f1 rx) (by grind)
 let hq\/hq:=hq
 .let#[ac,r,pl,hz]:=I.list hq;let cr:=creps_of I ra f2 r;show SeqAt.notIn_listAt _ pl.isList (he cr) #[.bl _,H,I,rfl,?_]
  rwa [List.any_toArray,_fX cr]
 .let#[ac,r,pl,hz]:=I.tuple hq;let cr:=creps_of I ra f2 r;show SeqAt.notIn_tupleAt _ pl (he cr) #[.bl _,H,I,rfl,?_]
  rwa [List.any_toArray,_fX cr]
def _f3(m5:Bool):R2:=λx y H Q=>∃i j,x=.ã i/\y=.ã j/\Q (.bl (if m5 then !_dC i j else _dC i j)) H
def opInStr:OpR X (compareOp .In) (_f3 false):=λa9 s σ H x y v u Q I rx ry hz=>by let#[i,j,e1,e2,q]:=hz;show _bd a9 s σ H x y v u Q I rx ry #[i,j,e1,e2,q]
def opNotInStr:OpR X (compareOp .NotIn) (_f3 true):=λa9 s σ H x y v u Q I rx ry hz=>by let#[i,j,e1,e2,q]:=hz;show _bT a9 s σ H x y v u Q I rx ry #[i,j,e1,e2,q]
def _f4(K:Frag)(m5:Bool):R2:=λx y H Q=>_f3 m5 x y H Q\/_f0 K m5 x y H Q
def _f5(hu:X.A.â+64<cLine)(hK:X.K=K<|>Ŕ):OpR X (compareOp .In) (_f4 K false):=by subst hK;show opInStr.or (_f1 hu)
def _f6(hu:X.A.â+64<cLine)(hK:X.K=K<|>Ŕ):OpR X (compareOp .NotIn) (_f4 K true):=by subst hK;show opNotInStr.or (_f2 hu)
noncomputable def Kq(h:LsR K H l xs):SqL K H l xs:=h.sq
def _f7{x y:Sl}(ox:x.ok K H)(oy:y.ok K H)(hy:y.d=.L ys\/y.d=.X ys)(hc:(x.d.flat 30&&D.flats 30 ys)=true)
  (k:Q (.bl (if m5 then !(ys.any λz=>peq z x.d)else ys.any λz=>peq z x.d)) H):_f4 K m5 x.v y.v H Q:=by
 rw[Bool.æ]at hc;let#[l,xs,bs,e3,q3,r3,_]:=items oy hy;let r3':RepA K H true ys xs bs:=by
  cases ho:(y.o != .dp)with|true=>rw[ho]at r3;show r3|false=>rw[ho]at r3;show r3.wk
 show .Z #[x.d,ys,x.as,bs,l,xs,RepO.wk ox,e3,?_,r3',hc.1,hc.2,k];let#[_,z]\/#[_,z]:=q3
 .show .O (Kq z)
 .show .Z z
#where in
def _f8:Ad2 K (_f4 K false) (pu2 Jz):=by
 intro H x y s Q ox oy hf k;unfold pu2 Jz fIn at hf;dsimp only at hf;cases hy:y.d with
 | lst ys=>
  rw[hy]at hf;dsimp only at hf
  split at hf
  .revert hc;cases _aa hf;show _f7 ox oy (.O hy) hc (k _ H rfl rfl x6)
  .cases hf
 | tup ys=>
  rw[hy]at hf;dsimp only at hf
  split at hf
  .revert hc;cases _aa hf;show _f7 ox oy (.Z hy) hc (k _ H rfl rfl x6)
  .cases hf
 | str b=>
  rw[hy]at hf;dsimp only at hf
  split at hf
  .revert a hx;cases _aa hf;show .O #[a,b,(zQ ox hx).1,(zQ oy hy).1,k _ H rfl rfl x6]
  .cases hf
 |_=>symm
#where in
def _f9:Ad2 K (_f4 K true) (pu2 V1):=by
 intro H x y s Q ox oy hf k;unfold pu2 V1 Wk fIn at hf;dsimp only at hf;cases hy:y.d with
 | lst ys=>
  rw[hy]at hf;dsimp only at hf
  split at hf
  .revert hc;cases _aa hf;show _f7 ox oy (.O hy) hc (k _ H rfl rfl x6)
  .cases hf
 | tup ys=>
  rw[hy]at hf;dsimp only at hf
  split at hf
  .revert hc;cases _aa hf;show _f7 ox oy (.Z hy) hc (k _ H rfl rfl x6)
  .cases hf
 | str b=>
  rw[hy]at hf;dsimp only at hf
  split at hf
  .revert a hx;cases _aa hf;show .O #[a,b,(zQ ox hx).1,(zQ oy hy).1,k _ H rfl rfl x6]
  .cases hf
 |_=>rw[hy]at hf;cases hf
def _ga(h:RepL K H g d v as):decide (v=.ç)=isNon d:=by
 cases d with|non=>unfold RepL at h;rw[h.1];rfl|bl _=>unfold RepL at h;rw[h.1];rfl|int _=>unfold RepL at h;rw[h.1];rfl|str _=>unfold RepL at h;rw[h.1];rfl|tup _=>unfold RepL at h;let#[a,xs,e,_]:=h;rw[e];rfl|lst _=>unfold RepL at h;let#[a,xs,bs,e,_]:=h;rw[e];rfl|dct _=>unfold RepL at h;let#[a,xs,bs,e,_]:=h;rw[e];rfl|obj _ _=>unfold RepL at h;let#[_,x,o,C,e,_]:=h;rw[e];rfl
#where in
def _gb:Ad2 K (λx y H Q=>y=.ç/\Q (.bl (decide (x=.ç))) H) (f2First fIsNon):=by
 intro H x y s Q ox oy hf k;unfold f2First fIsNon at hf
 split at hf
 .revert hy;cases _aa hf;let e:=_ga (RepO.wk oy);rw[hy]at e;show#[Yf e,?_];rw[_ga (RepO.wk ox)];show k _ H rfl rfl x6
 .grind
def _gc n i:_root_.Q.ixN n i=L2.ixN n i:=rfl
def _gd{x y:Sl}(ox:x.ok K H)(oy:y.ok K H)(hf:kQ x.d y.d=@d)(k:∀z:Sl,z.o=sub x.o->z.d=d->z.ok K H->(∀b>z.ÿ,b>x.ÿ)->(∀b>z.as,b>x.as)->Q z.v H):rIx K x.v y.v H Q:=by
 let seq:∀ds,(x.d=.L ds\/x.d=.X ds)->∀i,y.d=.E i->((_root_.Q.ixN ds.B i).bind λj=>ds[j]?)=@d->rIx K x.v y.v H Q:=by
  intro ds hx i hy hd;let#[l,xs,bs,e3,q3,r3,h3,h4]:=items ox hx;cases hj:_root_.Q.ixN ds.B i with
  | none=>grind
  | some j=>
   rw [hj]at hd;let#[v,cs,e4,r4,h5]:=r3.get (hd);let nj:atI xs i=@v:=by
    ext atI
    rwa [<-r3.len,<-_gc,hj]
   let fin:Q v H:=by
    cases ho:x.o with
    | dp=>
     rw[ho]at r4;show k #[.dp,d,v,cs] (by rw[ho];rfl) rfl r4 (λb hb=>(nomatch hb)) λb hb=>h3 b (h5 b hb)
    | no=>
     rw[ho]at r4;show k #[.x,d,v,cs] (by rw[ho];rfl) rfl r4 (λb hb=>h4 .q b (h5 b hb)) λb hb=>h3 b (h5 b hb)
    | rt=>
     rw[ho]at r4;show k #[.x,d,v,cs] (by rw[ho];rfl) rfl r4 (λb hb=>h4 .q b (h5 b hb)) λb hb=>h3 b (h5 b hb)
   let#[_,z]\/#[_,z]:=q3
   .show .O #[l,xs,i,v,e3,qx oy hy,Kq z,nj,fin]
   .show .Z (.O #[l,xs,i,v,e3,qx oy hy,z,nj,fin])
 unfold kQ at hf;cases hx:x.d with
 | lst ds=>
  rw [hx]at hf;cases hy:y.d with| int i=>rw[hy]at hf;show seq ds (.O hx) i hy hf| _=>rw[hy]at hf;cases hf
 | tup ds=>
  rw [hx]at hf;cases hy:y.d with| int i=>rw[hy]at hf;show seq ds (.Z hx) i hy hf| _=>rw[hy]at hf;cases hf
 | str z=>
  rw [hx]at hf;cases hy:y.d with
  | int i=>
   rw [hy]at hf;let hf:((_root_.Q.ixN z.cps.M i).bind λj=>(z.cps.R[j]?).C λc=>D.ã #[%[c|0]])=@d:=hf;cases hj:_root_.Q.ixN z.cps.M i with
   | none=>grind
   | some j=>
    rw[hj]at hf;cases hc:z.cps.R[j]? with
    | none=>rw[Option.bind_some,hc]at hf;cases hf
    | some c=>
     rw[Option.bind_some,hc]at hf;cases _aa hf;let nj:atI z.cps.R i=@c:=by
      ext atI
      rwa [Xm,<-_gc,hj]
     let#[e1,hz]:=zQ ox hx;show .Z (.Z #[z,i,c,e1,qx oy hy,hz,nj,?_]);let rp:∀g,RepL K H g _ (.ã #[%[c|0]]) []:=λg=>_em (show 1<=sizeLine by decide)
     cases ho:x.o with|dp=>show k #[.dp,.ã #[%[c|0]],.ã #[%[c|0]],[]] (by rw[ho];rfl) rfl (rp false) (λb hb=>(nomatch hb)) λb hb=>(nomatch hb)|no=>show k #[.x,.ã #[%[c|0]],.ã #[%[c|0]],[]] (by rw[ho];rfl) rfl (rp true) (λb hb=>(nomatch hb)) λb hb=>(nomatch hb)|rt=>show k #[.x,.ã #[%[c|0]],.ã #[%[c|0]],[]] (by rw[ho];rfl) rfl (rp true) (λb hb=>(nomatch hb)) λb hb=>(nomatch hb)
  |_=>rw[hy]at hf;cases hf
 |non=>rw[hx]at hf;cases hf|bl _=>rw[hx]at hf;cases hf|int _=>rw[hx]at hf;cases hf|dct _=>symm|obj _ _=>rw[hx]at hf;cases hf
def q_ix(ha:QV X Z qa a ea)(hb:QV X Z true b eb)(hs:_bJ eb)(hK:X.K=Z.K<|>Ŕ):QV X Z qa (jw a b) (.Subscript ea eb pos):=
 qv (_bK (hK▸_bP) ha hb hs) fun σ H Q am=>ex8 am λE L r m w hc xc k=>by
  show vJ m w (hc) xc λE1 s h1 x L1 H1 e1 e2 m1 w1 ok fr sr st sm=>(vJ m1 w1 h1 (xc.step st) λE2 s2 h2 y L2 H2 e3 e4 m2 w2 ir ug ui bv ff=>?_)
  let#[z,hz,rfl]:=J8 h2;cases hf:kQ s.2 s2.2 with
  |none=>symm
  |some d=>
   rw[hf]at hz;cases _aa hz;let kx:=W6 ok fr bv (ff rfl);show _gd kx.1 ir (by rw[e2,e4];show hf) λz zo zd vd zf za=>k _ _ rfl z L2 H2 (by symm) zd m2 w2 vd (λb hb=>kx.2 b (zf b hb)) (_ed sr za) (st.I bv) λhq=>kX (sm hq) (ff rfl)
def YX(ht:QT X Z q u e)(ha:QE X Z q a ea)(hb:QE X Z q b eb):QE X Z q (cIf u a b) (.IfExp e ea eb pos):=qv (_aF ht ha hb) fun σ H Q am=>ex8 am λE L r m w hc xc k=>
 _eB m w (hc) xc λE1 s h1 L1 H1 m1 w1 st sm=>by
  let fin:∀{c},c E1=@r->tQ Z q c σ H1 Q:=λhc=>#[E1,L1,r,m1,w1,hc,xc.step st,λE' a z x L' H' e1 e2 m' w' f9 tf=>k E' a z x L' H' e1 e2 m' w' (st.I f9) λhq=>#[kX (sm hq) (tf hq).1,λb hb=>K4 (sm hq) ((tf hq).2 b hb)]]
  cases s with|true=>symm|false=>rw[Xb (by simp)]at h1 ⊢;show fin h1
def _ge(h:QE X Z q a ea):QE X Z q a (.BoolOp op [ea] pos):=_aD h
def _gf(ha:QV X Z q a ea)(hb:QE X Z q b (.BoolOp .And (eb::es) pos)):QE X Z q (Wv a b) (.BoolOp .And (ea::eb::es) pos):=qv (_aE ha hb) fun σ H Q am=>ex8 am λE L r m w hc xc k=>
 vJ m w (hc) xc λE1 s h1 x L1 H1 e1 e2 m1 w1 ok fr sr st sm=>by
  cases hs:s.2 with
  | bl kk=>
   rw[hs]at h1;show#[kk,_ei ok (e2.I hs),?_];cases kk with
   |true=>
    show#[E1,L1,r,m1,w1,h1,xc.step st,λE' a z x L' H' e1 e2 m' w' f9 tf=>k E' a z x L' H' e1 e2 m' w' (st.I f9) λhq=>#[kX (sm hq) (tf hq).1,λb hb=>K4 (sm hq) ((tf hq).2 b hb)]]
   |false=>
    cases _aa h1;let#[w3,ft]:=ZZ w1 st (x6 (fr:=[])) (λ_ z=>(nomatch z)) (λ_ z=>(nomatch z)) (λ_ z=>(nomatch z));show k _ _ rfl _ L1 H1 rfl rfl m1 w3 ft λhq=>#[sm hq,λ_ z=>(nomatch z)]
  |_=>rw[hs]at h1;cases h1
def truV{x:Sl}(ok:x.ok K H)(h:truth x.d=@k)(hd:∀ab,x.d≠.dct ab):_bh K x.v H k:=by
 cases hx:x.d with
 |non=>rw[hx]at h;rw[_ej ok hx];show(_aa h).s|bl b=>rw[hx]at h;rw[_ei ok hx];show(_aa h).s|int i=>rw[hx]at h;rw[qx ok hx];show(_aa h).s
 |str z=>
  rw[hx]at h;let#[e,hz]:=zQ ok hx;rw[e];show#[hz,?_];rw[<-_aa h];change _=(((z.cps.M:Nat):Int) != 0);rw[Bool.eq_iff_iff];simp
 |lst ds=>
  rw[hx]at h;let#[a,xs,bs,e,q,r,_]:=items ok (.O hx);rw[e];let q':LsR K H a xs:=by let#[_,z]\/#[z,_]:=q;show z;rw[hx]at z;cases z
  show .O #[xs,Kq q',?_];rw[<-_aa h];let:=r.len;cases ds<;>cases xs<;>symm
 |tup ds=>
  rw[hx]at h;let#[a,xs,bs,e,q,r,_]:=items ok (.Z hx);rw[e];let q':SqT K H a xs:=by let#[z,_]\/#[_,z]:=q;rw[hx]at z;cases z;show z
  show .Z (.O #[xs,q',?_]);rw[<-_aa h];let:=r.len;cases ds<;>cases xs<;>symm
 |dct ab=>show absurd hx (hd ab)|obj c f=>rw[hx]at h;cases h
def _gg(h:truthQ d=@k):truth d=@k/\∀ab,d≠.dct ab:=by
 cases d<;>first|show#[h,nofun]|cases h
def Jq(h:QV X Z q a ea)(he:(∀gq,isTrue ea X.V gq=(do let v <-gq;standAt ea.pos;holding [v] (truthy v)))<|>Ŗ)(hK:X.K=Z.K<|>Ŕ):QT X Z q (tEQ a) ea:=_d3 (_bl h he) fun σ H Q am=>ex8 am λE L r m w hc xc k=>
 vJ m w (show bnd (a E) _=@r from hc) xc λE1 s h1 x L1 H1 e1 e2 m1 w1 ok fr sr st sm=>by
  let#[kk,hk,rfl]:=J8 h1;let#[h2,h3]:=_gg hk;show#[kk,hK▸truV ok (by rw[e2];show h2) (by rw[e2];show h3),k _ _ rfl L1 H1 m1 w1 st sm]
end
def W0:∀{L i} {q:α},L[i]?=@q->∃A B,L=A++q::B/\∀q',L.u i q'=A++q'::B
 |[],_,_,h=>by simp at h
 |a::L,0,q,h=>by
  let e:a=q:= ~~~h
  subst e;show#[[],L,rfl,λ_=>rfl]
 |a::L,i+1,q,h=>by
  let#[A,B,e,f]:=W0 (~~~h);show#[a::A,B,by rw[e];rfl,λq'=>by rw[List.ø,f];rfl]
section
variable {K:Frag}{H:Hp}{M T L:Ls}{y y':Sl}{l:Addr}{ob:HO}
def World.write(w:World K H (@y::(T++M)))(hl:l>y.ì)(ok':y'.ok K (upd H l ob))(nd:y'.ì.U)(h1:∀a>y'.ì,a>y.ì\/a>j7 T)(h2:∀a>y'.ÿ,a>y.as\/a>j7 T\/a>jW T)(h3:∀a>y'.ì,a∉y'.ÿ):
  World K (upd H l ob) (@y'::M)/\Step H (@y::(T++M)) (upd H l ob) (@y'::M):=by
 let wn:=w.nd;rw [jz,k5,X9,X9]at wn;let#[n1,#[n2,n3,n4],n5]:=wn;let oy:l>j7 (@y::(T++M)):=_ac _ hl;let mj:=w.own_al oy;let ds:∀a,(a>y.ì\/a>j7 T\/a>j7 M)->¬(a>y.ÿ\/a>jW T\/a>jW M):=λa ha hf=>by
  show w.ds a ?_ ?_
  .rw[jz,k5];let z\/z\/z:=ha
   .show _ac _ z
   .show _ab _ (_ac _ z)
   .show _ab _ (_ab _ z)
  .rw[v4,qK];let z\/z\/z:=hf
   .show _ac _ z
   .show _ab _ (_ac _ z)
   .show _ab _ (_ab _ z)
 let noM:∀z,@z>M->l∉z.as:=λz hz ha=>by
  let q\/q:=Sl.as_of ha
  .show n5 l hl l (_ab _ (mem_owned.y #[z,hz,q])) rfl
  .show ds l (.O hl) (.Z (.Z (mem_frozen.y #[z,hz,q])))
 let ke:∀a o,H a=@o->a≠l->upd H l ob a=@o:=λa o e ne=>by rw[qj ne];show e
 let kp:∀as,l∉as->Kp H _ as:=λas hn=>by
  show#[λa xs e=>ke a _ e λz=>?_,λa o u e=>ke a _ e λz=>?_,λa ha o e=>ke a o e λz=>hn (z▸ha)]
  .lia
  .subst z;let#[_,q]\/#[_,q]\/#[_,q]:=mj<;>(rw[e]at q;cases q)
 let wM:World K (upd H l ob) M:=by
  let w1:=w.tail.right;show#[λz hz=>RepO.kp (w1.ok z hz) (kp _ (noM z hz)),w1.nd,w1.ds]
 show#[wM.ê ok' nd (λa ha hM=>?_) (λa ha hM=>?_) (λa ha hM=>?_) h3,λa o e hn=>ke a o e λz=>hn (z▸oy),λa ha=>?_,λa ha=>?_]
 .let z\/z:=h1 a ha
  .show n5 a z a (_ab _ hM) rfl
  .show n4 a z a hM rfl
 .let z\/z:=h1 a ha
  .show ds a (.O z) (.Z (.Z hM))
  .show ds a (.Z (.O z)) (.Z (.Z hM))
 .let z\/z\/z:=h2 a ha
  .let z\/z:=Sl.as_of z
   .show n5 a z a (_ab _ hM) rfl
   .show ds a (.Z (.Z hM)) (.O z)
  .show n4 a z a hM rfl
  .show ds a (.Z (.Z hM)) (.Z (.O z))
 .rw[jz,k5];let z\/z:=aA ha
  .let z\/z:=h1 a z
   .show .O (_ac _ z)
   .show .O (_ab _ (_ac _ z))
  .show .O (_ab _ (_ab _ z))
 .rw[jz,k5,v4,qK];let z\/z:=aA ha
  .let z\/z\/z:=h2 a z
   .let z\/z:=Sl.as_of z
    .show .Z (.O (_ac _ z))
    .show .O (_ac _ z)
   .show .Z (.O (_ab _ (_ac _ z)))
   .show .O (_ab _ (_ac _ z))
  .show .O (_ab _ (_ab _ z))
def World.writeAt(w:World K H (T++L))(hy:L[i]?=some @y)(hl:l>y.ì)(ok':y'.ok K (upd H l ob))(nd:y'.ì.U)(h1:∀a>y'.ì,a>y.ì\/a>j7 T)(h2:∀a>y'.ÿ,a>y.as\/a>j7 T\/a>jW T)(h3:∀a>y'.ì,a∉y'.ÿ):
  World K (upd H l ob) (L.u i @y')/\Step H (T++L) (upd H l ob) (L.u i @y'):=by
 let#[A,B,e,f]:=W0 hy;rw[f];subst e;let p:(T++(A++@y::B)).ä (@y::(T++(A++B))):=by
  show(List.ä.append_left T (List.perm_middle)).I List.perm_middle
 let#[w2,s2]:=World.write (w.perm p) hl ok' nd h1 h2 h3;show#[w2.perm List.perm_middle.s,s2.perm p.s List.perm_middle.s]
end
def RepA.snoc{K}(h:RepL K H g d x cs)(r:RepA K H g ds xs bs):RepA K H g (ds++[d]) (xs++[x]) (bs++cs):=by
 show RepA.app ?_ r;show#[x,[],cs,[],rfl,by simp,h,by ext RepA;show#[rfl,rfl]]
def _gh{K}{y:Sl}(ok:y.ok K H)(hd:y.d=.L ds)(ho:y.o≠.x):∃l xs bs,y.v=.J l/\H l=@(.L xs)/\y.as=l::bs/\l>y.ì/\RepA K H (y.o != .dp) ds xs bs:=by
 let#[o,d,v,as]:=y;dsimp only at hd ho;subst hd;cases o with
 |no=>show absurd rfl ho
 |rt=>
  let#[a,xs,bs,rfl,r,q,rfl]:=(ok);show#[a,xs,bs,rfl,q,rfl,by simp[Sl.ì],r]
 |dp=>
  let ok:RepL K H false _ v as:=ok;let#[a,xs,bs,rfl,r,q]:=ok;let#[q,rfl]\/#[z,_]:=q
  .show#[a,xs,bs,rfl,q,rfl,by simp[Sl.ì],r]
  .symm
def XW{K}(w:World K H (T++L))(hy:L[i]?=some @y)(hH:H l=@(.L xs))(ha:y.as=l::bs)(hl:l>y.ì)(hv:y.v=.J l)
  (r:RepA K H (o' != .dp) ds' xs' cs) (hc:(o'=.rt/\∀a>cs,a>bs\/a>j7 T\/a>jW T)\/(o'=.dp/\y.o=.dp/\cs.U/\∀a>cs,a>bs\/a>j7 T)):
  World K (upd H l (.L xs')) (L.u i @#[o',.L ds',y.v,l::cs])/\Step H (T++L) (upd H l (.L xs')) (L.u i @#[o',.L ds',y.v,l::cs]):=by
 let oL:=mem_owned.y #[y,vQ hy,hl];let oy:l>j7 (T++L):=by rw[k5];show _ab _ oL
 let nd:=w.nd;rw [k5,X9]at nd;let nT:=λz=>nd.2.2 l z l oL rfl
 let yn:y.ì.U:=by
  let#[A,B,e,_]:=W0 hy;let:=nd.2.1;rw[e,k5,X9]at this;show(List.nodup_append.mp this.2.1).1
 let nb:l∉bs:=λz=>by
  cases ho:y.o with
  | no=>unfold Sl.ì at hl;rw[ho]at hl;show nomatch hl
  | rt=>
   let:l>y.ÿ:=by ext Sl.ÿ;rw[ho,ha];show z
   show w.ds l oy (by rw[qK];show _ab _ (mem_frozen.y #[y,vQ hy,this]))
  | dp=>
   unfold Sl.ì at yn;rw[ho,ha]at yn;show(List.ú.mp yn).1 z
 let nc:l∉cs:=λz=>by
  let#[_,hc]\/#[_,_,_,hc]:=hc
  .let q\/q\/q:=hc l z
   .show nb q
   .show nT q
   .show(λz=>w.ds l oy (by rw[qK];show _ac _ z)) q
  .let q\/q:=hc l z
   .show nb q
   .show nT q
 let kp:Kp H (upd H l (.L xs')) cs:=by
  let k2:∀a o,H a=@o->a≠l->upd H l (.L xs') a=@o:=λa o e ne=>by rw[qj ne];show e
  show#[λa zs e=>k2 a _ e λz=>?_,λa o u e=>k2 a _ e λz=>?_,λa ha o e=>k2 a o e λz=>nc (z▸ha)]
  .symm
  .symm
 let r':=r.kp kp;let#[rfl,hc]\/#[rfl,ou,dw,hc]:=hc
 .show World.writeAt w hy hl (y':=_) #[l,xs',cs,hv,r',wj,rfl] (by simp[Sl.ì]) (λa h=>?_) (λa h=>?_) (λa h z=>?_)
  .let:a=l:=by simpa [Sl.ì]using h
   grind
  .let q\/q:=hc a (by simpa [Sl.ÿ]using h)
   .show .O (ha▸_ad _ q)
   .show .Z q
  .let:a=l:=by simpa [Sl.ì]using h
   subst this;show nc (by simpa [Sl.ÿ]using z)
 .let oa:y.ì=y.as:=by ext Sl.ì;rw[ou]
  show World.writeAt w hy hl (y':=_) ?_ (List.ú.y #[nc,dw]) (λa h=>?_) (λa h=>(nomatch h)) (λa h z=>(nomatch z))
  .change RepL K _ false _ y.v _;show#[l,xs',cs,hv,r',.O #[wj,rfl]]
  .let q\/q:=aD (h)
   .grind
   .let q\/q:=hc a q
    .show .O (by rw[oa,ha];show _ad _ q)
    .show .Z q
section
def _gi{K}{x:Sl}(ok:x.ok K H)(hd:x.d=.L ds):tyV K "list" x.v H:=by
 let#[a,xs,bs,e1,q1,_]:=items ok (.O hd);rw[e1];let#[_,z]\/#[z,_]:=q1
 .show .O #[rfl,xs,z.sq]
 .symm
def _gj{K}{x:Sl}(ok:x.ok K H) b (hb:b=false->qz x.sd=true):∃cs,RepL K H b x.d x.v cs/\(∀a>cs,a>x.as)/\(b=false->∀a>cs,a>x.ì)/\(b=false->x.ì.U->cs.U):=by
 cases b with
 | true=>show#[x.as,RepO.wk ok,λ_ h=>h,(λz=>by cases z),(λz=>by cases z)]
 | false=>
  by_cases ho:x.o=.dp
  .let e:x.ì=x.as:=by ext Sl.ì;rw[ho]
   show#[x.as,?_,λ_ h=>h,λ_ a h=>by rw[e];show h,λ_ n=>by rw[e]at n;show n];let:=ok;unfold Sl.ok at this;rw[ho]at this;show this
  .let hp:x.d.pure=true:=by
    let z\/z:=Bool.or_eq_true_iff.mp (hb rfl)
    .show absurd (~~~z) ho
    .show z
   let#[z,rp]:=RepL.pu (g':=false) (RepO.wk ok) hp;show#[[],rp,λ_ h=>(nomatch h),λ_ _ h=>(nomatch h),λ_ _=>Y7]
def J4{l:List α}(h:l[i]?=@x):l.u i x=l:=by
 let#[h1,h2]:=aF h;rw[<-h2];simp
def mut1 {D' f i} {G:V->V->Hp->Prop} (m:Mt E σ L) (w:World Z.K H L) (hc:v0 f i c E=@r) (k:FlP Z pn D' σ H L r)
  (g:∀ l (x) (xs) (ds ds') (d) (bs cs) (H1) (gg),f ds d=@ds'->H1 l=@(.L xs)->RepA Z.K H1 gg ds xs bs->RepL Z.K H1 gg d x cs ->
   (∀ xs' es,RepA Z.K H1 gg ds' xs' es->(∀a>es,a>bs\/a>cs)->((bs++cs).U->es.U)->D'.nx σ (upd H1 l (.L xs')))->G (.J l) x H1):
  ∃ v,σ[i]?=some @v/\tyV Z.K "list" v H/\tQ Z q c σ H (G v):=by
 unfold v0 at hc;cases h0:E[i]? with
 | none=>rw[h0]at hc;cases hc
 | some s0 =>
  cases s0 with
  | none=>rw[h0]at hc;cases hc
  | some s0=>
   let#[o0,d0]:=s0;cases d0 with
   | lst ds0=>
    rw [h0]at hc;let#[x0,a1,a2,a3,a4]:=m.get h0;show #[x0.v,a4,_gi (w.ok x0 (vQ a1)) a3,(QQ m w hc k λE1 s h1 x L1 H1 e1 e2 m1 w1 st _=>?_)];cases hE:E1[i]? with
    | none=>rw[hE]at h1;cases h1
    | some s1=>
     cases s1 with
     | none=>rw[hE]at h1;cases h1
     | some s1=>
      let#[oo,dd]:=s1;rw [hE]at h1;cases dd with
      | lst ds=>
       dsimp only at h1
       by_cases lh:oo=.x
       .rw [X7 lh]at h1;cases h1
       .rw [Xb lh]at h1;cases hfd:f ds s.2 with
        | none=>rw[hfd]at h1;cases h1
        | some ds'=>
         rw[hfd]at h1;let#[y,b1,b2,b3,b4]:=m1.get hE;let hv:y.v=x0.v:=by rw[a4]at b4;show(_aa (_aa b4)).s
         let#[l,xs,bs,c1,c2,c3,c4,c5]:=_gh (w1.ok y (_ad _ (vQ b1))) b3 (b2▸lh);let ex0:=hv▸c1;rw[ex0];let wT:=w1;let qh:=w1.head;let nd:=w1.nd;rw[jz,X9]at nd;let oT:j7 [@x]=x.ì:=by simp
         let fT:jW [@x]=x.ÿ:=by simp
         by_cases hd:oo=.dp/\qz s=true
         .rw[X7 hd]at h1;cases _aa h1;let hyo:=b2.I hd.1;rw[hyo]at c5;let#[cs,r1,h3,h4,h5]:=_gj qh false λ_=>by rw[show x.sd=s from by simp[Sl.sd,e1,e2]];show hd.2
          show g l x.v xs ds ds' s.2 bs cs H1 false hfd c2 c5 (e2▸r1) λxs' es re he hn=>?_
          let ynd:(bs++cs).U:=by
           let yo:y.ì=l::bs:=by ext Sl.ì;rw[hyo,c3]
           let#[A,B,e,_]:=W0 b1;let q:=nd.2.1;rw[e,k5,jz,X9]at q;let q2:=(List.nodup_append.mp q.2.1).1;rw[yo]at q2;rw[X9];show#[(List.ú.mp q2).2,h5 rfl nd.1,λa ha b hb il=>?_];subst il;show nd.2.2 a (h4 rfl a hb) a (mem_owned.y #[y,vQ b1,by rw[yo];show _ad _ ha]) rfl
          let#[w3,s3]:=XW (o':=.dp) (ds':=ds') (xs':=xs') wT b1 c2 c3 c4 c1 re (.Z #[rfl,hyo,hn ynd,λa ha=>(he a ha).imp id λz=>by rw[oT];show h4 rfl a z]);show k σ _ _ Pn.ñ ?_ w3 (st.I s3);let:=m1.u (x:=#[.dp,.L ds',y.v,l::es]) i;rw[J4 b4]at this;show this
         .rw[Xb hd]at h1;cases _aa h1;let c6:RepA Z.K H1 true ds xs bs:=by
           cases hb:(y.o != .dp)with|true=>rw[hb]at c5;show c5|false=>rw[hb]at c5;show c5.wk
          show g l x.v xs ds ds' s.2 bs x.as H1 true hfd c2 c6 (e2▸RepO.wk qh) λxs' es re he hn=>?_
          let#[w3,s3]:=XW (o':=.rt) (ds':=ds') (xs':=xs') wT b1 c2 c3 c4 c1 re (.O #[rfl,λa ha=>(he a ha).imp id λz=>by rw[oT,fT];show Sl.as_of z]);show k σ _ _ Pn.ñ ?_ w3 (st.I s3);let:=m1.u (x:=#[.rt,.L ds',y.v,l::es]) i;rw[J4 b4]at this;show this
      |_=>cases h1
   |_=>rw[h0]at hc;cases hc
def _gk(hb:PE X (.û (.ù o "append" aq) [e] [] aj) (tBM Z.K "list" _b2 (vX i) (wjw (tQ Z q c) xva)))(hs:swapsWith (.û (.ù o "append" aq) [e] [] aj) none pos.line X.V=pure false<|>Ŕ):
  QS X Z pn (v0 qY i c) (.Expr (.û (.ù o "append" aq) [e] [] aj) pos):=z0 (ZY hb hs) λD σ H am=>ex7 am λE L r m w hc k=>
 mut1 m w hc k λl x xs ds ds' d bs cs H1 gg hf hH ra rx fin=>by
  unfold qY at hf
  by_cases hl:ds.B<big
  .rw[X7 hl]at hf;cases _aa hf;show#[l,xs,x,rfl,rfl,hH,by rw[<-ra.len];show hl,fin _ _ (RepA.snoc rx ra) (λa ha=>aA ha) λh=>h]
  .rw[Xb hl]at hf;cases hf
end
section
variable {X:Cx}{Z:Fx0}{pn:List Nat}{q:Bool}{kc vc:Ex}{e ke ve:Expr}{st:Stmt}
#where in
def _gl{i:Nat}{W:V->V->V->Hp->(Hp->Prop)->Prop}(hp:PS X st λD σ H=>tQ Z q vc σ H λv H1=>vX i σ H1 λo H2=>tV Z true kc σ H2 λy H3=>W o y v H3 λH4=>D.nx σ H4)(hg:g0 none=false/\g0 @none=false)
  (spec:∀{H L} {y x z:Sl} {d} {C:Hp->Prop},L[i]?=@(@y)->World Z.K H (@x::L)->z.ok Z.K H->g (y.o,y.d) z.d x.d=@d->(∀H' as,World Z.K H' (L.u i @#[.rt,d,y.v,as])->Step H (@x::L) H' (L.u i @#[.rt,d,y.v,as])->C H')->W y.v z.v x.v H C):
  QS X Z pn (_dL g0 g i kc vc) st:=z0 hp λD σ H am=>ex7 am λE L r m w hr k=>
 QQ m w hr k λE1 s1 h1 x L1 H1 e1 e2 m1 w1 jg _=>by
  split at h1
  .revert hd
   match h0:E1[i]? with
   |none=>rw[h0,hg.1]at hd;cases hd|some none=>rw[h0,hg.2]at hd;cases hd
   |some @s0=>
   let#[y0,a1,a2,a3,a4]:=m1.get h0;show#[y0.v,a4,?_];let#[E2,ky,ma,gh]\/#[E2,c,ma,rfl]:=_eF h1
   .show#[E1,L1,_,m1,w1.tail,ma,(λ_ _ z=>by cases z),λE' s' z zk L2 H2 f1 f2 m2 w2 sf frz _ bv sm=>?_];injection z with z1 z2;subst z1 z2
    match hE:E2[i]? with
    |none=>rw[hE]at gh;cases gh|some none=>rw[hE]at gh;cases gh
    |some @s2=>
    rw[hE]at gh;let#[d,mf,rfl]:=Option.map_eq_some_iff.mp gh;let#[y,b1,b2,b3,b4]:=m2.get hE;let hyv:y.v=y0.v:=by rw[a4]at b4;show(_aa (_aa b4)).s
    let#[w3,ft]:=XQ (T:=[@x]) w1 bv w2;rw[<-hyv];show spec (d:=d) b1 w3 sf (by rw[b2,b3,f2,e2];show mf) λH' as w4 mn=>k σ _ _ Pn.ñ ?_ w4 ((jg.I ft).I mn)
    let:=m2.u (x:=#[.rt,d,y.v,as]) i;rw[J4 b4]at this;show this
   .show#[E1,L1,_,m1,w1.tail,ma,(λE' c' e C L' H' hm m' w' st=>by injection e with z1 z2;subst z1 z2;show k C σ L' H' hm Pn.ñ m' w' ((jg.I Step.drop).I st)),λE' s' z=>by cases z]
  .cases h1
end
section
def _gm(I1:L2.Inv X a9 σ H1 s1)(q:R (Its x) H1):∅ (pyIter (.ã x t)) (PIE X a9 σ tg R) X.xe s1:=by
 let fp:∀b>[↥s1],x9 X a9 H1 b:=λb hb=>by
  let e:b=↥s1:= ~~~hb
  subst e;show I1.fpOk (Xa _) (I1.hok.fresh (Xa _))
 cases ha:x.cps.all _
 .show wpAny_pyIter_wide ha #[↥s1,[↥s1],_,_,H1,rfl,I1.kept (t':=s1.ý) λb o e=>X4 _ e,_cR (λA' hA=>PySem.Walks.strWide hA _ x t) (λ_ _ _ _ _ st h=>wpAny_pyIter_striter_wide st h) (by rfl),#[_,Xd _ rfl,rfl,rfl],fp,q]
 .show wpAny_pyIter_ascii ha #[↥s1,[↥s1],_,_,H1,rfl,I1.kept (t':=s1.ý) λb o e=>X4 _ e,_cR (λA' hA=>PySem.Walks.strAscii hA _ x t) (λ_ _ _ _ _ st h=>wpAny_pyIter_striter_ascii st h) (by rfl),#[_,Xd _ rfl,rfl,rfl],fp,q]
def _gn{K} c:Sl.ok K H #[.x,.ã #[%[c|0]],.ã #[%[c|0]],[]]:=by
 change RepL K H true _ _ _;show _em (show 1<=sizeLine by decide)
def _go{K} i:Sl.ok K H #[.x,.E i,.E i,[]]:=by
 change RepL K H true _ _ _;show xz
def iAny(K:Frag)(tl:TE):TI:=fun σ H R=>tl σ H λx H1=>(∃a xs,x=.J a/\SqL K H1 a xs/\(xs.B<=sizeLine->R (Itl K a) H1))\/(∃a xs,x=.J a/\SqT K H1 a xs/\(xs.B<=sizeLine->R (Itt K a) H1))\/∃z,x=.ã z/\R (Its z) H1
def _gp(hl:PE X l tl):PI X tg l (iAny X.K tl):=by
 intro a9 s σ H R I h;show thn (hl a9 s σ H _ I h) λv s1 hz=>?_
 let#[x,H1,I1,r1,q1]:=hz;let#[a,xs,rfl,hq,q]\/#[a,xs,rfl,hq,q]\/#[z,rfl,q]:=q1
 .cases r1;let#[ac,rv,p,hz]:=I1.list hq;show Zc p.isList (#[↥s1,[↥s1],_,_,H1,rfl,I1.kept (t':=s1.ý) λb o e=>X4 _ e,_aS a _,#[_,Xd _ rfl,rfl,rfl],λb hb=>?_,q hz]);let e:b=↥s1:= ~~~hb
  subst e;show I1.fpOk (Xa _) (I1.hok.fresh (Xa _))
 .cases r1;let#[ac,rv,p,hz]:=I1.tuple hq;show wpAny_pyIter_tuple (p) (#[↥s1,[↥s1],_,_,H1,rfl,I1.kept (t':=s1.ý) λb o e=>X4 _ e,_aT a _,#[_,Xd _ rfl,rfl,rfl],λb hb=>?_,q hz]);let e:b=↥s1:= ~~~hb
  subst e;show I1.fpOk (Xa _) (I1.hok.fresh (Xa _))
 .let#[t,rfl]:=r1;show _gm I1 q
def _gq{K}{x:Sl}(hx:x.d=.L es)(ev:x.v=.J l):∀H2,x.let.ok K H2->∃ys cs,SqL K H2 l ys/\RepA K H2 true es ys cs/\∀b>cs,b>x.as:=λH2 hok=>by
 let#[a',ys,cs,va,q4,r4,h4,_]:=items hok (.O hx);cases V.J.inj (va.s.I ev);let#[_,z]\/#[z,_]:=q4
 .show#[ys,cs,z.sq,r4,h4]
 .rw[show x.let.d=D.L es from hx]at z;cases z
def _gr{K}{x:Sl}(hx:x.d=.X es)(ev:x.v=.J l):∀H2,x.let.ok K H2->∃ys cs,SqT K H2 l ys/\RepA K H2 true es ys cs/\∀b>cs,b>x.as:=λH2 hok=>by
 let#[a',ys,cs,va,q4,r4,h4,_]:=items hok (.Z hx);cases V.J.inj (va.s.I ev);let#[z,_]\/#[_,z]:=q4
 .rw[show x.let.d=D.X es from hx]at z;cases z
 .show#[ys,cs,z,r4,h4]
def _gs{K}(w1:World K H1 (@x::L1))(st:Step H L H1 (@x::L1)):World K H1 (L1++[x.let].C some)/\Step H L H1 (L1++[x.let].C some):=by
 show#[World.comm (w1.tail.consNo (xZ w1.head) rfl λb hb=>w1.apart b hb),st.keep,λb hb=>?_,λb hb=>?_]
 .let:b>j7 L1:=by simpa [_dT]using hb
  show st.ì b (_ab _ this)
 .let:b>jW L1\/b>x.as:=by simpa [_dT]using hb
  let z\/z:=this
  .show st.ÿ b (_ab _ z)
  .show _d5 st b z
abbrev ItS(S:Hp->List V->Prop):It:=#[λi H=>∃xs x,S H xs/\xs[i]?=@x,λi H x H'=>H'=H/\∀xs,S H xs->xs[i]?=@x,λi H=>∃xs,S H xs/\xs.B<=i]
def _gt{K}{x:Sl}(ag:∀H2,x.let.ok K H2->∃ys cs,S H2 ys/\RepA K H2 true es ys cs/\∀b>cs,b>x.as):Walks K (ItS S) [x.let] es:=by
 show#[λt ht=>by rw[aC ht];rfl,λi H2 hok hi=>?_,λH2 hok=>?_,λi H2 v H3 d hok hy fh=>?_]
 all_goals let#[ys,cs,s1,s2,s3]:=ag H2 (hok _ (aB rfl))
 .let hl:=s2.len;show#[ys,ys[i]'_,s1,X1 (by symm)]
 .show#[ys,s1,by rw[s2.len];show Xa _]
 .let#[rfl,hy]:=hy;let#[v',bf,f1,f2,f3]:=s2.get fh;let:=hy ys s1;rw[f1]at this;cases _aa this;show#[#[.x,d,v,bf],rfl,rfl,rfl,xq,f2,λb hb=>#[x.let,aB rfl,s3 b (f3 b hb)]]
#where in
def wq(h:QE X Z q c e)(hK:X.K=Z.K<|>Ŕ):QI X Z q tg (itS c) e:=λa9 s σ H R I am=>ex8 am λE L r m w hc xc k=>by
 show(hK▸_gp h) a9 s σ H R I (VQ m w (hc) xc λE1 s h1 x L1 H1 e1 e2 m1 w1 st sm=>?_);let#[ds,hd,rfl]:=J8 h1;let ok:=w1.head;let#[wT,sT]:=_gs w1 st;cases hx:x.d with
 | lst es=>
  rw[<-e2,hx]at hd;cases _aa hd;let#[a,_,_,ev,_]:=items ok (.O hx);let ag:=_gq (K:=Z.K) hx ev;let#[xs,bs,q3,r3,_]:=ag H1 (xZ ok);show .O #[a,xs,ev,q3,λai=>k _ _ rfl _ [x.let] L1 H1 m1 wT sT (r3.len▸ai) (λhq=>(sm hq).1) (_gt ag)]
 | tup es=>
  rw[<-e2,hx]at hd;cases _aa hd;let#[a,_,_,ev,_]:=items ok (.Z hx);let ag:=_gr (K:=Z.K) hx ev;let#[xs,bs,q3,r3,_]:=ag H1 (xZ ok);show .Z (.O #[a,xs,ev,q3,λai=>k _ _ rfl _ [x.let] L1 H1 m1 wT sT (r3.len▸ai) (λhq=>(sm hq).1) (_gt ag)])
 | str z=>
  rw[<-e2,hx]at hd;let hd:(if z.cps.M<=big then @_ else none)=@ds:=hd
  split at hd
  .revert hz;cases _aa hd;show .Z (.Z #[z,(zQ ok hx).1,k _ _ rfl _ [] L1 H1 m1 (~~~w1.tail) (~~~(st.I Step.drop)) (by rw[X3];show hz) (λhq=>(sm hq).1) #[λt ht=>(nomatch ht),λi H2 _ hi=>?_,λH2 _=>?_,λi H2 v H3 d _ hy fh=>?_]])
   .change i<z.cps.M
    symm
   .change(z.cps.R.C λc=>D.ã #[%[c|0]]).B=z.cps.M;simp
   .let#[e3,cc,hc,rfl]:=hy;subst e3;rw[Xf,Xu,hc]at fh;cases _aa fh;show#[_,rfl,rfl,rfl,xq,_gn cc,λb hb=>(nomatch hb)]
  .cases hd
 |_=>rw[<-e2,hx]at hd;cases hd
def _gu{K}(lo hi):Walks K (Itr lo (hi - lo).S) [] (jV lo hi):=by
 let hl:(jV lo hi).B=(hi - lo).S:=by simp[jV]
 show#[λt ht=>(nomatch ht),λi H _ lq=>by rw[hl]at lq;show lq,λH _=>by rw[hl];show Xa _,λi H v H' d _ hy hd=>?_];let#[e,rfl]:=hy;subst e;unfold jV at hd;rw[Xf]at hd;cases hr:(List.r (hi - lo).S)[i]? with
 | none=>symm
 | some j=>
  rw[hr]at hd;let:j=i:=by
   let#[_,h2]:=aF hr
   simpa using h2.s
  subst this;cases _aa hd;show#[_,rfl,rfl,rfl,xq,_go _,λb hb=>(nomatch hb)]
def _gv(h:kY i=true):-(2 ^ 62)<=i/\i<2 ^ 62:=by
 unfold kY at h
 simpa using h
#where in
def zW(ha:QV X Z q a ea)(hg:Gl X "range")(hm:X.mg "range"=none)(b7:starEach [ea] X.V=[(false,eval ea X.V)]<|>Ŕ):QI X Z q tg (ww a) (.û (.é "range" p) [ea] [] pos):=λa9 s σ H R I am=>ex8 am λE L r m w hc xc k=>by
 show(_aX hg hm (qX ha vx b7) b7) a9 s σ H R I (vJ m w (hc) xc λE1 s h1 x L1 H1 e1 e2 m1 w1 ok fr sr st sm=>?_);cases hx:s.2 with
 | int j=>
  rw[hx]at h1;dsimp only at h1
  split at h1
  .revert hj;cases _aa h1;let#[j1,j2]:=_gv hj.1;show#[j,by rw[(qx ok (e2.I hx))],j1,j2,?_];let wk:=_gu (K:=Z.K) 0 j;rw[Int.sub_zero]at wk;show k _ _ rfl _ [] L1 H1 m1 (by symm) (by symm) (by dsimp[jV,X3,Xi,Int.sub_zero];show hj.2) sm wk
  .symm
 |_=>symm
#where in
def _gw(ha:QV X Z q a ea)(hb:QV X Z true b eb)(hg:Gl X "range")(hm:X.mg "range"=none)(hs:starEach [ea,eb] X.V=[(false,eval ea X.V),(false,eval eb X.V)]<|>Ŕ)(jd:starEach [eb] X.V=[(false,eval eb X.V)]<|>Ŕ)
  (hs3:starEach [ea,eb] X.V=(false,eval ea X.V)::starEach [eb] X.V<|>Ŕ):QI X Z q tg (Wj a b) (.û (.é "range" p) [ea,eb] [] pos):=λa9 s σ H R I am=>ex8 am λE L r m w hc xc k=>by
 show(_aY hg hm (qX ha (qX hb vx jd) hs3) hs jd) a9 s σ H R I ?_;show vJ m w (hc) xc λE1 s h1 x L1 H1 e1 e2 m1 w1 ok fr sr st sm=>?_
 show vJ m1 w1 h1 (xc.step st) λE2 s2 h2 y L2 H2 e3 e4 m2 w2 ir ug ui bv ff=>?_
 let kx:=W6 ok fr bv (ff rfl);cases hx:s.2 with
 | int i=>
  cases hy:s2.2 with
  | int j=>
   rw[hx,hy]at h2;dsimp only at h2
   split at h2
   .revert hj;cases _aa h2;let#[i1,i2]:=_gv hj.1;let#[j1,j2]:=_gv hj.2.1;show#[i,j,by rw[qx kx.1 (e2.I hx),qx ir (e4.I hy)],#[i1,i2,j1,j2],?_];show k _ _ rfl _ [] L2 H2 m2 (~~~w2) (~~~(st.I bv)) (by dsimp[jV,X3,Xi];show hj.2.2) (λhq=>kX (sm hq) (ff rfl)) (_gu i j)
   .cases h2
  |_=>rw[hx,hy]at h2;cases h2
 |_=>symm
def Mt.clr:∀{R E L},Mt E σ L->Mt (Q.clr R E) σ (Q.clr R L)
 | [],_,_,m=>m
 | j::R,E,L,m=>by
  let un:∀{E σ} {L} j,Mt E σ L->Mt (E.u j none) σ (L.u j none):=by
   intro E σ L j m
   induction m generalizing j with
   |nil=>show .nil
   |un m ih=>cases j with|zero=>show .un m|succ j=>show .un (ih j)
   |cons m ih=>cases j with|zero=>show .un m|succ j=>show .ê (ih j)
  change Mt (Q.clr R _) σ _;show Mt.clr (un j m)
def Mt.drop:∀{E σ L} (k),Mt E σ L->Mt (E.drop k) (σ.drop k) (L.drop k)
 |_,_,_,0,m=>m|_,_,_,k+1,.nil=>.nil|_,_,_,k+1,.un m=>m.drop k|_,_,_,k+1,.ê m=>m.drop k
def Mt.none_at:∀{E σ L} {j:Nat},Mt E σ L->E[j]?=@none->L[j]?=@none
 |_,_,_,_,.nil,h=>by symm|_,_,_,0,.un _,_=>by rfl|_,_,_,j+1,.un m,h=>by simpa using m.none_at (~~~h)|_,_,_,j+1,.ê m,h=>by simpa using m.none_at (~~~h)
def Mt.pick:∀{R:List Nat},Mt E σ L->Mt (R.C (at' E)) (R.C (at' σ)) (R.C (at' L))
 | [],_=>.nil
 | j::R,m=>by
  rw[List.l,List.l,List.l];cases hE:E[j]? with
  | none=>
   let hl:=m.len;let:L[j]?=none:=by rw[List.getElem?_eq_none_iff]at hE ⊢;symm
   rw[show at' E j=none from by ext at';rw[hE];rfl,show at' L j=none from by ext at';rw[this];rfl];show .un m.pick
  | some s=>
   cases s with
   |none=>
    let:L[j]?=@none:=m.none_at hE;rw[show at' E j=none from by ext at';rw[hE];rfl,show at' L j=none from by ext at';rw[this];rfl];show .un m.pick
   |some s=>
    let#[x,h1,h2,h3,h4]:=m.get hE;rw[show at' E j=@(x.o,x.d)from by ext at';rw[hE,h2,h3];rfl,show at' L j=@x from by ext at';rw[h1];rfl,show at' σ j=@x.v from by ext at';rw[h4];rfl];show .ê m.pick
def Mt.rep:∀{k},Mt E σ L->Mt (List.h k none++E) (List.h k none++σ) (List.h k none++L)
 |0,m=>by symm
 |k+1,m=>by
  show .un m.rep
def Mt.back:∀{R B τ M E L},Mt E σ L->Mt B τ M->(∀(i j:Nat) (v),R[i]?=@j->τ[i]?=@(@v)->σ[j]?=some @v)->Mt (Q.back R B E) σ (Q.back R M L)
 | [],B,τ,M,E,L,m,_,_=>by simpa [Q.back]using m| j::R,_,_,_,E,L,m,.nil,_=>by simpa [Q.back]using m
 | j::R,_,_,_,E,L,m,.un mB,h=>by
  let un:∀{E σ} {L} j,Mt E σ L->Mt (E.u j none) σ (L.u j none):=by
   intro E σ L j m
   induction m generalizing j with
   |nil=>show .nil
   |un m ih=>cases j with|zero=>show .un m|succ j=>show .un (ih j)
   |cons m ih=>cases j with|zero=>show .un m|succ j=>show .ê (ih j)
  change Mt _ σ (Q.back R _ _);show Mt.back (un j m) mB λi jj v e1 e2=>h (i+1) jj v (~~~e1) (~~~e2)
 |j::R,_,_,_,E,L,m,.ê (x:=x) mB,h=>by
  let m1:=m.u (x:=x) j;rw[J4 (h 0 j x.v (by rfl) (by rfl))]at m1;change Mt _ σ (Q.back R _ _);show Mt.back m1 mB λi jj v e1 e2=>h (i+1) jj v (~~~e1) (~~~e2)
section
def _gx:Jw k R σ=List.h k none++R.C (at' σ):=rfl
def _gy{K}(hR:R.U)(w:World K H (L++M)):World K H ((List.h k none++R.C (at' L))++(Q.clr R L++M))/\Step H (L++M) H ((List.h k none++R.C (at' L))++(Q.clr R L++M)):=by
 let p:(sls (L++M)).ä (sls ((List.h k none++R.C (at' L))++(Q.clr R L++M))):=by
  let:=_dY (L:=L) hR;rw[WV]at this;simp;rw[<-Y3];show(this.append_right _).s
 show#[w.same p,Step.ñ.same (List.ä.ñ _) p]
def _gz{K}(hR:R.U)(hr:∀j>R,j<L.B)(hB:B.B=k+R.B)(w:World K H2 (B++(Q.clr R L++M))):World K H2 (Q.back R (B.drop k) (Q.clr R L)++M)/\Step H2 (B++(Q.clr R L++M)) H2 (Q.back R (B.drop k) (Q.clr R L)++M):=by
 let p2:(sls (Q.back R (B.drop k) (Q.clr R L)++M)).ä (sls (B.drop k++(Q.clr R L++M))):=by
  rw[WV,<-Y3,WV _];show(_d1 hR (λj hj=>_d0 hj) (λj hj=>by rw[_dZ];show hr j hj) (by symm)).append_right _
 let sub:(sls (B.drop k++(Q.clr R L++M))).Sublist (sls (B++(Q.clr R L++M))):=by
  rw[WV,WV B];show List.Sublist.append ((List.drop_sublist k B).filterMap _) (Zu _)
 show#[(w.sub sub).same p2.s,(Step.ñ.sub sub).same (List.ä.ñ _) p2.s]
def _gA:∀{is es E E'},setAll is es E=@E'->E'.B=E.B
 |[],[],_,_,h=>by cases _aa h;rfl|i::is,d::es,E,E',h=>by rw[_gA (E:=E.u i _) h,Z6]
def _gB{t:Tg}(h:t.put d E=@E'):E'.B=E.B:=by
 cases t with
 |n i=>cases _aa h;rw[Z6]
 |t is=>
  cases d with|tup es=>show _gA (h)|lst es=>show _gA (h)|_=>cases h
def _gC(hσ:σ.B=nN)(hR:R.U)(hr:∀j>R,j<nN)(h:tQ Z q (cLC o k R it tt u c) σ H Q):tLC (tIS Z q it) (tG Z ((List.r R.B).C (k + ·)) tt) (tT Z q u) (tQ Z q c) k R σ H Q:=by
 let#[E,L,r,m,w,dh,xc,kk]:=h;let dh:bnd (it E) (λE ds=>match lcL tt u c ds (_dK k R E) []with
  | some (.ok B xs)=>mkL o (JW k R B E) xs| some (.exc B e)=>@(.exc (JW k R B E) e)
  | none=>none)=@r:=dh
 let#[E1,ds,h1,h2]\/#[E1,cc,h1,h2]:=wY dh
 rotate_left
 .show#[E,L,_,m,w,h1,xc.C h2,λE' s' z=>by cases z]
 show#[E,L,_,m,w,h1,(λ_ _ z=>by cases z),λE' ds' z J T L1 H1 m1 w1 st hz sm wk=>?_];injection z with z1 z2;subst z1 z2;let hL1:∀j>R,j<L1.B:=λj hj=>by let:=m1.len;let:=hr j hj;symm
 let#[wB,sB]:=_gy (k:=k) hR w1;cases hrB:lcL tt u c ds (_dK k R E1) []with
 | none=>symm
 | some rB=>
  rw [hrB]at h2;let okT:∀{H2 A B},World Z.K H2 (A++(B++(_root_.Q.clr R L1++T.C some)))->∀t>T,t.ok Z.K H2:=λw2 t ht=>w2.ok t (_ab _ (_ab _ (_ab _ (Yc ht))))
  let mB0:Mt (_dK k R E1) (Jw k R σ) (List.h k none++R.C (at' L1)):=(m1.pick (R:=R)).rep;let wm:∀{B LB τ H2 A},Mt B τ LB->τ.B=k+R.B->Pn ((List.r R.B).C (k + ·)) (Jw k R σ) τ->World Z.K H2 (LB++(A++(_root_.Q.clr R L1++T.C some))) ->
    Mt (JW k R B E1) σ (_root_.Q.back R (LB.drop k) (_root_.Q.clr R L1))/\World Z.K H2 (A++_root_.Q.back R (LB.drop k) (_root_.Q.clr R L1))/\Step H2 (LB++(A++(_root_.Q.clr R L1++T.C some))) H2 (A++_root_.Q.back R (LB.drop k) (_root_.Q.clr R L1)):=fun {B LB τ H2 A} mB lB pB wB2=>by
   let hl:LB.B=k+R.B:=by rw[mB.len.2];show lB
   let pm:(LB++(A++(_root_.Q.clr R L1++T.C some))).ä (LB++(_root_.Q.clr R L1++(A++T.C some))):=by
    show List.ä.append_left _ ?_;rw [<-Y3,<-Y3];show List.ä.append_right _ List.perm_append_comm
   let#[w3,s3]:=_gz (k:=k) hR hL1 hl (wB2.perm pm);let pm2:(_root_.Q.back R (LB.drop k) (_root_.Q.clr R L1)++(A++T.C some)).ä ((A++_root_.Q.back R (LB.drop k) (_root_.Q.clr R L1))++T.C some):=by
    rw [<-Y3];show List.ä.append_right _ List.perm_append_comm
   show#[(Mt.back (m1.clr) (mB.drop k) λi j v e1 e2=>?_),(w3.perm pm2).left,(s3.perm pm.s pm2).I Step.dropT];let hi:=(aF e1).1;rw [List.getElem?_drop,(pB (k+i) (List.mem_map.y #[i,List.á.y hi,rfl])),_gx,Y9 (by simp),Y0,show k+i - k=i from by simp,Xf,e1]at e2;let e4:at' σ j=@v:= ~~~e2
   unfold at' at e4;cases hh:σ[j]? with| none=>symm| some s=>symm
  show#[λi n ys τ H2=>∃(B:En) (LB:Ls) (ae:List Sl),Mt B τ LB/\τ.B=k+R.B/\Pn ((List.r R.B).C (k + ·)) (Jw k R σ) τ/\World Z.K H2 (LB++(ae.C some++(_root_.Q.clr R L1++T.C some)))/\Step H L H2 (LB++(ae.C some++(_root_.Q.clr R L1++T.C some))) /\
   ys=ae.C Sl.v/\lcL tt u c (ds.drop i) B (ae.C Sl.sd)=@rB/\i<=ds.B/\ae.B<=i/\n=ds.B - i/\(q=true->kj H H2/\∀b>j7 (ae.C some),H b=none),#[_,_dK k R E1,_,[],mB0,by simp[Jw],Pn.ñ,wB,st.I sB,rfl,hrB,Y6 _,Y6 _,rfl,λhq=>#[sm hq,λ_ z=>(nomatch z)]],?_]
  rintro i n ys τ H2 ⟨B,LB,ae,mB,lB,pB,wB2,sB2,rfl,f1,hi,au,rfl,smB⟩
  by_cases b9:i<ds.B
  rotate_left
  .let e:i=ds.B:=.q
   subst e;rw [List.drop_length]at f1;cases _aa f1;let#[m3,w3,s3]:=wm mB lB pB wB2;show .O #[wk.stop H2 (okT wB2) (λhq=>(smB hq).1),by rw[X3];lia,(_fI (σ:=σ) (Q:=Q) (o:=o) (xs:=ae) h2 rfl w3 (sB2.I s3) smB kk m3)]
  .let hd:ds.drop i=ds[i]::ds.drop (i+1):=List.drop_eq_getElem_cons b9;rw [hd]at f1;unfold lcL at f1;cases c8:tt.put ds[i] B with
   | none=>rw[c8]at f1;cases f1
   | some B2=>
    rw [c8]at f1;dsimp only at f1;show .Z #[wk.go i H2 (okT wB2) (λhq=>(smB hq).1) b9,λv H3 hy=>?_];let#[z,zo,zd,zv,smz,vd,zas]:=wk.yld i H2 v H3 ds[i] (okT wB2) (λhq=>(smB hq).1) hy (X1 b9);let pm:(LB++(ae.C some++(_root_.Q.clr R L1++T.C some))).ä ((LB++(ae.C some++_root_.Q.clr R L1))++T.C some):=by
     rw[<-Y3 (ae.C some),<-Y3]
    let#[wz,sz]:=_eY (wB2.perm pm) wk.x smz vd zo zas;let wz':World Z.K H3 ((@z::LB)++(ae.C some++(_root_.Q.clr R L1++T.C some))):=wz.perm (by
     rw[List.cons_append,List.cons_append];show List.ä.ê _ pm.s)
    let sz':Step H2 (LB++(ae.C some++(_root_.Q.clr R L1++T.C some))) H3 ((@z::LB)++(ae.C some++(_root_.Q.clr R L1++T.C some))):=sz.perm pm.s (by
     rw[List.cons_append,List.cons_append];show List.ä.ê _ pm.s)
    show#[B,LB,z,B2,mB,wz'.left,zo,zv,by rw[zd];show c8,fun τ2 LB2 p2 mB2 wB3 sB3=>?_];let#[w4,s4]:=stay wz' sB3 wB3;let lB2:τ2.B=k+R.B:=by
     let h1:=mB2.len.1;let h2:=mB.len.1;let h3:=_gB c8
     symm
    let p3:=pB.I p2;let wg:Step H L H3 (LB2++(ae.C some++(_root_.Q.clr R L1++T.C some))):=sB2.I (sz'.I s4);let je:q=true->kj H H3/\∀b>j7 (ae.C some),H b=none:=λhq=>#[kX (smB hq).1 smz,(smB hq).2]
    show#[λy H5=>∃(B:En) (LB:Ls) (cw:List Sl),Mt B τ2 LB/\World Z.K H5 (LB++(cw.C some++(_root_.Q.clr R L1++T.C some)))/\Step H L H5 (LB++(cw.C some++(_root_.Q.clr R L1++T.C some)))/\ae.C Sl.v++[y]=cw.C Sl.v/\cw.B=ae.B+1/\lcL tt u c (ds.drop (i+1)) B (cw.C Sl.sd)=@rB/\(q=true->kj H H5/\∀b>j7 (cw.C some),H b=none),
     λH5=>∃B LB,Mt B τ2 LB/\World Z.K H5 (LB++(ae.C some++(_root_.Q.clr R L1++T.C some)))/\Step H L H5 (LB++(ae.C some++(_root_.Q.clr R L1++T.C some)))/\lcL tt u c (ds.drop (i+1)) B (ae.C Sl.sd)=@rB/\(q=true->kj H H5/\∀b>j7 (ae.C some),H b=none),
     λy H5 hz=>by let#[B5,LB5,acc5,c1,c2,c3,c4,c5,c6,c7]:=hz;show#[by rw[X3];lia,ds.B - (i+1),.q,B5,LB5,acc5,c1,lB2,p3,c2,c3,c4,c6,b9,by symm,rfl,c7],
     λH5 hz=>by let#[B5,LB5,c1,c2,c3,c6,c7]:=hz;show#[ds.B - (i+1),.q,B5,LB5,ae,c1,lB2,p3,c2,c3,rfl,c6,b9,.q,rfl,c7],?_]
    let xcB:∀{α H6 L6 B6 cc A},rB=.exc B6 cc->World Z.K H6 (L6++(A++(_root_.Q.clr R L1++T.C some)))->Step H L H6 (L6++(A++(_root_.Q.clr R L1++T.C some)))->Xc Z τ2 H6 L6 (.exc B6 cc:Res α):=fun {α H6 L6 B6 cc A} er w6 s6 E7 c7 e7 C L7 H7 hm m7 w7 s7=>by
     injection e7 with e8 e9;subst e8 e9;subst er;cases _aa h2;let#[w8,s8]:=stay w6 s7 w7;let#[m9,w9,s9]:=wm m7 lB2 p3 w8;show xc _ _ rfl C _ H7 hm m9 w9.right ((s6.I (s8.I s9)).I #[λ_ _ h _=>h,λa ha=>.O (by rw[k5];show _ab _ ha),λa ha=>.O (by rw[qK];show _ab _ ha)])
    let#[B4,kb,g1,g2]\/#[B4,cc,g1,g2]:=wY f1
    rotate_left
    .show#[B2,LB2,_,mB2,wB3,g1,xcB g2 w4 wg,λE' s' z=>by cases z]
    show#[B2,LB2,_,mB2,wB3,g1,(λ_ _ z=>by cases z),λE' s' z LB4 H4 mB4 wB4 sB4 vm=>?_];injection z with z1 z2;subst z1 z2;let#[w5,s5]:=stay w4 sB4 wB4;let mx:=wg.I s5;cases kb with
    | false=>
     rw[Xb .q]at g2 ⊢;show#[B4,LB4,mB4,w5,mx,g2,λhq=>#[kX (je hq).1 (vm hq),(je hq).2]]
    | true=>
     rw[X7 rfl]at g2 ⊢;let#[B6,y,g3,g4]\/#[B6,cc,g3,g4]:=wY g2
     rotate_left
     .show#[B4,LB4,_,mB4,wB4,g3,xcB g4 w5 mx,λE' s' z=>by cases z]
     show#[B4,LB4,_,mB4,wB4,g3,(λ_ _ z=>by cases z),λE' s' z x LB6 H6 ex ey mB6 wB6 sB6 sm6=>?_];injection z with z1 z2;subst z1 z2;let#[w7,s7]:=stay w5 sB6 wB6;let pm3:((@x::LB6)++(ae.C some++(_root_.Q.clr R L1++T.C some))).ä (LB6++((ae++[x]).C some++(_root_.Q.clr R L1++T.C some))):=by
      rw[Xl,List.cons_append];let:(LB6++(ae.C some++[x].C some++(_root_.Q.clr R L1++T.C some)))=(LB6++ae.C some)++@x::(_root_.Q.clr R L1++T.C some):=by simp
      rw[this];show List.ä.I ?_ List.perm_middle.s;rw[Y3]
     show#[B6,LB6,ae++[x],mB6,w7.perm pm3,(mx.I s7).perm (List.ä.ñ _) pm3,by simp,by simp,?_,λhq=>#[kX (je hq).1 (kX (vm hq) (sm6 hq).1),λb hb=>?_]]
     .rwa [Xl,show[x].C Sl.sd=[y]from by simp[Sl.sd,ex,ey]]
     .rw[Xl,k5]at hb;let hb\/hb:=aA hb
      .show(je hq).2 b hb
      .let hb:b>x.ì:= ~~~hb
       show K4 (kX (je hq).1 (vm hq)) ((sm6 hq).2 b hb)
def _gD(N)(hi:QI X Z q tg it iter)
  (hg:∀cl C s0 H0 fp,QG (lcE X scope N cl C s0 H0 fp Z.EX) Z ((List.r R.B).C (k + ·)) tt tg) (ht:∀cl C s0 H0 fp,PTs (lcE X scope N cl C s0 H0 fp Z.EX) fm (tT Z q u)) (he:∀cl C s0 H0 fp,QE (lcE X scope N cl C s0 H0 fp Z.EX) Z q c elt)
  (gx:xv X Z.EX) (top:Jk X) (hR:R.U) (hr:∀j>R,j<X.N.B) (hc:X.calm=true<|>Ŕ) (hk:scope.kind=.function<|>Ŕ) (jy:Kz X.N X.V.scope scope N k R=true<|>Ŕ) (hs:(∀x,foldedSetIterable iter X.V x=pure x)<|>Ŗ):
  QE X Z q (cLC o k R it tt u c) (.ListComp elt [#[tg,iter,fm,0]] scope pos):=λa9 s σ H Q I hw=>
 _dA N k R (_eP hi) hg ht he gx top hc hk jy hs a9 s σ H Q I (_gC I.len hR hr hw)
def _gE(N)(hi:QIS X Z q tg it iter)
  (hg:∀cl C s0 H0 fp,QG (lcE X scope N cl C s0 H0 fp Z.EX) Z ((List.r R.B).C (k + ·)) tt tg) (ht:∀cl C s0 H0 fp,PTs (lcE X scope N cl C s0 H0 fp Z.EX) fm (tT Z q u)) (he:∀cl C s0 H0 fp,QE (lcE X scope N cl C s0 H0 fp Z.EX) Z q c elt)
  (gx:xv X Z.EX) (top:Jk X) (hR:R.U) (hr:∀j>R,j<X.N.B) (hc:X.calm=true<|>Ŕ) (hk:scope.kind=.function<|>Ŕ) (jy:Kz X.N X.V.scope scope N k R=true<|>Ŕ) (hs:(∀x,foldedSetIterable iter X.V x=pure x)<|>Ŗ):
  QE X Z q (cLC o k R it tt u c) (.ListComp elt [#[tg,iter,fm,0]] scope pos):=λa9 s σ H Q I hw=>
 _dA N k R hi hg ht he gx top hc hk jy hs a9 s σ H Q I (_gC I.len hR hr hw)
def _gF(N)(k)(R)(hN:X.N.U)(hy:X.N[i]?=@y)(hx:Loc X.V.scope y)(hi:PI X tg iter wi)
  (hg:∀cl C s0 H0 fp,PG (lcE X scope N cl C s0 H0 fp EX) tg g) (ht:∀cl C s0 H0 fp,PTs (lcE X scope N cl C s0 H0 fp EX) fm tte) (he:∀cl C s0 H0 fp,PE (lcE X scope N cl C s0 H0 fp EX) elt te) (gx:xv X EX) (top:Jk X)
  (jt:swapsWith (.ListComp elt [#[tg,iter,fm,0]] scope pos) @(.é y py) fi.line X.V=pure true<|>Ŕ)
  (hc:X.calm=true<|>Ŕ) (hk:scope.kind=.function<|>Ŕ) (jy:Kz X.N X.V.scope scope N k R=true<|>Ŕ) (hs:(∀x,foldedSetIterable iter X.V x=pure x)<|>Ŗ)
  (hf:X.fn y=true\/X.V.scope.ð.Y y=@.local<|>ś):
  PS X (.Assign [.é y py] (.ListComp elt [#[tg,iter,fm,0]] scope pos) fi) (λD σ H=>tLC wi g tte te k R σ H λv H1=>D.nx (σ.u i @v) H1):=by
 intro a9 s σ H D I h;let sc:=_cy hk jy;let#[cl,mr,dk,c9]:=_cx λy hy e=>I.ok.has y.1 (sc.caps y hy e)
 rw[exec_Assign_Name_used _ _ _ _ jt];show X0 (wpAny_standAt (X0 ?_));show X0 (thn (wpAny_comprehension_free rfl hs mr sc.kind sc.ð
  (thn (hi a9 s σ H _ I h) λv s1 h1=>thn h1 λitv s2 h2=>?_)) λ_ s' hq=>X5 (X5 hq))
 let#[it,fp,tn,J,H2,e,I2,T,bv,f2,W,w0,gm]:=h2;subst e;show _dz hc top sc dk c9 (hg cl) (ht cl) (he cl) I2 T bv f2 w0 gm ?_ ?_
 rotate_left
 .intro D' C s' dq σ' H' x T Cc fl hC t q;show _dy gx I2 f2 hC t q
 intro L C oC m ys H' s' I' eC nC fC q;show wpAny_assign_Name (_ar I' hN hy hx (v:=.J L) rfl (λlx I''=>?_) hf);let pC:=I''.pin _ (_ab _ (_ab _ (aB rfl)));show#[m,nC.at' λo e=>?_,λh' sb=>#[_,_,I''.unpinned.turned (t':=lx.ý) (λb o hb e=>(sb.2 b hb).I e) fC.1 fC.2.1 fC.2.2.2.1 fC.2.2.2.2.1 fC.2.2.2.2.2,q]]
 symm
def ZX(N)(hN:X.N.U)(hy:X.N[i]?=@y)(hx:Loc X.V.scope y)(hi:QI X Z q tg it iter)
  (hg:∀cl C s0 H0 fp,QG (lcE X scope N cl C s0 H0 fp Z.EX) Z ((List.r R.B).C (k + ·)) tt tg) (ht:∀cl C s0 H0 fp,PTs (lcE X scope N cl C s0 H0 fp Z.EX) fm (tT Z q u)) (he:∀cl C s0 H0 fp,QE (lcE X scope N cl C s0 H0 fp Z.EX) Z q c elt)
  (gx:xv X Z.EX) (top:Jk X) (hR:R.U) (hr:∀j>R,j<X.N.B) (hp:i∉pn<|>ŕ)
  (jt:swapsWith (.ListComp elt [#[tg,iter,fm,0]] scope pos) @(.é y py) fi.line X.V=pure true<|>Ŕ)
  (hc:X.calm=true<|>Ŕ) (hk:scope.kind=.function<|>Ŕ) (jy:Kz X.N X.V.scope scope N k R=true<|>Ŕ) (hs:(∀x,foldedSetIterable iter X.V x=pure x)<|>Ŗ)
  (hf:X.fn y=true\/X.V.scope.ð.Y y=@.local<|>ś):
  QS X Z pn (jx i (cLC o k R it tt u c)) (.Assign [.é y py] (.ListComp elt [#[tg,iter,fm,0]] scope pos) fi):=
 _eL hp λa9 s σ H D I hw=>_gF N k R hN hy hx (_eP hi) hg ht he gx top jt hc hk jy hs hf a9 s σ H D I (_gC I.len hR hr hw)
end
end
section
variable {X:Cx}{Z:Fx0}{K:Frag}{q qa qb:Bool}{a b c:Ex}{u:Ts}{tg e ea eb:Expr}{σ:L2.St}{H:Hp}{pos p:Pos}{x:Str}{id T:String}{r:List V->Hp->VK->Prop}{f:Sd->Option Sd}{g:Sd->Sd->Option Sd}
def KY:PTs X [] (tT Z q _root_.Q.tYes):=λa9 s σ H Q I am=>ex8 am λE L r m w hc xc k=>by
 cases _aa hc;show _cF a9 s σ H Q I (k _ _ rfl L H m w Step.ñ λ_=>xq)
def WX(h:QT X Z q u e):PTs X [e] (tT Z q u):=_cG h
def _gG(hc:CallR X (.à id) r)(ad:Ad1 Z.K (λv H Q=>r [v] H Q) f)(ha:QV X Z q a ea)(hm:X.mg x=none)(hv:bootBuiltins x=@(.à id))(hg:Gl X x<|>Ŕ)(hn:x≠"__name__"<|>ŕ)(gr:Abd x<|>ŕ)
  (he:Abs ea [] X<|>Ŕ) (bu:Abb pos [] X<|>Ŕ):QE X Z q (cF1 f a) (.û (.é x p) [ea] [] pos):=
 qv (_bD hc hg hm hv (qX ha vx he) hn gr he bu) fun σ H Q h=>_ef ad h
def K8(hc:CallR X (.e T) r)(ad:Ad1 Z.K (λv H Q=>r [v] H Q) f)(ha:QV X Z q a ea)(hm:X.mg x=none)(hv:bootBuiltins x=@(.e T))(hg:Gl X x<|>Ŕ)(hn:x≠"__name__"<|>ŕ)(gr:Abd x<|>ŕ)
  (he:Abs ea [] X<|>Ŕ) (bu:Abb pos [] X<|>Ŕ):QE X Z q (cF1 f a) (.û (.é x p) [ea] [] pos):=
 qv (_bE hc hg hm hv (qX ha vx he) hn gr he bu) fun σ H Q h=>_ef ad h
def _gH:Ad1 K (λv H Q=>_cU K [v] H Q) (pu1 v8):=by
 intro H x s Q ok hf k;unfold pu1 at hf;let fin:∀n,v8 x.d=@(.E n)->Q (.E n) H:=λn e=>by
  rw[e]at hf;cases _aa hf;show k _ H rfl rfl Qz
 cases hx:x.d with
 |lst ds=>
  let#[l,xs,bs,e,q,r,_]:=items ok (.O hx);show .O #[l,xs,by rw[e],?_,by rw[<-r.len];show fin ds.B (by rw[hx];rfl)];let#[_,z]\/#[_,z]:=q
  .show .O (Kq z)
  .show .Z z
 |tup ds=>
  let#[l,xs,bs,e,q,r,_]:=items ok (.Z hx);show .O #[l,xs,by rw[e],?_,by rw[<-r.len];show fin ds.B (by rw[hx];rfl)];let#[_,z]\/#[_,z]:=q
  .show .O (Kq z)
  .show .Z z
 |str z=>
  let#[e,hz]:=zQ ok hx;show .Z (.O #[z,by rw[e],hz,fin z.B (by rw[hx];rfl)])
 |_=>rw[hx]at hf;cases hf
def _gI(K:Frag):List V->Hp->VK->Prop:=λxs H Q=>_cL K xs H Q\/(∃p ys U,xs=[.J p,.ty U]/\SqT K H p ys/\U>kinds.tail/\Q (.bl (_cJ "tuple" U)) H)\/∃p ys U,xs=[.J p,.ty U]/\SqL K H p ys/\U>kinds.tail/\Q (.bl (_cJ "list" U)) H
def _gJ(hK:X.K=K<|>Ŕ):CallR X (.à "isinstance") (_gI K):=by
 subst hK;intro a9 s σ H xs us Q I r h;let h\/#[p,ys,U,rfl,hq,hU,q]\/#[p,ys,U,rfl,hq,hU,q]:=h
 .show _cM a9 s σ H xs us Q I r h
 .let#[u,w',rfl,r1,r2]:=_bm r;cases(show w'=Value.e U from r2);cases r1;let#[ac,_,#[o,h1,h2,_],_]:=I.tuple hq;show Ym PySem.W.kitx_tuple I.kIn #[o,h1,h2] (_cK .q hU) (nofun) λtk=>#[.bl _,H,I.tok _,rfl,q]
 .let#[u,w',rfl,r1,r2]:=_bm r;cases(show w'=Value.e U from r2);cases r1;let#[ac,_,#[o,n,h1,h2,_],_]:=I.list hq;show Ym PySem.W.kitx_list I.kIn #[o,h1,h2] (_cK .q hU) (nofun) λtk=>#[.bl _,H,I.tok _,rfl,q]
def _gK(hU:U>kinds.tail):Ad1 K (λv H Q=>_gI K [v,.ty U] H Q) (pu1 (JY U)):=by
 intro H x s Q ok hf k;unfold pu1 JY at hf;let fin:∀T,kind x.d=T->(∀c f,x.d≠.obj c f)->Q (.bl (_cJ T U)) H:=λT e ho=>by
  cases hx:x.d with
  |obj c f=>show absurd hx (ho c f)|dct ab=>symm
  |_=>
   rw[hx]at hf;cases _aa hf;rw[<-e,hx];show k _ H rfl rfl x6
 cases hx:x.d with
 |non=>show .O #[x.v,"NoneType",U,rfl,by rw[_ej ok hx];show .ç,.q,hU,fin _ (by rw[hx];rfl) (by symm)]|bl k=>show .O #[x.v,"bool",U,rfl,by rw[_ei ok hx];show .bl _,.q,hU,fin _ (by rw[hx];rfl) (hx▸nofun)]|int k=>show .O #[x.v,"int",U,rfl,by rw[qx ok hx];show .E _,.q,hU,fin _ (by rw[hx];rfl) (hx▸nofun)]|str k=>show .O #[x.v,"str",U,rfl,by rw[(zQ ok hx).1];show .ã _,.q,hU,fin _ (by rw[hx];rfl) (hx▸nofun)]
 |lst ds=>
  let#[l,xs,bs,e,q,r,_]:=items ok (.O hx);let f:=fin "list" (by rw[hx];rfl) (hx▸nofun);let#[_,z]\/#[z,_]:=q
  .show .Z (.Z #[l,xs,U,by rw[e],z.sq,hU,f])
  .symm
 |tup ds=>
  let#[l,xs,bs,e,q,r,_]:=items ok (.Z hx);let f:=fin "tuple" (by rw[hx];rfl) (hx▸nofun);let#[z,_]\/#[_,z]:=q
  .symm
  .show .Z (.O #[l,xs,U,by rw[e],z,hU,f])
 |dct ab=>symm|obj c f=>symm
def _gL(ha:QV X Z q a ea)(hm:X.mg "isinstance"=none)(hmy:X.mg y=none)(hy:bootBuiltins y=@(.e U))(hK:X.K=Z.K)(hU:U>kinds.tail<|>ŕ)(hg:Gl X "isinstance"<|>Ŕ)(hgy:Gl X y<|>Ŕ)(hny:y≠"__name__"<|>ŕ)(hdy:Abd y<|>ŕ)
  (he:starEach [ea,.é y p2] X.V=(false,eval ea X.V)::starEach [.é y p2] X.V<|>Ŕ) (xy:starEach [.é y p2] X.V=(false,eval (.é y p2) X.V)::starEach [] X.V<|>Ŕ) (bu:(backTo pos (starEach [.é y p2] X.V)).any (·.1)=false<|>Ŕ):
  QE X Z q (cF1 (pu1 (JY U)) a) (.û (.é "isinstance" p) [ea,.é y p2] [] pos):=
 qv (_bD (_gJ hK) hg hm _c0 (qX ha (qX (_az (v:=.ty U) hgy hmy hy rfl hny hdy) vx xy) he) .q (by rfl) he bu) fun σ H Q h=>_ef (_gK hU) h
#where in
def _gM:Ad1 K (λv H Q=>_dg [v] H Q) (pu1 VW):=by
 intro H x s Q ok hf k;unfold pu1 VW at hf;dsimp only at hf
 split at hf
 .revert i e;cases _aa hf;show .O #[i,by rw[qx ok e],k _ H rfl rfl Qz]
 .revert i e;cases _aa hf;show .Z (.O #[i,by rw[_ei ok e],k _ H rfl rfl Qz])
 .revert z e
  split at hf
  .revert hz;cases ht:PySem.intText? z with
   |none=>symm
   |some n=>
    rw[ht]at hf;cases _aa hf;show .Z (.Z #[z,n,by rw[(zQ ok e).1],ht,hz,k _ H rfl rfl Qz])
  .grind
 .grind
#where in
def _gN:Ad1 K (λv H Q=>_da K [v] H Q) _dM:=by
 intro H x s Q ok hf k;unfold _dM at hf;dsimp only at hf
 split at hf
 .revert ds e
  split at hf
  .revert hl;cases _aa hf;let#[l,xs,bs,ev,q3,r3,h3]:=JZ ok (.O e) hl;let q3:LsR K H l xs:=by let#[_,z]\/#[z,_]:=q3;show z;rw[e]at z;cases z
   show#[l,xs,by rw[ev],.O (Kq q3),λp hp=>k _ _ rfl rfl (Vw hp r3 h3)]
  .cases hf
 .revert ds e
  split at hf
  .revert hl;cases _aa hf;let#[l,xs,bs,ev,q3,r3,h3]:=JZ ok (.Z e) hl;let q3:SqT K H l xs:=by let#[z,_]\/#[_,z]:=q3;rw[e]at z;cases z;show z
   show#[l,xs,by rw[ev],.Z q3,λp hp=>k _ _ rfl rfl (Vw hp r3 h3)]
  .cases hf
 .cases hf
def _gO(K:Frag):List V->Hp->VK->Prop:=λxs H Q=>∃p ys,xs=[.J p]/\((SqL K H p ys/\∀l,H l=none->Q (.J l) (upd H l (.X ys)))\/(SqT K H p ys/\Q (.J p) H))
def _gP(hK:X.K=K):CallR X (.e "tuple") (_gO K):=by subst hK;show _bV
#where in
def _gQ:Ad1 K (λv H Q=>_gO K [v] H Q) zV:=by
 intro H x s Q ok hf k;unfold zV at hf;dsimp only at hf
 split at hf
 .revert ds e
  split at hf
  .revert hl;cases _aa hf;let#[l,xs,bs,ev,q3,r3,h3]:=JZ ok (.O e) hl;let q3:LsR K H l xs:=by let#[_,z]\/#[z,_]:=q3;show z;rw[e]at z;cases z
   show#[l,xs,by rw[ev],.O #[Kq q3,λp hp=>k _ _ rfl rfl (_ey hp r3 h3)]]
  .cases hf
 .revert ds e
  split at hf
  .revert hl;cases _aa hf;let#[l,xs,bs,ev,q3,r3,h3]:=JZ ok (.Z e) hl;let q3:SqT K H l xs:=by let#[z,_]\/#[_,z]:=q3;rw[e]at z;cases z;show z
   show#[l,xs,by rw[ev],.Z #[q3,k #[.x,.X ds,.J l,bs] H rfl rfl #[xq,(#[l,xs,rfl,q3,r3]),λb hb=>(nomatch hb),Y7,λb hb=>h3 b hb]]]
  .cases hf
 .cases hf
def _gR{g}:∀{ds bs xs as},bls ds=@bs->RepA K H g ds xs as->xs=bs.C V.bl
 | [],bs,xs,as,h,r=>by
  cases _aa h;show r.1
 | d::ds,bs,xs,as,h,r=>by
  cases d with
  | bl b=>
   unfold bls at h;cases hb:bls ds with
   |none=>grind
   |some bf=>
    rw[hb]at h;cases _aa h;let#[x,rr,c1,c2,rfl,rfl,h1,h2]:=r;rw[h1.1,_gR hb h2];rfl
  |_=>unfold bls at h;cases h
#where in
def _gS:Ad1 K (λv H Q=>_cP K [v] H Q) (pu1 _dN):=by
 intro H x s Q ok hf k;unfold pu1 _dN at hf;dsimp only at hf
 split at hf
 .revert ds e;cases hb:bls ds with
  |none=>symm
  |some bs=>
   rw[hb]at hf;cases _aa hf;let#[l,xs,cs,ev,q3,r3,_]:=items ok (.O e);let q3:LsR K H l xs:=by let#[_,z]\/#[z,_]:=q3;show z;rw[e]at z;cases z
   show#[l,bs,by rw[ev],by rw[<-_gR hb r3];show Kq q3,k _ H rfl rfl x6]
 .cases hf
def _gT{g}:∀x y s,pu2 (c2 g) x y=@s->∃k,s.2=.bl k:=by
 intro x y s h;unfold pu2 c2 at h
 split at h
 .grind
 .symm
def _gU:∀x y s,pu2 fEq x y=@s->∃k,s.2=.bl k:=by
 intro x y s h;unfold pu2 fEq at h
 split at h
 .grind
 .symm
def _gV:∀x y s,pu2 fNe x y=@s->∃k,s.2=.bl k:=by
 intro x y s h;unfold pu2 fNe at h
 split at h
 .grind
 .symm
def _gW{x y d}(h:fIn x y=@d):∃k,d=.bl k:=by
 unfold fIn at h
 split at h
 .split at h
  .grind
  .grind
 .grind
 .split at h
  .grind
  .grind
 .grind
 .grind
def _gX:∀x y s,pu2 Jz x y=@s->∃k,s.2=.bl k:=by
 intro x y s h;unfold pu2 Jz at h
 split at h
 .symm
 .cases hf:fIn x.2 y.2 with
  |none=>symm
  |some d=>
   rw[hf]at h;cases _aa h;show _gW hf
def _gY:∀x y s,pu2 V1 x y=@s->∃k,s.2=.bl k:=by
 intro x y s h;unfold pu2 V1 Wk at h
 split at h
 .symm
 .cases hf:fIn x.2 y.2 with
  |none=>rw[hf]at h;cases h
  |some d=>
   let#[k,rfl]:=_gW hf;rw[hf]at h;cases _aa h;show#[_,rfl]
def _gZ:∀x y s,f2First fIsNon x y=@s->∃k,s.2=.bl k:=by
 intro x y s h;unfold f2First fIsNon at h
 split at h
 .grind
 .symm
def _g0:∀{xs us},xs.B=us.B->(∀(i:Nat) (x) (u),xs[i]?=@x->us[i]?=@u->RelV x u)->Vals xs us
 |[],[],_,_=>.nil|[],_::_,h,_=>by symm|x::xs,u::us,h,f=>.ê (f 0 x u (by rfl) (by rfl)) (_g0 (~~~h) λi x u e1 e2=>f (i+1) x u (~~~e1) (~~~e2))
def _g1(ha:QV X Z q a ea)(uw:X.mg "range"=none)(wa:Gl X "range")(b7:starEach [ea] X.V=(false,eval ea X.V)::starEach [] X.V)(bu:(backTo pos2 (starEach [] X.V)).any (·.1)=false):PE X (.û (.é "range" p2) [ea] [] pos2) (fun σ H Q=>tV Z q a σ H λv H1=>∃j,v=.E j/\∀pp,H1 pp=none->Q (.J pp) (upd H1 pp (.rng 0 j))):=by
 intro a9 s σ H Q I h;show Call_ (xQ I wa uw boot_range (Y1 (thn (qX ha vx b7 pos2 a9 s σ H (λvs H1=>∃j,vs=[.E j]/\∀pp,H1 pp=none->Q (.J pp) (upd H1 pp (.rng 0 j))) I ?_) λus s1 #[vs,H1,I1,r1,j,e,q1]=>?_) b7 bu))
 .grind
 .subst e;let#[u,rfl,t,rfl]:=r1.one;show call_range_1 #[.J ↥s1,_,I1.laid (o:=.rng 0 j) (λb o e=>X4 _ e) (Xa _) #[_,_,_,Xd _ rfl],rfl,q1 _ I1.fresh]
def _g2(ns:List Nat):RepA K H true (ns.C λ(i:Nat)=>D.E (0+i)) (ns.C λ(i:Nat)=>V.E (0+i)) []:=by
 induction ns with
 |nil=>ext RepA;show#[rfl,rfl]
 |cons i ns ih=>
  show#[_,_,[],[],rfl,rfl,xz,ih]
def _g3{ae:Array Value}(hs:ae.M=n)(hg:∀(i:Nat) u,ae[i]?=@u->∃t,u=.E (0+i*1) t):Vals ((List.r n).C λ(i:Nat)=>V.E (0+i)) ae.R:=_g0 (by simp[hs]) λi x u ex eu=>by
 rw[Xu]at eu;let#[t,rfl]:=hg i u eu;rw[Xf]at ex;let#[m,hr,rfl]:=Option.map_eq_some_iff.mp ex;let#[_,h2]:=aF hr;rw[List.getElem_range]at h2;subst h2;show#[t,by rw[Int.mul_one]]
#where in
def _g4(ha:QV X Z q a ea)(uw:X.mg "range"=none)(xr:X.mg "list"=none)(hc:X.calm=true<|>Ŕ)(wa:Gl X "range"<|>Ŕ)(uu:Gl X "list"<|>Ŕ)
  (b7:Abs ea [] X<|>Ŕ) (bu:Abb pos2 [] X<|>Ŕ)
  (ms:starEach [.û (.é "range" p2) [ea] [] pos2] X.V=(false,eval (.û (.é "range" p2) [ea] [] pos2) X.V)::starEach [] X.V<|>Ŕ) (t9:Abb pos [] X<|>Ŕ):
  QE X Z q (W8 a) (.û (.é "list" p) [.û (.é "range" p2) [ea] [] pos2] [] pos):=by
 intro a9 s σ H Q I ⟨E,L,r,m,w,dh,xc,k⟩;show Yy (xQ I uu xr ZV (Y1 (thn (qX (_g1 ha uw wa b7 bu) vx ms pos a9 s σ H (λvs H1=>∃pp j,vs=[.J pp]/\H1 pp=@(.rng 0 j)/\kY j=true/\j.S<=big/\∀l,H1 l=none->Q (.J l) (upd H1 l (.L ((List.r j.S).C λ(i:Nat)=>V.E (0+(i)))))) I ?_) λus s1 #[vs,H1,I1,r1,pp,j,e,hp,h62,hbig,q1]=>?_) ms t9))
 .show vJ m w (dh) xc λE1 s h1 x L1 H1 e1 e2 m1 w1 ok fr sr st sm=>?_
  cases hx:s.2 with
  | int j=>
   rw[hx]at h1;dsimp only at h1
   split at h1
   .revert hj;cases _aa h1;show#[j,qx ok (e2.I hx),λpp hpp=>#[pp,j,rfl,wj,hj.1,hj.2,λl hl=>?_]];let s1:kj H1 (upd H1 pp (.rng 0 j)):=vw hpp;let w2:World Z.K _ L1:=#[λx hx=>RepO.kp (w1.ok x hx) (Kp.of_same s1),w1.nd,w1.ds];let o:=Vw (K:=Z.K) (fr:=[]) hl (_g2 (List.r j.S)) (λ_ z=>(nomatch z));let#[w3,ft]:=ZZ w2 (st.I #[λb ob z _=>s1 b ob z,λb z=>.O z,λb z=>.O z]) o (λ_ z=>(nomatch z)) (λ_ z=>(nomatch z)) (λ_ z=>(nomatch z));show k _ _ rfl #[.rt,.L _,.J l,[l]] L1 _ rfl rfl m1 (by simpa [jV]using w3) (by simpa [jV]using ft) λhq=>#[kX (sm hq) (kX s1 o.same),λb hb=>?_]
    let:b=l:=by simpa [Sl.ì]using hb
    subst this;show K4 (kX (sm hq) s1) hl
   .cases h1
  |_=>rw[hx]at h1;cases h1
 .subst e;let#[u,rfl,rx]:=r1.one;cases rx;let#[t1,t2,t3,hg]:=(I1.hok pp _ hp);let#[j1,j2]:=_gv h62;let e2:Builtin.Range.rangeSize 0 j 1=((j.S:Nat):Int):=by rw[rangeSize_one];split<;>grind
  show call_list_range (I1.ok.hd hc) (hg) (small_one .q .q j1 j2) e2 hbig λh' tk cw c' kp e4 fw=>?_
  let#[hs,js]:=fw;show#[.J ↥s1,_,I1.laid (o:=.L _) (t':=tk) kp (Xa _) #[by rw[X3,Xi];show hbig,cw.R,c',_g3 hs js,~~~e4],rfl,q1 _ I1.fresh]
end
end Q
namespace Q
open PySem
def _g5:Sm:=λ_=>none
def xx:Nat->List D->List D
 |_,[]=>[]|k,d::ds=>.X [.E k,d]::xx (k+1) ds
def Kj:List D->List D->List D
 |a::x,b::y=>.X [a,b]::Kj x y|_,_=>[]
def lstOf:D->Option (List D)
 |.L xs=>@xs|_=>none
noncomputable def xjp(c:Ex):Ev (List D):=λE=>bnd (c E) λE x=>val E ((lstOf x.2).C (xx 0))
noncomputable def vwq(c d:Ex):Ev (List D):=λE=>bnd (c E) λE x=>bnd (d E) λE y=>val E ((lstOf x.2).bind λxs=>(lstOf y.2).bind λys=>if xs.B<=big then @(Kj xs ys)else none)
def KZ:List D->Option (List Str)
 |[]=>⇑[]|.ã z::ds=>(KZ ds).C (z :: ·)|_=>none
def Q9:List D->Option (List Int)
 |[]=>⇑[]|.E z::ds=>(Q9 ds).C (z :: ·)|_=>none
def z9(a:Str):List Str->List Str
 |[]=>[a]|b::r=>if Spec.ltCps b.cps.R a.cps.R then b::z9 a r else a::b::r
def wV:List Str->List Str
 |[]=>[]|a::r=>z9 a (wV r)
def _g6:D->D->Option D:=λxs x=>match xs with
 |.L ys=>if x.flat 30&&D.flats 30 ys then(ys.findIdx? λz=>peq z x).C λ(j:Nat)=>D.E (j:Int)else none|.X ys=>if x.flat 30&&D.flats 30 ys then(ys.findIdx? λz=>peq z x).C λ(j:Nat)=>D.E (j:Int)else none|_=>none
def isSq:D->Bool
 |.L _=>true|.X _=>true|_=>false
def Wz(a b:Ex):Ex:=λE=>bnd (a E) λE x=>if isSq x.2 then bnd (b E) λE y=>val E (pu2 _g6 x y)else none
def YV(f:Fn)(cs:List Ex):Ex:=λE=>bnd (vK cs E) λE xs=>match f (letAll xs)with
 |some (.ok _ y)=>if y.2.pure then @(.ok E (.dp,y.2))else none|some (.exc _ c)=>@(.exc E c)|none=>none
def K7:Sd->Sd->Option Sd:=λx y=>match x.2,y.2 with
 |.X a,.E k=>if -(2 ^ 63)<=k/\k<2 ^ 63/\a.B*k.S<=big/\qV x then @(.x,.X (List.h k.S a).flatten)else none|_,_=>KQ x y
def _g7:D->Bool
 |.X _=>true|_=>false
def kZ(x:D):Bool:=jX 6 x&&_g7 x
def XV:D->D->Option D:=λx y=>match y with
 |.dct ab=>if kZ x=true/\unm ab=true then @(.bl (decide (x>ab.C (·.1))))else none|_=>none
def V0:D->D->Option D:=λx y=>match y with
 |.dct ab=>if kZ x=true/\unm ab=true then @(.bl (!decide (x>ab.C (·.1))))else none|_=>none
def _g8:Sd->Option Sd:=λx=>match x.2 with
 |.dct ab=>if ab.B<=big/\unm ab=true then @(.rt,.L (ab.C (·.1)))else none|_=>none
def _g9(is:List Int):Bool:=is.all λi=>decide (0<=i)&&decide (i<=1000000)
def YZ:D->Option D:=λd=>match d with
 |.L ds=>(match Q9 ds with
  |some is=>if _g9 is=true/\is.B<=100000 then @(.E is.sum)else none
  |none=>none)
 |_=>none
def _ha : Sd -> D -> D -> Option D:= λs k v=>match s,k with
  |(o,.L xs),.E j=>if o = .x then none else(ixN xs.B j).C λn=>.L (xs.u n v)|_,_=>none
def ZQ:Nat->Ex->Ex->Sm:=_dL Wx _ha
noncomputable def mkD:D×D:=(.ã "",.ç)
def Qx(kv:List (Int×Int)):D:=.dct (mkD::kv.C λp=>(.E p.1,.E p.2))
def _hb : List (D × D) -> Option (List (Int × Int))
  |[]=>⇑[]|(.E k,.E v)::r=>(_hb r).C ((k,v):: ·)|_=>none
def Qq:D->Option (List (Int×Int)):=λd=>match d with
 |.dct ((.ã _,.ç)::ab)=>_hb ab|_=>none
def jY(kv:List (Int×Int))(k:Int):Option Int:=(kv.find? λp=>decide (p.1=k)).C (·.2)
def qW(kv:List (Int×Int))(k v:Int):List (Int×Int):=if(kv.any λp=>decide (p.1=k))=true then kv.C (λp=>if p.1=k then(p.1,v)else p)else kv++[(k,v)]
def W4:D->D->Option D:=λx y=>match x,Qq y with
 |.E k,@kv=>@(.bl (jY kv k).isSome)|_,_=>none
def _hc:D->D->Option D:=λy x=>match x,Qq y with
 |.E k,@kv=>(jY kv k).C .E|_,_=>none
def _hd(a b:Ex):Ex:=λE=>bnd (a E) λE x=>bnd (b E) λE y=>val E ((_hc x.2 y.2).C λd=>(.dp,d))
def Vj:List D->Option (List (Int×Int))
 |[]=>⇑[]|.X [.E a,.E b]::r=>(Vj r).C ((a,b):: ·)|_=>none
def _he:Sd->Option Sd:=λx=>match x.2 with
 |.L ds=>(match Vj ds with
  |some ps=>if ps.B<big then @(.rt,Qx (ps.foldl (λkv p=>qW kv p.1 p.2) []))else none
  |none=>none)
 |_=>none
def _hf:D->Option (List D)
 |.X xs=>@xs|_=>none
noncomputable def vwr(c:Ex):Ev (List D):=λE=>bnd (c E) λE x=>val E ((_hf x.2).C (xx 0))
noncomputable def itV(i:Nat):Ev (List D):=λE=>match E[i]? with
 |some @(_,.L ds)=>if D.pures ds=true then @(.ok E ds)else none|_=>none
def KK(x:Sd):Bool:=qz x||(x.1 == .rt&&(match x.2 with
 |.L ds=>D.pures ds
 |_=>false))
def _hg:Option (Option Sd)->Bool
 |some @(.dp,.dct _)=>true|_=>false
def _hh(i:Nat)(kc vc:Ex):Sm:=λE=>ofE (vc E) λE v=>if _hg E[i]?=true then ofE (kc E) λE k=>(match E[i]? with
 |some @(.dp,.dct ab)=>if kZ k.2=true/\ab.B<big/\unm ab=true/\KK v=true/\k.2∉ab.C (·.1)then @(.nx (E.u i @(.dp,.dct (ab++[(k.2,v.2)]))))else none
 |_=>none)else none
def D.at:List Nat->D->Option D
 |[],d=>@d
 |n::p,.X ds=>match ds[n]? with
  |some d=>D.at p d|none=>none
 |n::p,.L ds=>match ds[n]? with
  |some d=>D.at p d|none=>none
 |_::_,_=>none
def D.put(d':D):List Nat->D->D
 |[],_=>d'
 |n::p,.X ds=>match ds[n]? with
  |some d=>.X (ds.u n (D.put d' p d))|none=>.X ds
 |n::p,.L ds=>match ds[n]? with
  |some d=>.L (ds.u n (D.put d' p d))|none=>.L ds
 |_::_,d=>d
def sPC(i:Nat)(p:List Nat):Sm:=λE=>match E[i]? with
 |some @(.dp,d)=>(match D.at p d with
  |some (.L _)=>@(.nx (E.u i @(.dp,D.put (.L []) p d)))
  |_=>none)
 |_=>none
def _hi(c:Ex):Ex:=λE=>bnd (c E) λE x=>if KK x=true then @(.ok E (.dp,x.2))else none
def YW(c:Ex):Ex:=λE=>bnd (c E) λ_ x=>if x.2.pure=true then @(.ok E (.dp,x.2))else none
def x3(ab:List (D×D))(k:D):Option D:=(ab.find? λp=>decide (p.1=k)).C (·.2)
def _hj(c:Ex):Ex:=λE=>bnd (c E) λE x=>match x.2 with
 |.E j=>if kY j/\j.S<=big then @(.ok E (.x,.X (jV 0 j)))else none|_=>none
end Q
namespace Q
open PySem PySem.Spec PyProof.Rows L2 L3
section
variable {X:Cx}{Z:Fx0}{K:Frag}{pn:List Nat}{q qa qb:Bool}{a b c:Ex}{u:Ts}{tg e ea eb:Expr}{st:Stmt}{σ:L2.St}{H:Hp}{L:Ls}{E:En}{pos p p2:Pos}
def _hk:QS X Z pn _g5 st:=λa9 s σ H D I am=>ex7 am λE L r m w hc k=>by cases hc
def _hl(a):∀r,(z9 a r).ä (a::r)
 |[]=>List.ä.ñ _
 |b::r=>by
  ext z9
  split
  .show((_hl a r).ê b).I (List.ä.swap ..)
  .simp
def _hm:∀r,(wV r).ä r
 |[]=>List.ä.ñ _|a::r=>(_hl a _).I ((_hm r).ê a)
def leS(a b:Str):Prop:=Spec.ltCps b.cps.R a.cps.R=false
def leS_iff{a b}:leS a b↔a.cps.R<=b.cps.R:=by
 ext leS;rw[ltCps_eq,decide_eq_false_iff_not,List.not_lt]
def _hn{a b c}(h:leS a b)(h':leS b c):leS a c:=leS_iff.y (List.le_trans (leS_iff.mp h) (leS_iff.mp h'))
def _ho{a b}(h:leS a b)(h':leS b a):a=b:=by
 let:=List.le_antisymm (leS_iff.mp h) (leS_iff.mp h');cases a
 symm
def _hp{a b}(h:¬leS a b):leS b a:=by
 rw[leS_iff]at h ⊢;show List.le_of_lt (List.not_le.mp h)
def _hq:∀{a r},risingS a r=true->(a::r).þ leS
 |a,[],_=>by simp
 |a,b::r,h=>by
  let h:(!_&&risingS b r)=true:=h;rw[Bool.æ,Bool.not_eq_true']at h;let ih:=_hq h.2;show List.pairwise_cons.y #[λc hc=>?_,ih];let rfl\/hc:=aD hc
  .show h.1
  .show _hn h.1 ((List.pairwise_cons.mp ih).1 c hc)
def _hr(h:sortedS r=true):r.þ leS:=by
 cases r with|nil=>show .nil|cons a r=>show _hq h
def _hs{a}:∀{r},r.þ leS->(z9 a r).þ leS
 | [],_=>by simp[z9]
 | b::r,h=>by
  rw[List.pairwise_cons]at h;ext z9
  by_cases hl:Spec.ltCps b.cps.R a.cps.R=true
  .rw[X7 hl];show List.pairwise_cons.y #[λc hc=>?_,_hs h.2];let rfl\/hc:=aD ((_hl a r).è.mp hc)
   .show _hp (by ext leS;rw[hl];show nofun)
   .symm
  .rw[Xb hl];let il:leS a b:=Bool.eq_false_iff.y hl;show List.pairwise_cons.y #[λc hc=>?_,List.pairwise_cons.y h];let rfl\/hc:=aD hc
   .symm
   .show _hn il (h.1 c hc)
def _ht:∀{r},(wV r).þ leS
 |[]=>.nil|a::r=>_hs _ht
def _hu(p:s.ä r)(h:sortedS s=true):s=wV r:=
 List.ä.eq_of_pairwise (λa b _ _ h1 h2=>_ho h1 h2) (_hr h) _ht (p.I (_hm r).s)
def _hv:∀{us},Vals (ns.C V.ã) us->StrsAre us ns:=by
 induction ns with
 | nil=>intro us r;cases r;show .nil
 | cons n ns ih=>
  intro us r;cases r with
  |cons r1 r2=>
   let#[t,e]:=r1;subst e;show .ê n t (ih r2)
def _hw(h:StrsAre us ns):Vals (ns.C V.ã) us:=by
 induction h with|nil=>show .nil|cons y t _ ih=>show .ê #[t,rfl] ih
def _hx(h:IntsAre us ns):Vals (ns.C V.E) us:=by
 induction h with|nil=>show .nil|cons y t _ ih=>show .ê #[t,rfl] ih
def _hy:∀{ds bs xs as},KZ ds=@bs->RepA K H g ds xs as->xs=bs.C V.ã/\∀z>bs,z.B<=sizeLine
 | [],bs,xs,as,h,r=>by
  cases _aa h;unfold RepA at r
  symm
 | d::ds,bs,xs,as,h,r=>by
  cases d with
  | str b=>
   unfold KZ at h;cases hb:KZ ds with
   |none=>grind
   |some bf=>
    rw[hb]at h;cases _aa h;let#[x,rr,c1,c2,rfl,rfl,h1,h2]:=r;unfold RepL at h1;obtain _:=_hy hb h2
    symm
  |_=>unfold KZ at h;cases h
def _hz:∀{ds bs xs as},Q9 ds=@bs->RepA K H g ds xs as->xs=bs.C V.E
 | [],bs,xs,as,h,r=>by
  cases _aa h;show r.1
 | d::ds,bs,xs,as,h,r=>by
  cases d with
  | int b=>
   unfold Q9 at h;cases hb:Q9 ds with
   |none=>grind
   |some bf=>
    rw[hb]at h;cases _aa h;let#[x,rr,c1,c2,rfl,rfl,h1,h2]:=r;rw[h1.1,_hz hb h2];rfl
  |_=>unfold Q9 at h;cases h
def _hA:∀{bs:List Str},(∀z>bs,z.B<=sizeLine)->RepA K H g (bs.C D.ã) (bs.C V.ã) []
 |[],_=>#[rfl,rfl]
 |b::bs,h=>by
  show#[_,_,[],[],rfl,rfl,_em (h b X2),_hA λz hz=>h z (_ad _ hz)]
def tAV(Z:Fx0)(cs:List Ex):TA:=fun σ H Q=>∃E L r,Mt E σ L/\World Z.K H L/\vK cs E=@r/\Xc Z σ H L r /\
 ∀E' ys,r=.ok E' ys->∀(xs:List Sl) L' H',xs.C Sl.sd=ys->Mt E' σ L'->World Z.K H' L'->(∀x>xs,x.ok Z.K H')->Step H L H' L'->kj H H'->Q (xs.C Sl.v) H'
def QAV(X:Cx)(Z:Fx0)(cs:List Ex)(es:List Expr):Prop:=PA X es (tAV Z cs)
def _hB:QAV X Z [] []:=_fy vx fun σ H Q am=>ex8 am λE L r m w hc xc k=>by
 cases _aa hc;show k _ _ rfl [] L H rfl m w (nofun) Step.ñ xq
def _hC(h:QV X Z true c e)(hs:QAV X Z cs es)(b7:Abs e es X<|>Ŕ):QAV X Z (c::cs) (e::es):=
 _fy (qX h hs b7) fun σ H Q am=>ex8 am λE L r m w hc xc k=>by
  show vJ m w (hc) xc λE1 s h1 x L1 H1 e1 e2 m1 w1 ok fr sr st sm=>?_
  let#[E2,ys,h2,h3]\/#[E2,cc,h2,h3]:=wY h1
  .cases _aa h3;show#[E1,L1,_,m1,w1,h2,(λ_ _ z=>by cases z),λE' ys' z xs L2 H2 e3 m2 w2 ir bv ff=>?_];injection z with z1 z2;subst z1 z2;show k _ _ rfl (x::xs) L2 H2 (by rw[List.l,e3];simp[Sl.sd,e1,e2]) m2 w2 (λy hy=>?_) (st.I bv) (kX (sm rfl) ff);let rfl\/hy:=aD hy
   .show(W6 ok fr bv ff).1
   .show ir y hy
  .show#[E1,L1,_,m1,w1,h2,(xc.step st).C h3,λE' s' z=>by cases z]
#where in
def _hD(D:kW X.î X.w X.K X.mg X.base k x ps (spF Z.K Z.mg n f))(hr:Room k X.A)(g:xv X Z.EX)(ha:QAV X Z cs (e::es))(hn:cs.B=n<|>Ŕ)(hg:Gl X x<|>Ŕ)(gr:Abd x<|>ŕ)
  (he:Abs e es X<|>Ŕ) (bu:Abb pos es X<|>Ŕ):
  QE X Z true (YV f cs) (.û (.é x p) (e::es) [] pos):=qv (_dw D hr g ha hg gr he bu) fun σ H Q am=>ex8 am λE L r m w hc xc kk=>by
 let#[E1,ys,h1,h2]\/#[E1,cc,h1,h2]:=wY hc
 rotate_left
 .show#[E,L,_,m,w,h1,xc.C h2,λE' s' z=>by cases z]
 show#[E,L,_,m,w,h1,(λ_ _ z=>by cases z),λE' ys' z xs L1 H1 e1 m1 w1 ok1 st sm=>?_];injection z with z1 z2;subst z1 z2;rw [Xz];let ai:xs.B=n:=by rw[<-hn,<-_fz h1,<-e1,X3]
 cases hf:f _ with
 | none=>rw[hf]at h2;cases h2
 | some fr=>
  rw[hf]at h2;let ev:xs.C Sl.v=(xs.C Sl.let).C Sl.v:=by rw[Xg];rfl
  let wl:World Z.K H1 ((xs.C Sl.let).C some):=by
   show#[λy hy=>?_,by rw[Kk];show Y7,λa ha=>by rw[Kk]at ha;show nomatch ha];let#[y',hy',e]:=aE hy;cases e;let#[t,ht,rfl]:=aE hy';show xZ (ok1 t ht)
  rw[ev];show#[xs.C Sl.let,fr,rfl,by rw[X3];show ai,wl,by rw[<-e1]at hf;rw[_fO];show hf,λE' c ee C H' hm s'=>?_,λE' a ee y H' e2 e3 w' s'=>?_]
  .subst ee;cases _aa h2;let o7:=λb ob hb=>s'.keep b ob hb λz=>by rw[Kk]at z;show nomatch z
   show xc _ _ rfl C L1 H' hm m1 #[λy hy=>RepO.kp (w1.ok y hy) (Kp.of_same o7),w1.nd,w1.ds] (st.I #[λb ob hb _=>o7 b ob hb,λ_ h=>.O h,λ_ h=>.O h])
  .subst ee;dsimp only at h2
   split at h2
   .revert hp;cases _aa h2;let o7:=λb ob hb=>s'.keep b ob hb λz=>by rw[Kk]at z;show nomatch z
    let w2:World Z.K H' L1:=#[λy hy=>RepO.kp (w1.ok y hy) (Kp.of_same o7),w1.nd,w1.ds];let#[z,rp]:=RepL.pu (g':=false) (RepO.wk (w'.ok y X2)) (e3▸hp);show kk _ _ rfl #[.dp,y.d,y.v,[]] L1 H' rfl e3 m1 (w2.consPu rp rfl) (KJ (st.I #[λb ob hb _=>o7 b ob hb,λ_ h=>.O h,λ_ h=>.O h]) (nofun) rfl) λ_=>#[kX sm o7,λ_ z=>(nomatch z)]
   .cases h2
end
def _hE{items}{e:Value->Bool}
  (ht:IsTup s.G t items) (he:∀y>items,SeqAt.EqAt A.in1 s y x (e y)) (hj) (h1:e items[j]=true) (h2:∀m (hm:m<items.M),m<j->e items[m]=false)
  (h:Q (.E j s.ý) {s with toks:=s.ý+1}):wpAny (model prog w) A (call (.à "tuple.index") [.J t,x]) Q E s:=by
 show Y8 PySem.F.slot_tuple_index ht.typeIs PySem.F.entry_tuple_index ?_ (PySem.F.args_tuple_index_2 _ _);change wpAny _ _ (Builtin.Tuple.tupleItemsOf _ >>= _) _ _ s;show X0 (tupleItemsOf_ ht ?_);right;show X0 (X5 (X0 (X5 ?_)));rw[Std.Legacy.Range.forIn_eq_forIn_range'];show X0 (Zw _ (λaf b s'=>b=_/\s'=s/\∃k,k<=j/\af=List.range' k (items.M - k)) _ ?_ ?_ _ _ #[rfl,rfl,0,Y6 _,?_])
 .rintro i af b s' ⟨rfl,rfl,k,hk,hr⟩;obtain⟨n,hn⟩:∃n,items.M - k=n+1:=#[items.M - k - 1,by grind];rw[hn]at hr;injection hr with hi kt;subst hi;let hi:i<items.M:=.q
  rw[show items[i]?=@items[i]from Xp hi];show X0 (he items[i] (Array.getElem_mem hi) _ _ _ _ ?_)
  by_cases lr:i=j
  .subst lr;rw[h1];show X0 (X0 (wpAny_mkInt (X5 (X5 (X5 #[_,rfl,h])))))
  .rw[h2 i hi .q];show X5 #[rfl,rfl,i+1,.q,?_]
   grind
 .rintro b s' ⟨rfl,rfl,k,hk,hr⟩
  grind
 .simp
def _hF{items}
  (ht:IsTup s.G l items) (h:Q .notImplemented s):wpAny (model prog w) A (call (.à "int.__rmul__") [.E k t,.J l]) Q E s:=by
 show Y8 PySem.F.slot_int_rmul (typeIs_int s k t) PySem.F.entry_int_rmul ?_ (PySem.F.args_int_rmul_2 _ _);let#[o,e,c,n,hd]:=ht;change wpAny _ _ (asInt? _ >>= _) _ _ s;show X0 (X0 (wpAny_load e ?_));rw[hd];show X5 (X0 (Zq (X5 #[_,rfl,h])))
def mulT{items}
  (ht:IsTup s.G l items) (h1:-(2 ^ 63)<=k) (h2:k<2 ^ 63) (hz:items.M*k.S<=sizeLine)
  (wf:(items.ô=true\/k=1)->Q (.J l) s)
  (hsz:(List.foldl (λx1 x2=>x1++x2) (List.H []) (List.h k.S items)).M<=sizeLine)
  (fe:Q (.J ↥s) {s with heap:=s.G.ï {cls:=.e "tuple",data:=.seq (List.foldl (λx1 x2=>x1++x2) (List.H []) (List.h k.S items))}})
  : wpAny (model prog w) A (call (.à "tuple.__mul__") [.J l,.E k t]) Q E s:=by
 show Y8 PySem.F.slot_tuple_mul ht.typeIs PySem.F.entry_tuple_mul ?_ (PySem.F.args_tuple_mul_2 _ _);change wpAny _ _ (if _=true then _ else _) _ _ s;rw[Xb (by symm)];show X0 (tupleItemsOf_ ht ?_)
 by_cases hs:(items.ô||k==1)=true
 .rw[X7 hs];show X0 (X0 (wpAny_typeOf ht.typeIs (X5 (X0 (Zq (X5 #[_,rfl,wf ?_]))))))
  simpa using hs
 .rw[Xb hs];let bc:items.ô=false:=by
   grind
  let hm:((items.M:Int)*k)<=sizeLine\/k<=0:=by
   by_cases hk:k<=0
   .show .Z hk
   .grind
  right
  by_cases hk:k<=0
  .rw[X7 (by simp[hk])];let e:k.S=0:=by symm
   rw[e]at fe;show X0 (Ya (X5 #[_,rfl,fe]) (Y6 _))
  .rw[Xb (by simp[hk,bc])];let hm:=hm.resolve_right hk;let qy:(sizeLine:Int)=16777216:=.q
   rw[Xb .q,Xb (by ext Builtin.Tuple.tupleTooMany;symm)];show X0 (Ya (X5 #[_,rfl,fe]) hsz)
section
variable {K:Frag}
def _hG(K:Frag):R2:=λx y H Q=>∃l k xs,x=.J l/\y=.E k/\SqT K H l xs/\-(2 ^ 63)<=k/\k<2 ^ 63/\xs.B*k.S<=sizeLine/\((xs=[]\/k=1)->Q (.J l) H)/\∀p,H p=none->Q (.J p) (upd H p (.X (List.h k.S xs).flatten))
def op_repT:OpR X (binaryOp .Mult) (_hG X.K):=by
 rintro a9 s σ H x y v u Q I rx ry ⟨l,k,xs,rfl,rfl,hq,h1,h2,hz,q1,q2⟩;cases rx;let#[t,rfl]:=ry;let#[ac,r,ht,hl]:=I.tuple hq;let ai:=r.B;let f0:List.foldl (λx1 x2=>x1++x2) (List.H []) (List.h k.S ac.H)=(List.h k.S ac).flatten.H:=by
  let:=_b0 ac k.S [];show this
 let nr:(List.h k.S xs).flatten.B<=sizeLine:=by rw[_ca,Nat.mul_comm];show hz
 show wpAny_binaryOp_repeat_ref (by rfl) ht.typeIs (λs'=>typeIs_int s' k t) rfl F.fills_int_mul F.slot_int_rmul (rfl) F.slot_int_index.Y
  (_hF ht #[rfl,ht.typeIs,mulT ht h1 h2 (by rw[Xe,<-ai];show hz) (λhs=>?_) ?_ ?_])
 .show#[.J l,H,I,rfl,q1 ?_];let hs\/hs:=hs
  .symm
  .show .Z hs
 .rwa [f0,Xe,<-(r.rep k.S).B]
 .rw[f0];show#[.J _,_,I.laid (t':=s.ý) (o:=.X _) (λb o e=>X4 _ e) (Xa _) #[nr,_,r.rep k.S,IsTupD.new _ _],rfl,q2 _ (I.hok.fresh (Xa _))]
def _hH(K:Frag):R2:=λx y H Q=>_hG K x y H Q\/_fS K x y H Q
def _hI(hK:X.K=K<|>Ŕ):OpR X (binaryOp .Mult) (_hH K):=by subst hK;show op_repT.or _fT
#where in
def _hJ:Ad2 K (_hH K) K7:=by
 intro H x y s Q ox oy hf k;cases hx:x.d with
 | tup ds=>
  cases hy:y.d with
  | int n=>
   unfold K7 at hf;rw [hx,hy]at hf;dsimp only at hf
   split at hf
   .revert hc;cases _aa hf;let#[l,xs,bs,e3,q3,r3,h3]:=JZ ox (.Z hx) (hx▸hc.2.2.2);let q3:SqT K H l xs:=by let#[z,_]\/#[_,z]:=q3;rw[hx]at z;cases z;show z
    let#[cs,r4,h4]:=r3.reps n.S;show .O #[l,n,xs,e3,qx oy hy,q3,hc.1,hc.2.1,by rw[<-r3.len];show hc.2.2.1,λhs=>?_,λp hp=>?_]
    .show k #[.x,.X _,.J l,cs] H rfl rfl #[xq,(#[l,xs,rfl,q3,?_]),λb hb=>(nomatch hb),Y7,λb hb=>_ac _ (h3 b (h4 b hb))];let e:(List.h n.S xs).flatten=xs:=by
      let hs\/hs:=hs
      .subst hs;simp
      .subst hs;simp
     rw[e]at r4;show r4
    .show k _ _ rfl rfl (_ey hp r4 λb hb=>_ac _ (h3 b (h4 b hb)))
   .symm
  |_=>
   show .Z (_fV H x y s Q ox oy ?_ k);rw[hx,hy]at hf;rw[hx];show hf
 |_=>
  show .Z (_fV H x y s Q ox oy ?_ k);unfold K7 at hf;rw[hx]at hf;rw[hx];show hf
def _hK:∀{ds us},CReps h ds us->us.C (dec h)=ds
 |[],_,r=>by rw[r];rfl
 |z::ds,_,r=>by
  let#[u,rr,rfl,h1,h2]:=r;rw[List.l,_fW h1,_hK h2]
def _hL(K:Frag)(C:Hp->List V->Prop):List V->Hp->VK->Prop:=λvs H Q=>∃v d ds as bs xs j,vs=[v]/\RepL K H true d v as/\C H xs/\RepA K H true ds xs bs/\d.flat 30=true/\D.flats 30 ds=true/\(ds.findIdx? λz=>peq z d)=@j/\Q (.E j) H
def _hM(hu:X.A.â+64<cLine)(ho:PE X o to)(ha:PA X [e] t)
  (aw:attributeBase o "index" X.V (eval o X.V)=eval o X.V<|>Ŕ)
  (d9:autoParam (((backTo aj (starEach [e] X.V)).all (λx=>!x.1)&&(backToKw aj (keywordEach [] X.V)).all (λx=>x.1.isSome)
   && decide ([e].B+([]:List Keyword).B+(if([]:List Keyword).ô then 0 else 1)<30))=true) Ŕ)
  (av:Abe aq aj<|>Ŕ) (hs:Abs e [] X<|>Ŕ) (ay:Abb aj [] X<|>Ŕ):
  PE X (.û (.ù o "index" aq) [e] [] aj) (fun σ H Q=>to σ H λx H1=>(∃p xs,x=.J p/\LsR X.K H1 p xs/\t σ H1 λvs H2=>_hL X.K (λH xs=>LsR X.K H p xs) vs H2 Q)\/∃p xs,x=.J p/\SqT X.K H1 p xs/\t σ H1 λvs H2=>_hL X.K (λH xs=>SqT X.K H p xs) vs H2 Q):=by
 intro a9 s σ H Q I h;show wpAny_Call_method_late aw d9 av rfl (thn (ho a9 s σ H _ I h) λv s1 hz=>?_);let#[x,H1,I1,r1,qq]:=hz;let eqs:∀{s2 H2 d v as w us ds},L2.Inv X a9 σ H2 s2->RepL X.K H2 true d v as->RelV v w->d.flat 30=true->D.flats 30 ds=true->CReps s2.G ds us->∀y>us.H,SeqAt.EqAt X.A.in1 s2 y w (peq (dec s2.G y) d):=fun {s2 H2 d v as w us ds} I2 rd rw f1 f2 cr y hy=>by
  let#[d',hd,c]:=_fY cr (~~~hy);rw[_fW c];show W7 30 (_fZ f2 hd) c (V9 I2 rd f1 rw) .q
 let idx:∀{h ds us d j},CReps h ds us->(ds.findIdx? λz=>peq z d)=@j->∃hj,peq (dec h us.H[j]) d=true/\∀m hm,m<j->peq (dec h us.H[m]) d=false:=fun {h ds us d j} cr hf=>by
  let e:=_hK cr;subst e;rw[List.findIdx?_eq_some_iff_getElem]at hf;let#[hj,h1,h2]:=hf;let ni:j<us.B:= ~~~hj
  show#[~~~ni,~~~h1,λm hm hmj=>?_];let:=h2 m hmj
  simpa using this
 let#[pp,zs,rfl,ty,q1]\/#[pp,zs,rfl,ty,q1]:=qq
 .cases r1;let hA:=ha aj a9 s1 σ H1 _ I1 q1;rw[hs]at hA ⊢;let#[z,ac,n,r,e0]:=ty.is I1;show#["list","list.index",F.plainAttrs_list,F.slot_list_index,F.type_list_index,#[_,e0,rfl],λa e2=>?_,?_]
  .cases e2;show#[_,e0,rfl]
  show Calls.callWith_builtin (by change(false||(backTo aj _).any _)=false;rw[ay]<;>rfl) (Calls.evalArgs_plain (thn hA λus s2 #[vs,H2,I2,r2,d2]=>?_));let#[v,d,ds,as,bs,xs,j,rfl,rd,hq,ra,f1,f2,hf,q2]:=d2;let#[w,rfl,rw1]:=r2.one;let#[z2,cz,n2,r3,e3]:=hq.is I2;let cr:=creps_of I2 ra f2 r3;let#[hj,h1,h2]:=idx cr hf;let hsz:cz.H.M<=16777216:=by rw[Xe,<-r3.B];show z2
  show call_meets F.slot_list_index #[_,e3,rfl] F.entry_list_index (F.args_list_index_2 _ _) (SeqAt.list_indexAt pp cz.H n2 none (List.H []) w (λy=>peq (dec s2.G y) d) j hj .q h1 h2) #[e3,eqs I2 rd rw1 f1 f2 cr,.E _,H2,I2.tok _,#[_,rfl],q2]
 .cases r1;let hA:=ha aj a9 s1 σ H1 _ I1 q1;rw[hs]at hA ⊢;let#[ac,r,ht,hz]:=I1.tuple ty;show#["tuple","tuple.index",F.plainAttrs_tuple,F.slot_tuple_index,F.type_tuple_index,ht.typeIs,λa e2=>?_,?_]
  .cases e2;show(I1.tupleD ty)
  show Calls.callWith_builtin (by change(false||(backTo aj (starEach [] X.V)).any (·.1))=false;rw[ay]<;>rfl) (Calls.evalArgs_plain (thn hA λus s2 #[vs,H2,I2,r2,d2]=>?_));let#[v,d,ds,as,bs,xs,j,rfl,rd,hq,ra,f1,f2,hf,q2]:=d2;let#[w,rfl,rw1]:=r2.one;let#[cz,r3,ht2,nr]:=I2.tuple hq;let cr:=creps_of I2 ra f2 r3;let#[hj,h1,h2]:=idx cr hf;show _hE (e:=λy=>peq (dec s2.G y) d) ht2 (eqs I2 rd rw1 f1 f2 cr) hj h1 h2 #[.E _,H2,I2.tok _,#[_,rfl],q2]
#where in
def _hN(hu:X.A.â+64<cLine)(ha:QV X Z q a ea)(hb:QV X Z true b eb)(hK:X.K=Z.K<|>Ŕ)
  (aw:attributeBase ea "index" X.V (eval ea X.V)=eval ea X.V<|>Ŕ)
  (d9:autoParam (((backTo aj (starEach [eb] X.V)).all (λx=>!x.1)&&(backToKw aj (keywordEach [] X.V)).all (λx=>x.1.isSome)
   && decide ([eb].B+([]:List Keyword).B+(if([]:List Keyword).ô then 0 else 1)<30))=true) Ŕ)
  (av:Abe aq aj<|>Ŕ) (hs:Abs eb [] X<|>Ŕ) (ay:Abb aj [] X<|>Ŕ):
  QE X Z q (Wz a b) (.û (.ù ea "index" aq) [eb] [] aj):=qv (_hM hu ha (qX hb vx hs) aw d9 av hs ay) fun σ H Q am=>ex8 am λE L r m w hc xc k=>by
 show vJ m w (hc) xc λE1 s h1 x L1 H1 e1 e2 m1 w1 ok fr sr st sm=>?_
 split at h1
 rotate_left
 .symm
 revert hsq;rw [hK];let fin:∀{ds},(x.d=.L ds\/x.d=.X ds)->∀C,(∀H2,x.ok Z.K H2->∃xs bs,C H2 xs/\RepA Z.K H2 true ds xs bs)->tV Z true b σ H1 λv H2=>_hL Z.K C [v] H2 Q:=fun {ds} hx C hC=>by
  show vJ m1 w1 h1 (xc.step st) λE2 s2 h2 y L2 H2 e3 e4 m2 w2 ir ug ui bv ff=>?_
  let#[z,hz,rfl]:=J8 h2;let#[xs,bs,c1,c2]:=hC H2 (W6 ok fr bv (ff rfl)).1;let key:∃j,y.d.flat 30=true/\D.flats 30 ds=true/\(ds.findIdx? λz=>peq z y.d)=@j/\z=(.dp,.E j):=by
   unfold pu2 _g6 at hz;rw[<-e2,<-e4]at hz;let ld:(if y.d.flat 30&&D.flats 30 ds then(ds.findIdx? λz=>peq z y.d).C λ(j:Nat)=>D.E (j)else none).C (λd=>((Own.dp,d):Sd))=@z:=by
    let hx\/hx:=hx<;>(rw[hx]at hz;show hz)
   split at ld
   .revert hf;rw[Bool.æ]at hf;cases hj:ds.findIdx? λz=>peq z y.d with|none=>rw[hj]at ld;cases ld|some j=>rw[hj]at ld;show#[j,hf.1,hf.2,rfl,(_aa ld).s]
   .cases ld
  let#[j,f1,f2,f3,rfl]:=key;show#[y.v,y.d,ds,y.as,bs,xs,j,rfl,RepO.wk ir,c1,c2,f1,f2,f3,(k _ _ rfl _ L2 H2 rfl rfl m2 (w2.consPu (x:=#[.dp,.E j,.E j,[]]) (show RepL Z.K H2 false _ _ []from xz) rfl) (KJ (st.I bv) (nofun) rfl) λhq=>#[(λhq=>kX (sm hq) (ff rfl)) hq,λ_ z=>(nomatch z)])]
 let wkA:∀{ds xs bs H2},RepA Z.K H2 (x.o != .dp) ds xs bs->RepA Z.K H2 true ds xs bs:=fun {ds xs bs H2} r=>by
  cases ho:(x.o != .dp)with|true=>rw[ho]at r;show r|false=>rw[ho]at r;show r.wk
 cases hx:x.d with
 |lst ds=>
  let#[l,xs,bs,ev,q3,r3,h3,_]:=items ok (.O hx);let q3:LsR Z.K H1 l xs:=by let#[_,z]\/#[z,_]:=q3;show z;rw[hx]at z;cases z
  show .O #[l,xs,ev,q3,fin (.O hx) _ λH2 ir=>?_];let#[l2,ys,cs,uc,q4,r4,_]:=items ir (.O hx);let:l2=l:=by let:=uc.s.I ev;show V.J.inj this
  subst this;let#[_,z]\/#[z,_]:=q4
  .show#[ys,cs,z,wkA r4]
  .grind
 |tup ds=>
  let#[l,xs,bs,ev,q3,r3,h3,_]:=items ok (.Z hx);let q3:SqT Z.K H1 l xs:=by let#[z,_]\/#[_,z]:=q3;rw[hx]at z;cases z;show z
  show .Z #[l,xs,ev,q3,fin (.Z hx) _ λH2 ir=>?_];let#[l2,ys,cs,uc,q4,r4,_]:=items ir (.Z hx);let:l2=l:=by let:=uc.s.I ev;show V.J.inj this
  subst this;let#[z,_]\/#[_,z]:=q4
  .grind
  .show#[ys,cs,z,wkA r4]
 |_=>rw[<-e2,hx]at hsq;cases hsq
end
noncomputable def ItE(S:Hp->List V->Prop):It:=#[λi H=>∃xs x,S H xs/\xs[i]?=@x,
 λi H v H'=>∃T x,H T=none/\v=.J T/\H'=upd H T (.X [.E i,x])/\∀xs,S H xs->xs[i]?=@x,
 λi H=>∃xs,S H xs/\xs.B=i]
abbrev Ite(K:Frag)(l:Addr):It:=ItE (SqL K · l)
def _hO{P w K elts k1 pos}{IS:Heap->Array Value->Prop}(n1:e≠it)(n2:l≠e)
  (D:∀A:Around,A.ó=none->∀ac:Array Value,Draws P w A it [it,l] ac.M (λi v=>ac[i]?=@v) λi h=>(∃o,h.get? it=@o/\o.cls=.e n/\o.data=.fields %[.J l,.E i 0|0])/\IS h ac)
  (G:∀(X:Cx) a9 (s:Shared) σ H,X.K=K->L2.Inv X a9 σ H s->∀xs,S H xs->(∃ac,Vals xs ac/\IS s.G ac.H)/\∀zs,S H zs->zs=xs):
  Turn P w K (.Tuple elts k1 pos) (ItE S) [e,it] e (λi h=>(∃ca,IsEnum h e it i ca)/\∃o,h.get? it=@o/\o.cls=.e n/\o.data=.fields %[.J l,.E i 0|0]) where
 mem:=by simp
 obj:=λi h st b hb=>by
  let#[#[ca,h1],o4,e4,c4,d4]:=st;simp at hb;let rfl\/rfl:=hb
  .show#[_,h1,λv z=>by cases z]
  .show#[_,e4,λv z=>by rw[d4]at z;cases z]
 keep:=λi h h' st k=>by
  let#[#[ca,h1],o4,e4,c4,d4]:=st;show#[#[ca,k _ (by simp) _ h1],o4,k _ (by simp) _ e4,c4,d4]
 item:=by
  intro X hP hw hK hc i a9 s σ H E I hf st hg;subst hP hw;let#[xs,x,q1,hx]:=hg;let#[#[gl,nk,p1],inj]:=G X a9 s σ H hK I xs q1;let#[u1,hu1,ru1]:=nk.get hx;let#[#[ca,t1],t2]:=st;let hi:i<gl.H.M:=(aF hu1).1;show wpAny_pyNext_enum_itemD (D X.A.in1 (by let:=I.ok.hd hc;simpa using this) gl.H) t1 #[t2,p1] hi n1 (by simp;show#[n1,n2.s]) λu2 h1 tk hP2 g1 g2 gT gs gk=>?_
  let e2:u2=u1:=by
   let:gl[i]?=@u2:= ~~~hP2
   rw[hu1]at this;show(_aa this).s
  subst e2;show#[_,rfl,wpAny_letOwnedTupleGo_enum (s:={s with heap:=h1,toks:=tk+1}) g1 λh2 f1 sb=>?_];let fT:=I.fpOk (Xa _) (I.hok.fresh (Xa _));let nT:∀b>[e,it],b≠↥s:=λb hb ee=>by
   obtain⟨o,eo,_⟩:∃o,s.G.get? b=@o/\True:=by
    simp at hb;let#[o4,e4,_]:=t2;let rfl\/rfl:=hb
    .show#[_,t1,trivial]
    .show#[_,e4,trivial]
   show absurd (Xh eo) (ee▸Z4 _)
  let kk:∀b o,b∉[e,it]->s.G.get? b=@o->h2.get? b=@o:=λb o hb ee=>by
   simp at hb;show(sb.2 b hb.1).I (gk b o hb.1 hb.2 ee)
  let I1:L2.Inv X a9 σ H {s with heap:=h2,toks:=tk+1}:=_dd [e,it] I kk hf;let I2:=_cE (a:=↥s) (o:=.X [.E i,x]) I1 fT.1 fT.2.1 fT.2.2.2.1 fT.2.2.2.2.1 fT.2.2.2.2.2
   (show ObjOk X.î X.w _ h2 _ (.X [.E i,x])from#[by change(2:Nat)<=sizeLine;decide,[.E i tk,u2],.ê #[_,rfl] (.ê ru1 .nil),#[_,(sb.2 _ λee=>nT e (by simp) ee.s).I gT,rfl,rfl,0,rfl]])
  let#[o4,e4,c4,d4]:=g2.1;show#[.J ↥s,_,I2,rfl,#[_,x,fT.1,rfl,rfl,λzs p9=>by rw[inj zs p9];show hx],#[#[u2,f1],o4,(sb.2 _ n1.s).I e4,c4,d4],λb hb=>by rw[qj (nT b hb)];show(hf b hb).1]
 done:=by
  intro X hP hw hK hc i a9 s σ H E I hf st hg;subst hP hw;let#[xs,q1,hx]:=hg;let#[#[gl,nk,p1],_]:=G X a9 s σ H hK I xs q1;let#[#[ca,t1],t2]:=st;let hsz:gl.H.M=i:=by rw[Xe,<-nk.B];show hx
  show wpAny_pyNext_enum_endD (D X.A.in1 (by let:=I.ok.hd hc;simpa using this) gl.H) t1 (hsz▸#[t2,p1]) λh' kk=>#[rfl,_dd (t':=s.ý) [it] I (λb o hb ee=>kk b o (~~~hb) ee) λb hb=>hf b (by
   simp at hb ⊢;show .Z hb)]
 self:=λ_ _ _ _ _ st h=>by let#[#[ca,h1],_]:=st;show wpAny_pyIter_enum h1 h
def _hP{P w K elts k1 pos}(n1:e≠it)(n2:l≠e)(n3:l≠it):Turn P w K (.Tuple elts k1 pos) (Ite K l) [e,it] e (λi h=>(∃ca,IsEnum h e it i ca)/\h.IsListIter it l i):=
 _hO (K:=K) (IS:=λh ac=>h.IsList l ac) n1 n2 (λA hh ac=>Draws.list hh it l n3 ac) λX a9 s σ H hK I xs q=>by
  subst hK;let#[ac,rv,p,_]:=I.list q;show#[#[ac,rv,p.isList],λzs hz=>I.list_inj hz q]
abbrev xx6(K:Frag)(ta:TA):TI:=fun σ H R=>ta σ H λvs H1=>∃l,vs=[.J l]/\(∃xs,SqL K H1 l xs/\(xs.B<=sizeLine->R (Ite K l) H1))
def _hQ:bootBuiltins "enumerate"=@(.e "enumerate"):=boot_enumerate
section
variable {K:Frag}{st:Stmt}
def _hR K (hg:Gl X "enumerate")(hm:X.mg "enumerate"=none)(ha:PA X [e] ta)(hK:X.K=K<|>Ŕ)
  (hs:starEach [e] X.V=[(false,eval e X.V)]<|>Ŕ):PI X (.Tuple elts k1 lv) (.û (.é "enumerate" p) [e] [] pos) (xx6 K ta):=by
 subst hK;intro a9 s σ H R I h;show Call_ (xQ I hg hm _hQ (Y1 (thn (ha pos a9 s σ H _ I h) λus s1 hz=>?_) (by rw[hs];rfl) rfl));let#[vs,H1,I1,r1,q1]:=hz;let#[l,rfl,xs,q1,q]:=q1;let#[u1,rfl,e1]:=wZ r1;cases e1;let#[gl,nk,p1,mo]:=I1.list q1;let lt:l<↥s1:=by let#[_,ee,_]:=p1.isList;show Xh ee
 show call_enumerate_list p1.isList λh' g1 g2 gs gk=>?_
 show wpAny_pyIter_enum g1 #[_,[_,↥s1],_,_,H1,rfl,I1.kept (t':=s1.ý) gk,
  _hP (Nat.succ_ne_self _) (Xq (Ze lt)) (Xq lt),#[#[_,g1],g2],λb hb=>?_,q mo]
 let gz:↥s1<=b:=by
  simp at hb;let rfl\/rfl:=hb<;>simp
 show I1.fpOk gz (I1.hok.fresh gz)
def _hS:∀(ds:List D) (k:Nat),(xx k ds).B=ds.B
 |[],_=>rfl|d::ds,k=>by rw[xx,Xn,Xn,_hS ds]
def _hT:∀(ds:List D) (k i:Nat),(xx k ds)[i]?=(ds[i]?).C λd=>.X [.E ((k+i:Nat):Int),d]
 |[],_,_=>by rfl|d::ds,k,0=>by rfl
 |d::ds,k,i+1=>by
  rw[xx,List.getElem?_cons_succ,List.getElem?_cons_succ,_hT ds,show k+1+i=k+(i+1)from by lia]
def _hU:∀(xs ys:List D) (i:Nat),(Kj xs ys)[i]?=(xs[i]?).bind λa=>(ys[i]?).C λb=>.X [a,b]
 |[],_,_=>by rfl|_::_,[],i=>by cases i<;>simp[Kj]|a::x,b::y,0=>by rfl|a::x,b::y,i+1=>by rw[Kj,List.getElem?_cons_succ,List.getElem?_cons_succ,List.getElem?_cons_succ,_hU x y i]
def _hV:∀(xs ys:List D),(Kj xs ys).B=min xs.B ys.B
 |[],_=>by rfl|_::_,[]=>by rfl|a::x,b::y=>by rw[Kj,Xn,Xn,Xn,_hV x y];simp
def _hW(hT:H2 T=none)(r1:RepL K H2 true d1 v1 b1)(r2:RepL K H2 true d2 v2 b2):RepL K (upd H2 T (.X [v1,v2])) true (.X [d1,d2]) (.J T) (b1++b2):=by
 let sm:kj H2 (upd H2 T (.X [v1,v2])):=vw hT;show#[T,[v1,v2],rfl,.O (.O wj),?_];show#[v1,[v2],b1,b2,rfl,rfl,r1.kp (Kp.of_same sm),?_];show#[v2,[],b2,[],rfl,by simp,r2.kp (Kp.of_same sm),?_];show#[rfl,rfl]
def _hX{x:Sl}(ag:∀H2,x.let.ok K H2->∃ys cs,S H2 ys/\RepA K H2 true es ys cs/\∀b>cs,b>x.as):Walks K (ItE S) [x.let] (xx 0 es):=by
 show#[λt ht=>by rw[aC ht];rfl,λi H2 hok hi=>?_,λH2 hok=>?_,λi H2 v H3 d hok hy fh=>?_]
 all_goals let#[ys,cs,s1,s2,s3]:=ag H2 (hok _ (aB rfl))
 .let hl:=s2.len;rw[_hS]at hi;show#[ys,ys[i]'⋯,s1,X1 .q]
 .show#[ys,s1,by rw[_hS,s2.len]]
 .let#[T,x',hT,rfl,rfl,hy]:=hy;rw[_hT]at fh;cases jc:es[i]? with
  |none=>rw[jc]at fh;cases fh
  |some d0=>
   rw[jc]at fh;cases _aa fh;let#[v',bf,f1,f2,f3]:=s2.get jc;let:=hy ys s1;rw[f1]at this;cases _aa this;let rp:=_hW (v1:=.E ((0+i:Nat):Int)) hT xz f2;rw[show((0+i:Nat):Int)=i by lia]at rp ⊢;show#[#[.x,_,.J T,[]++bf],rfl,rfl,rfl,vw hT,rp,λb hb=>#[x.let,aB rfl,s3 b (f3 b (~~~hb))]]
def _hY(h:QE X Z q c e)(hg:Gl X "enumerate")(hm:X.mg "enumerate"=none)(hK:X.K=Z.K<|>Ŕ)(hs:starEach [e] X.V=[(false,eval e X.V)]<|>Ŕ):QI X Z q (.Tuple elts k1 lv) (xjp c) (.û (.é "enumerate" p) [e] [] pos):=λa9 s σ H R I am=>ex8 am λE L r m w hc xc k=>by
 show(_hR Z.K hg hm (qX h vx hs) hK hs) a9 s σ H R I (VQ m w (show bnd (c E) _=@r from hc) xc λE1 s h1 x L1 H1 e1 e2 m1 w1 st sm=>?_);let#[ds,hd,rfl]:=J8 h1;let#[wT,sT]:=_gs w1 st;cases hx:x.d with
 |lst es=>
  rw[<-e2,hx]at hd;cases _aa hd;let#[a,_,_,ev,_]:=items w1.head (.O hx);let ag:=_gq (K:=Z.K) hx ev;let#[xs,bs,q3,r3,_]:=ag H1 (xZ w1.head);show#[a,by rw[ev],xs,q3,λai=>k _ _ rfl (Ite Z.K a) [x.let] L1 H1 m1 wT sT (by rw[_hS,r3.len];show ai) (λhq=>(sm hq).1) (_hX ag)]
 |_=>rw[<-e2,hx]at hd;cases hd
#where in
def _hZ(ha:QE X Z q a ea)(hb:QE X Z q b eb)(hg:Gl X "zip")(hm:X.mg "zip"=none)(hK:X.K=Z.K<|>Ŕ)
  (hs:starEach [ea,eb] X.V=[(false,eval ea X.V),(false,eval eb X.V)]<|>Ŕ) (jd:starEach [eb] X.V=[(false,eval eb X.V)]<|>Ŕ)
  (hs3:starEach [ea,eb] X.V=(false,eval ea X.V)::starEach [eb] X.V<|>Ŕ):QI X Z q (.Tuple elts k1 lv) (vwq a b) (.û (.é "zip" p) [ea,eb] [] pos):=λa9 s σ H R I am=>ex8 am λE L r m w hc xc k=>by
 show(_df Z.K hg hm (qX ha (qX hb vx jd) hs3) hK hs jd) a9 s σ H R I ?_;show VQ m w (show bnd (a E) _=@r from hc) xc λE1 s h1 x L1 H1 e1 e2 m1 w1 st sm=>?_
 let s1:Step H L H1 L1:=st.I Step.drop;show VQ (q:=q) m1 w1.tail h1 (xc.step s1) λE2 s2 h2 y L2 H2 e3 e4 m2 w2 bv ff=>?_
 let hh:=XQ (T:=[@x]) w1 bv w2;let w3:World Z.K H2 (@x::@y::L2):=hh.1;let ft:Step H1 (@x::L1) H2 (@x::@y::L2):=hh.2;let#[ds,hd,rfl]:=J8 h2;let qh:=w3.head;let ud:=w3.tail.head;let wT:World Z.K H2 (L2++[x.let,y.let].C some):=by
  let wy:World Z.K H2 (@y.let::L2):=w3.tail.tail.consNo (xZ ud) rfl λb hb=>w3.tail.apart b hb
  let wx:World Z.K H2 (@x.let::@y.let::L2):=wy.consNo (xZ qh) rfl λb hb ho=>w3.apart b hb (by
   rw [jz]at ho ⊢;show _ab _ ((aA ho).ë (λz=>by rw[(_dT y).1]at z;show nomatch z) id))
  show World.comm (L:=[@x.let,@y.let]) wx
 let i8:Step H L H2 (@x::@y::L2):=st.I ft;let sT:Step H L H2 (L2++[x.let,y.let].C some):=by
  show#[i8.keep,λb hb=>?_,λb hb=>?_]
  .let:b>j7 L2:=by simpa [_dT]using hb
   show i8.ì b (by rw[jz,jz];show _ab _ (_ab _ this))
  .let:b>jW L2\/b>x.as\/b>y.as:=by simpa [_dT]using hb
   let z\/z\/z:=this
   .show i8.ÿ b (by rw[v4,v4];show _ab _ (_ab _ z))
   .show _d5 i8 b z
   .let z\/z:=Sl.as_of z
    .show .Z (i8.ì b (by rw[jz,jz];show _ab _ (_ac _ z)))
    .show i8.ÿ b (by rw[v4,v4];show _ab _ (_ac _ z))
 cases hx:x.d with
 | lst es=>
  cases hy:y.d with
  | lst fs=>
   rw [<-e2,<-e4,hx,hy]at hd;let hd:(if es.B<=big then @(Kj es fs)else none)=@ds:=hd
   split at hd
   rotate_left
   .cases hd
   revert ai;let ai:es.B<=sizeLine:=ai;cases _aa hd;let#[l1,xs,bs,ev,q3,r3,h3,_]:=items qh (.O hx);let q3:LsR Z.K H2 l1 xs:=by let#[_,z]\/#[z,_]:=q3;show z;rw[hx]at z;cases z
   let#[l2,ys,cs,uc,q4,r4,h4,_]:=items ud (.O hy);let q4:LsR Z.K H2 l2 ys:=by let#[_,z]\/#[z,_]:=q4;show z;rw[hy]at z;cases z
   let ag1:=_gq (K:=Z.K) hx ev;let ag2:=_gq (K:=Z.K) hy uc;show#[l1,l2,by rw[ev,uc],#[xs,q3.sq],#[ys,q4.sq],k _ _ rfl (Itz Z.K l1 l2) [x.let,y.let] L2 H2 m2 wT sT (by rw[_hV];lia) (λhq=>kX (sm hq).1 (ff hq).1) #[λt ht=>?_,λi H3 hok hi=>?_,λH3 hok=>?_,λi H3 v H4 d hok hyl fh=>?_]]
   .dsimp[Zh,Zb,or_false]at ht;let rfl\/rfl:=ht<;>rfl
   .let#[us,cs1,a1,a2,_]:=ag1 H3 (hok _ (by simp));let#[vs,cs2,b1,b2,_]:=ag2 H3 (hok _ (by simp));let hl:=a2.len;let lu:=b2.len;rw[_hV]at hi;show#[us,vs,us[i]'⋯,vs[i]'⋯,a1,b1,X1 .q,X1 .q]
   .let#[us,cs1,a1,a2,_]:=ag1 H3 (hok _ (by simp));let#[vs,cs2,b1,b2,_]:=ag2 H3 (hok _ (by simp));let hl:=a2.len;let lu:=b2.len;show#[us,vs,a1,b1,by rw[_hV];lia]
   .let#[us,cs1,a1,a2,a3]:=ag1 H3 (hok _ (by simp));let#[vs,cs2,b1,b2,b3]:=ag2 H3 (hok _ (by simp));let#[T,x',y',hT,rfl,rfl,g1,g2]:=hyl;rw[_hU]at fh;cases he1:es[i]? with
    | none=>rw[he1]at fh;cases fh
    | some d1=>
     cases xy:fs[i]? with
     |none=>rw[he1,xy]at fh;cases fh
     |some d2=>
      rw[he1,xy]at fh;cases _aa fh;let#[v1,bs1,f1,f2,f3]:=a2.get he1;let#[v2,bs2,j1,j2,j3]:=b2.get xy;let e5:v1=x':=by let:=g1 us a1;rw[f1]at this;show _aa this
      let e6:v2=y':=by let:=g2 vs b1;rw[j1]at this;show _aa this
      subst e5 e6;show#[#[.x,_,.J T,bs1++bs2],rfl,rfl,rfl,vw hT,_hW hT f2 j2,λb hb=>?_];let z\/z:=aA hb
      .show#[x.let,by simp,a3 b (f3 b z)]
      .show#[y.let,by simp,b3 b (j3 b z)]
  |_=>rw[<-e2,<-e4,hx,hy]at hd;cases hd
 |_=>rw[<-e2,hx]at hd;cases hd
end
section
variable {K:Frag}
def W2{y:Sl}(ok:y.ok K H)(hd:y.d=.L ds)(ho:y.o=.dp):∃l xs bs,y.v=.J l/\H l=@(.L xs)/\y.as=l::bs/\y.ì=l::bs/\RepA K H false ds xs bs:=by
 let#[l,xs,bs,c1,c2,c3,c4,c5]:=_gh ok hd (by rw[ho];show nofun);rw[ho]at c5;show#[l,xs,bs,c1,c2,c3,by ext Sl.ì;rw[ho,c3],c5]
end
section
variable {X:Cx}{a9:LA9}{σ:L2.St}{H:Hp}{s:Shared}{a b:Addr}{A:Around}{k:Kd}
mutual
theorem V3(I:Inv X a9 σ H s):∀{d v u},PuR X.K H d v->RelV v u->jK s.heap d u
 |.non,_,_,h,r=>by rw[h]at r;exact r|.int _,_,_,h,r=>by rw[h]at r;exact r
 |.tup ds,_,_,h,r=>by
  obtain⟨a,xs,rfl,q,ra⟩:=h;cases r;obtain⟨ac,rv,p,_⟩:=I.tuple q;exact#[a,ac,rfl,p,_Pc I ra rv]
 |.bl _,_,_,h,_=>h.elim|.str _,_,_,h,r=>by unfold PuR at h;rw[h.1]at r;exact r|.lst _,_,_,h,_=>h.elim|.dct _,_,_,h,_=>by unfold PuR at h;exact h.elim|.obj _ _,_,_,h,_=>h.elim
theorem _Pc(I:Inv X a9 σ H s):∀{ds xs us},PuRs X.K H ds xs->Vals xs us->CReps s.heap ds us
 | [],_,_,h,r=>by unfold PuRs at h;rw[h]at r;cases r;rfl
 | d::ds,_,_,h,r=>by
  obtain⟨x,rr,rfl,h1,h2⟩:=h;cases r with
  |cons r1 r2=>
   exact#[_,_,rfl,V3 I h1 r1,_Pc I h2 r2]
end
mutual
theorem _h0{K g}:∀{n d v as},jX n d=true->RepL K H g d v as->PuR K H d v
 |_,.non,_,_,_,h=>h.1|_,.int _,_,_,_,h=>by unfold RepL at h;exact h.1|0,.tup _,_,_,hk,_=>by cases hk
 |n+1,.tup ds,_,_,hk,h=>by
  unfold RepL at h;obtain⟨a,xs,e,q,ra⟩:=h;exact#[a,xs,e,q,purs_of hk ra]
 |n,.bl _,_,_,hk,_=>by cases n<;>(unfold jX at hk;cases hk)|_,.str _,_,_,_,h=>by unfold RepL at h;exact#[h.1,h.2.2]|n,.lst _,_,_,hk,_=>by cases n<;>(unfold jX at hk;cases hk)|n,.dct _,_,_,hk,_=>by cases n<;>(unfold jX at hk;cases hk)|n,.obj _ _,_,_,hk,_=>by cases n<;>(unfold jX at hk;cases hk)
theorem purs_of{K g}:∀{n ds xs as},keyDs n ds=true->RepA K H g ds xs as->PuRs K H ds xs
 |_,[],_,_,_,h=>h.1
 |n,d::ds,_,_,hk,h=>by
  unfold keyDs at hk;rw[Bool.and_eq_true]at hk;obtain⟨x,r,bs,cs,rfl,rfl,h1,h2⟩:=h;exact#[x,r,rfl,_h0 hk.1 h1,purs_of hk.2 h2]
end
def _h1(I:Inv X a9 σ H s)(h:H a=@(qZ a es ep))(hn:(es.C (·.1)).U)(hk:∀x>es,PuR X.K H x.1.1 (.J x.2.1)):s.G.DictOfH (KW X.î X.w) a es:=by
 let#[#[o,ds,h1,h2,h3,h4],_]:=(show ObjOk X.î X.w H s.G a (qZ a es ep)from I.hok a _ h);show#[o,ds,ep,h1,h2,h3,h4,λx hx=>V3 I (hk x hx) rfl,hn]
def _h2:∀(es:List Ent) (k:Kd),(atKey es k).isSome=decide (k.1>es.C (·.1.1))
 | [],k=>by simp[atKey]
 | x::es,k=>by
  let ih:=_h2 es k
  by_cases h:x.1=k
  .let:k.1>(x::es).C (·.1.1):=by rw[<-h];simp
   rw[X8 this];simp[atKey,List.find?_cons,h]
  .let e1:atKey (x::es) k=atKey es k:=by simp[atKey,List.find?_cons,h]
   let e2:(k.1>(x::es).C (·.1.1))↔k.1>es.C (·.1.1):=by
    rw[List.l,Zh];show#[λz=>z.ë (λq=>absurd (Subtype.ext q.s) h) id,.Z]
   rw[e1,ih];show decide_eq_decide.y e2.s
def _h3(hu:A.â+64<cLine):(KW X.î X.w).room A.in1:=by change A.â+1+40<cLine;lia
def _h4(hu:A.â+64<cLine)(I:Inv X a9 σ H s)(d:DcN X.K H a ks vs)(hk:PuR X.K H k.1 (.J b))(h:∀s',Inv X a9 σ H s'->Q (.bool (decide (k.1>ks))) s'):wpAny (model X.î X.w) A (compareOp .In (.J b) (.J a)) Q E s:=by
 let#[es,ep,e,h1,h2,h3,rfl,h5,h6]:=d;show wpAny_in_heap (knd:=KW X.î X.w) (_h3 hu) (V3 I hk rfl) h1 (_h1 I e h3 h5) ?_;rw[_h2];show h _ (I.tok _)
def _h5(hu:A.â+64<cLine)(I:Inv X a9 σ H s)(d:DcN X.K H a ks vs)(hk:PuR X.K H k.1 (.J b))(h:∀s',Inv X a9 σ H s'->Q (.bool (!decide (k.1>ks))) s'):wpAny (model X.î X.w) A (compareOp .NotIn (.J b) (.J a)) Q E s:=by
 let#[es,ep,e,h1,h2,h3,rfl,h5,h6]:=d;show wpAny_notIn_heap (knd:=KW X.î X.w) (_h3 hu) (V3 I hk rfl) h1 (_h1 I e h3 h5) ?_;rw[_h2];show h _ (I.tok _)
end
def _h6(K:Frag)(m5:Bool):R2:=λx y H Q=>∃(k:Kd) (b a:Addr) (ks:List D) (vs:List V),x=.J b/\y=.J a/\PuR K H k.1 (.J b)/\DcN K H a ks vs/\Q (.bl (if m5 then !decide (k.1>ks)else decide (k.1>ks))) H
def _h7{K:Frag}(hu:X.A.â+64<cLine)(hK:X.K=K<|>Ŕ):OpR X (compareOp .In) (_h6 K false):=by
 subst hK;intro a9 s σ H x y u v Q I rx ry ⟨k,b,a,ks,vs,e1,e2,hk,hd,q⟩;subst e1 e2;cases rx;cases ry;show _h4 hu I hd hk λs' I'=>#[.bl _,H,I',rfl,q]
def _h8{K:Frag}(hu:X.A.â+64<cLine)(hK:X.K=K<|>Ŕ):OpR X (compareOp .NotIn) (_h6 K true):=by
 subst hK;intro a9 s σ H x y u v Q I rx ry ⟨k,b,a,ks,vs,e1,e2,hk,hd,q⟩;subst e1 e2;cases rx;cases ry;show _h5 hu I hd hk λs' I'=>#[.bl _,H,I',rfl,q]
def _h9{K:Frag}{y:Sl}(ok:y.ok K H)(hd:y.d=.dct ab)(hu:unm ab=true):∃a xs,y.v=.J a/\DcN K H a (ab.C (·.1)) xs:=by
 let h:=RepO.wk ok;rw[hd]at h;unfold RepL at h;let#[a,xs,bs,e,_,q,_]:=h;show#[a,xs,e,DcA.un q hu]
def _ia{K:Frag}{x:Sl}(ok:x.ok K H)(hk:kZ x.d=true):∃b,x.v=.J b/\PuR K H x.d (.J b):=by
 unfold kZ at hk;rw[Bool.æ]at hk;let h:=_h0 hk.1 (RepO.wk ok);cases hd:x.d with
 |tup ds=>
  rw[hd]at h;let h':=h;unfold PuR at h;let#[a,xs,e,_]:=h;show#[a,e,e▸h']
 |_=>rw[hd]at hk;cases hk.2
def _ib{K:Frag}:Ad2 K (_h6 K false) (pu2 XV):=by
 intro H x y s Q ox oy hf k;unfold pu2 XV at hf;dsimp only at hf;cases hy:y.d with
 | dct ab=>
  rw[hy]at hf;dsimp only at hf
  by_cases hk:kZ x.d=true/\unm ab=true
  .rw[X7 hk]at hf;cases _aa hf;let#[a,xs,e,q]:=_h9 oy hy hk.2;let#[b,eb,pb]:=_ia ox hk.1;let lg:jX 6 x.d=true:=by let hk:=hk.1;unfold kZ at hk;rw[Bool.æ]at hk;show hk.1
   show#[#[x.d,lg],b,a,_,xs,eb,e,pb,q,k #[.dp,.bl _,.bl _,[]] H rfl rfl x6]
  .rw[Xb hk]at hf;cases hf
 |_=>rw[hy]at hf;cases hf
def _ic{K:Frag}:Ad2 K (_h6 K true) (pu2 V0):=by
 intro H x y s Q ox oy hf k;unfold pu2 V0 at hf;dsimp only at hf;cases hy:y.d with
 | dct ab=>
  rw[hy]at hf;dsimp only at hf
  by_cases hk:kZ x.d=true/\unm ab=true
  .rw[X7 hk]at hf;cases _aa hf;let#[a,xs,e,q]:=_h9 oy hy hk.2;let#[b,eb,pb]:=_ia ox hk.1;let lg:jX 6 x.d=true:=by let hk:=hk.1;unfold kZ at hk;rw[Bool.æ]at hk;show hk.1
   show#[#[x.d,lg],b,a,_,xs,eb,e,pb,q,k #[.dp,.bl _,.bl _,[]] H rfl rfl x6]
  .rw[Xb hk]at hf;cases hf
 |_=>rw[hy]at hf;cases hf
def _id(x y s:Sd)(h:pu2 XV x y=@s):∃k,s.2=.bl k:=by
 unfold pu2 XV at h;cases hy:y.2 with
 |dct ab=>
  rw[hy]at h;dsimp only at h
  by_cases hk:kZ x.2=true/\unm ab=true
  .rw[X7 hk]at h;cases _aa h;show#[_,rfl]
  .rw[Xb hk]at h;cases h
 |_=>rw[hy]at h;cases h
def _ie(x y s:Sd)(h:pu2 V0 x y=@s):∃k,s.2=.bl k:=by
 unfold pu2 V0 at h;cases hy:y.2 with
 |dct ab=>
  rw[hy]at h;dsimp only at h
  by_cases hk:kZ x.2=true/\unm ab=true
  .rw[X7 hk]at h;cases _aa h;show#[_,rfl]
  .rw[Xb hk]at h;cases h
 |_=>rw[hy]at h;cases h
section
variable {K:Frag}{k:Kd}
def _if(hx : RepL K H g d x cs): ∀{ab xs bs},RepP K H g ab xs bs -> RepP K H g (ab ++ [(q,d)]) (xs ++ [x]) (bs ++ cs)
  | [],_,_,h=>by
    let#[rfl,rfl]:= h;ext RepP;show#[x,[],cs,[],rfl,by simp,hx,by ext RepP; show#[rfl,rfl]]
  | (p,e)::ab,_,_,h=>by
    let#[y,rr,b1,b2,rfl,rfl,h1,h2]:= h;ext RepP;show#[y,rr ++ [x],b1,b2 ++ cs,rfl,by rw[Y3],h1,_if hx h2]
def _ig:∀{xs us},Vals xs us->RelV x r->Vals (xs++[x]) (us++[r])
 |_,_,.nil,h=>.ê h .nil|_,_,.ê a t,h=>.ê a (_ig t h)
end
section
def _ih(hu:A.â+64<cLine)(I:Inv X a9 σ H s)(e:H a=@(qZ a es ep))(h2:es.B<=sizeLine)(h3:(es.C (·.1)).U)(h5:∀x>es,PuR X.K H x.1.1 (.J x.2.1))(hk:PuR X.K H k.1 (.J b))
  (h:∀ep' s',Inv X a9 σ (upd H a (qZ a (storedH es k b r) ep')) s'->Q () s'):wpAny (model X.î X.w) A (setItem (.J a) (.J b) r) Q E s:=by
 show wpAny_setItem_heap (hsz:=h2) (_h3 hu) (V3 I hk rfl) (_h1 I e h3 h5) λh' dd hs=>?_
 let#[q,ds,ep',hq,g2,g3,g4,_,_]:=dd;show h ep' _ (_co I (e▸True.intro) hs #[q,hq] #[#[q,ds,hq,g2,g3,g4],#[q,hq],λh1 h2 #[o,ds,a1,a2] k=>#[o,ds,k o a1,a2]])
end
abbrev wDic(K:Frag):V->V->V->Hp->(Hp->Prop)->Prop:=λx y v H C=>∃a b k es ep,x=.J a/\y=.J b/\H a=@(qZ a es ep)/\es.B<=sizeLine/\(es.C (·.1)).U/\(∀n>es,PuR K H n.1.1 (.J n.2.1))/\PuR K H k.1 (.J b)/\∀r ep',RelV v r->C (upd H a (qZ a (storedH es k b r) ep'))
abbrev wk5(K:Frag)(td ty tv:TE):TS:=λD σ H=>tv σ H λv H1=>td σ H1 λx H2=>ty σ H2 λy H3=>wDic K x y v H3 λH4=>D.nx σ H4
def _ii(hu:X.A.â+64<cLine)(ho:PE X o td)(hi:PE X i ty)(hv:PE X bt tv)(hs:swapsWith bt @(.Subscript o i bw) pos.line X.V=pure false):
  PS X (.Assign [.Subscript o i bw] bt pos) (wk5 X.K td ty tv):=by
 intro a9 s σ H D I h;show wpAny_Assign_Subscript (thn (hv a9 s σ H _ I h) λr s1 hq1=>?_) hs;let#[v,H1,I1,rv,q1]:=hq1;show thn (ho a9 s1 σ H1 _ I1 q1) λu s2 hq2=>?_
 let#[x,H2,I2,rx,q2]:=hq2;show thn (hi a9 s2 σ H2 _ I2 q2) λiv s3 hq3=>?_
 let#[y,H3,I3,ry,a,b,k,es,ep,ex,ey,e,h2,h3,h5,hk,q3]:=hq3;subst ex ey;obtain rfl:u=Value.J a:=rx;obtain rfl:iv=Value.J b:=ry;show _ih hu I3 e h2 h3 h5 hk λep' s4 I4=>#[σ,_,I4,q3 r ep' rv]
def Q4(h:Heap)(a:Addr)(ts:List DictEntry)(ep:Nat):Prop:=∃ob jf,h.get? a=@ob/\ob.ExactDict/\ob.data=.dict jf ep/\jf.R=ts
def _ij(I:Inv X a9 σ H s)(h:H a=@(qZ a es ep)):Q4 s.G a (es.C λx=>(#[J5 X.w x.1.1,.J x.2.1,x.2.2]:DictEntry)) ep:=by
 let#[#[o,ds,h1,h2,h3,h4],_]:=(I.hok a _ h);show#[o,ds,h1,h2,h3,h4]
mutual
theorem _ik{K H}:∀{d v},PuR K H d v->RepL K H true d v []
 |.non,_,h=>#[h,rfl]|.int _,_,h=>#[h,rfl]
 |.tup ds,_,h=>by
  obtain⟨a,xs,e,s,r⟩:=h;exact#[a,xs,e,s,rep_purs r]
 |.bl _,_,h=>h.elim|.str _,_,h=>by exact#[h.1,rfl,h.2]|.lst _,_,h=>h.elim|.dct _,_,h=>by exact h.elim|.obj _ _,_,h=>h.elim
theorem rep_purs{K H}:∀{ds xs},PuRs K H ds xs->RepA K H true ds xs []
 |[],_,h=>by unfold PuRs at h;exact#[h,rfl]
 |d::ds,_,h=>by
  obtain⟨x,r,e,h1,h2⟩:=h;exact#[x,r,[],[],e,rfl,_ik h1,rep_purs h2]
end
section
def _il(hs:(a==sysModules)=false)(hd:Q4 s.G a ts ep)
  (q:Q (.J ↥s) {s with heap:=s.G.ï {cls:=.e "dict_keyiterator",data:=.fields %[.J a,.E 0 0,.E ts.B 0,.E ep 0|0]}}):wpAny (model prog w) A (pyIter (.J a)) Q E s:=by
 let#[ob,jf,g1,g2,g3,g4]:=hd;let ty:s.TypeIs (.J a) "dict":=#[ob,g1,g2.1];let hl:jf.M=ts.B:=by rw[<-g4];rfl
 show wpAny_pyIter_slot ty F.slot_dict_iter (Y8 F.slot_dict_iter ty F.entry_dict_iter ?_ (F.args_dict_iter_1 _));ext Builtin.«dict.__iter__» Builtin.Dict.dictSlotNone;show X0 (X0 (wpAny_notOrdered_dict ty ?_));change wpAny _ _ (pure (Value.J a)) _ _ s;show X5 ?_;change wpAny _ _ (Builtin.Dict.showsAll a >>= _) _ _ s;ext Builtin.Dict.showsAll;rw[Xb (by rw[hs];show Bool.false_ne_true)];show X0 (X5 (X0 (wpAny_dictEntries g1 g3 (X0 (wpAny_dictEpoch g1 g3 ?_)))));show X0 (Ya (X5 #[_,rfl,"dict_keyiterator",_,#[_,Xd _ rfl,rfl],F.slot_dict_keyiterator_next.Y,?_]))
 simpa [rawInt,hl]using q
def _im(hi:s.G.IsKeyIter it a i ts.B ep)(hd:Q4 s.G a ts ep)(hx:ts[i]?=@en)
  (q:∀h',h'.IsKeyIter it a (i+1) ts.B ep->Heap.SameBut it s.G h'->Q @en.key {s with heap:=h' }):wpAny (model prog w) A (pyNext (.J it)) Q E s:=by
 let ty:=hi.typeIs;let#[o,h1,h2,h3]:=hi;let#[ob,jf,g1,g2,g3,g4]:=hd;let hl:jf.M=ts.B:=by rw[<-g4];rfl
 let b9:i<jf.M:=by rw[hl];show(aF hx).1
 let hen:jf[i]=en:=by
  rw[<-g4,Xu,Xp b9]at hx;show _aa hx
 let ow:Builtin.Dict_items.ownsTuple "dict_keyiterator"=false:=by rfl
 ext pyNext;show X0 (wpAny_attempt (Yn (name:=Str.ofString "__next__") ty F.slot_dict_keyiterator_next (Y8 F.slot_dict_keyiterator_next ty F.entry_dict_keyiterator_next ?_ (F.args_dict_keyiterator_next_1 _))));show X0 (X5 (X0 (X0 ?_)))
 first
  |show X0 (Zi ty (X5 (X0 (Zr h1 h3 ?_))))
  |show X0 (wpAny_typeNameOf_keyiter ty (X5 (X0 (Zr h1 h3 ?_))))
 dsimp[ow,Bool.false_eq_true,if_false];change wpAny _ _ (if(Value.J a==Value.å)=true then _ else _) _ _ s;rw[Xb (show ¬((Value.J a==Value.å)=true)from nofun)];show X0 (X5 (X0 (wpAny_dictEntries g1 g3 ?_)));rw[Xb (by rw[hl];simp)];show X0 (X5 (X0 (wpAny_dictEpoch g1 g3 ?_)));rw[Xb (by simp)];show X5 ?_;dsimp[show ¬((i:Int)<0)from by simp,if_false,Xs,Xp b9,hen];show X0 ?_
 first
  |show X0 (Zi ty (X5 (X0 (wpAny_isOneOf_keyiter ty ?_))))
  |show X0 (wpAny_typeNameOf_keyiter ty (X5 (X0 (wpAny_isOneOf_keyiter ty ?_))))
 change wpAny _ _ (setField (.J it) 1 (rawInt ((i:Int)+1)) >>= _) _ _ s;show X0 (Yr h1 h3 (by simp) ?_);let jb:(s.G.update it (Obj.mapFields (·.õ 1 (rawInt ((i:Int)+1))))).IsKeyIter it a (i+1) ts.B ep:=⟨_,Ye _ h1 (Zg (Z8 h3 _)),(Obj.cls_mapFields ..).I h2,by rw[Z8 h3];simp[rawInt]⟩;show X0 (Y4 (X0 (wpAny_isOneOf_keyiter (s:={s with heap:=s.G.update it (Obj.mapFields (·.õ 1 (rawInt ((i:Int)+1))))}) jb.typeIs ?_)));change wpAny _ _ (pure en.key) _ _ _;show X5 (X5 ⟨_,rfl,X5 (q _ jb (Yd ..))⟩)
def _in(hh:A.ó=none)(hi:s.G.IsKeyIter it a i ts.B ep)(hd:Q4 s.G a ts ep)(hx:ts.B<=i)(q:∀h',Heap.ExtBut it s.G h'->Q none {s with heap:=h' }):wpAny (model prog w) A (pyNext (.J it)) Q E s:=by
 let ty:=hi.typeIs;let#[o,h1,h2,h3]:=hi;let#[ob,jf,g1,g2,g3,g4]:=hd;let hl:jf.M=ts.B:=by rw[<-g4];rfl
 let ow:Builtin.Dict_items.ownsTuple "dict_keyiterator"=false:=by rfl
 ext pyNext;show X0 (wpAny_attempt (Yn (name:=Str.ofString "__next__") ty F.slot_dict_keyiterator_next (Y8 F.slot_dict_keyiterator_next ty F.entry_dict_keyiterator_next ?_ (F.args_dict_keyiterator_next_1 _))));show X0 (X5 (X0 (X0 ?_)))
 first
  |show X0 (Zi ty (X5 (X0 (Zr h1 h3 ?_))))
  |show X0 (wpAny_typeNameOf_keyiter ty (X5 (X0 (Zr h1 h3 ?_))))
 dsimp[ow,Bool.false_eq_true,if_false];change wpAny _ _ (if(Value.J a==Value.å)=true then _ else _) _ _ s;rw[Xb (show ¬((Value.J a==Value.å)=true)from nofun)];show X0 (X5 (X0 (wpAny_dictEntries g1 g3 ?_)));rw[Xb (by rw[hl];simp)];show X0 (X5 (X0 (wpAny_dictEpoch g1 g3 ?_)));rw[Xb (by simp)];show X5 ?_;dsimp[show ¬((i:Int)<0)from by simp,if_false,Xs,Array.getElem?_eq_none (show jf.M<=i by symm)];show X0 ?_
 first
  |show X0 (Zi ty (X5 ?_))
  |show X0 (wpAny_typeNameOf_keyiter ty (X5 ?_))
 change wpAny _ _ (setField (.J it) 0 .å >>= _) _ _ s;show X0 (Yr h1 h3 (by simp) ?_);change wpAny _ _ (newExc (.e "StopIteration") [] >>= _) _ _ _;show X0 ?_;dsimp[newExc,newTuple];show X0 (Ya (X0 (m:=firstArgMember _ _) (wpAny_of_eq (a:=Value.å) (by first|rfl|(lia;rfl)) (Ya ?_ (by size_fits)))) (by size_fits));dsimp[raiseNew];show X0 (wpAny_handled ?_);rw[show A.in1.ó=none from hh];let tyS:∀(hq:Heap) (ob:Obj),ob.cls=.e "StopIteration"->(hq.ï ob).get? hq.objs.M=@ob->Shared.TypeIs {s with heap:=hq.ï ob} (.J hq.objs.M) "StopIteration":=λhq ob h1 h2=>#[_,h2,h1]
 show X0 (X5 (wpAny_throw ?_));show X0 (Zx (b:=true) (tyS _ _ rfl (Xd _ rfl)) isSubtype_stop ?_);show X5 (q _ (((Yd ..).extBut.ï _).ï _))
def _io(hd:Q4 h a ts ep)(k:∀o,h.get? a=@o->h'.get? a=@o):Q4 h' a ts ep:=by
 let#[ob,jf,g1,g]:=hd;show#[ob,jf,k ob g1,g]
def _ip(hd:Q4 h a ts ep):a<h.objs.M:=by
 let#[ob,jf,g1,g]:=hd;show Xh g1
def _iq(hh:A.ó=none)(I:Addr)(bc:a≠I):PySem.Walks prog w A I [I,a] [I] ts.B (λi v=>∃en,ts[i]?=@en/\v=en.key) (λi h=>h.IsKeyIter I a i ts.B ep/\Q4 h a ts ep) where
 sub:=λb hb=>by simp at hb;simp[hb]
 frame:=λ_ _ _ st hk=>#[st.1.at λo e=>hk I (by simp) o e,_io st.2 λo e=>hk a (by simp) o e]
 item:=λi s Q E hi st hQ=>_im st.1 st.2 (X1 hi) λh' jb im=>
  hQ _ h' s.ý #[_,X1 hi,rfl] #[jb,_io st.2 λo e=>im.extBut a o bc e] λb o hb e=>im.extBut b o (λh=>hb (by simp[h])) e
 done:=λs Q E st hQ=>_in hh st.1 st.2 (Xa _) λh' tz=>hQ h' s.ý λb o hb e=>tz b o (λh=>hb (by simp[h])) e
 self:=λ_ _ _ _ st hQ=>wpAny_pyIter_keyiter st.1 hQ
def _ir(lo:(a==sysModules)=false):PySem.W.KdlSrc prog w "dict" a a ts.B (λi v=>∃en,ts[i]?=@en/\v=en.key) (λh=>Q4 h a ts ep) where
 type:=λ_ hm=>by let#[ob,jf,g1,g2,_]:=hm;show#[ob,g1,g2.1]
 there:=λ_ hm=>#[_ip hm,_ip hm]
 keep:=λ_ _ hm hk=>_io hm λo e=>hk a (.O rfl) o e
 notList:=by rfl
 notTuple:=by rfl
 hint:=λ_ _ _ _ hm hq=>PySem.W.kdl_hint_dict (by let#[ob,jf,g1,g2,_]:=hm;show#[ob,g1,g2.1]) hq
 iter:=λ_ _ hh hm=>#[_,_,(λ_ _ hq=>_il lo hm hq),_iq hh _ (Xq (_ip hm)),#[#[_,Xd _ rfl,rfl,rfl],_io hm λo e=>X4 _ e]]
end
def _is(K:Frag):List V->Hp->VK->Prop:=λxs H Q=>∃a es ep,xs=[.J a]/\H a=@(qZ a es ep)/\(a==sysModules)=false/\es.B<=sizeLine/\∀l,H l=none->Q (.J l) (upd H l (.L (es.C λn=>V.J n.2.1)))
def _it:∀(es:List Ent),Vals (es.C λn=>V.J n.2.1) (es.C λn=>Value.J n.2.1)
 |[]=>.nil|n::es=>.ê rfl (_it es)
def _iu{K:Frag}(hc:X.calm=true<|>Ŕ):CallR X (.e "list") (_is K):=by
 intro a9 s σ H xs us Q I r h;let#[a,es,ep,rfl,hH,hs,hl,q]:=h;let#[u,rfl,rx]:=wZ r;cases rx;show PySem.W.kdl_call (_ir (ts:=es.C λx=>(#[J5 X.w x.1.1,.J x.2.1,x.2.2]:DictEntry)) (ep:=ep) hs) (I.ok.hd hc) (_ij I hH) (by rw[X3];show hl) λh' tk ae c kp e au=>?_
 let he:ae.R=es.C λn=>Value.J n.2.1:=by
  show Zk λi=>?_
  rw[Xf];let hn:ae.M=es.B:=by let:=au.1;simpa using this
  cases hv:ae[i]? with
  |none=>rw[Xu,hv,Y2 (by let:=Array.getElem?_eq_none_iff.mp hv;symm)];rfl
  |some v=>
   let#[en,h1,h2]:=au.2 i v hv;rw[Xu,hv,h2];rw[Xf]at h1;cases jc:es[i]? with|none=>rw[jc]at h1;cases h1|some n=>rw[jc]at h1;cases _aa h1;rfl
 show#[.J ↥s,_,I.laid kp (Xa _) (show ObjOk X.î X.w _ h' _ (.L (es.C λn=>V.J n.2.1))from#[by rw[X3];show hl,es.C λn=>Value.J n.2.1,c,_it es,by rw[<-he];simpa using e]),rfl,q _ (I.hok.fresh (Xa _))]
def _iv{K:Frag}:∀{es:List Ent},(∀n>es,PuR K H n.1.1 (.J n.2.1))->RepA K H true (es.C (·.1.1)) (es.C λn=>V.J n.2.1) []
 |[],_=>by ext RepA;show#[rfl,rfl]
 |n::es,h=>by
  rw[List.l,List.l];ext RepA;show#[_,_,[],[],rfl,rfl,_ik (h n X2),_iv λm hm=>h m (_ad _ hm)]
#where in
def _iw{K:Frag}:Ad1 K (λv H Q=>_is K [v] H Q) _g8:=by
 intro H x s Q ok hf k;unfold _g8 at hf;cases hx:x.d with
 | dct ab=>
  rw[show(x.o,x.d).2=D.dct ab from hx]at hf;let hf:(if ab.B<=big/\unm ab=true then @(Own.rt,D.L (ab.C (·.1)))else none)=@s:=hf
  split at hf
  rotate_left
  .cases hf
  revert ai;cases _aa hf;let yk:RepL K H true (.dct ab) x.v x.as:=by rw[<-hx];show xZ ok
  unfold RepL at yk;let#[a,xs,bs,ev,rp,q4,eas]:=yk;let#[es,ep,g1,g2,g3,g4,g5,g6,g7]:=DcA.un q4 ai.2;show#[a,es,ep,by rw[ev],g1,g2,g3,λl hl=>k #[.rt,.L (ab.C (·.1)),.J l,[l]] _ rfl rfl #[vw hl,#[l,_,[],rfl,?_,wj,rfl],λb hb=>?_,by simp[Sl.ì],λb hb=>?_]]
  .rw[g5];show(_iv g6).kp (Kp.of_same (vw hl))
  .let:b=l:=by simpa [Sl.ì]using hb
   show this▸hl
  .simp[Sl.ÿ]at hb
 |_=>rw[show(x.o,x.d).2=_ from hx]at hf;cases hf
def _ix{is:List Int}{val:Nat->Int}(hv:∀i (h:i<is.B),val i=is[i]):∀n,n<=is.B->preSum val n=(is.take n).sum
 |0,_=>by rfl
 |n+1,h=>by
  rw[preSum,_ix hv n .q,hv n .q,List.take_succ_eq_append_getElem .q,List.sum_append];simp
def _iy{is:List Int}(h:∀i>is,0<=i/\i<=1000000):0<=is.sum/\is.sum<=1000000*is.B:=by
 induction is with
 |nil=>decide
 |cons a is ih=>
  let h1:=h a X2;let h2:=ih λi hi=>h i (_ad _ hi)
  rw[List.sum_cons,Xn];lia
def _iz(K:Frag):List V->Hp->VK->Prop:=λxs H Q=>∃(p:Addr) (is:List Int),xs=[.J p]/\SqL K H p (is.C V.E)/\_g9 is=true/\is.B<=100000/\Q (.E is.sum) H
def _iA(hc:X.calm=true<|>Ŕ):CallR X (.à "sum") (_iz X.K):=by
 intro a9 s σ H xs us Q I r h;let#[p,is,rfl,hq,hs,hl,q]:=h;let#[u,rfl,ru]:=wZ r;cases ru;let#[ac,rv,pl,hz]:=I.list hq;let hli:=pl.isList;let b9:p<↥s:=by let#[_,e,_]:=hli;show Xh e
 let ai:is.B=ac.B:=by rw[<-rv.B,X3]
 let hb:∀i>is,0<=i/\i<=1000000:=λi hi=>by
  let:=List.all_eq_true.mp hs i hi;rw[Bool.æ]at this;show#[Yf this.1,Yf this.2]
 let f7:∀i (h:i<is.B),(λi=>is.p i 0) i=is[i]:=λi h=>by
  change is.p i 0=_;rw[X6,X1 h];rfl
 show call_sum_walk (Zc hli ?_);show#[↥s,[↥s,p],[↥s],ac.H.M,_,_,λi=>is.p i 0,rfl,PySem.Walks.list (A:=X.A.in1) (I.ok.hd hc) _ p (Xq b9) ac.H,
  #[#[_,Xd _ rfl,rfl,rfl],hli.ï _],λb gc=>?_,λi v hP=>?_,λj hj=>?_,λh' tk t' hk=>?_]
 .rw[Zp];dsimp[Zh,Zb,or_false]at gc;let e\/e:=gc
  .rw[e];show Zz _
  .rw[e];show Ze b9
 .let hP:ac[i]?=@v:= ~~~hP
  let hi:i<is.B:=by rw[ai];show(aF hP).1
  let#[u,e1,e2]:=rv.get (i:=i) (x:=.E is[i]) (by rw[Xf,X1 hi];rfl);rw[hP]at e1;cases _aa e1;let#[t,rfl]:=e2;show#[t,by rw[f7 i hi]]
 .let hj:j<is.B:=by rw[ai];simpa using hj
  let h1:=hb _ (Xr hj);let h2:=_iy (is:=is.take (j+1)) λi hi=>hb i (List.mem_of_mem_take hi)
  rw[f7 j hj,_ix f7 (j+1) hj];let h3:(is.take (j+1)).B<=100000:=by rw[Z1];lia
  show#[#[.q,.q],#[.q,.q]]
 .rw[Xe,<-ai,_ix f7 is.B (Xa _),List.take_length];show#[.E _,H,I.kept (t':=tk) (h':=h') λb o e=>hk b o (λz=>?_) (X4 _ e),#[_,rfl],q];show absurd (Xh e) (by rw[aC z];show Z4 _)
def _iB(K:Frag)(hK:X.K=K<|>Ŕ)(hc:X.calm=true<|>Ŕ):CallR X (.à "sum") (_iz K):=by subst hK;show _iA hc
#where in
def _iC{K:Frag}:Ad1 K (λv H Q=>_iz K [v] H Q) (pu1 YZ):=by
 intro H x s Q ok hf k;unfold pu1 YZ at hf;dsimp only at hf
 split at hf
 .revert ds e;cases hb:Q9 ds with
  | none=>rw[hb]at hf;cases hf
  | some is=>
   rw[hb]at hf;dsimp only at hf
   by_cases hs:_g9 is=true/\is.B<=100000
   .rw[X7 hs]at hf;cases _aa hf;let#[l,xs,cs,ev,q3,r3,_]:=items ok (.O e);let q3:LsR K H l xs:=by let#[_,z]\/#[z,_]:=q3;show z;rw[e]at z;cases z
    show#[l,is,by rw[ev],by rw[<-_hz hb r3];show q3.sq,hs.1,hs.2,k #[.dp,.E _,.E _,[]] H rfl rfl Qz]
   .rw[Xb hs]at hf;cases hf
 .cases hf
def RepA.put{K}(hx:RepL K H g d x cs):∀{ds xs bs} (n),RepA K H g ds xs bs->∃es,RepA K H g (ds.u n d) (xs.u n x) es/\∀a>es,a>bs\/a>cs
 | [],_,bs,n,h=>by
  let h0:=h;let#[rfl,rfl]:=h0;show#[[],~~~h,nofun]
 | e::ds,_,_,n,h=>by
  let#[y,r,b1,b2,rfl,rfl,h1,h2]:=h;cases n with
  | zero=>
   show#[cs++b2,?_,λa ha=>?_]
   .ext RepA;show#[x,r,cs,b2,rfl,rfl,hx,h2]
   .let z\/z:=aA ha
    .show .Z z
    .show .O (_ab _ z)
  | succ n=>
   let#[es,i1,i2]:=RepA.put hx n h2;show#[b1++es,?_,λa ha=>?_]
   .ext RepA;show#[y,r.u n x,b1,es,rfl,rfl,h1,i1]
   .let z\/z:=aA ha
    .show .O (_ac _ z)
    .show(i2 a z).imp (_ab _) id
section
#where in
def _iD(ho:PE X o (vX i))(hk:QV X Z true kc ke)(hv:QE X Z q vc ve)(hs:swapsWithSole [.Subscript o ke bw] ve pos.line X.V=pure false<|>Ŕ)(hw:swappedStores [.Subscript o ke bw] ve X.V=pure none<|>Ŕ)
  (h1:(assignEach [.Subscript o ke bw] X.V).C (·.2)=[assign (.Subscript o ke bw) X.V]<|>Ŕ)
  (ha:autoParam (∀v,assign (.Subscript o ke bw) X.V v=(do
   let ov <-holding [v] (eval o X.V)
   let iv <-holding [v,ov] (eval ke X.V)
   standAt bw
   holding [v,ov,iv] (setItem ov iv v)
   release [v,ov,iv] [])) Ŗ):
  QS X Z pn (ZQ i kc vc) (.Assign [.Subscript o ke bw] ve pos):=_gl (W:=_bR) (_aO hv (_aN ho hk _bS ha) hs hw h1) #[rfl,rfl] fun {H L y x z d} {C} hy w sf mf k=>by
 unfold _ha at mf
 split at mf
 .revert o xs j o8 hz;injection o8 with h2 h3
  split at mf
  .cases mf
  .revert lh;let#[n,hj,rfl]:=Option.map_eq_some_iff.mp mf;let#[l,vs,bs,c1,c2,c3,c4,c5]:=_gh (w.tail.ok y (vQ hy)) h3 (h2▸lh);let c6:RepA Z.K H true xs vs bs:=by
    cases hb:(y.o != .dp)with|true=>rw[hb]at c5;show c5|false=>rw[hb]at c5;show c5.wk
   let#[es,g1,g2]:=RepA.put (RepO.wk (w.ok x X2)) n c6;let#[w4,mn]:=XW (T:=[@x]) (o':=.rt) (ds':=xs.u n x.d) (xs':=vs.u n x.v) w hy c2 c3 c4 c1 g1 (.O #[rfl,λa ha=>(g2 a ha).imp id λz=>by
    let z\/z:=Sl.as_of z
    .show .O (~~~z)
    .show .Z (~~~z)])
   show#[l,vs,j,n,c1,qx sf hz,c2,by rw[<-c6.len,<-_gc];show hj,k _ _ w4 mn]
 .cases mf
end
abbrev dkI(kv:List (Int×Int)):List (Key×V):=kv.C λp=>(Sum.O p.1,V.E p.2)
def _iE kv k:zZ (dkI kv) (Sum.O k)=(jY kv k).C V.E:=by
 induction kv with
 | nil=>rfl
 | cons p r ih=>
  unfold zZ jY at ih ⊢;rw[show dkI _=_::dkI r from rfl,List.find?_cons,List.find?_cons]
  by_cases h:p.1=k
  .let h1:decide ((Sum.O p.1:Key)=Sum.O k)=true:=X8 (by rw[h]);let h2:=X8 h;dsimp[h1,h2];rfl
  .let h1:decide ((Sum.O p.1:Key)=Sum.O k)=false:=Xk λz=>h (Sum.O.inj z)
   let h2:=Xk h;dsimp[h1,h2];show ih
def _iF kv (k v):_ce (dkI kv) (Sum.O k) (V.E v)=dkI (qW kv k v):=by
 let ha:((dkI kv).any λp=>decide (p.1=(Sum.O k:Key)))=kv.any λp=>decide (p.1=k):=by
  rw[List.any_map]
  congr 1
  funext p;change decide ((Sum.O p.1:Key)=Sum.O k)=decide _;show decide_eq_decide.y #[λz=>Sum.O.inj z,λz=>by rw[z]]
 ext _ce qW;rw[ha]
 by_cases h:(kv.any λp=>decide (p.1=k))=true
 .rw[X7 h,X7 h];ext dkI;rw[Xg,Xg];show Xw λp _=>?_
  by_cases z:p.1=k
  .grind
  .lia
 .rw[Xb h,Xb h];ext dkI;rw[Xl];rfl
def _iG:∀{ab kv},_hb ab=@kv->ab=kv.C λp=>(D.E p.1,D.E p.2):=by
 intro ab
 induction ab with
 |nil=>intro kv h;cases _aa h;rfl
 |cons e r ih=>
  intro kv h;let#[a,b]:=e;cases a<;>first|(cases h;done)|(cases b<;>first|(cases h;done)|skip)
  let#[q,hq,rfl]:=Option.map_eq_some_iff.mp (show(_hb r).C _=@kv from h);rw[List.l,<-ih hq]
def _iH:∀kv,_hb (kv.C λp=>(D.E p.1,D.E p.2))=@kv
 |[]=>rfl
 |_::r=>by
  change(_hb _).C _=_;rw[_iH r];rfl
def _iI kv:Qq (Qx kv)=@kv:=_iH kv
def _iJ{K}:∀{kv:List (Int×Int)} {xs bs},RepP K H g (kv.C λp=>(D.E p.1,D.E p.2)) xs bs->xs=kv.C λp=>V.E p.2
 |[],_,_,h=>by
  show h.1
 |p::r,_,_,h=>by
  let#[y,rr,b1,b2,rfl,_,h1,h2]:=h;rw[h1.1,_iJ h2,List.l]
def _iK{K}:∀(kv:List (Int×Int)),RepP K H g (kv.C λp=>(D.E p.1,D.E p.2)) (kv.C λp=>V.E p.2) []
 |[]=>#[rfl,rfl]
 |p::r=>by
  show#[_,_,[],[],rfl,rfl,xz,_iK r]
def _iL{K}(kv:List (Int×Int)):RepP K H g (mkD::kv.C λp=>(D.E p.1,D.E p.2)) (V.ç::kv.C λp=>V.E p.2) []:=by
 show#[_,_,[],[],rfl,rfl,#[rfl,rfl],_iK kv]
def _iM:∀{a:List (Int×V)} {kv},(kv.C λp=>D.E p.1)=a.C (λp=>D.E p.1)->(kv.C λp=>V.E p.2)=a.C (·.2)->(a.C λp=>((Sum.O p.1:Key),p.2))=dkI kv
 |[],[],_,_=>rfl|[],_::_,h,_=>by simp at h
 |p::a,q::kv,h,h'=>by
  rw[List.l,List.l]at h h';injection h with h1 h2;injection h' with h3 h4;injection h1 with h1;ext dkI;rw[List.l,List.l,_iM h2 h4,<-h1,<-h3]
def _iN{d kv}(hd:Qq d=@kv):∃m,d=.dct ((.ã m,.ç)::kv.C λp=>(.E p.1,.E p.2)):=by
 unfold Qq at hd
 split at hd
 .show#[_,by rw[_iG hd]]
 .cases hd
def _iO{K}{y:Sl}(ok:y.ok K H)(hd:Qq y.d=@kv):∃a,y.v=.J a/\H a=@(.dK (dkI kv))/\∃bs,y.as=a::bs:=by
 let#[m,e]:=_iN hd;let h:=RepO.wk ok;rw[e]at h;let#[a,xs,bs,ev,rp,qa,eas]:=h;show#[a,ev,?_,bs,eas];let#[es,ep,_,_,_,_,g5,g6,_]\/#[kvn,mm,g1,g2,g3]:=qa
 .exfalso;rw[List.l]at g5;cases es with
  |nil=>cases g5
  |cons n es=>
   rw[List.l]at g5;injection g5 with g5 _;let:=g6 n X2;rw[<-g5]at this;unfold PuR at this
   symm
 .rw[g1]
  congr 2
  let#[y1,rr,_,_,rfl,_,_,r2]:=rp;rw[List.l,Xg]at g2;injection g2 with _ g2;injection g3 with _ g3;show _iM g2 ?_
  rwa [<-(_iJ r2)]
section
def _iP(m5:Bool):R2:=λx y H Q=>∃(k:Int) (a:Addr) (kv:List (Int×Int)),x=.E k/\y=.J a/\H a=@(.dK (dkI kv))/\Q (.bl (if m5 then !(jY kv k).isSome else(jY kv k).isSome)) H
def _iQ k (e:H a=@(.dK (dkI kv))):DGet H a (.E k) ((jY kv k).C V.E):=by
 rw[<-_iE];show DGet.k (k:=Sum.O k) e
def _iR(hu:X.A.â+64<cLine):OpR X (compareOp .In) (_iP false):=by
 intro a9 s σ H x y u v Q I rx ry ⟨k,a,kv,e1,e2,hd,q⟩;subst e1 e2;cases ry;show d_in .q I (_iQ k hd) rx λs' I'=>#[.bl _,H,I',rfl,?_]
 rwa [Option.isSome_map]
def _iS{K}:Ad2 K (_iP false) (pu2 W4):=by
 intro H x y s Q ox oy hf k;unfold pu2 W4 at hf;dsimp only at hf;cases hx:x.d with
 | int j=>
  rw[hx]at hf;cases hi:Qq y.d with
  |none=>rw[hi]at hf;cases hf
  |some kv=>
   rw[hi]at hf;cases _aa hf;let#[a,e,q,_]:=_iO oy hi;show#[j,a,kv,qx ox hx,e,q,k _ H rfl rfl x6]
 |_=>rw[hx]at hf;cases hf
def _iT(x y s)(h:pu2 W4 x y=@s):∃k,s.2=.bl k:=by
 unfold pu2 W4 at h;cases hx:x.2 with
 |int j=>
  rw[hx]at h;cases hi:Qq y.2 with|none=>rw[hi]at h;cases h|some kv=>rw[hi]at h;cases _aa h;show#[_,rfl]
 |_=>rw[hx]at h;cases h
end
section
def _iU(hu:X.A.â+64<cLine)(ha:QV X Z qa a ea)(hb:QV X Z true b eb)(hs:_cr eb):QV X Z qa (_hd a b) (.Subscript ea eb pos):=
 qv (_cu .q ha hb hs) fun σ H Q am=>ex8 am λE L r m w hc xc k=>by
  show vJ m w (hc) xc λE1 s h1 x L1 H1 e1 e2 m1 w1 ok fr sr st sm=>(vJ m1 w1 h1 (xc.step st) λE2 s2 h2 y L2 H2 e3 e4 m2 w2 ir ug ui bv ff=>?_)
  let#[z,hz,rfl]:=J8 h2;unfold _hc at hz;cases hy:s2.2 with
  | int j=>
   rw [hy]at hz;cases hi:Qq s.2 with
   | none=>rw[hi]at hz;cases hz
   | some kv=>
    rw[hi]at hz;dsimp only at hz;cases hv:jY kv j with
    | none=>rw[hv]at hz;cases hz
    | some v=>
     rw[hv]at hz;cases _aa hz;let#[l,e,q,_]:=_iO (W6 ok fr bv (ff rfl)).1 (e2▸hi);show#[l,.E v,e,?_,?_]
     .rw[qx ir (e4▸hy)];let:=_iQ j q;rw[hv]at this;show this
     .show k _ _ rfl #[.dp,.E v,.E v,[]] L2 H2 rfl rfl m2 w2 (show RepL Z.K H2 false _ _ []from xz) (nofun) (nofun) (st.I bv) λhq=>kX (sm hq) (ff rfl)
  |_=>rw[hy]at hz;cases hz
def _iV kv (k v):(qW kv k v).B<=kv.B+1:=by
 ext qW
 split
 .rw[X3];simp
 .rw[Xj];simp
end
end Q
namespace PySem
def _iW:typeLookup (.e "list") "keys"=pure none:=am_miss_of_fast (by decide +kernel)
def _iX
  (hx:s.G.get? a=@o) (hc:o.cls=.e "list") (fk:o.data=.seq xs k) (hd:o.dict=none) (hA:A.ó=none)
  (h:∀h' tk,(∀b ob,s.G.get? b=@ob->h'.get? b=@ob)->Q none {s with heap:=h',toks:=tk}):
  wpAny (model prog w) A (getAttr? (.J a) "keys") Q E s:=by
 let#[c,dct,dat,sl]:=o;simp only at hc fk hd;subst hc fk hd;let#[hp,g,d,tk,os]:=s;let hT:∀pc,(#[hp,g,d,pc,os]:Shared).TypeIs (.J a) "list":=λ_=>#[_,hx,rfl]
 let f1:=sub_AttributeError;let f3:=F.slot_list_getattribute.Y;let f4:=F.slot_list_getattribute.bind (.J a);let f5:=am_list_getattr_none;ext getAttr? getAttrBy? getAttrBy
 repeat (any_goals (first|assumption|show hT _|((with_reducible change wpAny _ _ (call (Value.à "list.__getattribute__") _ _) _ _ _);show call_meets F.slot_list_getattribute (hT _) am_entry_list_getattribute (F.args_list_getattribute_2 _ _) (meets_getattribute_miss_list a xs k sl "keys" _ _iW (by rfl) .q) #[hx,hA,λh' pc e hx'=>?_])|wp_step))
 let#[t',u',he]:=hx'.there;change wpAny _ _ (getattributeRaised _ _ _ _ _ _ _) _ _ _;ext getattributeRaised
 repeat (any_goals (first|assumption|wp_step))
 show h _ _ hx'.keeps
namespace F
def _Ed:entryFor table "dict.update.loop"=@Builtin.«dict.update.loop»:=entryFor_of_tree (by kernel_rfl)
def _Pd:plainId "dict.update.loop"=true:=by decide +kernel
end F
section
variable [DecidableEq K]{knd:KeyKind prog w K}
def _iY(h:s.G.IsTuple T %[u,v|0])(hq:Q [u,v] s):wpAny (model prog w) A (Builtin.Dict.pairItems (.J T)) Q E s:=by
 let#[o,ho,hc,m,hd]:=h;let#[cls,dct,dat,sl]:=o;subst hc hd
 repeat (any_goals (first|assumption|wp_step))
def _iZ(W:WalksS prog w A.in1 I fp wr G n P St)(S)(nq:S∉fp){h₀:Heap}(hn:more.B=n)(hz:n<=sizeLine)
  (f7:∀i v,P i v->∃T u x k,v=.J T/\T∉S::wr/\h₀.IsTuple T %[u,x|0]/\more[i]?=@(k,x)/\knd.is k u=true):
  ∀k i (c) (s),n - i=k->i<=n->St i s->(∀b o,b∉S::wr->h₀.get? b=@o->s.G.get? b=@o) ->
   s.G.DictOf knd S (merged [] (more.take i)) ->
   (∀s',Moved (S::wr) G s s'->s'.G.DictOf knd S (merged [] more)->R (.ok (.ret .å)) s') ->
   codeAny (model prog w) A (.à "dict.update.loop" #[[.J S,.J I,.E i c,.å],[]]) R s:=by
 let wc:=λh=>nq (W.sub _ h)
 let dz:∀b>wr,b>S::wr:=λb hb=>_ad _ hb
 intro k
 induction k with
 | zero=>
  intro i c s hk hi b7 hh hS hR;let gw:i=n:=.q
  subst gw;show Ys F._Ed (X0 (W.done s _ _ b7 λs' hm=>(X0 (X5 (X5 (hR s' (hm.mono dz) ?_))))));rw[<-hn,List.take_length]at hS;let#[o,es,ep,ho,af]:=hS;show#[o,es,ep,hm.G S _ wc ho,af]
 | succ k ih=>
  intro i c s hk hi b7 hh hS hR;let b9:i<n:=.q
  show Ys F._Ed (X0 (W.item i s _ _ b9 b7 λv s' hP mz hm=>?_));let#[T,u,x,kk,rfl,hTn,hT,hmo,iw]:=f7 i v hP;let ie:s'.G.DictOf knd S (merged [] (more.take i)):=by
   let#[o,es,ep,ho,af]:=hS;show#[o,es,ep,hm.G S _ wc ho,af]
  let rn:s'.G.IsTuple T %[u,x|0]:=by
   let#[o,ho,af]:=hT;show#[o,hm.G T o (λz=>hTn (_ad _ z)) (hh T o hTn ho),af]
  let gz:(merged [] (more.take i)).B<=sizeLine:=by
   let e1:=merged_length_le ([]:List _) (more.take i);let e2:(more.take i).B<=more.B:=by rw[Z1];symm
   let e3:([]:List (K×Value)).B=0:=rfl;lia
  show X0 (Y4 (X0 (wpAny_tryCatch (_iY rn (Y4 (wpAny_dictSet_pairs iw ie λh' vf im=>(X5 #[Zo F._Pd _,(ih (i+1) 0 _ (by grind) b9 (W.frame _ s' _ _ mz (Nat.le_succ _) λb hb o e=>?_) (λb o hb e=>?_) (by rw[merged_take_succ [] more i _ hmo];show vf) λlx mq my=>?_)])))))))
  .rw[im.2 b (λh:b=S=>nq (h▸hb))];show e
  .let uh:b≠S:=λz=>hb (z▸X2)
   rw[im.2 b uh];show hm.G b o (λz=>hb (_ad _ z)) (hh b o hb e)
  .show hR lx (Moved.I W.gtrans ((hm.mono dz).then_heap (Nat.le_succ _) λb o hb e=>?_) mq) my;rw[im.2 b (λh:b=S=>hb (h▸X2))];show e
def _i0
  (hh:A.ó=none) (ho:s.G.get? l=@o) (hc:o.cls=.e "list") (fk:o.data=.seq items m) (hd:o.dict=none) (hn:more.B=items.M) (hz:items.M<=sizeLine)
  (f7:∀(i:Nat) (v),items[i]?=@v->∃T u x k,v=.J T/\s.G.IsTuple T %[u,x|0]/\more[i]?=@(k,x)/\knd.is k u=true)
  (h:∀h' (tk),h'.DictOf knd ↥s (merged [] more)->(∀b o,b<↥s->s.G.get? b=@o->h'.get? b=@o)->Q (.J ↥s) {s with heap:=h',toks:=tk}):
  wpAny (model prog w) A (call (.e "dict") [.J l]) Q E s:=by
 show callType_codes (Q₁:=λobj s₁=>obj=Value.J ↥s/\s₁={s with heap:=s.G.ï {cls:=Value.e "dict",data:=Data.dict (List.H [])}}) F.kt_called_dict (F.kt_typeCall_dict_1 _) F.entry_dict_init (kt_code_dict_new _ #[rfl,rfl]) ?_;rintro obj s₁ ⟨rfl,rfl⟩;let fe:(s.G.ï {cls:=.e "dict",data:=.dict (List.H [])}).DictOf knd ↥s []:=Heap.DictOf.new s.G;let ju:(s.G.ï {cls:=.e "dict",data:=.dict (List.H [])}).get? l=@o:=X4 _ ho;let hT:Shared.TypeIs {s with heap:=s.G.ï {cls:=.e "dict",data:=.dict (List.H [])}} (.J l) "list":=#[_,ju,hc];let pe:=Xh ho;show#[fe.typeIs,F.args_dict_init_2 _ _,(X0 (X0 (wpAny_notOrdered_dict fe.typeIs (X5 (X0 (wpAny_typeOf hT (X0 (_iX ju hc fk hd (by simp[hh]) λh' tk hk=>?_))))))))];let qe:=λb q e=>hk b q (X4 _ e)
 let kr:h'.IsList l items:=#[o,qe _ _ ho,hc,m,fk];let xt:h'.DictOf knd ↥s []:=by
  let#[q,es,ep,hq,af]:=fe;show#[q,es,ep,hk _ _ hq,af]
 let ix:↥s<h'.objs.M:=by
  let#[q,es,ep,hq,af]:=xt;show Xh hq
 show X0 (Zq (X0 (Zc kr (X5 #[Zo F._Pd _,?_]))));show _iZ (h₀:=s.G) ((Walks.list (by simp[hh]) h'.objs.M l (Xq (J3 pe ix)) items).toS) ↥s ?_ hn hz (λi v hv=>?_) (items.M - 0) 0 0 _ (by simp) (Y6 _)
  #[#[_,Xd _ rfl,rfl,rfl],kr.ï _] (λb q hb e=>X4 _ (qe b q e)) (xt.ï _) λs' hm ie=>?_
 .simp;show#[Xq ix,J1 pe]
 .let#[T,u,x,k,e1,e2,e3,e4]:=f7 i v hv;show#[T,u,x,k,e1,?_,e2,e3,e4];let#[q,hq,_]:=e2;let:=Xh hq;simp;show#[Xq this,Xq (J3 this ix)]
 .let#[h2,g',d',pc,se]:=s';let eg:g'=s.gens:=hm.gens;let ed:d'=s.drawn:=hm.drawn;let eo:se=s.os:=hm.os;subst eg;subst ed;subst eo;show#[rfl,h h2 pc ie λb q hb e=>(hm.G b q ?_ (X4 _ (qe b q e)))];simp;show#[Xq hb,Xq (J3 hb ix)]
end
end PySem
namespace Q
open PySem PySem.Spec PyProof.Rows L2 L3
def _i1(K:Frag):List V->Hp->VK->Prop:=λxs H Q=>∃(a:Addr) (ts:List V) (ps:List (Int×Int)),xs=[.J a]/\SqL K H a ts/\ts.B=ps.B /\
 (∀i (h:i<ps.B),∃T,ts[i]?=@(.J T)/\SqT K H T [.E ps[i].1,.E ps[i].2])/\ps.B<big/\∀l,H l=none->Q (.J l) (upd H l (.dK (dkI (ps.foldl (λkv p=>qW kv p.1 p.2) []))))
def _i2:∀(ps kv:List (Int×Int)),(ps.foldl (λkv p=>qW kv p.1 p.2) kv).B<=kv.B+ps.B
 |[],kv=>by simp
 |p::ps,kv=>by
  rw[Yz,Xn];let:=_i2 ps (qW kv p.1 p.2);let:=_iV kv p.1 p.2;lia
#where in
def _i3:∀ps (more) (kv) (vs),KV (dkI ps) more->KV (dkI kv) vs->KV (dkI (ps.foldl (λkv p=>qW kv p.1 p.2) kv)) (more.foldl (λae kv=>stored ae kv.1 kv.2) vs)
 | [],_,kv,vs,h,h'=>by cases h;show h'
 | p::ps,_,kv,vs,h,h'=>by
  cases h with
  |cons h1 h2=>
   revert m more;let#[k,x]:=m;let#[e,rx]:=h1;subst e;show _i3 ps more _ _ h2 ?_;rw[<-_iF];show KV.put h' _ rx
#where in
def _i4(I:Inv X a9 σ H s):∀ps (ts) (ac),ts.B=ps.B ->
  (∀ i (h:i<ps.B),∃T,ts[i]?=@(.J T)/\SqT X.K H T [.E ps[i].1,.E ps[i].2])->Vals ts ac ->
  ∃ more,more.B=ac.B/\KV (dkI ps) more/\∀(i:Nat) (v),ac[i]?=@v->∃T u x k,v=.J T/\s.G.IsTuple T %[u,x|0]/\more[i]?=@(k,x)/\(zJ X.î X.w).is k u=true
 | [],ts,ac,hl,_,hv=>by
  cases ts with| nil=>cases hv;show#[[],rfl,.nil,λi v h=>by simp at h]| cons=>cases hl
 | p :: ps,t::ts,_,hl,hp,hv=>by
  cases hv with
  | cons h1 h2=>
   revert u us;let#[T,e1,e2]:=hp 0 (by simp);let e1:t=.J T:= ~~~e1
   subst e1;cases h1;let#[ii,rv,tp,_]:=I.tuple e2;obtain⟨u1,u2,rfl,r1,r2⟩:∃u1 u2,ii=[u1,u2]/\RelV (.E p.1) u1/\RelV (.E p.2) u2:=by
    cases rv with
    |cons a b=>
     cases b with|cons c d=>cases d;show#[_,_,rfl,a,c]
   let#[more,m1,m2,m3]:=_i4 I ps ts us (~~~hl) (λi h=>by
    let#[T,a,b]:=hp (i+1) (~~~h);show#[T,~~~a,~~~b]) h2
   show#[(Sum.O p.1,u2)::more,by rw[Xn,Xn,m1],.ê #[rfl,r2] m2,λi v h=>?_];cases i with
   |zero=>
    let h:Value.J T=v:= ~~~h
    subst h;show#[T,u1,u2,Sum.O p.1,rfl,tp,rfl,_ch r1]
   |succ i=>show m3 i v (~~~h)
def _i5(hc:X.calm=true<|>Ŕ):CallR X (.e "dict") (_i1 X.K):=by
 rintro a9 s σ H xs us Q I r ⟨a,ts,ps,rfl,hq,hl,hp,hb,q⟩;let#[u,rfl,rx]:=wZ r;cases rx;let#[ac,rv,#[o,n,ho,dk,hd,fk],hz]:=I.list hq;let#[more,m1,m2,m3]:=_i4 I ps ts ac hl hp rv;show _i0 (I.ok.hd hc) ho dk fk hd (by rw[m1];rfl) (by rw[Xe,<-rv.B];show hz) (λi v hv=>m3 i v (~~~hv)) λh' tk dd kp=>(#[.J ↥s,_,I.laid (t':=tk) (λb ob e=>kp b ob (Xh e) e) (Xa _) (_cp ?_ (Yt (J1 I.big)) (_i3 ps more [] [] m2 .nil) dd),rfl,q _ (I.hok.fresh (Xa _))])
 rw[X3];let:=_i2 ps []
 grind
def _i6:∀{ds ps},Vj ds=@ps->ds=ps.C λp=>D.X [.E p.1,.E p.2]
 | [],ps,h=>by cases _aa h;rfl
 | .X [.E a,.E b]::r,ps,h=>by
  let h:(Vj r).C _=@ps:=h;cases hr:Vj r with
  |none=>symm
  |some q=>
   rw[hr]at h;cases _aa h;rw[List.l,<-_i6 hr]
def _i7:∀ps,Vj (ps.C λp=>D.X [.E p.1,.E p.2])=@ps
 |[]=>rfl
 |_::r=>by
  change(Vj _).C _=_;rw[_i7 r];rfl
def _i8{K}:Ad1 K (λv H Q=>_i1 K [v] H Q) _he:=by
 intro H x s Q ok hf k;unfold _he at hf;cases hx:x.d with
 | lst ds=>
  rw [show(x.o,x.d).2=D.L ds from hx]at hf;dsimp only at hf;cases hp:Vj ds with
  | none=>rw[hp]at hf;cases hf
  | some ps=>
   rw[hp]at hf;dsimp only at hf
   by_cases hl:ps.B<big
   .rw[X7 hl]at hf;cases _aa hf;let e:=_i6 hp;subst e;let#[a,xs,bs,ev,q1,ra]:=items ok (.O hx);let hq:SqL K H a xs:=by
     let#[_,z]\/#[z,_]:=q1
     .show z.sq
     .symm
    show#[a,xs,ps,by rw[ev],hq,by rw[<-ra.1.len,X3],λi hi=>?_,hl,λl hl'=>k #[.rt,Qx _,.J l,[l]] _ rfl rfl #[vw hl',#[l,_,[],rfl,_iL _,.Z #[(ps.foldl (λkv p=>qW kv p.1 p.2) []).C λp=>(p.1,V.E p.2),"",by rw[wj,Xg];rfl,by rw[List.l,Xg,Xg];rfl,by rw[Xg];rfl],rfl],λb hb=>?_,by simp[Sl.ì],λb hb=>?_]]
    .let#[v,cs,g1,g2,_]:=RepA.get ra.1 (by rw[Xf,X1 hi];rfl);let#[T,ys,e1,e2,e3]:=g2;show#[T,by rw[g1,e1],?_];let#[y1,r1,_,_,rfl,_,f1,f2]:=e3;let#[y2,r2,_,_,rfl,_,f3,f4]:=f2;let#[rfl,_]:=f4;rw[f1.1,f3.1]at e2;show e2
    .let:b=l:=by simpa [Sl.ì]using hb
     show this▸hl'
    .simp[Sl.ÿ]at hb
   .rw[Xb hl]at hf;cases hf
 |_=>rw[show(x.o,x.d).2=_ from hx]at hf;cases hf
def _i9 K (hK:X.K=K<|>Ŕ)(hc:X.calm=true<|>Ŕ):CallR X (.e "dict") (_i1 K):=by subst hK;show _i5 hc
end Q
namespace PySem
section
def _ja(hh:A.ó=none)(it t)(bc:t≠it)(items):Draws prog w A it [it,t] items.M (λi v=>items[i]?=@v) (λi h=>h.IsTupleIter it t i/\h.IsTuple t items) where
 live:=λ_ _ st=>let ⟨o,ho,_⟩:=st.1;#[o,ho]
 frame:=λ_ _ _ st hk=>by
  let#[#[o,ho,r],o2,jh,r2]:=st;show#[#[o,hk it (by simp) o ho,r],o2,hk t (by simp) o2 jh,r2]
 item:=λi s Q E hi st hQ=>by
  let#[fw,ht]:=st;let#[o,ho,hc,hd]:=id fw;let#[o2,jh,oz,n2,iu]:=id ht;let hx:items[i]?=@items[i]:=by simp
  show X0 (Yn (name:=Str.ofString "__next__") fw.typeIs F.slot_tuple_iterator_next (Y8 F.slot_tuple_iterator_next fw.typeIs F.entry_tuple_iterator_next ?_ (F.args_tuple_iterator_next_1 _)));change wpAny _ _ (field (.J it) 0 >>= _) _ _ s;show X0 (Zt ho hd (x:=.J t) rfl (X0 (Zt ho hd (x:=.E i 0) rfl (X0 (Zy jh iu ?_)))));dsimp[Xs,hx];show X0 (Yr ho hd (by simp) (X5 #[items[i],rfl,X5 (hQ _ _ s.ý hx #[#[_,Ye _ ho (Zg (Z8 hd _)),(Obj.cls_mapFields ..).I hc,by rw[Z8 hd];simp[rawInt]],o2,(Zd _ _ (Ne.s bc)).I jh,oz,n2,iu] (Yd ..))]))
 done:=λs Q E st hE=>by
  let#[fw,ht]:=st;let#[o,ho,hc,hd]:=id fw;let#[o2,jh,oz,n2,iu]:=id ht;let hx:items[items.M]?=none:=by simp
  show X0 (Yn (name:=Str.ofString "__next__") fw.typeIs F.slot_tuple_iterator_next (Y8 F.slot_tuple_iterator_next fw.typeIs F.entry_tuple_iterator_next ?_ (F.args_tuple_iterator_next_1 _)));change wpAny _ _ (field (.J it) 0 >>= _) _ _ s;show X0 (Zt ho hd (x:=.J t) rfl ?_);rw[Xb (show ¬((Value.J t==Value.å)=true)from Bool.false_ne_true)];change wpAny _ _ (field (.J it) 1 >>= _) _ _ s;show X0 (Zt ho hd (x:=.E items.M 0) rfl ?_);change wpAny _ _ (seqItems? (.J t) >>= _) _ _ s;show X0 (Zy jh iu ?_);dsimp[Xs,hx];show X0 (Zq (X0 (Yr ho hd (by simp) ?_)));change wpAny _ _ (newExc (.e "StopIteration") [] >>= _) _ _ _;show X0 ?_;dsimp[newExc,newTuple];show X0 (Ya (X0 (m:=firstArgMember _ _) (wpAny_of_eq (a:=Value.å) (by first|rfl|(lia;rfl)) (Ya ?_ (by size_fits)))) (by size_fits));dsimp[raiseNew];show X0 (wpAny_handled ?_)
  first|rw[show A.in1.ó=none from hh]|rw[hh]
  show X0 (X5 (wpAny_throw (hE _ _ (((Yd ..).extBut.ï _).ï _) #[_,Xd _ rfl,rfl])))
#where in
def _jb(t)(items)(n:Nat)(dct:Option Addr)(sl:Array (Option Value)):
  Meets (Builtin.«enumerate.__new__» #[[.e "enumerate",.J t],[]]) (λ_ R s=>s.G.get? t=some {cls:=.e "tuple",dict:=dct,data:=.seq items n,slots:=sl} /\
   R (.ok (.ret (.J (s.G.ï {cls:=.e "tuple_iterator",data:=.fields %[.J t,.E 0 0|0]}).objs.M)))
    {s with heap:=(s.G.ï {cls:=.e "tuple_iterator",data:=.fields %[.J t,.E 0 0|0]}).ï {cls:=.e "enumerate",data:=.fields %[.å,.bool false,.J ↥s,rawInt 0,.å,.å|0]}}):=
 .of_wp λprog w A R s h=>by
  let#[hp,g,d,tk,os]:=s;let#[hl,h]:=h;let dz:=sub_enumerate;let hL:Heap.IsTuple (Shared.G #[hp,g,d,tk,os]) t items:=#[_,hl,rfl,n,rfl]
  wp_walk using AutoSeq1.wpAny_loadPart' hl
  show wpAny_stack_any λst=>X5 ?_
  split
  .revert c _ _ _ _ _;cases(c==Value.e "enumerate") <;>
   .wp_walk using AutoSeq1.wpAny_loadPart' hl,wpAny_pyIter_tuple hL
    show#[_,rfl,h]
  .wp_walk using AutoSeq1.wpAny_loadPart' hl,wpAny_pyIter_tuple hL
   show#[_,rfl,h]
def _jc(hL:s.G.IsTuple t items)
  (h:∀h',IsEnum h' (↥s+1) ↥s 0 .å->h'.IsTupleIter ↥s t 0->h'.objs.M=↥s+2 ->
   (∀b o,s.G.get? b=@o->h'.get? b=@o)->Q (.J (↥s+1)) {s with heap:=h' }):
  wpAny (model prog w) A (call (.e "enumerate") [.J t]) Q E s:=by
 let#[#[c,dct,dt,sl],hl,hc,n,hd]:=hL;subst hc hd;show callType_new F.called_enumerate (by rfl) (F.typeCall_enumerate_1 _) (F.newCall_enumerate_1 _) (λobj=>F.args_object_init_2 obj _) F.entry_enumerate_new (_jb t items n dct sl) #[hl,?_];let hz:(s.G.ï {cls:=.e "tuple_iterator",data:=.fields %[.J t,.E 0 0|0]}).objs.M=↥s+1:=Zp ..;rw[hz];let he:IsEnum ((s.G.ï {cls:=.e "tuple_iterator",data:=.fields %[.J t,.E 0 0|0]}).ï {cls:=.e "enumerate",data:=.fields %[.å,.bool false,.J ↥s,rawInt 0,.å,.å|0]}) (↥s+1) ↥s 0 .å:=by
  let:=Xd (s.G.ï {cls:=.e "tuple_iterator",data:=.fields %[.J t,.E 0 0|0]}) (o:={cls:=.e "enumerate",data:=.fields %[.å,.bool false,.J ↥s,rawInt 0,.å,.å|0]}) rfl;rw[hz]at this;show this
 show#[#[_,he,rfl],h _ he #[_,X4 _ (Xd _ rfl),rfl,rfl] (by rw[Zp,hz]) λb o x=>X4 _ (X4 _ x)]
end
end PySem
namespace Q
open PySem PySem.Spec PyProof.Rows L2 L3
abbrev ItT(K:Frag)(l:Addr):It:=ItE (SqT K · l)
def _jd{P w K elts k1 pos}(n1:e≠it)(n2:l≠e)(n3:l≠it):Turn P w K (.Tuple elts k1 pos) (ItT K l) [e,it] e (λi h=>(∃ca,IsEnum h e it i ca)/\h.IsTupleIter it l i):=
 _hO (K:=K) (IS:=λh ac=>h.IsTuple l ac) n1 n2 (λA hh ac=>_ja hh it l n3 ac) λX a9 s σ H hK I xs q=>by
  subst hK;let#[ac,rv,p,_]:=I.tuple q;show#[#[ac,rv,p],λzs hz=>I.tuple_inj hz q]
abbrev iEnT(K:Frag)(ta:TA):TI:=fun σ H R=>ta σ H λvs H1=>∃l,vs=[.J l]/\(∃xs,SqT K H1 l xs/\(xs.B<=sizeLine->R (ItT K l) H1))
section
def _je K (hg:Gl X "enumerate")(hm:X.mg "enumerate"=none)(ha:PA X [e] ta)(hK:X.K=K<|>Ŕ)
  (hs:starEach [e] X.V=[(false,eval e X.V)]<|>Ŕ):PI X (.Tuple elts k1 lv) (.û (.é "enumerate" p) [e] [] pos) (iEnT K ta):=by
 subst hK;intro a9 s σ H R I h;show Call_ (xQ I hg hm _hQ (Y1 (thn (ha pos a9 s σ H _ I h) λus s1 hz=>?_) (by rw[hs];rfl) rfl));let#[vs,H1,I1,r1,q1]:=hz;let#[l,rfl,xs,q1,q]:=q1;let#[u1,rfl,e1]:=wZ r1;cases e1;let#[gl,nk,p1,mo]:=I1.tuple q1;let lt:l<↥s1:=by let#[_,ee,_]:=p1;show Xh ee
 show _jc p1 λh' g1 g2 gs gk=>?_
 show wpAny_pyIter_enum g1 #[_,[_,↥s1],_,_,H1,rfl,I1.kept (t':=s1.ý) gk,
  _jd (Nat.succ_ne_self _) (Xq (Ze lt)) (Xq lt),#[#[_,g1],g2],λb hb=>?_,q mo]
 let gz:↥s1<=b:=by
  simp at hb;let rfl\/rfl:=hb<;>simp
 show I1.fpOk gz (I1.hok.fresh gz)
def _jf(h:QE X Z q c e)(hg:Gl X "enumerate")(hm:X.mg "enumerate"=none)(hK:X.K=Z.K<|>Ŕ)(hs:starEach [e] X.V=[(false,eval e X.V)]<|>Ŕ):QI X Z q (.Tuple elts k1 lv) (vwr c) (.û (.é "enumerate" p) [e] [] pos):=λa9 s σ H R I am=>ex8 am λE L r m w hc xc k=>by
 show(_je Z.K hg hm (qX h vx hs) hK hs) a9 s σ H R I (VQ m w (show bnd (c E) _=@r from hc) xc λE1 s h1 x L1 H1 e1 e2 m1 w1 st sm=>?_);let#[ds,hd,rfl]:=J8 h1;let#[wT,sT]:=_gs w1 st;cases hx:x.d with
 |tup es=>
  rw[<-e2,hx]at hd;cases _aa hd;let#[a,_,_,ev,_]:=items w1.head (.Z hx);let ag:=_gr (K:=Z.K) hx ev;let#[xs,bs,q3,r3,_]:=ag H1 (xZ w1.head);show#[a,by rw[ev],xs,q3,λai=>k _ _ rfl (ItT Z.K a) [x.let] L1 H1 m1 wT sT (by rw[_hS,r3.len];show ai) (λhq=>(sm hq).1) (_hX ag)]
 |_=>rw[<-e2,hx]at hd;cases hd
end
def _jg:∀{ds} {i:Nat} {d},D.pures ds=true->ds[i]?=@d->d.pure=true
 |[],_,_,_,h=>by simp at h
 |a::ds,0,d,h,e=>by
  let e:a=d:= ~~~e
  subst e;unfold D.pures at h;rw[Bool.æ]at h;show h.1
 |a::ds,i+1,d,h,e=>by
  unfold D.pures at h;rw[Bool.æ]at h;show _jg h.2 (~~~e)
def _jh(h:PE X e (vX i))(hK:X.K=Z.K<|>Ŕ):QIS X Z true tg (itV i) e:=λa9 s σ H R I am=>ex8 am λE L r m w hc xc k=>by
 show(hK▸_gp h) a9 s σ H R I ?_;unfold itV at hc;cases hE:E[i]? with
 | none=>rw[hE]at hc;cases hc
 | some s0=>
  cases s0 with
  | none=>rw[hE]at hc;cases hc
  | some s0=>
   let#[oo,dd]:=s0;rw [hE]at hc;cases dd with
   | lst ds=>
    dsimp only at hc
    by_cases hp:D.pures ds=true
    .rw[X7 hp]at hc;cases _aa hc;let#[x,a1,a2,a3,a4]:=m.get hE;let qh:=w.ok x (vQ a1);let#[a,xs,bs,ev,q3,r3,h3,_]:=items qh (.O a3);let q3:LsR Z.K H a xs:=by let#[_,z]\/#[z,_]:=q3;show z;rw[a3]at z;cases z
     let again:∀H2,kj H H2->∃g ys cs,SqL Z.K H2 a ys/\RepA Z.K H2 g ds ys cs:=λH2 hs=>by
      let#[a',ys,cs,va,q4,r4,h4,_]:=items (RepO.kp qh (Kp.of_same hs):x.ok Z.K H2) (.O a3);let:a'=a:=by let:=va.s.I ev;show V.J.inj this
      subst this;let#[_,z]\/#[z,_]:=q4
      .show#[_,ys,cs,z.sq,r4]
      .symm
     show#[x.v,a4,.O #[a,xs,ev,q3.sq,λai=>k _ _ rfl _ [] L H m (by rw[List.map_nil,Xz];show w) (by rw[List.map_nil,Xz];show Step.ñ) (r3.len▸ai) (λ_=>xq) #[λt ht=>(nomatch ht),λj H2 _ hs hj=>?_,λH2 _ hs=>?_,λj H2 v H3 d _ hs hy fh=>?_]]]
     .let#[g,ys,cs,s1,s2]:=again H2 (hs rfl);let hl:=s2.len;show#[ys,ys[j]'_,s1,X1 (by symm)]
     .let#[g,ys,cs,s1,s2]:=again H2 (hs rfl);show#[ys,s1,by rw[s2.len];show Xa _]
     .let#[g,ys,cs,s1,s2]:=again H2 (hs rfl);let#[e3,hy]:=hy;subst e3;let#[v',bf,f1,f2,f3]:=s2.get fh;let:v'=v:=by let:=hy ys s1;rw[f1]at this;show _aa this
      subst this;show#[#[.x,d,v',[]],rfl,rfl,rfl,xq,(RepL.pu (g':=true) f2 (_jg hp fh)).2,λb hb=>(nomatch hb)]
    .rw[Xb hp]at hc;cases hc
   |_=>cases hc
def _ji{K}{x:Sl}(ok:x.ok K H)(ht:KK x.sd=true)(nd:x.ì.U):∃cs,RepL K H false x.d x.v cs/\(∀a>cs,a>x.ì)/\cs.U:=by
 let#[o,d,v,as]:=x;unfold KK at ht;rw [Bool.or_eq_true]at ht;let ht\/ht:=ht
 .unfold qz at ht;rw[Bool.or_eq_true]at ht;let ht\/ht:=ht
  .let ho:o=.dp:=by
    cases o with|dp=>rfl|no=>cases ht|rt=>cases ht
   subst ho;show#[as,ok,λa h=>h,nd]
  .let#[_,r]:=RepL.pu (g':=false) (RepO.wk ok) ht;show#[[],r,λ_ h=>(nomatch h),Y7]
 .rw[Bool.æ]at ht;let ho:o=.rt:=by
   let ht:(o==Own.rt)=true:=ht.1;cases o with|rt=>rfl|no=>cases ht|dp=>cases ht
  subst ho;cases d with
  | lst ds=>
   let#[a,xs,bs,e,r,h,e2]:=(show RepR K H (.L ds) v as from ok);let#[_,r2]:=RepA.pu (g':=false) r ht.2;show#[[a],?_,λb hb=>?_,by simp]
   .show#[a,xs,[],e,r2,.O #[h,rfl]]
   .rw[aC hb,e2];show X2
  |_=>symm
def _jj{K}(w:World K H (T++L))(hy:L[i]?=some @y)(hH:H l=@(qZ l es ep))(ho:y.o=.dp)(ha:y.as=l::bs)(hv:y.v=.J l)
  (r:RepP K H false kvs' xs' cs) (hc:∀a>cs,a>bs\/a>j7 T) (pq:cs.U) (hs:(l==sysModules)=false) (h2:es'.B<=sizeLine) (h3:(es'.C (·.1)).U) (h4:kvs'.C (·.1)=es'.C (·.1.1)) (h5:∀n>es',PuR K H n.1.1 (.J n.2.1)) (h6:Vals xs' (es'.C (·.2.2))):
  World K (upd H l (qZ l es' ep')) (L.u i @#[.dp,.dct kvs',y.v,l::cs])/\Step H (T++L) (upd H l (qZ l es' ep')) (L.u i @#[.dp,.dct kvs',y.v,l::cs]):=by
 let ey:y.ì=l::bs:=by ext Sl.ì;rw[ho,ha]
 let hl:l>y.ì:=by rw[ey];show X2
 let oL:=mem_owned.y #[y,vQ hy,hl];let nd:=w.nd;rw[k5,X9]at nd;let nT:=λz=>nd.2.2 l z l oL rfl
 let yn:y.ì.U:=by
  let#[A,B,e,_]:=W0 hy;let:=nd.2.1;rw[e,k5,X9]at this;show(List.nodup_append.mp this.2.1).1
 let nb:l∉bs:=by rw[ey]at yn;show(List.ú.mp yn).1
 let nc:l∉cs:=λz=>by
  let q\/q:=hc l z
  .show nb q
  .show nT q
 let kp:Kp H (upd H l (qZ l es' ep')) cs:=by
  let k2:∀a o,H a=@o->a≠l->upd H l (qZ l es' ep') a=@o:=λa o e ne=>by rw[qj ne];show e
  show#[λa zs e=>k2 a _ e λz=>?_,λa o u e=>k2 a _ e λz=>?_,λa ha o e=>k2 a o e λz=>nc (z▸ha)]
  .subst z;rw[hH]at e;cases e
  .subst z;rw[hH]at e;cases e
 show World.writeAt w hy hl (y':=_) ?_ (List.ú.y #[nc,pq]) (λa h=>?_) (λa h=>by simp[Sl.ÿ]at h) (λa h z=>by simp[Sl.ÿ]at z)
 .show#[l,xs',cs,hv,r.kp kp,.O #[es',ep',wj,hs,h2,h3,h4,λn hn=>PuR.kp kp (h5 n hn),h6],rfl]
 .let rfl\/h:=aD h
  .show .O hl
  .let q\/q:=hc a h
   .symm
   .show .Z q
section
def _jk (hu:X.A.â+64<cLine) (hK:X.K=Z.K) (ho:PE X o (vX i)) (hk:QV X Z true kc ke) (hv:QE X Z q vc ve) (hs:swapsWith ve @(.Subscript o ke bw) pos.line X.V=pure false<|>Ŕ):
  QS X Z pn (_hh i kc vc) (.Assign [.Subscript o ke bw] ve pos):=z0 (_ii hu ho hk hv hs) λD σ H am=>ex7 am λE L r m w hr k=>
 QQ m w hr k λE1 s1 h1 x L1 H1 e1 e2 m1 w1 jg _=>by
  by_cases hd:_hg E1[i]?=true
  .rw [X7 hd]at h1;obtain ⟨s0,hd0⟩:∃s0,E1[i]?=@(@s0):=by
    cases h0:E1[i]? with
    | none=>rw[h0]at hd;cases hd
    | some s0=>
     cases s0 with| none=>rw[h0]at hd;cases hd| some s0=>show#[s0,rfl]
   let#[y0,a1,a2,a3,a4]:=m1.get hd0;show #[y0.v,a4,?_];let stL:=jg.I Step.drop;let#[E2,ky,ma,gh]\/#[E2,c,ma,rfl]:=_eF h1
   .show #[E1,L1,_,m1,w1.tail,ma,(λ_ _ z=>by cases z),λE' s' z zk L2 H2 f1 f2 m2 w2 sf frz _ bv sm=>?_];injection z with z1 z2;subst z1 z2;cases hE:E2[i]? with
    | none=>rw[hE]at gh;cases gh
    | some s2=>
     cases s2 with
     | none=>rw[hE]at gh;cases gh
     | some s2=>
      let#[oo,dd]:=s2;rw [hE]at gh;cases oo with
      | no=>cases dd<;>cases gh| rt=>cases dd<;>cases gh
      | dp =>
       cases dd with
       | dct ab=>
        dsimp only at gh
        by_cases hc:kZ ky.2=true/\ab.B<big/\unm ab=true/\KK s1=true/\ky.2∉ab.C (·.1)
        .rw[X7 hc]at gh;cases _aa gh;let#[y,b1,b2,b3,b4]:=m2.get hE;let hyv:y.v=y0.v:=by rw[a4]at b4;show(_aa (_aa b4)).s
         let#[w3,ft]:=XQ (T:=[@x]) w1 bv w2;let ud:=w2.ok y (vQ b1);let#[yo,yd,yv,yas]:=y;dsimp only at b2 b3 hyv;subst b2 b3;let ud:RepL Z.K H2 false (.dct ab) yv yas:=ud;let#[a,xs,bs,e4,rp,q4,e5]:=ud;let#[es,ep,g1,g2,g3,g4,g5,g6,g7]:=DcA.un q4 hc.2.2.1;let hkz:kZ zk.d=true:=by rw[f2];show hc.1
         let#[b,eb,pb]:=_ia sf hkz;let lg:jX 6 zk.d=true:=by unfold kZ at hkz;rw[Bool.æ]at hkz;show hkz.1
         let ai:es.B<sizeLine:=by
          let:=congrArg List.B g5;rw[X3,X3]at this;rw[<-this];show hc.2.1
         let xn:x.ì.U:=by
          let:=w3.nd;show(List.nodup_append.mp this).1
         let#[cs,rx,lc,pq]:=_ji (w3.ok x X2) (by ext Sl.sd;rw[e1,e2];show hc.2.2.2.1) xn;rw[e2]at rx;show#[a,b,#[zk.d,lg],es,ep,hyv▸e4,eb,g1,g3,g4,by rw[hK];show g6,by rw[hK];show pb,λrr ep' hrr=>?_];let wo:atKey es (#[zk.d,lg]:Kd)=none:=by
          let hm:=_h2 es (#[zk.d,lg]:Kd);rw[<-g5,Xk (show zk.d∉ab.C (·.1)by rw[f2];show hc.2.2.2.2)]at hm;cases h:atKey es (#[zk.d,lg]:Kd)with|none=>rfl|some p=>rw[h]at hm;cases hm
         let b9:∀a>cs,a>j7 [@x]:=λa h=>by rw[jz];show _ac _ (lc a h)
         let hbn:(bs++cs).U:=by
          let nd:=w3.nd;rw[k5,X9]at nd;let yb:∀a>bs,a>j7 L2:=λa h=>mem_owned.y #[_,vQ b1,by change a>yas;rw[e5];show _ad _ h]
          let yn:yas.U:=by
           let#[A,B,e,_]:=W0 b1;let:=nd.2.1;rw[e,k5,jz,X9]at this;show(List.nodup_append.mp this.2.1).1
          rw[e5]at yn;rw[X9];show#[(List.ú.mp yn).2,pq,λp hp q hq e=>nd.2.2 q (b9 q hq) p (yb p hp) e.s]
         rw[storedH_new wo];let#[w4,mn]:=_jj (ep':=ep') (T:=[@x]) (i:=i) (y:=#[.dp,.dct ab,yv,yas]) (es':=es++[(#[zk.d,lg],b,rr)]) (xs':=xs++[x.v]) (cs:=bs++cs) (kvs':=ab++[(zk.d,s1.2)]) w3 b1 g1 rfl e5 e4
          (_if rx rp) (λa h=>(aA h).imp id (b9 a)) hbn g2 (by rw[Xj,Xy];omega) (by
           rw[Xl,X9];show#[g4,List.ú.y #[Zb,Y7],λp hp' q hq e=>?_];let:q=#[zk.d,lg]:=aC hq;subst this e;let#[n,yh,qr]:=aE hp';show hc.2.2.2.2 (by rw[g5,<-f2];show List.mem_map.y #[n,yh,by rw[qr]])) (by rw[Xl,Xl,g5];rfl) (λn hn'=>by
           let z\/z:=aA hn'
           .show g6 n z
           .rw[aC z];show pb) (by rw[Xl];show _ig g7 hrr)
         let om:Step H L _ _:=(jg.I ft).I mn;show k σ _ _ Pn.ñ ?_ w4 om;let:=m2.u (x:=#[.dp,.dct (ab++[(zk.d,s1.2)]),yv,a::(bs++cs)]) i;rw[J4 b4]at this;rw[<-f2];show this
        .rw[Xb hc]at gh;cases gh
       |_=>cases gh
   .show#[E1,L1,_,m1,w1.tail,ma,(λE' c' e C L' H' hm m' w' st=>by injection e with z1 z2;subst z1 z2;show k C σ L' H' hm Pn.ñ m' w' (stL.I st)),λE' s' z=>by cases z]
  .rw[Xb hd]at h1;cases h1
end
def PV(K:Frag)(H:Hp):List Nat->D->V->V->Prop
 |[],_,v,u=>u=v|n::p,.X ds,v,u=>∃a xs x d,v=.J a/\SqT K H a xs/\xs[n]?=@x/\(ds[n]?=@d/\xs.B=ds.B)/\PV K H p d x u|n::p,.L ds,v,u=>∃a xs x d,v=.J a/\H a=@(.L xs)/\xs[n]?=@x/\(ds[n]?=@d/\xs.B=ds.B)/\PV K H p d x u|_::_,_,_,_=>False
section
variable {K:Frag}{H:Hp}
structure Kx (H H':Hp)(as bs:List Addr):Prop where
 tup:∀a xs,H a=@(.X xs)->H' a=@(.X xs)
 frz:∀a o u,H a=@(.ÿ o u)->H' a=@(.ÿ o u)
 out:∀b>as,b∉bs->∀ob,H b=@ob->H' b=@ob
def Kx.kp(k:Kx H H' as bs)(h:∀b>cs,b>as/\b∉bs):Kp H H' cs:=#[k.X,k.ÿ,λa ha=>k.out a (h a ha).1 (h a ha).2]
def RepA.hole:∀{n:Nat} {ds:List D} {xs:List V} {as:List Addr} {dn:D},RepA K H false ds xs as->as.U->ds[n]?=@dn->∃x bs,xs[n]?=@x/\RepL K H false dn x bs/\bs.U/\(∀b>bs,b>as) /\
  ∀ (H':Hp) (xf:D) (bf:List Addr),Kx H H' as bs->RepL K H' false xf x bf->bf.U->(∀b>as,b∉bs->b∉bf)->∃dv,RepA K H' false (ds.u n xf) xs dv/\dv.U/\∀b>dv,(b>as/\b∉bs)\/b>bf:=by
 intro n ds
 induction ds generalizing n with
 | nil=>intro xs as dn _ _ e;simp at e
 | cons d ds ih=>
  intro xs as dn h nd e;cases n with
  | zero=>
   let e:d=dn:= ~~~e
   subst e;unfold RepA at h;let#[x,r,bs,es,rfl,rfl,h1,h2]:=h;rw[X9]at nd;show#[x,bs,rfl,h1,nd.1,λb hb=>_ac _ hb,λH' xf bf kx r' km hd=>?_];let he:∀b>es,b>bs++es/\b∉bs:=λb hb=>#[_ab _ hb,λz=>nd.2.2 b z b hb rfl]
   show#[bf++es,?_,?_,λb hb=>?_]
   .rw[List.ö];ext RepA;show#[x,r,bf,es,rfl,rfl,r',h2.kp (kx.kp he)]
   .rw[X9];show#[km,nd.2.1,λa ha b hb il=>?_];subst il;show hd a (he a hb).1 (he a hb).2 ha
   .let z\/z:=aA hb
    .show .Z z
    .show .O (he b z)
  | succ n=>
   unfold RepA at h;let#[x,r,bs,es,rfl,rfl,h1,h2]:=h;rw[X9]at nd;let#[y,fs,q1,q2,q3,q4,q5]:=ih (n:=n) h2 nd.2.1 (~~~e);let hb:∀b>bs,b>bs++es/\b∉fs:=λb hb=>#[_ac _ hb,λz=>nd.2.2 b hb b (q4 b z) rfl]
   show#[y,fs,~~~q1,q2,q3,λb hb=>_ab _ (q4 b hb),λH' xf bf kx r' km hd=>?_];let#[dv,a1,a2,a3]:=q5 H' xf bf #[kx.X,kx.ÿ,λb hb=>kx.out b (_ab _ hb)] r' km (λb hb=>hd b (_ab _ hb));show#[bs++dv,?_,?_,λb qu=>?_]
   .rw[List.ø];ext RepA;show#[x,r,bs,dv,rfl,rfl,h1.kp (kx.kp hb),a1]
   .rw[X9];show#[nd.1,a2,λa ha b qu il=>?_];subst il;let z\/z:=a3 a qu
    .show nd.2.2 a ha a z.1 rfl
    .show hd a (hb a ha).1 (hb a ha).2 z
   .let z\/z:=aA qu
    .show .O (hb b z)
    .show(a3 b z).imp (λz=>#[_ab _ z.1,z.2]) id
#where in
def RepL.hole:∀{p:List Nat} {d d1:D} {v:V} {as:List Addr},RepL K H false d v as->as.U->D.at p d=@d1->∃v1 fv,PV K H p d v v1/\RepL K H false d1 v1 fv/\fv.U/\(∀b>fv,b>as) /\
  ∀ (H':Hp) (d':D) (bf:List Addr),Kx H H' as fv->RepL K H' false d' v1 bf->bf.U->(∀b>as,b∉fv->b∉bf)->∃dv,RepL K H' false (D.put d' p d) v dv/\dv.U/\∀b>dv,(b>as/\b∉fv)\/b>bf:=by
 intro p
 induction p with
 | nil=>
  intro d d1 v as h nd e;cases _aa (show @d=@d1 from e);show#[v,as,rfl,h,nd,λ_ h=>h,λH' d' bf kx r' km hd=>#[bf,r',km,λb hb=>.Z hb]]
 | cons n p ih=>
  intro d d1 v as h nd e;cases d<;>first|(cases e;done)|skip
  .revert ds;unfold D.at at e;cases hn:ds[n]? with
   | none=>rw[hn]at e;cases e
   | some dn=>
    rw[hn]at e;unfold RepL at h;let#[a,xs,e1,sq,ra]:=h;let#[x,bs,q1,q2,q3,q4,q5]:=RepA.hole ra nd hn;let#[v1,fv,p1,p2,p3,p4,p5]:=ih q2 q3 e;show#[v1,fv,#[a,xs,x,dn,e1,sq,q1,#[hn,ra.len.s],p1],p2,p3,λb hb=>q4 b (p4 b hb),λH' d' bf kx r' km hd=>?_];let#[cs,c1,c2,c3]:=p5 H' d' bf #[kx.X,kx.ÿ,λb hb=>kx.out b (q4 b hb)] r' km (λb hb=>hd b (q4 b hb));let#[dv,a1,a2,a3]:=q5 H' _ cs #[kx.X,kx.ÿ,λb hb hn=>kx.out b hb λz=>hn (p4 b z)] c1 c2 (λb hb hn z=>by
     let z\/z:=c3 b z
     .show hn z.1
     .show hd b hb (λz=>hn (p4 b z)) z)
    show#[dv,?_,a2,λb hb=>?_]
    .ext D.put;rw[hn];right;ext RepL;show#[a,xs,e1,Kp.tupT (as:=[]) #[kx.X,kx.ÿ,nofun] sq,a1]
    .let z\/z:=a3 b hb
     .show .O #[z.1,λy=>z.2 (p4 b y)]
     .show(c3 b z).imp (λz=>#[q4 b z.1,z.2]) id
  .revert ds;unfold D.at at e;cases hn:ds[n]? with
   | none=>rw[hn]at e;cases e
   | some dn=>
    rw[hn]at e;unfold RepL at h;let#[a,xs,fs,e1,ra,sq]:=h;let#[sq,rfl]\/#[z,_]:=sq
    rotate_left
    .cases z
    rw[Yh]at nd;let#[x,bs,q1,q2,q3,q4,q5]:=RepA.hole ra nd.2 hn;let#[v1,fv,p1,p2,p3,p4,p5]:=ih q2 q3 e;let ha1:a∉fv:=λz=>nd.1 (q4 a (p4 a z))
    show#[v1,fv,#[a,xs,x,dn,e1,sq,q1,#[hn,ra.len.s],p1],p2,p3,λb hb=>_ad _ (q4 b (p4 b hb)),λH' d' bf kx r' km hd=>?_];let#[cs,c1,c2,c3]:=p5 H' d' bf #[kx.X,kx.ÿ,λb hb=>kx.out b (_ad _ (q4 b hb))] r' km (λb hb=>hd b (_ad _ (q4 b hb)));let#[dv,a1,a2,a3]:=q5 H' _ cs #[kx.X,kx.ÿ,λb hb hn=>kx.out b (_ad _ hb) λz=>hn (p4 b z)] c1 c2 (λb hb hn z=>by
     let z\/z:=c3 b z
     .show hn z.1
     .show hd b (_ad _ hb) (λz=>hn (p4 b z)) z)
    let h3:∀b>dv,(b>fs/\b∉fv)\/b>bf:=λb hb=>by
     let z\/z:=a3 b hb
     .show .O #[z.1,λy=>z.2 (p4 b y)]
     .show(c3 b z).imp (λz=>#[q4 b z.1,z.2]) id
    show#[a::dv,?_,List.ú.y #[λz=>?_,a2],λb hb=>?_]
    .ext D.put;rw[hn];right;ext RepL;show#[a,xs,dv,e1,a1,.O #[kx.out a X2 ha1 _ sq,rfl]]
    .let z\/z:=h3 a z
     .show nd.1 z.1
     .show hd a X2 ha1 z
    .let rfl\/hb:=aD hb
     .show .O #[X2,ha1]
     .show(h3 b hb).imp (λz=>#[_ad _ z.1,z.2]) id
def xX{y:Sl}(h:y.o=.dp):y.ì=y.as:=by ext Sl.ì;rw[h]
def World.holeG{L:Ls}{Pv:V->Prop}{pt:D->D}(w:World K H (@y::L))(ho:y.o=.dp)(h:RepL K H false y.d y.v y.as->y.as.U->∃v1 fv,Pv v1/\RepL K H false d1 v1 fv/\fv.U/\(∀b>fv,b>y.as) /\
  ∀ (H':Hp) (d':D) (bf:List Addr),Kx H H' y.as fv->RepL K H' false d' v1 bf->bf.U->(∀b>y.as,b∉fv->b∉bf)->∃dv,RepL K H' false (pt d') y.v dv/\dv.U/\∀b>dv,(b>y.as/\b∉fv)\/b>bf):∃y1:Sl,y1.o=.dp/\y1.d=d1/\Pv y1.v/\World K H (@y1::L) /\
  ∀ (He:Hp) (Le:Ls) (z:Sl),World K He (@z::Le)->Step H (@y1::L) He (@z::Le)->z.o=.dp->z.v=y1.v->∃y':Sl,y'.o=.dp/\y'.d=pt z.d/\y'.v=y.v/\World K He (@y'::Le)/\Step H (@y::L) He (@y'::Le):=by
 let ok:RepL K H false y.d y.v y.as:=by
  let:=w.ok y X2;unfold Sl.ok at this;rw[ho]at this;show this
 let nd:=w.nd;rw [jz,xX ho,X9]at nd;let ds:=w.ds;let#[v1,fv,p1,p2,p3,p4,p5]:=h ok nd.1;let al:∀b>y.as,H b≠none:=λb hb z=>by
  let#[_,q]\/#[_,q]\/#[_,q]:=w.own_al (a:=b) (by rw[jz,xX ho];show _ac _ hb)<;>· rw[z]at q;cases q
 show#[#[.dp,d1,v1,fv],rfl,rfl,p1,#[λx hx=>?_,?_,λa ha=>?_],λHe Le z wz st zo zv=>?_]
 .let e\/hx:=aD hx
  .cases e;show p2
  .show w.ok x (_ad _ hx)
 .rw[jz,X9];show#[p3,nd.2.1,λa ha b hb=>nd.2.2 a (p4 a ha) b hb]
 .let ha2:a>j7 (@y::L):=by
   rw[jz]at ha ⊢;let ha\/ha:=aA ha
   .show _ac _ (by rw[xX ho];show p4 a ha)
   .show _ab _ ha
  let:=ds a ha2;rw[v4]at this ⊢;intro q;let q\/q:=aA q
  .cases q
  .show this (_ab _ q)
 .let sf:RepL K He false z.d v1 z.as:=by
   let:=wz.ok z X2;unfold Sl.ok at this;rw[zo,zv]at this;show this
  let ndz:=wz.nd;rw[jz,xX zo,X9]at ndz;let no1:∀b>y.as,b∉fv->b∉j7 (@(#[.dp,d1,v1,fv]:Sl)::L):=λb hb hn q=>by
   rw[jz]at q;let q\/q:=aA q
   .show hn q
   .show nd.2.2 b hb b q rfl
  let noz:∀b>y.as,b∉fv->b∉j7 (@z::Le):=λb hb hn q=>by
   let q\/q:=st.ì b q
   .show no1 b hb hn q
   .show al b hb q
  let nof:∀b>y.as,b∉fv->b∉jW Le:=λb hb hn q=>by
   let q\/q\/q:=st.ÿ b (by rw[v4];show _ab _ q)
   .rw[v4]at q;let q\/q:=aA q
    .cases q
    .show ds b (by rw[jz,xX ho];show _ac _ hb) (by rw[v4];show _ab _ q)
   .show no1 b hb hn q
   .show al b hb q
  let tupk:∀a xs,H a=@(.X xs)->He a=@(.X xs):=λa xs e=>st.keep a _ e λq=>by
   let q2:a>j7 (@y::L):=by
    rw[jz]at q ⊢;show List.mem_append.y ((aA q).imp (λq=>by rw[xX ho];show p4 a q) id)
   let#[_,q]\/#[_,q]\/#[_,q]:=w.own_al q2<;>· rw[e]at q;cases q
  let frzk:∀a o u,H a=@(.ÿ o u)->He a=@(.ÿ o u):=λa o u e=>st.keep a _ e λq=>by
   let q2:a>j7 (@y::L):=by
    rw[jz]at q ⊢;show List.mem_append.y ((aA q).imp (λq=>by rw[xX ho];show p4 a q) id)
   let#[_,q]\/#[_,q]\/#[_,q]:=w.own_al q2<;>· rw[e]at q;cases q
  let#[dv,a1,a2,a3]:=p5 He z.d z.as #[tupk,frzk,λb hb hn ob e=>st.keep b ob e (no1 b hb hn)] sf ndz.1 (λb hb hn q=>noz b hb hn (by rw[jz,xX zo];show _ac _ q));let sub:∀b>j7 (@z::Le),b>j7 (@y::L)\/H b=none:=λb hb=>(st.ì b hb).imp (λq=>by
   rw[jz]at q ⊢;show List.mem_append.y ((aA q).imp (λq=>by rw[xX ho];show p4 b q) id)) id
  show#[#[.dp,pt z.d,y.v,dv],rfl,rfl,rfl,#[λx hx=>?_,?_,λa ha q=>?_],#[λa ob e hn=>st.keep a ob e λq=>hn ?_,λa ha=>?_,λa ha=>?_]]
  .let e\/hx:=aD hx
   .cases e;show a1
   .show wz.ok x (_ad _ hx)
  .rw[jz,X9];show#[a2,ndz.2.1,λa ha b hb il=>?_];subst il;let q\/q:=a3 a ha
   .show noz a q.1 q.2 (by rw[jz];show _ab _ hb)
   .show ndz.2.2 a q a hb rfl
  .let q:a>jW Le:=by
    rw[v4]at q;let q\/q:=aA q
    .cases q
    .show q
   rw[jz]at ha;let fz:a>jW (@z::Le):=by rw[v4];show _ab _ q
   let ha\/ha:=aA ha
   .let r\/r:=a3 a ha
    .show nof a r.1 r.2 q
    .show wz.ds a (by rw[jz,xX zo];show _ac _ r) fz
   .show wz.ds a (by rw[jz];show _ab _ ha) fz
  .rw[jz]at q ⊢;show List.mem_append.y ((aA q).imp (λq=>by rw[xX ho];show p4 a q) id)
  .rw[jz]at ha;let ha\/ha:=aA ha
   .let q\/q:=a3 a ha
    .show .O (by rw[jz,xX ho];show _ac _ q.1)
    .show sub a (by rw[jz,xX zo];show _ac _ q)
   .show sub a (by rw[jz];show _ab _ ha)
  .let q:a>jW Le:=by
    rw[v4]at ha;let q\/q:=aA ha
    .cases q
    .show q
   let r\/r\/r:=st.ÿ a (by rw[v4];show _ab _ q)
   .show .O ?_;rw[v4]at r ⊢;let r\/r:=aA r
    .cases r
    .show _ab _ r
   .show .Z (.O ?_);rw[jz]at r ⊢;show List.mem_append.y ((aA r).imp (λq=>by rw[xX ho];show p4 a q) id)
   .show .Z (.Z r)
def World.hole(w:World K H (@y::L))(ho:y.o=.dp)(h:D.at p y.d=@d1):∃y1:Sl,y1.o=.dp/\y1.d=d1/\PV K H p y.d y.v y1.v/\World K H (@y1::L) /\
  ∀(He:Hp) (Le:Ls) (z:Sl),World K He (@z::Le)->Step H (@y1::L) He (@z::Le)->z.o=.dp->z.v=y1.v->∃y':Sl,y'.o=.dp/\y'.d=D.put z.d p y.d/\y'.v=y.v/\World K He (@y'::Le)/\Step H (@y::L) He (@y'::Le):=
 w.holeG (Pv:=PV K H p y.d y.v) (pt:=λd=>D.put d p y.d) ho λok nd=>RepL.hole ok nd h
end
abbrev tP(K:Frag)(i:Nat)(p:List Nat):TE:=fun σ H Q=>∃d v u,σ[i]?=some @v/\PV K H p d v u/\Q u H
section
def _jl K (h:PE X e (vX i)):PE X e (tP K i []):=qv h fun σ H Q hz=>by
 let#[d,v,u,hv,hu,q]:=hz;subst hu;show#[u,hv,q]
def _jm{K}(w:World K H L)(h:L[i]?=some @y):World K H (@y::L.u i none)/\Step H L H (@y::L.u i none):=by
 let wn:World K H (none::L):=#[λy hy=>w.ok y (~~~hy),~~~w.nd,~~~w.ds];let sn:Step H L H (none::L):=#[λ_ _ z _=>z,λa z=>.O (~~~z),λa z=>.O (~~~z)];show#[wn.perm (_ea h),sn.I (Step.ñ.perm (List.ä.ñ _) (_ea h))]
def _jn{K}{x:Sl}(ok:x.ok K H)(h:x.d.pure=true):RepL K H false x.d x.v []:=(RepL.pu (g':=false) (RepO.wk ok) h).2
def _jo(h:H l=@(.L xs))(hn:l∉as):Kp H (upd H l ob) as:=by
 let ke:∀a o,H a=@o->a≠l->upd H l ob a=@o:=λa o e ne=>by rw[qj ne];show e
 show#[λa xs e=>ke a _ e λz=>?_,λa o u e=>ke a _ e λz=>?_,λa ha o e=>ke a o e λz=>hn (z▸ha)]
 .symm
 .symm
def World.app{K ds}(w:World K H (@y::@x::M))(ho:y.o=.dp)(hd:y.d=.L ds)(hp:x.d.pure=true):∃l xs,y.v=.J l/\H l=@(.L xs)/\xs.B=ds.B /\
  ∃z,z.o=.dp/\z.d=.L (ds++[x.d])/\z.v=y.v/\World K (upd H l (.L (xs++[x.v]))) (@z::M)/\Step H (@y::@x::M) (upd H l (.L (xs++[x.v]))) (@z::M):=by
 let#[l,xs,bs,c1,c2,c3,c4,c5]:=W2 (w.ok y X2) hd ho;let nd:=w.nd;rw[jz,X9,c4,Yh]at nd;show#[l,xs,c1,c2,c5.len.s,#[.dp,.L _,y.v,l::bs],rfl,rfl,rfl,World.write (T:=[@x]) w (c4▸X2) ?_ (List.ú.y nd.1) (λa ha=>.O (c4▸ha)) (nofun) (nofun)];let hr:=RepA.snoc ((_jn (w.ok x (_ad _ X2)) hp).kp (_jo c2 (nofun))) (c5.kp (_jo (ob:=.L (xs++[x.v])) c2 nd.1.1));rw[Xz]at hr;show#[l,_,bs,c1,hr,.O #[wj,rfl]]
def World.clr{K ds}(w:World K H (@y::M))(ho:y.o=.dp)(hd:y.d=.L ds):∃l xs,y.v=.J l/\H l=@(.L xs) /\
  ∃z,z.o=.dp/\z.d=.L []/\z.v=y.v/\World K (upd H l (.L [])) (@z::M)/\Step H (@y::M) (upd H l (.L [])) (@z::M):=by
 let#[l,xs,bs,c1,c2,c3,c4,c5]:=W2 (w.ok y X2) hd ho;show#[l,xs,c1,c2,#[.dp,.L [],y.v,[l]],rfl,rfl,rfl,World.write (T:=[]) w (c4▸X2) ?_ (by simp[Sl.ì]) (λa ha=>.O ?_) (nofun) (nofun)]
 .show#[l,[],[],c1,#[rfl,rfl],.O #[wj,rfl]]
 .rw[c4,aC ha];show X2
def _jp{K}(h:H l=@(.L xs)):tyV K "list" (.J l) H:=.O #[rfl,xs,.O (.O h)]
#where in
def q_pc(hP:PE X ep (tP Z.K i p))(hK:X.K=Z.K<|>Ŕ)(hm:MtR X "list.clear" _b8)
  (aw:attributeBase ep "clear" X.V (eval ep X.V)=eval ep X.V<|>Ŕ) (av:Abe aq aj<|>Ŕ)
  (jt:swapsWith (.û (.ù ep "clear" aq) [] [] aj) none fi.line X.V=pure false<|>Ŕ):
  QS X Z pn (sPC i p) (.Expr (.û (.ù ep "clear" aq) [] [] aj) fi):=
 z0 (ZY (_dc Z.K Yw PySem.F.slot_list_clear PySem.F.type_list_clear hm hP aw av hK) jt) λDe σ H am=>ex7 am λE L r m w dh k=>by
 unfold sPC at dh
 split at dh
 rotate_left
 .cases dh
 revert d hE
 split at dh
 rotate_left
 .cases dh
 revert ds nj;cases _aa dh;let#[y,a1,a2,a3,a4]:=m.get hE;let#[w0,s0]:=_jm w a1;let#[y1,b1,b2,b3,b4,b5]:=w0.hole a2 (a3▸nj);let#[l,xs,c1,c2,z,z1,z2,z3,z4,z5]:=World.clr b4 b1 b2;show#[y.d,y.v,y1.v,a4,b3,by rw[c1];show _jp c2,?_];let#[y',g1,g2,g3,g4,g5]:=b5 _ _ z z4 z5 z1 z3;show#[l,xs,c1,rfl,c2,?_];let mm:=VV (i:=i) (s:=(.dp,Q.D.put _ p d)) (_d9 i m) g1 (by rw[g2,z2,a3]);rw[g3,J4 a4,List.set_set]at mm;show k σ _ _ Pn.ñ mm g4.u (s0.I (g5.I Step.u))
def _jq:∀{E σ} {L} j,Mt E σ L->Mt (E.u j none) (σ.u j u) (L.u j none):=by
 intro E σ L j m
 induction m generalizing j with
 |nil=>show .nil
 |un m ih=>cases j with|zero=>show .un m|succ j=>show .un (ih j)
 |cons m ih=>cases j with|zero=>show .un m|succ j=>show .ê (ih j)
def World.out1{K} r (w:World K H L):World K H (L.u r none)/\Step H L H (L.u r none):=by
 cases h:L[r]? with
 | none=>
  rw[show L.u r none=L from List.set_eq_of_length_le (~~~h)];show#[w,Step.ñ]
 | some q=>
  cases q with
  |none=>
   rw[J4 h];show#[w,Step.ñ]
  |some y=>
   let#[w1,s1]:=_jm w h;show#[w1.tail,s1.I Step.drop]
#where in
def _jr(hc:QE X Z q c e):QE X Z q (_hi c) e:=qv hc fun σ H Q am=>ex8 am λE L r m w hr xc k=>by
 let#[E1,s,h1,h2]\/#[E1,cc,h1,h2]:=wY hr
 .show#[E,L,_,m,w,h1,(λ_ _ z=>by cases z),λE' s' z x L' H' e1 e2 m' w' st sm=>?_];injection z with z1 z2;subst z1 z2
  split at h2
  rotate_left
  .symm
  revert jn;cases _aa h2;let xn:x.ì.U:=by
   let:=w'.nd;show(List.nodup_append.mp this).1
  let#[cs,rx,lc,pq]:=_ji w'.head (by ext Sl.sd;rw[e1,e2];show jn) xn;let nd:=w'.nd;rw[jz,X9]at nd;show k _ _ rfl #[.dp,x.d,x.v,cs] L' H' rfl e2 m' #[λy hy=>?_,?_,λa ha=>?_] #[st.keep,λa ha=>?_,λa ha=>?_] λhq=>#[(sm hq).1,λb hb=>(sm hq).2 b (lc b hb)]
  .let z\/z:=aD hy
   .cases z;show rx
   .show w'.ok y (_ad _ z)
  .rw[jz,X9];show#[pq,nd.2.1,λa ha b hb=>nd.2.2 a (lc a ha) b hb]
  .let ha2:a>j7 (@x::L'):=by
    rw[jz]at ha ⊢;show List.mem_append.y ((aA ha).imp (lc a) id)
   intro q2;rw[v4]at q2;show w'.ds a ha2 (_ab _ ((aA q2).ë (nofun) id))
  .show st.ì a ?_;rw[jz]at ha ⊢;show List.mem_append.y ((aA ha).imp (lc a) id)
  .show st.ÿ a ?_;rw[v4]at ha ⊢;show _ab _ ((aA ha).ë (nofun) id)
 .show#[E,L,_,m,w,h1,xc.C h2,λE' s' z=>by cases z]
end
#where in
def _js(h:QE X Z true c e):QE X Z true (YW c) e:=qv h fun σ H Q am=>ex8 am λE L r m w hr xc k=>by
 unfold YW at hr;let#[E1,s,h1,h2]\/#[E1,cc,h1,h2]:=wY hr
 .show#[E,L,_,m,w,h1,(λ_ _ z=>by cases z),λE' s' z x L' H' e1 e2 m' w' st sm=>?_];injection z with z1 z2;subst z1 z2
  split at h2
  rotate_left
  .cases h2
  revert hp;cases _aa h2;let rp:=_jn w'.head (by rw[e2];show hp);let wL:World Z.K H' L:=#[λy hy=>RepO.kp (w.ok y hy) (Kp.of_same (sm rfl).1),w.nd,w.ds];show k _ _ rfl #[.dp,x.d,x.v,[]] L H' rfl e2 m (wL.consPu rp rfl) (KJ (x:=#[.dp,x.d,x.v,[]]) #[λa ob h _=>(sm rfl).1 a ob h,λa h=>.O h,λa h=>.O h] (nofun) rfl) λ_=>#[(sm rfl).1,nofun]
 .show#[E,L,_,m,w,h1,xc.C h2,λE' s' z=>by cases z]
end Q
namespace PySem
open Sem (wp)
section
def _jt{n:Nat}(hh:A.ó=none)(hr:IsRange s.G r a b c t u v)(ef:Builtin.Range.small a b c=true)
  (hn:Builtin.Range.rangeSize a b c=n) (ai:n<=2 ^ 24)
  (hR:∀h' tk ae c',(∀b o,s.G.get? b=@o->h'.get? b=@o)->h'.get? ↥s=some {cls:=.e "list",dict:=none,data:=.seq ae c',slots:=(List.H [])}->ItemsOf (λi v=>∃t,v=.E (a+i*c) t) ae n->R (.ok (.ret (.J ↥s))) {s with heap:=h',toks:=tk}):
  codeAny (model prog w) A (.à "proto.collect" #[[.J r],[]]) R s:=by
 show Ys F.entry_proto_collect ?_;rw[Zj F.plain_proto_collect _];show X0 (Ya ?_);show X5 #[Zo F.plain_list_iadd _,Ys F.entry_list_iadd ?_];rw[Zj F.plain_list_iadd _];show wpAny_extend_range (s:={s with heap:=s.G.ï {cls:=.e "list",data:=.seq ([]:List Value).H}}) hh (X4 _ hr) ef hn ai ↥s _ 0 (Xd _ rfl) λh' tk cw c' hk ie au=>hR h' tk cw c' (λb o e=>hk b o (Xq (Xh e)) (X4 _ e)) ie au
def _ju{n:Nat}(hh:A.ó=none)(hr:IsRange s.G r a b c t u v)(ef:Builtin.Range.small a b c=true)
  (hn:Builtin.Range.rangeSize a b c=n) (ai:n<=2 ^ 24)
  (hQ:∀h' tk ae,(∀b o,s.G.get? b=@o->h'.get? b=@o)->ItemsOf (λi v=>∃t,v=.E (a+i*c) t) ae n->Q ae.R {s with heap:=h',toks:=tk}):
  wpAny (model prog w) A (collect (.J r)) Q E s:=by
 show X0 (wpAny_runValue (_jt hh hr ef hn ai λh' tk cw c' hk ie au=>?_));show X0 (wpAny_load ie ?_);show X5 (hQ h' tk cw hk au)
def _jv(r:Addr)(a b c:Int)(n:Nat)(ef:Builtin.Range.small a b c=true)(hn:Builtin.Range.rangeSize a b c=n)(ai:n<=2 ^ 24):
  Meets (Builtin.«tuple.__new__» #[[.e "tuple",.J r],[]])
   (λA R s=>A.ó=none/\(∃t u v,IsRange s.G r a b c t u v)/\∀(h':Heap) (tk:Nat) (ae:Array Value),(∀b o,s.G.get? b=@o->h'.get? b=@o)->ItemsOf (λi v=>∃t,v=.E (a+i*c) t) ae n ->
    R (.ok (.ret (.J h'.objs.M))) {s with heap:=h'.ï {cls:=.e "tuple",data:=.seq ae},toks:=tk}):=
 .of_wp λprog w A R s h=>by
  let#[hh,#[t,u,v,hr],h]:=h;let dz:=sub_tuple_self;let hinit:=init_tuple_lookup;let hmh:=madeHere_tuple;let hT:s.TypeIs (.J r) "range":=#[_,hr,rfl];let hh1:A.in1.ó=none:=hh
  wp_walk using wpAny_typeOf hT,_ju hh1 hr ef hn ai
  intro h' tk ae hk au;change wpAny _ _ (Builtin.Tuple.tupleExact ae.R.H >>= λv=>ret v) _ _ _;ext Builtin.Tuple.tupleExact;show X0 (Ya ?_ (show ae.R.H.M<=sizeLine by simp;rw[au.1,Za];omega));show X5 #[_,rfl,?_];let e:ae.R.H=ae:=by rfl
  rw[e];show h h' tk ae hk au
def _jw{n:Nat}(hh:A.ó=none)(hr:IsRange s.G r a b c t u v)(ef:Builtin.Range.small a b c=true)(hn:Builtin.Range.rangeSize a b c=n)(ai:n<=2 ^ 24)
  (h:∀(h':Heap) tk ae,(∀b o,s.G.get? b=@o->h'.get? b=@o)->ItemsOf (λi v=>∃t,v=.E (a+i*c) t) ae n->Q (.J h'.objs.M) {s with heap:=h'.ï {cls:=.e "tuple",data:=.seq ae},toks:=tk}):
  wpAny (model prog w) A (call (.e "tuple") [.J r]) Q E s:=by
 show callType_new F.called_tuple (by rfl) (F.typeCall_tuple_1 _) (F.newCall_tuple_1 _) (λobj=>F.args_object_init_2 obj _) F.entry_tuple_new
  (_jv r a b c n ef hn ai) #[hh,#[t,u,v,hr],λh' tk ae hk au=>#[#[_,Xd _ rfl,rfl],?_]]
 show h h' tk ae hk au
end
end PySem
namespace Q
open PySem PySem.Spec PyProof.Rows L2 L3
section
#where in
def _jx(ha:QV X Z q a ea)(uw:X.mg "range"=none)(xr:X.mg "tuple"=none)(hc:X.calm=true<|>Ŕ)(wa:Gl X "range"<|>Ŕ)(uu:Gl X "tuple"<|>Ŕ)
  (b7:Abs ea [] X<|>Ŕ) (bu:Abb pos2 [] X<|>Ŕ)
  (ms:starEach [.û (.é "range" p2) [ea] [] pos2] X.V=(false,eval (.û (.é "range" p2) [ea] [] pos2) X.V)::starEach [] X.V<|>Ŕ) (t9:Abb pos [] X<|>Ŕ):
  QE X Z q (_hj a) (.û (.é "tuple" p) [.û (.é "range" p2) [ea] [] pos2] [] pos):=by
 intro a9 s σ H Q I ⟨E,L,r,m,w,dh,xc,k⟩;show Yy (xQ I uu xr _c4 ?_);show Y1 (thn (qX (_g1 ha uw wa b7 bu) vx ms pos a9 s σ H (λvs H1=>∃pp j,vs=[.J pp]/\H1 pp=@(.rng 0 j)/\kY j=true/\j.S<=big/\∀l,H1 l=none->Q (.J l) (upd H1 l (.X ((List.r j.S).C λ(i:Nat)=>V.E (0+(i:Int)))))) I ?_) λus s1 #[vs,H1,I1,r1,pp,j,e,hp,h62,hbig,q1]=>?_) ms t9
 .show vJ m w (show bnd (a E) _=@r from dh) xc λE1 s h1 x L1 H1 e1 e2 m1 w1 ok fr sr st sm=>?_
  cases hx:s.2 with
  | int j=>
   rw[hx]at h1;dsimp only at h1
   split at h1
   .revert hj;cases _aa h1;show#[j,qx ok (e2.I hx),λpp hpp=>#[pp,j,rfl,wj,hj.1,hj.2,λl hl=>?_]];let s1:kj H1 (upd H1 pp (.rng 0 j)):=vw hpp;let w2:World Z.K (upd H1 pp (.rng 0 j)) L1:=#[λx hx=>RepO.kp (w1.ok x hx) (Kp.of_same s1),w1.nd,w1.ds];let bv:=st.I #[λb ob z _=>s1 b ob z,λb z=>.O z,λb z=>.O z];let o:=_ey (K:=Z.K) (H:=upd H1 pp (.rng 0 j)) (fr:=[]) hl (_g2 (List.r j.S)) (λ_ z=>(nomatch z));let#[w3,ft]:=ZZ w2 bv o (λ_ z=>(nomatch z)) (λ_ z=>(nomatch z)) (λ_ z=>(nomatch z));show k _ _ rfl #[.x,.X (jV 0 j),.J l,[]] L1 _ rfl rfl m1 (by simpa [jV]using w3) (by simpa [jV]using ft) λhq=>#[kX (sm hq) (kX s1 o.same),nofun]
   .cases h1
  |_=>rw[hx]at h1;cases h1
 .subst e;let#[u,rfl,rx]:=r1.one;cases rx;let#[t1,t2,t3,hg]:=(show ObjOk X.î X.w H1 s1.G pp (.rng 0 j)from I1.hok pp _ hp);let#[j1,j2]:=_gv h62;let e2:Builtin.Range.rangeSize 0 j 1=((j.S:Nat):Int):=by rw[rangeSize_one];split<;>grind
  show _jw (n:=j.S) (I1.ok.hd hc) (show IsRange s1.G pp 0 j 1 t1 t2 t3 from hg) (small_one .q .q j1 j2) e2 (by unfold big at hbig;omega) λh' tk cw kp fw=>?_
  let#[hs,js]:=fw;let I2:=I1.kept (t':=tk) kp;let I3:=I2.laid (t':=tk) (λb o e=>X4 _ e) (Xa _) (show ObjOk X.î X.w _ _ _ (.X ((List.r j.S).C λ(i:Nat)=>V.E (0+(i:Int))))from#[by rw[X3,Xi];show hbig,cw.R,_g3 hs js,~~~(IsTupD.new h' cw)]);show#[.J h'.objs.M,_,I3,rfl,q1 _ (I2.hok.fresh (Xa _))]
end
#where in
def _jy{K}
  (KX:K.In s₁.G) (hns:s₁.G.Ns mainGlobals mg) (hb:s₁.G.Ns builtinsNs mb) (hbb:∀x:Str,x≠"__name__"->mb x=bootBuiltins x) (hlim:s₁.G.NoLimit) (hg:s₁.gens=(List.H []))
  (ha:s₁.G.get? a=some {cls:=.e "list",data:=.seq vs.H}) (hi:IntsAre vs ns) (hl:ns.B<=sizeLine) (hr:Room k callerA)
  (F:∀base,K.In base->base.Ns mainGlobals mg->FnOk P w K mg base CX k fa fd [x] sp) (uz:∀s u,BindsTo s fd #[[u],[]] [(x,u)])
  (cx:∀H,_cc H->LsR K H a (ns.C V.E)->sp [.J a] H (λv _=>v=.bl true) λ_ _ _=>False)
  (hCX:∀H e s',CX [] H s₁ (λ_ _ _=>False) e s'->False):
  codeAny (model P w) callerA (.call (.J fa) #[[.J a],[]]) (λr s'=>r=.ok (.ret (.bool true))/\OldK s₁.G s'.G/\s'.os=s₁.os/\AllBare s'.gens) s₁:=by
 let rv:=_hx hi;let ux:∀H,_cc H->LsR K H a (ns.C V.E)->HOk P w H s₁.G->(∀b,H b≠none->b=a)->(H a≠none->K.Y a=none) ->
   codeAny (model P w) callerA (.call (.J fa) #[[.J a],[]]) (λr s'=>r=.ok (.ret (.bool true))/\OldK s₁.G s'.G/\s'.os=s₁.os/\AllBare s'.gens) s₁:=by
  intro H hO hS hok hA hK;let lf:∀{b o},s₁.G.get? b=@o->H b=none->(VZ s₁.G H).get? b=@o:=λe n=>_an e n
  let ul:∀{b o es ep},s₁.G.get? b=@o->o.data=.dict es ep->H b=none:=fun {b o es ep} e d=>by
   cases q:H b with| none=>rfl| some u=>grind
  let nsK:∀{b m},s₁.G.Ns b m->(VZ s₁.G H).Ns b m:=fun {b m} ⟨o,es,ep,e,d,r⟩=>#[o,es,ep,lf e (ul e d),d,r]
  let hKb:=λb o e=>lf (KX b o e) (by
   cases q:H b with
   | none=>rfl
   | some u=>
    let e':=hA b (by rw[q];simp);subst e';rw[hK .q]at e;cases e)
  let hM:Mod K mg (VZ s₁.G H):=#[hKb,nsK hns,#[mb,nsK hb,hbb],let ⟨mc,h1,h2⟩:=hlim;#[mc,nsK h1,h2]];let e0:Env0 P w K mg _ callerA [] s₁ H:=#[rfl,hM,λb o e=>_ao e,Nat.le_of_eq (_am _ _),trivial,λb hb=>absurd (show b>([]:List Addr)from hb) (by simp),hok,.of_eq hg];show codeAny_mono ((F _ hKb (nsK hns)).run callerA [] s₁ H _ [.J a] [.J a] _ _ hr e0 (uz s₁ _) (.ê rfl .nil) (cx H hO hS)) λr s' h=>?_
  cases r with
  | error e=>show(hCX H e s' h).ë
  | ok fl=>
   cases fl with
   | next=>show False.ë h| brk=>show False.ë h| cont=>show False.ë h
   | ret u=>
    let#[v,H',os,bare,un,hok',r',q]:=h;subst q;obtain rfl:u=Value.bool true:=r';show#[rfl,OldK.of_keep λb o e=>?_,os,bare];cases q:H b with
    | none=>show un.keep b o e q (by intro z;show absurd (show b>([]:List Addr)from z) (by simp)) (by simp)
    | some u=>
     let z\/#[ob,xs,z]:=hO b
     .grind
     .let z2:=un.frzs b ob _ z;let#[e1,_]:=hok b _ z;let#[e2,_]:=hok' b _ z2
      grind
 cases hk:K.Y a with
 | some o=>
  let e:=KX a o hk;rw[ha]at e;cases e;show ux (λ_=>none) (λ_=>.O rfl) (.Z #[vs.H,_,hk,by rw[Xe,hi.B];show hl,~~~rv]) (λb u z=>by let z':(none)=@u:=z;cases z') (λb z=>absurd rfl z) λz=>absurd rfl z
 | none=>
  show ux (λb=>if b=a then @(.ÿ {cls:=.e "list",data:=.seq vs.H} (.L (ns.C V.E)))else none) (λb=>?_) (.O (.Z #[{cls:=.e "list",data:=.seq vs.H},X7 rfl])) (λb u z=>?_) (λb z=>?_) λ_=>hk
  .by_cases hb:b=a
   .show .Z #[_,_,X7 hb]
   .show .O (Xb hb)
  .by_cases hb:b=a
   .let z':=(X7 hb).s.I z;cases z';subst hb;show#[ha,by rw[X3];show hl,vs,_,rv,ha]
   .let z':=(Xb hb).s.I z;cases z'
  .by_cases hb:b=a
   .show hb
   .show absurd (Xb hb) z
@[elab_as_elim] theorem len1 {P:List Value->Prop} us (e:us.length=1)(h:∀a,P [a]):P us:=by
 cases us with|nil=>cases e|cons a us=>cases List.eq_nil_of_length_eq_zero (Nat.succ.inj e);exact h a
@[elab_as_elim] theorem len2 {P:List Value->Prop} us (e:us.length=2)(h:∀a b,P [a,b]):P us:=by
 cases us with|nil=>cases e|cons a us=>exact len1 us (Nat.succ.inj e) λb=>h a b
@[elab_as_elim] theorem len3 {P:List Value->Prop} us (e:us.length=3)(h:∀a b c,P [a,b,c]):P us:=by
 cases us with|nil=>cases e|cons a us=>exact len2 us (Nat.succ.inj e) λb c=>h a b c
@[elab_as_elim] theorem len4 {P:List Value->Prop} us (e:us.length=4)(h:∀a b c d,P [a,b,c,d]):P us:=by
 cases us with|nil=>cases e|cons a us=>exact len3 us (Nat.succ.inj e) λb c d=>h a b c d
@[elab_as_elim] theorem len5 {P:List Value->Prop} us (e:us.length=5)(h:∀a b c d f,P [a,b,c,d,f]):P us:=by
 cases us with|nil=>cases e|cons a us=>exact len4 us (Nat.succ.inj e) λb c d f=>h a b c d f
@[elab_as_elim] theorem len6 {P:List Value->Prop}(us:List Value)(e:us.length=6)(h:∀a b c d f g,P [a,b,c,d,f,g]):P us:=by
 cases us with|nil=>cases e|cons a us=>exact len5 (P:=λl=>P (a::l)) us (Nat.succ.inj e) λb c d f g=>h a b c d f g
def _jz{K}:∀(ns:List Int),RepA K H g (ns.C D.E) (ns.C V.E) []
 |[]=>#[rfl,rfl]
 |n::ns=>by
  ext RepA;show#[_,_,[],[],rfl,rfl,xz,_jz ns]
def _jA{K}{ns:List Int}(h:∃E o,f [(.x,.L (ns.C D.E))]=@(.ok E (o,.bl true)))(hs:LsR K H a (ns.C V.E))(hO:_cc H):
  spF K mg 1 f [.J a] H (λv _=>v=.bl true) λ_ _ _=>False:=by
 let#[E,o,h]:=h;let key:∃as,RepL K H true (.L (ns.C D.E)) (.J a) as/\(∀b>as,False):=by
  let(hs\/#[ob,hs])\/hs:=hs
  .let z\/#[_,_,z]:=hO a<;>(rw[hs]at z;cases z)
  .show#[[],(#[a,ns.C V.E,[],rfl,_jz ns,.Z #[rfl,.O #[ob,hs],rfl]]),nofun]
  .show#[[],(#[a,ns.C V.E,[],rfl,_jz ns,.Z #[rfl,.Z hs,rfl]]),nofun]
 let#[as,r,hn]:=key;show#[[#[.x,.L _,.J a,as]],_,rfl,rfl,?_,h,(λE' c z=>by cases z),λE' s z x H' e1 e2 w' st=>?_]
 .show#[λx hx=>by rw[_aa (aC hx)];show r,by simp[Sl.ì],λb hb=>by simp[Sl.ì]at hb]
 .injection z with z1 z2;subst z2;show _ei w'.head e2
section
open PySem.W PySem.Calls
def walkQ{l:OpenLaw}{q qV}{K:Params->Frag}
  (hn:l.most=@n) (qr:n<=sizeLine) (hdf:d.params.defaults=[]) (hr:Room k callerA)
  (hY:∀w (h),YP w h->(K w.params).In h)
  (F:∀w (mg) (fa) (h),(K w.params).In h->h.Ns mainGlobals mg->mg d.name=@(.J fa) ->
   ∃fd,(∀s (u),BindsTo s fd #[[u],[]] [(x,u)])/\∀base,(K w.params).In base->base.Ns mainGlobals mg->FnOk l.î w (K w.params) mg base (CXE l.î w) k fa fd [x] (spF (K w.params) mg 1 f))
  (cx:∀(ns:List Int),ns.B<=n->(∀i>ns,Builtin.Int.intBits i<=1048576)->∃E o,f [(.x,.L (ns.C D.E))]=@(.ok E (o,.bl true))):
  WalkO q qV XP YP l.row.toRowW d [] (λf vs=>PySem.call f vs):=by
 intro w s0 s1 mg mb G Y fa o pm cd iq dV kV ho hd iy hD hmg hg args dj as oi hlay hrd hwl hlo;let#[a,vs,ns,rfl,rfl,hobj,ut,ai]:=Att.script_of hn oi hwl;let KX:=hY w _ Y;let#[fd,hb,hF]:=F w mg fa _ KX G.T.g hmg;show enter_call (codeAny_mono (_jy KX G.T.g G.T.b G.T.builtins G.T.nolimit hg hobj ut (Z5 ai qr) hr hF hb (λH hO hS=>_jA (cx ns ai (_c9 hlay)) hS hO) (λ_ _ _ h=>by let#[_,_,_,_,_,_,_,_,_,_,_,_,_,_,_,z]:=h;show z)) λr s' hq=>?_);let#[rfl,h2,h3,h4]:=hq;show#[.O #[.bool true,.bool true,[],rfl,λ_=>rfl,.bool true,Att.post_true l _,λ_=>#[List.þ.nil,λ_ hm=>(nomatch hm)]],h2,h3,h4]
end
def _jB:Nat->(List Value->Prop)->Prop
 |0,p=>p []|n+1,p=>∀a,_jB n λus=>p (a::us)
@[elab_as_elim] theorem allN us (e:us.length=n)(h:_jB n p):p us:=by
 induction us generalizing n p with|nil=>subst e;exact h|cons a us ih=>subst e;exact ih (p:=λus=>p (a::us)) rfl (h a)
section
variable {K:Frag}{x:Str}{st:Stmt}{k:Nat}
def Gf(K:Frag)(x:Str)(st:Stmt):Prop:=∃(f:Addr) (oc:Value) (od:Option Addr) (kV dc pm:Value) (an:Option Addr) (cd ct:Value) (sl:Array (Option Value)),nsIn K mainGlobals x=some @(.J f)/\K.Y f=@#[oc,od,.func (PySem.W.fnOf x x (QZ st) (Jv st) (k6 st) .å kV dc pm an cd ct),sl]/\PySem.W.codeIn K cd x=true/\PySem.W.keepIn K (.J f)=true
def Gf.mk{f oc od kV dc pm an cd ct sl}(a:nsIn K mainGlobals x=some @(.J f))(l:K.Y f=@#[oc,od,.func (PySem.W.fnOf x x (QZ st) (Jv st) (k6 st) .å kV dc pm an cd ct),sl])(c:PySem.W.codeIn K cd x=true)(k:PySem.W.keepIn K (.J f)=true):Gf K x st:=#[f,oc,od,kV,dc,pm,an,cd,ct,sl,a,l,c,k]
def Gf.d(g:Gf K x st)(X:K.In h)(G:h.Ns mainGlobals mg)(ok:∀{f fd},Fun K x x st f fd->FnOk P w K mg base (CXE P w) k f fd ps sp)
  (hb:∀kV iq pm an (d8 ct) us,us.B=ps.B->bindArgs (PySem.W.fnOf x x (QZ st) (Jv st) (k6 st) .å kV iq pm an d8 ct) #[us,[]]=pure (ps.zip us):=by
   intro _ _ _ _ _ _ us hl;show allN us hl ?_
   repeat intro _
   show rfl):kW P w K mg base k x ps sp:=by
 let#[f,oc,od,kV,dc,pm,an,cd,ct,sl,a,l,c,kp]:=g;show#[f,_,ok (_cd l c kp),(_cd l c kp).binds hb,kp,PySem.W.mg_of X G a]
def Gf.law(g:Gf K "law" st)(X:K.In h)(G:h.Ns mainGlobals mg)(hfa:mg "law"=@(.J fa))(ok:∀{base f fd},Fun K "law" "law" st f fd->FnOk P w K mg base (CXE P w) k f fd [y] sp)
  (hb:∀kV iq pm an (d8 ct) s v,BindsTo s (PySem.W.fnOf "law" "law" (QZ st) (Jv st) (k6 st) .å kV iq pm an d8 ct) #[[v],[]] [(y,v)]:=by
   intros
   show .of_eq rfl):
  ∃fd,(∀s v,BindsTo s fd #[[v],[]] [(y,v)])/\∀base,K.In base->base.Ns mainGlobals mg->FnOk P w K mg base (CXE P w) k fa fd [y] sp:=by
 let#[f,oc,od,kV,dc,pm,an,cd,ct,sl,a,l,c,kp]:=g;let e:=hfa.s.I (PySem.W.mg_of X G a);cases e;show#[_,hb kV dc pm an cd ct,λbase _ _=>ok (_cd l c kp)]
end
end Q
namespace Q
open PySem L2
def mkS(h1:sc.kind=.function<|>Ŕ)(h2:sc.isCoroutine=false<|>Ŕ)(h3:sc.isGenerator=false<|>Ŕ)(h4:N.U<|>ŗ)(h5:N.take P.B=P<|>Ŕ)(h6:(∀x>P,sc.ð.Y x=@.local\/sc.ð.Y x=@.cell)<|>ŗ)(h7:(∀y>sc.ð,y.2≠.free)<|>ŗ):FnScope N P sc:=#[h1,h2,h3,h4,h5,h6,h7]
end Q
namespace Q
open PySem PySem.Spec PyProof.Rows L2 L3
section
def kI:QE X Z true (cC (.E z)) (.Constant (.E z) j p):=q_C _at λ_=>xz
def ki:QV X Z true (vE (cC (.E z))) (.Constant (.E z) j p):=j8 kI
def kN:QE X Z true (cC .ç) (.Constant .å j p):=q_C _av λ_=>_el
def kn:QV X Z true (vE (cC .ç)) (.Constant .å j p):=j8 kN
def kS(h:(z.B<=sizeLine)<|>ŕ):QE X Z true (cC (.ã z)) (.Constant (.ã z) j p):=q_C _aw λ_=>_em h
def vv i (hN:X.N[i]?=@x<|>Ŕ)(hv:Vis X.V.scope x<|>ř)(hd:Abd x<|>ŕ)
  (iy:(x==("__classdict__":Str))=false<|>ŕ):QV X Z true (vV i) (.é x pos):=q_vV (pv i hN hv hd iy)
def cv i (hN:X.N[i]?=@x<|>Ŕ)(hv:Vis X.V.scope x<|>ř)(hd:Abd x<|>ŕ)
  (iy:(x==("__classdict__":Str))=false<|>ŕ):QE X Z true (cV i) (.é x pos):=q_V (pv i hN hv hd iy)
def kx(ha:QV X Z qa a ea)(hb:QV X Z true b eb)(hs:_bJ eb:=by show λ_ _=>rfl)(hK:X.K=Z.K<|>Ŕ):QV X Z qa (jw a b) (.Subscript ea eb pos):=q_ix ha hb hs hK
def qA(hN:X.N.U)(h:QE X Z q a ea)(hi:X.N[i]?=@y<|>Ŕ)(hx:Loc X.V.scope y<|>Ś)(hp:i∉pn<|>ŕ)(hs:swapsWith ea @(.é y bw) pos.line X.V=pure false<|>Ŕ)(hf:X.fn y=true\/X.V.scope.ð.Y y=@.local<|>Ř):
  QS X Z pn (jx i a) (.Assign [.é y bw] ea pos):=_eK hN hi hx h hp hs hf
def gn(hN:X.N.U)(hi:X.N[i]?=@x<|>Ŕ)(hx:Loc X.V.scope x<|>Ś)(hf:X.fn x=true\/X.V.scope.ð.Y x=@.local<|>Ř):PG X (.é x pos) (qw5 i):=_aM hN hi hx hf
def gN(hN:X.N.U)(hi:X.N[i]?=@x<|>Ŕ)(hx:Loc X.V.scope x<|>Ś)(hf:X.fn x=true\/X.V.scope.ð.Y x=@.local<|>Ř)(hp:i∉pn<|>ŕ):QG X Z pn (.n i) (.é x pos):=zq (_aM hN hi hx hf) hp
def qC(D:kW X.î X.w X.K X.mg X.base k x ps (spF Z.K Z.mg n f))(hr:Room m X.A)(ha:QA X Z q cs (e::es))(g:xv X Z.EX:=by show z7)(gz:(k<=m)<|>ŕ)(hn:cs.B=n<|>Ŕ)(hg:Gl X x<|>Ŕ)(gr:Abd x<|>ŕ)
  (he:Abs e es X<|>Ŕ) (bu:Abb pos es X<|>Ŕ):
  QE X Z q (jQ f cs) (.û (.é x p) (e::es) [] pos):=_fQ D (hr.mono gz) g ha hn hg gr he bu
def qF(hi:QI X Z q tg it iter)(hg:QG X Z pn t tg)(hb:QSs X Z pn B ss)(hp:PassesOwn (model X.î X.w) X.A X.V X.xe:=by show _dr #[_,_,rfl,rfl])(hc:X.calm=true<|>Ŕ)(hs:(∀x,foldedSetIterable iter X.V x=pure x)<|>Ŗ):QS X Z pn (wJ it t B) (.For tg iter ss [] pos):=_e1 hp hc hi hg hb hs
def oA(ha:QV X Z qa a ea)(hb:QV X Z true b eb)(hK:X.K=Z.K<|>Ŕ):QE X Z qa (cF2 kw a b) (.BinOp ea .Add eb pos):=QK (_ex hK) _ez ha hb
def oX(ha:QV X Z qa a ea)(hb:QV X Z true b eb)(hK:X.K=Z.K<|>Ŕ):QE X Z qa (cF2 K7 a b) (.BinOp ea .Mult eb pos):=QK (_hI hK) _hJ ha hb
def oM(ha:QV X Z qa a ea)(hb:QV X Z true b eb):QE X Z qa (cF2 (pu2 v6) a b) (.BinOp ea .Mod eb pos):=QK _a7 _et ha hb
def qP(h:QE X Z q c e)(hN:X.N[i]?=@x<|>Ŕ)(hv:Vis X.V.scope x<|>ř)(hd:Abd x<|>ŕ)
  (iy:(x==("__classdict__":Str))=false<|>ŕ) (aw:attributeBase (.é x xp) "append" X.V (eval (.é x xp) X.V)=eval (.é x xp) X.V<|>Ŕ)
  (d9:autoParam (((backTo aj (starEach [e] X.V)).all (λx=>!x.1)&&(backToKw aj (keywordEach [] X.V)).all (λx=>x.1.isSome)
   && decide ([e].B+([]:List Keyword).B+(if([]:List Keyword).ô then 0 else 1)<30))=true) Ŕ)
  (av:Abe aq aj<|>Ŕ) (hs:Abs e [] X<|>Ŕ) (ay:Abb aj [] X<|>Ŕ) (hK:X.K=Z.K<|>Ŕ)
  (jt:swapsWith (.û (.ù (.é x xp) "append" aq) [e] [] aj) none pos.line X.V=pure false<|>Ŕ):
  QS X Z pn (v0 qY i c) (.Expr (.û (.ù (.é x xp) "append" aq) [e] [] aj) pos):=_gk (_cY Z.K Yw PySem.F.slot_list_append PySem.F.type_list_append _b3 (pv i hN hv hd iy) (qX h vx hs) aw d9 av hs ay hK) jt
def qL(ha:QV X Z q a ea)(hm:X.mg "len"=none)(hK:X.K=Z.K<|>Ŕ)(hg:Gl X "len"<|>Ŕ)(he:Abs ea [] X<|>Ŕ)(bu:Abb pos [] X<|>Ŕ):QE X Z q (cF1 (pu1 v8) a) (.û (.é "len" p) [ea] [] pos):=_gG (hK▸_cV X.K) _gH ha hm _cZ hg .q (by rfl) he bu
def qT(ha:QV X Z q a ea)(hm:X.mg "tuple"=none)(hK:X.K=Z.K<|>Ŕ)(hg:Gl X "tuple"<|>Ŕ)(he:Abs ea [] X<|>Ŕ)(bu:Abb pos [] X<|>Ŕ):QE X Z q (cF1 zV a) (.û (.é "tuple" p) [ea] [] pos):=K8 (_gP hK) _gQ ha hm _c4 hg .q (by rfl) he bu
def qm(o)(k)(R)(m)(N)(hi:QI X Z q tg it iter)
  (hg:N.U->∀cl C s0 H0 fp,QG (lcE X scope N cl C s0 H0 fp Z.EX) Z ((List.r R.B).C (k + ·)) tt tg) (ht:∀cl C s0 H0 fp,PTs (lcE X scope N cl C s0 H0 fp Z.EX) fm (tT Z q u)) (he:∀cl C s0 H0 fp,QE (lcE X scope N cl C s0 H0 fp Z.EX) Z q c elt)
  (hN:N.U<|>ŗ) (gx:xv X Z.EX:=by show z7) (top:Jk X:=by show#[_,_,rfl,rfl]) (hR:R.U<|>ŕ) (hm:X.N.B=m<|>Ŕ) (hr:(∀j>R,j<m)<|>ŕ) (hc:X.calm=true<|>Ŕ) (hk:scope.kind=.function<|>Ŕ) (jy:Kz X.N X.V.scope scope N k R=true<|>Ŕ) (hs:(∀x,foldedSetIterable iter X.V x=pure x)<|>Ŗ):
  QE X Z q (cLC o k R it tt u c) (.ListComp elt [#[tg,iter,fm,0]] scope pos):=_gD N hi (hg hN) ht he gx top hR (hm▸hr) hc hk jy hs
def qM(o)(k)(R)(m)(N)(hi:QI X Z q (.é x p') it iter)(he:∀cl C s0 H0 fp,QE (lcE X scope N cl C s0 H0 fp Z.EX) Z q c elt)
  (hN:N.U<|>ŗ) (gx:xv X Z.EX:=by show z7) (top:Jk X:=by show#[_,_,rfl,rfl]) (hR:R.U<|>ŕ) (hm:X.N.B=m<|>Ŕ) (hr:(∀j>R,j<m)<|>ŕ) (hc:X.calm=true<|>Ŕ) (hk:scope.kind=.function<|>Ŕ) (jy:Kz X.N X.V.scope scope N k R=true<|>Ŕ) (hs:(∀x,foldedSetIterable iter X.V x=pure x)<|>Ŗ)
  (h1:N[0]?=@x<|>Ŕ) (h2:scope.ð.Y x=@.local<|>Ŕ) (h3:0∉(List.r R.B).C (k + ·)<|>ŕ):
  QE X Z q (cLC o k R it (.n 0) tYes c) (.ListComp elt [#[.é x p',iter,[],0]] scope pos):=_gD N hi (λ_ _ _ _ _=>zq (_aM (i:=0) hN h1 (.O (lookup_relabel_local h2)) (.Z (lookup_relabel_local h2))) h3) (λ_ _ _ _ _=>KY) he gx top hR (hm▸hr) hc hk jy hs
end
end Q
namespace Q
def ddS(ss:List PySem.Str):List PySem.Str:=ss.foldl (λl k=>if l.any (· == k)then l else l++[k]) []
def _jC:Sd->Option Sd:=λx=>match x.2 with
 |.L ds=>(match KZ ds with
  |some ss=>if ss.B<64 then @(.rt,.L ((wV (ddS ss)).C .ã))else none
  |none=>none)
 |_=>none
end Q
namespace Tb
open PySem PySem.SetTable
noncomputable def it(f:α->α):Nat->α->α
 |0,a=>a|n+1,a=>it f n (f a)
def Q8(f):∀m n (a:α),it f (m+n) a=it f n (it f m a)
 |0,n,a=>by rw[Nat.zero_add];rfl|m+1,n,a=>by rw[Nat.succ_add];show Q8 f m n _
def _jD f n (a:α):it f (n+1) a=f (it f n a):=Q8 f n 1 a
noncomputable def lp(mask:Nat)(q:Nat×Nat):Nat×Nat:=leap mask q.1 q.2
def f5(mask:Nat)(i:Nat):Nat:=(i*5+1) % (mask+1)
def _jE(mask):∀k (q),(it (lp mask) k q).2=q.2 / 32 ^ k
 |0,q=>by rw[Nat.div_one];rfl
 |k+1,q=>by
  change(it _ k (lp mask q)).2=_;rw[_jE mask k];change q.2 / 32 / 32 ^ k=_;rw[Nat.div_div_eq_div_mul,Nat.pow_succ,Nat.mul_comm]
def _jF(mask):∀k i,it (lp mask) k (i,0)=(it (f5 mask) k i,0)
 |0,i=>rfl
 |k+1,i=>by
  change it _ k (leap mask i 0)=_;let:leap mask i 0=(f5 mask i,0):=by ext leap f5;rfl
  rw[this,_jF mask k];rfl
def xJ(mask:Nat):Prop:=mask=7\/mask=31\/mask=127
def ZK(mask:Nat):Nat->Nat->List Nat
 |0,_=>[]|n+1,i=>i::ZK mask n (f5 mask i)
def _jG{mask}:∀{n i e},e>ZK mask n i->∃k,k<n/\it (f5 mask) k i=e
 | n+1,i,e,h=>by
  let rfl\/h:=aD h
  .show#[0,Nat.succ_pos _,rfl]
  .let#[k,hk,e]:=_jG h;show#[k+1,Nat.succ_lt_succ hk,e]
def _jH:(List.r 32).all (λe=>(ZK 31 32 0).contains e)=true/\it (f5 31) 32 0=0:=by decide +kernel
def _jI:(List.r 8).all (λe=>(ZK 7 8 0).contains e)=true/\it (f5 7) 8 0=0:=by decide +kernel
def _jJ:(List.r 128).all (λe=>(ZK 127 128 0).contains e)=true/\it (f5 127) 128 0=0:=by decide +kernel
def cyc{mask}(h:(List.r (mask+1)).all (λe=>(ZK mask (mask+1) 0).contains e)=true/\it (f5 mask) (mask+1) 0=0)(hi:i<=mask)(he:e<=mask):∃k,k<=mask/\it (f5 mask) k i=e:=by
 let#[h1,h2]:=h;rw[Yb]at h1;let g:∀e,e<=mask->∃k,k<mask+1/\it _ k 0=e:=λe he=>_jG (~~~(h1 e (List.á.y .q)))
 let#[a,ha,ea]:=g i hi;let#[b,hb,eb]:=g e he
 by_cases il:a<=b
 .show#[b - a,.q,?_]
  rwa [<-ea,<-Q8,show a+_=b by lia]
 .show#[mask+1 - a+b,.q,?_]
  rwa [<-ea,<-Q8,show a+_=mask+1+b by lia,Q8,h2]
def cyc'{mask}(hm:xJ mask)(hi:i<=mask)(he:e<=mask):∃k,k<=mask/\it (f5 mask) k i=e:=by
 let rfl\/rfl\/rfl:=hm
 .show cyc _jI hi he
 .show cyc _jH hi he
 .show cyc _jJ hi he
def _jK{mask i b e}(hm:xJ mask)(hi:i<=mask)(hb:b<2 ^ 64)(he:e<=mask):∃k,k<mask+15/\(it (lp mask) k (i,b)).1=e:=by
 let hp:(it (lp mask) 13 (i,b)).2=0:=by
  rw[_jE];show Nat.div_eq_of_lt (Xv hb .q)
 let hl:(it (lp mask) 13 (i,b)).1<=mask:=by
  change((it (lp mask) 12 _).1*5+1+(it (lp mask) 12 _).2 / 32) % _<=mask;let:=Yo ((it (lp mask) 12 (i,b)).1*5+1+(it (lp mask) 12 (i,b)).2 / 32) (show 0<mask+1 by simp);lia
 let#[k,hk,e1]:=cyc' hm hl he;show#[13+k,.q,?_];rw[Q8];let:it _ 13 _=((it _ 13 (i,b)).1,0):=Prod.ext rfl hp
 rwa [this,_jF]
def adv(mask:Nat)(p:Probe):Probe:=
 if 0<p.more then {p with j:=p.j+1,more:=p.more - 1}else {p with j:=(leap mask p.i p.perturb).1,more:=runEnd mask (leap mask p.i p.perturb).1 - (leap mask p.i p.perturb).1,i:=(leap mask p.i p.perturb).1,perturb:=(leap mask p.i p.perturb).2}
def _jL(t:SetTable) p:t.advance p=adv t.ò p:=rfl
def rs(mask:Nat)(q:Nat×Nat):Probe:=#[q.1,runEnd mask q.1 - q.1,q.1,q.2,none]
noncomputable def st0(mask:Nat)(h:Int):Nat×Nat:=(bits h % (mask+1),bits h)
def len9(mask i):runEnd mask i - i<=9:=by ext runEnd;split<;>simp
def _jM(mask)(q):∀r,r<=runEnd mask q.1 - q.1->it (adv mask) r (rs mask q)=#[q.1+r,runEnd mask q.1 - q.1 - r,q.1,q.2,none]
 |0,_=>rfl
 |r+1,h=>by
  rw[_jD,_jM mask q r .q];ext adv
  grind
def _jN mask q:it (adv mask) (runEnd mask q.1 - q.1+1) (rs mask q)=rs mask (lp mask q):=by
 rw[_jD,_jM mask q _ (Xa _)];ext adv;rw[Xb (by simp)];rfl
def _jO(mask):∀k (q),∃s,s<=10*k/\it (adv mask) s (rs mask q)=rs mask (it (lp mask) k q)
 |0,q=>#[0,Xa _,rfl]
 |k+1,q=>by
  let#[s,hs,e]:=_jO mask k _;show#[runEnd mask q.1 - q.1+1+s,by let:=len9 mask q.1;lia,?_];rw[Q8,_jN,e];rfl
def jJ(mask:Nat)(h:Int)(m:Nat):Nat:=(it (adv mask) m (rs mask (st0 mask h))).j
def _jP h:bits h<2 ^ 64:=by
 ext bits;lia
def _jQ{mask}(hm:xJ mask) h (he:e<=mask):∃m,m<10*turns mask/\jJ mask h m=e:=by
 let hi:(st0 mask h).1<=mask:=by
  let:=Yo (bits h) (show 0<mask+1 by simp);change bits h % _<=mask;lia
 let#[k,hk,e1]:=_jK hm hi (_jP h) he;let#[s,hs,e2]:=_jO mask k _;show#[s,by ext turns;lia,?_];ext jJ
 rwa [e2]
def _jR{P:Nat->Prop}:∀{N},(∃m,m<N/\P m)->∃M,M<N/\P M/\∀m,m<M->¬P m:=by
 rintro N ⟨m,hm,hp⟩
 induction m using Nat.strongRecOn with
 | _ m ih=>
  by_cases c:∃m',m'<m/\P m'
  .let#[m',h1,h2]:=c;show ih m' h1 .q h2
  .show#[m,hm,hp,λm' h1 h2=>c #[m',h1,h2]]
def _jS{mask}{oc:Nat->Prop}(hm:xJ mask) h (hf:∃e,e<=mask/\¬oc e):∃M,M<10*turns mask/\¬oc (jJ mask h M)/\∀m,m<M->oc (jJ mask h m):=by
 let#[e,he,hn]:=hf;let#[m,h1,h2]:=_jQ hm h he;let#[M,a,b,c]:=_jR (P:=λm=>¬oc (jJ mask h m)) #[m,h1,by rw[h2];show hn];show#[M,a,b,λm hm=>Classical.not_not.mp (c m hm)]
def _jT:∀N (xs:List Nat),xs.B<N->∃j,j<N/\j∉xs
 | 0,_,h=>by grind
 | N + 1,xs,h=>by
  by_cases c:N>xs
  .let hl:(xs.filter (λx=>x != N)).B<N:=by
    let:(xs.filter (λx=>x != N)).B<xs.B:=by
     show List.length_filter_lt_length_iff_exists.y #[N,c,by simp]
    lia
   let#[j,h1,h2]:=_jT N _ hl;show#[j,.q,λz=>h2 (List.mem_filter.y #[z,?_])];simp;lia
  .show#[N,by simp,c]
#where in
def _jU{mask}:∀{fuel q j},layClean.free mask owner fuel q.1 q.2=@j ->
  ∃ m,(it (adv mask) m (rs mask q)).j=j/\(owner.p j @0).isNone=true/\∀m',m'<m->(owner.p (it (adv mask) m' (rs mask q)).j @0).isNone=false
 | 0,q,j,h=>by cases h
 | fuel+1,q,j,h=>by
  unfold layClean.free at h;let run:∀r,r<=runEnd mask q.1 - q.1->(it (adv mask) r (rs mask q)).j=q.1+r:=λr hr=>by rw[_jM mask q r hr]
  let jl:runEnd mask q.1+1 - q.1=runEnd mask q.1 - q.1+1:=by
   let:q.1<=runEnd mask q.1:=by ext runEnd;split<;>simp
   grind
  split at h
  .revert k hk;cases _aa h;let#[h1,as,bs,h2,h3]:=List.find?_eq_some_iff_append.mp hk;let ql:k<runEnd mask q.1 - q.1+1:=by
    let:k>List.r (runEnd mask q.1+1 - q.1):=List.mem_of_find?_eq_some hk;rw[jl]at this;show List.á.mp this
   show#[k,run k .q,h1,λm' kg=>?_];rw[run m' .q];let hl:as.B=k:=by
    let e:(List.r (runEnd mask q.1+1 - q.1))[as.B]?=(as++k::bs)[as.B]?:=by rw[h2]
    rw[Y9 (Xa _),Nat.sub_self,List.getElem?_cons_zero]at e;let b9:as.B<runEnd mask q.1+1 - q.1:=by
     let:=congrArg List.B h2;rw[Xi,Xj,Xn]at this;lia
    rw[Yl b9]at e;show _aa e
   let hm:m'>as:=by
    let e:(List.r (runEnd mask q.1+1 - q.1))[m']?=(as++k::bs)[m']?:=by rw[h2]
    rw[Xx (by symm),Yl .q]at e;show Y5 e.s
   show Bool.eq_false_iff.y λz=>by
    let:=h3 m' hm;rw[z]at this
    grind
  .revert hk;rw[List.find?_eq_none]at hk;let h:layClean.free mask owner fuel (lp mask q).1 (lp mask q).2=@j:=h;let#[m,h1,h2,h3]:=_jU h;show#[runEnd mask q.1 - q.1+1+m,by rw[Q8,_jN];show h1,h2,λm' kg=>?_]
   by_cases c:m'<runEnd mask q.1 - q.1+1
   .rw[run m' .q];show Bool.eq_false_iff.y (hk m' (List.á.y (by symm)))
   .let:=h3 (m' - (runEnd mask q.1 - q.1+1)) (by grind);rw[<-_jN,<-Q8,show runEnd mask q.1 - q.1+1+(m' - (runEnd mask q.1 - q.1+1))=m' by lia]at this;show this
#where in
def _jV{mask}:∀{fuel q},layClean.free mask owner fuel q.1 q.2=none->∀k,k<fuel->(owner.p (it (lp mask) k q).1 @0).isNone=false
 | fuel+1,q,h,k,hk=>by
  unfold layClean.free at h
  split at h
  .cases h
  .revert hn;rw[List.find?_eq_none]at hn;cases k with
   | zero=>
    let jl:0<runEnd mask q.1+1 - q.1:=by
     let:q.1<=runEnd mask q.1:=by ext runEnd;split<;>simp
     omega
    show Bool.eq_false_iff.y (hn 0 (List.á.y jl))
   |succ k=>show _jV h k (by symm)
def _jW{mask}(hm:xJ mask)(h)(hf:∃e,e<=mask/\(owner.p e @0).isNone=true):
  ∃j m,layClean.free mask owner (turns mask) (bits h % (mask+1)) (bits h)=@j/\jJ mask h m=j/\(owner.p j @0).isNone=true/\∀m',m'<m->(owner.p (jJ mask h m') @0).isNone=false:=by
 cases hj:layClean.free mask owner _ _ _ with
 | none=>
  let#[e,he,hn]:=hf;let hi:bits h % (mask+1)<=mask:=by
   let:=Yo (bits h) (show 0<mask+1 by simp);lia
  let#[k,hk,e1]:=_jK hm hi (_jP h) he;let:=_jV (q:=(bits h % _,bits h)) hj k (by ext turns;omega);rw[e1,hn]at this
  grind
 |some j=>
  let#[m,h1,h2,h3]:=_jU (q:=(bits h % _,bits h)) hj;show#[j,m,rfl,h1,h2,h3]
def _jX(xs)(j)(hp:xs.R.þ (· < ·)):∀fuel lo hi,lo<=hi->hi<=xs.M->hi - lo<=fuel->(∀i (h),i<lo->xs[i]<j)->(∀i (h),hi<=i->j<=xs[i]) ->
  below.go xs j fuel lo hi<=xs.M/\(∀i (h),i<below.go xs j fuel lo hi->xs[i]<j)/\(∀i (h),below.go xs j fuel lo hi<=i->j<=xs[i])
 | 0,lo,hi,h1,h2,h3,h4,h5=>by
  let:lo=hi:=.q
  subst this;show#[h2,h4,h5]
 | fuel+1,lo,hi,h1,h2,h3,h4,h5=>by
  ext below.go
  by_cases hl:lo<hi
  .rw[X7 hl];let hm:(lo+hi) / 2<xs.M:=.q
   let mono:∀i k (hi) (hk:k<xs.M),i<k->xs[i]<xs[k]:=λi k hi hk xu=>by
    let:=List.pairwise_iff_getElem.mp hp i k (~~~hi) (~~~hk) xu
    simpa using this
   by_cases hc:xs.p ((lo+hi) / 2) j<j
   .rw[X7 hc];let ji:xs[(lo+hi) / 2]<j:=by simpa [Array.p,hm]using hc
    show _jX xs j hp fuel _ hi .q h2 (by omega) (λi h lq=>?_) h5
    by_cases e:i=(lo+hi) / 2
    .subst e;show ji
    .let:=mono i ((lo+hi) / 2) h hm .q;lia
   .rw[Xb hc];let ji:j<=xs[(lo+hi) / 2]:=by
     let:¬xs[(lo+hi) / 2]<j:=by simpa [Array.p,hm]using hc
     symm
    show _jX xs j hp fuel lo _ .q .q (by omega) h4 (λi h lq=>?_)
    by_cases e:i=(lo+hi) / 2
    .subst e;show ji
    .let:=mono ((lo+hi) / 2) i hm h .q;lia
  .rw[Xb hl];let:lo=hi:=.q
   subst this;show#[h2,h4,h5]
def _jY j (hp:xs.R.þ (· < ·)):below xs j<=xs.M/\(∀i h,i<below xs j->xs[i]<j)/\(∀i h,below xs j<=i->j<=xs[i]):=
 _jX xs j hp xs.M 0 xs.M (by simp) (Xa _) (by simp) (λi _ h=>absurd h (by simp)) (λi h hi=>absurd h .q)
def _jZ{t:SetTable}(hp:t.í.R.þ (· < ·))(hd:t.dummies=(List.H [])) j:(∃i,t.slot j=.live i/\t.í[i]?=@j)\/(t.slot j=.empty/\j∉t.í.R):=by
 ext slot
 by_cases h:(t.í[below t.í j]? == @j)=true
 .rw [X7 h];show .O #[_,rfl,~~~h]
 .rw [Xb h,hd];let:has (List.H []) j=false:=by
   ext has;rfl
  show .Z #[rfl,λhj=>h ?_];let#[i,hi,e]:=List.mem_iff_getElem.mp hj;let hi:i<t.í.M:= ~~~hi
  let e:t.í[i]=j:= ~~~e
  let#[b1,b2,b3]:=_jY j hp;let hb:below t.í j=i:=by
   by_cases c:i<below t.í j
   .let:=b2 i hi c;symm
   .by_cases c2:below t.í j<i
    .let h1:=b3 _ .q (Xa _);let h2:=List.pairwise_iff_getElem.mp hp _ i (by simp;lia) (~~~hi) c2
     grind
    .lia
  rw[hb,Xp hi,e];simp
def _j0 xs p (x:α):(insertAt xs p x).R=xs.R.take p++x::xs.R.drop p:=by
 ext insertAt;simp;show List.take_of_length_le (by simp)
def _j1 xs p (x:α):(xs.take p++x::xs.drop p).ä (x::xs):=by
 show List.perm_middle.I (.of_eq ?_);rw[List.take_append_drop]
def _j2(hp:xs.R.þ (· < ·))(hj:j∉xs.R):(insertAt xs (below xs j) j).R.þ (· < ·):=by
 rw[_j0];let#[b1,b2,b3]:=_jY j hp;let h1:∀a>xs.R.take (below xs j),a<j:=λa ha=>by
  let#[i,hi,rfl]:=List.mem_iff_getElem.mp ha;rw[Z1]at hi;let:=b2 i (by simp at hi;lia) (by grind)
  simpa using this
 let h2:∀a>xs.R.drop (below xs j),j<a:=λa ha=>by
  let hm:=List.mem_of_mem_drop ha;let#[i,hi,rfl]:=List.mem_iff_getElem.mp ha;rw[List.length_drop]at hi;let:=b3 (below xs j+i) (by simp at hi;grind) (by simp);let e:(xs.R.drop (below xs j))[i]=xs[below xs j+i]'(by simp at hi;lia):=by simp
  grind
 show List.pairwise_append.y #[hp.sublist (List.take_sublist _ _),List.pairwise_cons.y #[h2,hp.sublist (List.drop_sublist _ _)],λa ha b hb=>?_];let rfl\/hb:=aD hb
 .show h1 a ha
 .show J3 (h1 a ha) (h2 b hb)
def _j3{xs:List α} p x y (hl:xs.B=ys.B):((xs.take p++x::xs.drop p).zip (ys.take p++y::ys.drop p)).ä ((x,y)::xs.zip ys):=by
 let hz:(xs.take p++x::xs.drop p).zip (ys.take p++y::ys.drop p)=(xs.zip ys).take p++(x,y)::(xs.zip ys).drop p:=by
  rw[List.zip_append (by rw[Z1,Z1,hl]),List.zip_cons_cons];ext List.zip;rw[List.take_zipWith,List.drop_zipWith]
 rw[hz];show _j1 _ p _
abbrev Ent:=Int×Value
def Z(t:SetTable)(es:Array Ent):List (Nat×Ent):=t.í.R.zip es.R
structure TOk (t:SetTable)(es:Array Ent):Prop where
 m:xJ t.ò
 d:t.dummies=(List.H [])
 sz:t.í.M=es.M
 pw:t.í.R.þ (· < ·)
 le:∀j>t.í.R,j<=t.ò
 few:es.M*5<t.ò*3
 good:∀z>Z t es,∃m,jJ t.ò z.2.1 m=z.1/\∀m',m'<m->jJ t.ò z.2.1 m'>t.í.R
def TOk.empty(h:TOk t es):∃e,e<=t.ò/\¬e>t.í.R:=by
 let hs:t.í.R.B<t.ò+1:=by
  rw[Xm,h.sz];let:=h.few;lia
 let#[j,h1,h2]:=_jT _ _ hs;show#[j,.q,h2]
def pr(mask:Nat)(h:Int)(m:Nat):Probe:=it (adv mask) m (rs mask (st0 mask h))
def _j4 mask h m:adv mask (pr mask h m)=pr mask h (m+1):=(_jD _ _ _).s
def _j5(mask)(h):∀m,(pr mask h m).dummy=none
 |0=>rfl
 |m+1=>by
  rw[<-_j4];let:=_j5 mask h m;ext adv
  split<;>show this
def _j6(ok:TOk t es)(hM:jJ t.ò h M∉t.í.R)(hb:∀m,m<M->jJ t.ò h m>t.í.R):
  ∀ F m,m<=M->M - m<F ->
   (probe.go t g h F (pr t.ò h m)=@(.empty (jJ t.ò h M) none)/\∀m' i,m<=m'->m'<M->t.í[i]?=@(jJ t.ò h m')->g i≠h) \/
   ∃ m' i,m<=m'/\m'<M/\t.í[i]?=@(jJ t.ò h m')/\g i=h/\probe.go t g h F (pr t.ò h m)=@(.candidate (jJ t.ò h m') i (pr t.ò h (m'+1)))/\∀n6 i',m<=n6->n6<m'->t.í[i']?=@(jJ t.ò h n6)->g i'≠h
 | 0,m,_,h2=>absurd h2 .q
 | F + 1,m,h1,h2=>by
  let hj:(pr t.ò h m).j=jJ t.ò h m:=rfl;ext probe.go;rw [hj];let#[i,e1,e2]\/#[e1,e2]:=_jZ ok.pw ok.d (jJ t.ò h m)
  .rw [e1];right;let hmM:m<M:=by
    let c\/c:=Nat.lt_or_ge m M
    .show c
    .let:m=M:=.q
     subst this;show absurd (Y5 (Xu▸e2)) hM
   let uni:∀i',t.í[i']?=@(jJ t.ò h m)->i'=i:=λi' e3=>by
    show(List.getElem?_inj (~~~(((Array.getElem?_eq_some_iff.mp e3).1))) (ok.pw.imp λh=>Xq h)).mp ?_;rw[Xu,Xu,e3,e2]
   by_cases hg:g i=h
   .rw[X7 (~~~hg),_jL,_j4];show .Z #[m,i,Xa _,hmM,e2,hg,rfl,λn6 i' a b=>absurd a .q]
   .rw[Xb (~~~hg),_jL,_j4];let#[q1,q2]\/#[m',i',q1,q2,q3,q4,q5,q6]:=_j6 ok hM hb F (m+1) .q .q
    .show .O #[q1,λm' i' a b c=>?_]
     by_cases e:m'=m
     .subst e
      rwa [uni i' c]
     .show q2 m' i' .q b c
    .show .Z #[m',i',.q,q2,q3,q4,q5,λn6 i'' a b c=>?_]
     by_cases e:n6=m
     .subst e
      rwa [uni i'' c]
     .show q6 n6 i'' .q b c
  .rw[e1];right;let hmM:m=M:=by
    let c\/c:=Nat.lt_or_ge m M
    .show absurd (hb m c) e2
    .lia
   subst hmM;rw[_j5];show .O #[rfl,λm' i a b=>absurd a .q]
end Tb
namespace Sw
open PySem PyProof.Rows
section
variable {prog:Program}{w:World}{A:Around}{E:VP9}{s:Shared}
def tx(w:World):Bool:=w.params.followText "set-order"
structure Ok (prog:Program)(w:World)(o:Obj)(es:Array (Int×Value))(ep:Nat)(t:SetTable):Prop where
 ex:o.ExactSet
 d:o.data=.u es ep t
 el:ElemsOf (PySem.strKind prog w) es.R
 b:es.M<scanBound
 f:t.fits es.M=true
 led:t.led=!tx w
 pl:t.plain=false\/es.M=0
def _j7(es:List (Int×Value)):List Str:=es.C λe=>strOf e.2
def Has(prog:Program)(w:World)(h:Heap)(a:Addr)(ls:List Str):Prop:=∃o es ep t,h.get? a=@o/\Ok prog w o es ep t/\(_j7 es.R).ä ls
def _j8{l}(h:ElemsOf (PySem.strKind prog w) l){e}(he:e>l):∃k t,e.2=.ã k t:=by
 let#[#[k,hk,_],_]:=h e he;let#[t,ht]:=Value.isStrOf_shape hk;show#[k,t,ht]
def _j9{l}(h:ElemsOf (PySem.strKind prog w) l) k:(∃e>l,(PySem.strKind prog w).is k e.2=true)↔k>_j7 l:=by
 ext _j7;rw[List.mem_map];constructor
 .rintro ⟨e,he,hk⟩;let#[t,ht]:=Value.isStrOf_shape hk;show#[e,he,by rw[ht];rfl]
 .rintro ⟨e,he,hk⟩;let#[k',t,ht]:=_j8 h he;rw[ht]at hk;cases(hk);show#[e,he,by rw[ht];show strKind_is _ _ _ _]
#where in
def _ka t es h x:(layNew t es h x).2.1.led=t.led/\((layNew t es h x).2.1.plain=true->t.plain=true):=by
 ext layNew
 split
 .revert slot wd _;change((t.put slot).1.orStandIn _).led=_/\(((t.put slot).1.orStandIn _).plain=true->_);ext SetTable.orStandIn
  split
  .show#[rfl,λh=>h]
  .show#[rfl,nofun]
 .show#[rfl,nofun]
#where in
def _kb t es n:(relayAll t es n).2.1.led=t.led/\((relayAll t es n).2.1.plain=true->t.plain=true):=by
 ext relayAll
 split
 .revert t' gj hr;right
  split
  .unfold SetTable.relaid SetTable.laid at hr;rw[Option.bind_eq_bind,Option.bind_eq_some_iff]at hr
   grind
  .show#[rfl,nofun]
 .show#[rfl,nofun]
def _kc{h:Heap}{a o es es' ep t t'}(ho:h.get? a=@o)(hd:o.data=.u es ep t):(h.update a (Obj.putSet es' t')).get? a=some {o with data:=.u es' (ep+1) t' }:=by
 let:=Ye (Obj.putSet es' t') ho (by rw[putSet_of es' t' hd];rfl)
 rwa [putSet_of es' t' hd]at this
def tail{g:Bool->Sem Unit}(hg:∀b (s₁) (Q'),Q' () s₁->wpAny (model prog w) A (g b) Q' E s₁)
  {a o es cq ep t t2 ls wasDummy R} (ho:s.G.get? a=@o) (hd:o.data=.u es ep t) (hex:o.ExactSet)
  (hel:ElemsOf (PySem.strKind prog w) cq.R) (hb:cq.M<scanBound) (hf:t2.fits cq.M=true) (vg:t2.led=!tx w) (bu:t2.plain=false) (hp:(_j7 cq.R).ä ls)
  (h:∀h',Heap.SameBut a s.G h'->Has prog w h' a ls->R @true {s with heap:=h' }):
  wpAny (model prog w) A (do
    storeSet a cq t2
    if(!wasDummy&&t2.tooFull)=true then do
      g (relayAll t2 cq (SetTable.grown cq.M)).2.2
      storeSet a (relayAll t2 cq (SetTable.grown cq.M)).1 (relayAll t2 cq (SetTable.grown cq.M)).2.1
      pure @true
     else pure @true) R E s:=by
 show X0 (wpAny_storeSet_of ho hd ?_ (fits_of_scanBound hb));let gi:=_kc (es':=cq) (t':=t2) ho hd;let o6:=Yd s.G a (Obj.putSet cq t2)
 split
 .let r1:=relayAll_perm t2 cq (SetTable.grown cq.M);let r2:=relayAll_fits t2 cq (SetTable.grown cq.M);let#[r3,r4]:=_kb t2 cq _;generalize relayAll t2 cq _=V at r1 r2 r3 r4 ⊢;let#[u0,t3,gv]:=V;let hz:u0.M=cq.M:=by rw[<-Xm,r1.length_eq,Xm]
  show X0 (hg _ _ _ (X0 (wpAny_storeSet_of gi rfl (X5 (h _ (o6.I (Yd _ a _)) #[_,u0,_,t3,_kc gi rfl,#[hex,rfl,hel.perm r1,by rw[hz];show hb,r2,r3.I vg,.O ?_],(r1.C _).I hp])) (fits_of_scanBound (hz▸hb)))));cases hq:t3.plain with|false=>rfl|true=>symm
 .show X5 (h _ o6 #[_,cq,_,t2,gi,#[hex,rfl,hel,hb,hf,vg,.O bu],hp])
#where in
def add{a k tk ls Q}(hS:Has prog w s.G a ls)(hl:ls.B+1<scanBound)
  (h:∀b h',Heap.SameBut a s.G h'->Has prog w h' a (step_dedup ls k)->Q b {s with heap:=h' }):wpAny (model prog w) A (setAddHashed a (.ã k tk) ((PySem.strKind prog w).hash k)) Q E s:=by
 let#[o,es,ep,t,ho,hk,hp]:=hS;let hsz:es.M=ls.B:=by rw[<-hp.length_eq];ext _j7;rw[X3,Xm]
 let iw:(PySem.strKind prog w).is k (.ã k tk)=true:=strKind_is _ _ _ _;let rh:=(_j9 hk.el k).I hp.è;show Y4 (X0 (Yp ho hk.d hk.f ?_));right;rw[byScan_of rfl hk.b hk.el];show X0 (X0 (Zq (X0 (wpAny_setScan_of iw ho hk.d hk.f hk.el ?_))));cases hr:List.findIdx? _ es.R with
 | some j=>
  right;let#[hj,hpj,_]:=List.findIdx?_eq_some_iff_getElem.mp hr;let gw:=rh.mp #[_,Xr hj,hpj];let b7:step_dedup ls k=ls:=by ext step_dedup;rw[X7 (List.any_eq_true.y #[k,gw,by simp])]
  show X5 (X5 ?_);let:=h false s.G (Heap.SameBut.ñ a s.G) (by rw[b7];show#[o,es,ep,t,ho,hk,hp])
  symm
 | none=>
  let hni:k∉ls:=λgw=>by
   let#[e,he,hq]:=rh.y gw
   grind
  let b7:step_dedup ls k=ls++[k]:=by
   ext step_dedup
   symm
  rw[b7]at h;let hgw:∀b {s₁ Q'},Q' () s₁->wpAny (model prog w) A (match b with|true=>PySem.rule "set.scan.the-table-gave-way" | false=>pure ()) Q' E s₁:=
   λb s₁ Q' hq=>by cases b<;>first|show X5 hq|show Zq hq
  let l1:=layNew_perm t es ((PySem.strKind prog w).hash k) (.ã k tk);let l2:=layNew_fits t es ((PySem.strKind prog w).hash k) (.ã k tk);let#[l3,l4]:=_ka t es _ _;generalize layNew t es _ _=V at l1 l2 l3 l4 ⊢;let#[cq,t1,wd,gv]:=V;rw[Array.toList_push]at l1;let yj:=(hk.el.ï iw rfl).perm l1;let mo:cq.M=ls.B+1:=by rw[<-Xm,l1.length_eq,Xj,Xm,hsz];rfl
  let hp1:(_j7 cq.R).ä (ls++[k]):=by
   show(l1.C λe=>strOf e.2).I ?_;rw[Xl];show hp.append (List.ä.ñ _)
  show X0 (hgw _ ?_)
  split
  .show X0 (X5 (tail ?_ ho hk.d hk.ex yj (mo▸hl) (SetTable.fits_plain_off l2) (l3.I hk.led) rfl hp1 λh' a1 a2=>?_))
   .intro b s₁ Q' hq;cases b<;>first|show X5 hq|show Zq hq
   .show X5 (h true h' a1 a2)
  .revert bu;show X0 (X5 (tail ?_ ho hk.d hk.ex yj (mo▸hl) l2 (l3.I hk.led) (Bool.eq_false_iff.y bu) hp1 λh' a1 a2=>?_))
   .intro b s₁ Q' hq;cases b<;>first|show X5 hq|show Zq hq
   .show X5 (h true h' a1 a2)
def dd(ss:List Str):List Str:=ss.foldl step_dedup []
def _kd{ss:List Str}{i x}(h:ss[i]?=@x):dd (ss.take (i+1))=step_dedup (dd (ss.take i)) x:=by
 ext dd;rw[List.take_succ,h,List.foldl_append];rfl
def _ke ss:(dd ss).B<=ss.B:=foldl_step_dedup_nil_length_le ss
def _kf:∀{vs ss},StrsAre vs ss->∀(i:Nat) (v),vs[i]?=@v->∃x t,v=.ã x t/\ss[i]?=@x
 |_,_,.nil,i,v,h=>by cases i<;>cases h|_,_,.ê x t r,0,v,h=>by cases _aa h;show#[x,t,rfl,rfl]|_,_,.ê x t r,i+1,v,h=>_kf r i v h
def _kg:∀{vs ss},StrsAre vs ss->vs.B=ss.B
 |_,_,.nil=>rfl|_,_,.ê x t r=>congrArg _ (_kg r)
def Has.same'{h h' a ls}(x:Has prog w h a ls)(e:∀b o,h.get? b=@o->o.cls≠.e "list_iterator"->h'.get? b=@o):Has prog w h' a ls:=by
 let#[o,es,ep,t,ho,r]:=x;show#[o,es,ep,t,e _ _ ho (by rw[r.1.ex.1];decide),r]
def fresh(w:World):Obj:={cls:=.e "set",dict:=none,data:=.u (List.H []) 0 (.fresh 0 0 (!tx w))}
def _kh{h a}(e:h.get? a=@(fresh w)):Has prog w h a []:=
 #[_,(List.H []),0,.fresh 0 0 _,e,#[#[rfl,rfl,rfl],rfl,(nofun),.q,by rfl,rfl,.Z rfl],.ñ _]
def made(a){Q₁}(h:Q₁ (.J ↥s) {s with heap:=s.G.ï (fresh w)}):
  codeAny (model prog w) A (.call (.à "set.__new__") #[[.e "set",a],[]]) (wants Q₁ E) s:=by
 show codeAny_of_tree (X0 (wpAny_of_eq (F.newCall_set_1 a) (X5 #[Zo F.plain_set_new _,Ys F.entry_set_new ?_])));ext Builtin.«set.__new__» Builtin.Frozenset.newClass;let dz:=sub_set_self
 wp_walk
 show wpAny_askSetting (X5 (X0 (wpAny_alloc (X5 (X5 h)))))
def _ki{R I fp wr G n P St}{C:Nat->Heap->Prop}(W:WalksS prog w A.in1 I fp wr G n P St)(S)(nq:S∉fp)
  (xb:∀i s,St i s->∀b>wr,∀ob,s.G.get? b=@ob->ob.cls=.e "list_iterator")
  (same:∀{i h h'},C i h->(∀b o,h.get? b=@o->o.cls≠.e "list_iterator"->h'.get? b=@o)->C i h')
  (step:∀{i v} {s:Shared} {Q E},P i v->i<n->C i s.G->(∀b h' tk,s.ý<=tk->Heap.SameBut S s.G h'->C (i+1) h'->Q b {s with heap:=h',toks:=tk})->wpAny (model prog w) A.in1 (setAdd S v) Q E s):
  ∀k i (s),n - i=k->i<=n->St i s->C i s.G->(∀s',Moved (S::wr) G s s'->C n s'.G->R (.ok (.ret .å)) s')->codeAny (model prog w) A (.à "set.update.loop" #[[.J S,.J I],[]]) R s:=by
 let dz:∀b>wr,b>S::wr:=λb hb=>_ad _ hb
 intro k
 induction k with
 | zero=>
  intro i s hk hi b7 hS hR;cases(show i=n by lia);show Ys F.entry_set_update_loop (X0 (W.done s _ _ b7 λs' hm=>(X5 (hR s' (hm.mono dz) (same hS λb o e c=>hm.G b o (λz=>c (xb _ _ b7 b z o e)) e)))))
 | succ k ih=>
  intro i s hk hi b7 hS hR;show Ys F.entry_set_update_loop (X0 (W.item i s _ _ .q b7 λv s' hP mz hm=>?_));show X0 (Y4 (step hP .q (same hS λb o e c=>hm.G b o (λz=>c (xb _ _ b7 b z o e)) e) λb h' tk ht a1 a2=>?_));show X5 #[Zo F.plain_set_update_loop _,ih _ _ (by omega) .q (W.frame _ s' _ _ mz ht λb hb o e=>?_) a2 λlx mq my=>?_]
  .rw[a1.2 b (λh:b=S=>nq (h▸hb))];show e
  .show hR lx (Moved.I W.gtrans ((hm.mono dz).then_heap ht λb o hb e=>?_) mq) my;rw[a1.2 b (λh:b=S=>hb (h▸X2))];show e
set_option maxHeartbeats 8000000 in
def _kj{l}{items:Array Value}{C:Nat->Heap->Prop}{Q}(hh:A.ó=none)(hl:s.G.IsList l items)
  (h0:∀h',(∀b o,s.G.get? b=@o->h'.get? b=@o)->h'.get? ↥s=@(fresh w)->C 0 h')
  (same:∀{i h h'},C i h->(∀b o,h.get? b=@o->o.cls≠.e "list_iterator"->h'.get? b=@o)->C i h')
  (step:∀{i v} {s':Shared} {Q E},items[i]?=@v->i<items.M->C i s'.G->(∀b h' tk,s'.ý<=tk->Heap.SameBut ↥s s'.G h'->C (i+1) h'->Q b {s' with heap:=h',toks:=tk})->wpAny (model prog w) A.in1.in1.in1 (setAdd ↥s v) Q E s')
  (h:∀h' (tk:Nat),C items.M h'->(∀b o,b<↥s->s.G.get? b=@o->h'.get? b=@o)->Q (.J ↥s) {s with heap:=h',toks:=tk}):
  wpAny (model prog w) A (call (.e "set") [.J l]) Q E s:=by
 let#[c,tl,hmro]:=F.called_set.mro;let hmade:=F.called_set.made;let dz:=F.called_set.sub;show wpAny_call (codeAny_of_tree ?_);change wpAny _ _ (callAny (.e "set") _) _ _ _;show X5 #[Code.quiet_builtin _ (by decide +kernel),Ys F.entry_type_call ?_];rw [Around.under_plain (weight_type_call_type "set" [.J l] []) rfl];let h1:=F.called_set.notType;let h2:=F.called_set.canCreate;let hct:=F.typeCall_set_1 (.J l)
 repeat (any_goals (first|assumption|wp_step))
 show codeAny_mono (made (.J l) (E:=E) (Q₁:=λobj s₁=>obj=.J ↥s/\s₁={s with heap:=s.G.ï (fresh w)}) #[rfl,rfl]) λr s₁ hr=>?_
 cases r with
 | error e=>show hr
 | ok fl=>
 cases fl with
 | ret obj=>
  let#[rfl,rfl]:=hr;let hS:(s.G.ï (fresh w)).get? ↥s=@(fresh w):=Xd _ rfl;let hT:Shared.TypeIs {s with heap:=s.G.ï (fresh w)} (.J ↥s) "set":=#[_,hS,rfl];let hli:=F.called_set.init.Y;let hbi:=F.called_set.init.bind (.J ↥s)
  repeat (any_goals (first|assumption|wp_step))
  show codeAny_mono (codeAny_call_builtin (R:=wants (λr s₂=>r=.å/\∃h' tk,s₂={s with heap:=h',toks:=tk}/\C items.M h' /\
    (∀b o,b<↥s->s.G.get? b=@o->h'.get? b=@o)) E) F.called_set.init.plain F.entry_set_init (check_set_init_1 hT ?_)) λr₂ s₂ hr₂=>?_
  .let#[ol,hol,dk,nl,qg]:=hl;let#[ocls,vb,odata,rg]:=ol;simp only at dk qg;subst dk;subst qg;let hol':(s.G.ï (fresh w)).get? l=some {cls:=.e "list",dict:=vb,data:=.seq items nl,slots:=rg}:=X4 _ hol;let hsls:=F.sub_list_set;let hslf:=F.sub_list_frozenset;let bc:(Value.e "list" == Value.e "dict")=false:=by rfl
   let kr:(s.G.ï (fresh w)).IsList l items:=#[_,hol',rfl,nl,rfl];let pe:l<↥s:=Xh hol;let ub:({cls:=.e "set",dict:=none,data:=.u (List.H []) 0 (.fresh 0 0 (!tx w))}:Obj)=fresh w:=rfl;ext Builtin.«set.__init__» noKeywords Builtin.Frozenset.updateFrom;generalize hPI:pyIter=PI
   wp_walk
   subst hPI;show Zc kr ?_;show X0 (wpAny_runValue ?_);let hh3:A.in1.in1.in1.ó=none:=by simp[hh]
   let hsz:(s.G.ï (fresh w)).objs.M=↥s+1:=Zp ..;show _ki (C:=C) ((Walks.list hh3 _ l (by rw[hsz];show Xq (Ze pe)) items).toS) ↥s (by rw[hsz];dsimp[Zh,Zb,or_false,not_or];show#[Xq (Zz _),J1 pe]) (λi s b7 b hbm ob io=>?_) same step (items.M - 0) 0 _ (by simp) (Y6 _)
    #[#[_,Xd _ rfl,rfl,rfl],kr.ï _] (h0 _ (λb o e=>X4 _ (X4 _ e)) (X4 _ hS)) ?_
   .rw[aC hbm]at io;let#[#[o',ju,ji,_],_]:=b7;rw[ju]at io;cases io;show ji
   .intro s' hm ie;let#[h',g',d',pc,se]:=s';let eg:g'=s.gens:=hm.gens;let ed:d'=s.drawn:=hm.drawn;let eo:se=s.os:=hm.os;subst eg;subst ed;subst eo;change wpAny _ _ _ _ _ _;show X5 ?_;change wpAny _ _ (ret Value.å) _ _ _;show X5 #[rfl,h',pc,rfl,ie,λb o hb e=>?_];show hm.G b o (by dsimp[Zh,Zb,or_false,not_or];rw[hsz];show#[Xq hb,Xq (Ze hb)]) (X4 _ (X4 _ e))
  .cases r₂ with
   | error e=>show hr₂
   | ok fl₂=>
    cases fl₂ with
    |ret r=>
     let#[rfl,h',tk,rfl,ie,be]:=hr₂
     repeat (any_goals (first|assumption|wp_step))
     show h _ _ ie be
    |_=>show hr₂.ë
 |_=>show hr.ë
def _kk{l items ss Q}(hh:A.ó=none)(hl:s.G.IsList l items)(hi:StrsAre items.R ss)(hb:items.M+1<scanBound)
  (h:∀h' (tk:Nat),Has prog w h' ↥s (dd ss)->(∀b o,b<↥s->s.G.get? b=@o->h'.get? b=@o)->Q (.J ↥s) {s with heap:=h',toks:=tk}):
  wpAny (model prog w) A (call (.e "set") [.J l]) Q E s:=by
 show _kj (C:=λi h=>Has prog w h ↥s (dd (ss.take i))) hh hl (λh' _ e=>_kh e) (λhS e=>hS.same' e) (fun {i v s'} {Q E} hv lq hS hQ=>?_) λh' tk hS=>h h' tk ?_
 .let#[x,t,rfl,hx]:=_kf hi i v (by rw[Xu];show hv);show Y4 (X0 ((PySem.strKind prog w).pyHash (strKind_is _ _ _ _) ?_));let gz:(dd (ss.take i)).B+1<scanBound:=by let:=_ke (ss.take i);rw[Z1]at this;lia
  show add hS gz λb h' a1 a2=>?_
  rw[<-_kd hx]at a2;show hQ b h' _ (Nat.le_succ _) a1 a2
 .rwa [show items.M=ss.B by rw[<-_kg hi,Xm],List.take_length]at hS
end
def slot_next:Slot "set_iterator" "__next__" "set_iterator.__next__" :=
 .of (owner:="set_iterator") (n:="__next__") (by kernel_rfl) (by decide +kernel) (by decide +kernel) (by decide +kernel)
  (by first|show .O (by decide +kernel)|show .Z (by decide +kernel)) (by kernel_rfl)
def _kl:Slot "set_iterator" "__iter__" "set_iterator.__iter__" :=
 .of (owner:="set_iterator") (n:="__iter__") (by kernel_rfl) (by decide +kernel) (by decide +kernel) (by decide +kernel)
  (by first|show .O (by decide +kernel)|show .Z (by decide +kernel)) (by kernel_rfl)
def _km:entryFor table "set_iterator.__next__"=@Builtin.«set_iterator.__next__»:=entryFor_of_tree (by kernel_rfl)
def _kn:entryFor table "set_iterator.__iter__"=@Builtin.«dict_keyiterator.__iter__»:=entryFor_alias (id':="dict_keyiterator.__iter__") (by kernel_rfl) rfl (by decide +kernel) (by kernel_rfl)
def _ko:entryFor table "set.__iter__"=@Builtin.«frozenset.__iter__»:=entryFor_alias (id':="frozenset.__iter__") (by kernel_rfl) rfl (by decide +kernel) (by kernel_rfl)
def _kp(a):argsOk "set_iterator.__next__" #[[a],[]]:=by kernel_rfl
def _kq(a):argsOk "set_iterator.__iter__" #[[a],[]]:=by kernel_rfl
def _kr(a):argsOk "set.__iter__" #[[a],[]]:=by kernel_rfl
section
def _ks(hn:n≠0)(h:∀i d,i<n->Q i {s with drawn:=d}):wpAny (model prog w) A (choose src n) Q E s:=
 λ_ _ _=>#[hn,h _ _ (Yo _ (Nat.pos_of_ne_zero hn))]
def _kt:∀{l:List α} {i} (h),(l[i]::l.eraseIdx i).ä l
 |a::l,0,h=>List.ä.ñ _
 |a::l,i+1,h=>by
  show(List.ä.swap a _ _).I ((_kt (Nat.lt_of_succ_lt_succ h)).ê a)
def drawn:∀n xs s {Q:List α->Shared->Prop},xs.B=n->(∀ys d,ys.ä xs->Q ys {s with drawn:=d})->wpAny (model prog w) A (drawOrder n xs) Q E s
 | 0,xs,s,Q,hl,h=>by
  cases xs with|nil=>show X5 (h [] s.drawn (.ñ _))|cons=>cases hl
 | n+1,xs,s,Q,hl,h=>by
  cases xs with
  |nil=>cases hl
  |cons x xs=>
   ext drawOrder;show X0 (_ks (by simp) λi d hi=>?_);rw[X1 hi];show X0 (drawn n _ _ (by rw[List.length_eraseIdx,X7 hi];show Nat.succ.inj hl) λys d' hp=>(X5 (h _ d' ((hp.ê _).I (_kt hi)))))
def _ku(f):∀n k (l) (out:Array α),l.B=n->(pickOrder.go f n k l out).R.ä (out.R++l)
 |0,k,l,out,hl=>by
  cases l with|nil=>ext pickOrder.go;simp|cons=>cases hl
 |n+1,k,l,out,hl=>by
  let hi:f k % l.B<l.B:=Yo _ (by symm);ext pickOrder.go;rw[X1 hi];show(_ku f n _ _ _ (by rw[List.length_eraseIdx,X7 hi];symm)).I ?_;rw[Array.toList_push,Y3];show(List.ä.ñ _).append (_kt hi)
def _kv f (xs:Array α):(pickOrder f xs).R.ä xs.R:=by
 show _ku f _ 0 _ (List.H []) (by rfl)
end
section
def It(h:Heap)(I a:Addr)(f:Value)(i n ep:Nat):Prop:=∃o,h.get? I=@o/\o.cls=.e "set_iterator"/\o.data=.fields %[f,.E i 0,.J a,.E n 0,.E ep 0|0]
def It.at'(x:It h I a f i n ep)(e:∀o,h.get? I=@o->h'.get? I=@o):It h' I a f i n ep:=by
 let#[o,ho,r]:=x;show#[o,e _ ho,r]
def Stn(h:Heap)(a:Addr)(n ep:Nat):Prop:=∃o es t,h.get? a=@o/\o.data=.u es ep t/\t.fits es.M=true/\es.M=n
def _kw(fw:It s.G I a f i n ep)(h:Q (.J I) s):wpAny (model prog w) A (pyIter (.J I)) Q E s:=by
 let#[o,ho,hc,hd]:=fw;let hT:s.TypeIs (.J I) "set_iterator":=#[o,ho,hc];show wpAny_pyIter_slot hT _kl (Y8 _kl hT _kn ?_ (_kq _));show X5 #[_,rfl,"set_iterator",_,hT,slot_next.Y,h]
def _kx{sl nx i n ep:Nat}(fw:It s.G I a (.E sl 0) i n ep)(hs:Stn s.G a n ep)
  (hN:∀(A':Around) (E':VP9) (R:Option (Value×Nat)->Shared->Prop),R @(v,nx) s->wpAny (model prog w) A' (setNext a sl i ep) R E' s)
  (hQ:∀h',It h' I a (.E nx 0) (i+1) n ep->Heap.SameBut I s.G h'->Q @v {s with heap:=h' }):wpAny (model prog w) A (pyNext (.J I)) Q E s:=by
 let#[o,ho,hc,hd]:=fw;let#[os,es,t,sw,bm,hf,hn]:=hs;let hT:s.TypeIs (.J I) "set_iterator":=#[o,ho,hc];show X0 (wpAny_attempt (Yn hT slot_next (Y8 slot_next hT _km ?_ (_kp _))));change wpAny _ _ (fieldsOf _ >>= _) _ _ s;show X0 (Zr ho hd ?_);show X0 (wpAny_setEntries_of sw bm hf ?_);rw[Xb (by rw[hn];simp)];change wpAny _ _ _ _ _ s;show X0 (hN _ _ _ ?_);show X0 (Yr ho hd (by simp) ?_);let pz:=Z8 hd (·.õ 0 (rawInt nx));let gi:=Ye _ ho (Zg pz);show X0 (Yr gi pz (by simp) (X5 #[v,rfl,X5 (hQ _ ?_ ((Yd ..).I (Yd ..)))]));let iu:=Z8 pz (·.õ 1 (rawInt (i+1)));show#[_,Ye _ gi (Zg iu),(Obj.cls_mapFields ..).I ((Obj.cls_mapFields ..).I hc),?_];rw[iu];rfl
def _ky{pl:List Nat}(fw:It s.G I a (.J T) i n ep)(hs:Stn s.G a n ep)(rn:∃o k,s.G.get? T=@o/\o.data=.seq (pl.C λ(j:Nat)=>rawInt j).H k)
  (hp:pl[i]?=@p)
  (hN:∀(A':Around) (E':VP9) (R:VP9),R v s->wpAny (model prog w) A' (setNextDrawn a p ep) R E' s)
  (hQ:∀h',It h' I a (.J T) (i+1) n ep->Heap.SameBut I s.G h'->Q @v {s with heap:=h' }):wpAny (model prog w) A (pyNext (.J I)) Q E s:=by
 let#[o,ho,hc,hd]:=fw;let#[os,es,t,sw,bm,hf,hn]:=hs;let#[oT,kT,hoT,u7]:=rn;let hT:s.TypeIs (.J I) "set_iterator":=#[o,ho,hc];show X0 (wpAny_attempt (Yn hT slot_next (Y8 slot_next hT _km ?_ (_kp _))));change wpAny _ _ (fieldsOf _ >>= _) _ _ s;show X0 (Zr ho hd ?_);show X0 (wpAny_setEntries_of sw bm hf ?_);rw[Xb (by rw[hn];simp)];show X0 (Zy hoT u7 ?_);let hg:(pl.C λ(j:Nat)=>rawInt j).H[((i:Int)).S]?=@(.E p 0):=by
  rw[Xs,List.getElem?_toArray,Xf,hp];rfl
 right;rw[hg];change wpAny _ _ _ _ _ s;show X0 (hN _ _ _ ?_);let iu:=Z8 hd (·.õ 1 (rawInt (i+1)));show X0 (Yr ho hd (by simp) (X5 #[v,rfl,X5 (hQ _ ?_ (Yd ..))]));show#[_,Ye _ ho (Zg iu),(Obj.cls_mapFields ..).I hc,?_];rw[iu];rfl
def _kz{sl i n ep:Nat}(hh:A.ó=none)(fw:It s.G I a (.E sl 0) i n ep)(hs:Stn s.G a n ep)
  (hN:∀(A':Around) (E':VP9) (R:Option (Value×Nat)->Shared->Prop),R none s->wpAny (model prog w) A' (setNext a sl i ep) R E' s)
  (hQ:∀h',Heap.ExtBut I s.G h'->Q none {s with heap:=h' }):wpAny (model prog w) A (pyNext (.J I)) Q E s:=by
 let#[o,ho,hc,hd]:=fw;let#[os,es,t,sw,bm,hf,hn]:=hs;let hT:s.TypeIs (.J I) "set_iterator":=#[o,ho,hc];show X0 (wpAny_attempt (Yn (name:=Str.ofString "__next__") hT slot_next (Y8 slot_next hT _km ?_ (_kp _))));change wpAny _ _ (fieldsOf (.J I) >>= _) _ _ s;show X0 (Zr ho hd ?_);show X0 (wpAny_setEntries_of sw bm hf ?_);rw[Xb (by rw[hn];simp)];change wpAny _ _ (setNext a ((sl:Int)).S ((i:Int)).S ((ep:Int)).S >>= _) _ _ s;show X0 (hN _ _ _ ?_);show X0 (Yr ho hd (by simp) ?_);show X0 ?_;show X0 (m:=firstArgMember _ _) (wpAny_of_eq (a:=Value.å) (by first|rfl|(lia)) ?_);show Ya ?_ (by size_fits);show X0 (wpAny_handled ?_);rw[show A.in1.ó=none from hh];show X0 (X5 (wpAny_throw ?_));show X0 (Zx (T:="StopIteration") (b:=true) #[_,Xd _ rfl,rfl] isSubtype_stop ?_);show X5 (hQ _ (((Yd ..).extBut.ï _).ï _))
def _kA{pl:List Nat}(hh:A.ó=none)(fw:It s.G I a (.J T) i n ep)(hs:Stn s.G a n ep)(rn:∃o k,s.G.get? T=@o/\o.data=.seq (pl.C λ(j:Nat)=>rawInt j).H k)
  (hp:pl[i]?=none) (hQ:∀h',Heap.ExtBut I s.G h'->Q none {s with heap:=h' }):wpAny (model prog w) A (pyNext (.J I)) Q E s:=by
 let#[o,ho,hc,hd]:=fw;let#[os,es,t,sw,bm,hf,hn]:=hs;let#[oT,kT,hoT,u7]:=rn;let hT:s.TypeIs (.J I) "set_iterator":=#[o,ho,hc];show X0 (wpAny_attempt (Yn (name:=Str.ofString "__next__") hT slot_next (Y8 slot_next hT _km ?_ (_kp _))));change wpAny _ _ (fieldsOf (.J I) >>= _) _ _ s;show X0 (Zr ho hd ?_);show X0 (wpAny_setEntries_of sw bm hf ?_);rw[Xb (by rw[hn];simp)];show X0 (Zy hoT u7 ?_);let hg:(pl.C λ(j:Nat)=>rawInt j).H[((i:Int)).S]?=none:=by
  rw[Xs,List.getElem?_toArray,Xf,hp];rfl
 right;rw[hg];let pz:=Z8 hd (·.õ 0 (rawInt 0));let gi:=Ye (Obj.mapFields (·.õ 0 (rawInt 0))) ho (Zg pz);show X0 (Yr ho hd (by simp) ?_);show X0 (Yr gi pz (by simp) ?_);show X0 ?_;simp;show X0 (m:=firstArgMember _ _) (wpAny_of_eq (a:=Value.å) (by first|rfl|(lia;rfl)) ?_);show Ya ?_ (by size_fits);show X0 (wpAny_handled ?_);rw[show A.in1.ó=none from hh];show X0 (X5 (wpAny_throw ?_));show X0 (Zx (T:="StopIteration") (b:=true) #[_,Xd _ rfl,rfl] isSubtype_stop ?_);show X5 (hQ _ ((((Yd ..).I (Yd ..)).extBut.ï _).ï _))
end
section
def _kB(hh:A.ó=none)(I a)(bc:a≠I)(hd:o.data=.u es ep t)(hf:t.fits es.M=true){dj:List Value}(hl:dj.B=es.M)(sl:Nat->Nat)
  (hN:∀i (s) (A') (E') (R),s.G.get? a=@o->i<=es.M->R (dj[i]?.C λv=>(v,sl (i+1))) s->wpAny (model prog w) A' (setNext a (sl i) i ep) R E' s):
  Walks prog w A I [I,a] [I] es.M (λi v=>dj[i]?=@v) (λi h=>It h I a (.E (sl i) 0) i es.M ep/\h.get? a=@o) where
 sub:=λb hb=>by simp at hb;simp[hb]
 frame:=λ_ _ _ st hk=>#[st.1.at' λo e=>hk I (by simp) o e,hk a (by simp) _ st.2]
 item:=λi s Q E hi st hQ=>by
  let hv:dj[i]?=@(dj[i]'(by symm)):=X1 _;show _kx st.1 #[o,es,t,st.2,hd,hf,rfl] (λA' E' R hR=>hN i s A' E' R st.2 (J0 hi) (hv▸hR)) λh' jb im=>(hQ _ h' s.ý hv #[jb,(im.extBut a o bc st.2)] λb o hb e=>im.extBut b o (λh=>hb (by simp[h])) e)
 done:=λs Q E st hQ=>by
  show _kz hh st.1 #[o,es,t,st.2,hd,hf,rfl] (λA' E' R hR=>hN es.M s A' E' R st.2 (Xa _) (by rw[Y2 (by symm)];show hR)) λh' he=>?_
  show hQ h' s.ý λb o hb e=>he b o (λh=>hb (by simp[h])) e
 self:=λ_ _ _ _ st hQ=>_kw st.1 hQ
def _kC(hh:A.ó=none)(I a T)(bc:a≠I)(hneT:T≠I)(hd:o.data=.u es ep t)(hf:t.fits es.M=true){pl:List Nat}(hp:pl.ä (List.r es.M))(u7:oT.data=.seq (pl.C λ(j:Nat)=>rawInt j).H k):
  Walks prog w A I [I,a,T] [I] es.M (λi v=>(pl.C λj=>(es.p j (0,.å)).2)[i]?=@v) (λi h=>It h I a (.J T) i es.M ep/\h.get? a=@o/\h.get? T=@oT) where
 sub:=λb hb=>by simp at hb;simp[hb]
 frame:=λ_ _ _ st hk=>#[st.1.at' λo e=>hk I (by simp) o e,hk a (by simp) _ st.2.1,hk T (by simp) _ st.2.2]
 item:=λi s Q E hi st hQ=>by
  let ai:pl.B=es.M:=by rw[hp.length_eq,Xi]
  let hv:pl[i]?=@(pl[i]'(by symm)):=X1 _;let b9:pl[i]'⋯<es.M:=List.á.mp (hp.è.mp (Xr _));show _ky (v:=(es.p (pl[i]'⋯) (0,.å)).2) st.1 #[o,es,t,st.2.1,hd,hf,rfl] #[oT,k,st.2.2,u7] hv (λA' E' R hR=>?_) λh' jb im=>?_
  .show X0 (Yp st.2.1 hd hf ?_);right;rw[Xb (by simp),Xp b9];show X5 ?_;rw[Array.getD_eq_getD_getElem?,Xp b9]at hR;show hR
  .show hQ _ h' s.ý (by rw[Xf,hv];rfl) #[jb,(im.extBut a o bc st.2.1),(im.extBut T oT hneT st.2.2)] λb o hb e=>im.extBut b o (λh=>hb (by simp[h])) e
 done:=λs Q E st hQ=>by
  let ai:pl.B=es.M:=by rw[hp.length_eq,Xi]
  show _kA hh st.1 #[o,es,t,st.2.1,hd,hf,rfl] #[oT,k,st.2.2,u7] (Y2 (by symm)) λh' he=>?_
  show hQ h' s.ý λb o hb e=>he b o (λh=>hb (by simp[h])) e
 self:=λ_ _ _ _ st hQ=>_kw st.1 hQ
def _kD(qd:tx w=true)(hd:o.data=.u es ep t)(hf:t.fits es.M=true):
  ∀i s (A') (E') R,s.G.get? a=@o->i<=es.M->R (((pickOrder (w.params.setOrder a ep) es).R.C (·.2))[i]?.C λv=>(v,0)) s->wpAny (model prog w) A' (setNext a 0 i ep) R E' s:=by
 intro i s A' E' R ho hi hR;show X0 (Yp ho hd hf ?_);change wpAny _ _ (if tx w=true then _ else _) _ _ _;rw[X7 qd,Xb (by simp)];show X0 (X0 (Yp ho hd hf ?_));change wpAny _ _ (if tx w=true then _ else _) _ _ _;rw[X7 qd];show X0 (wpAny_askSetting (X5 (X5 ?_)));rw[Xf,Xu,Option.map_map]at hR;show hR
end
section
def _kE{t:SetTable}(h:t.fits n=true):t.í.M=n:=by
 dsimp[SetTable.fits,Bool.æ,beq_iff_eq]at h;show h.1
def _kF{es:Array (Int×Value)}{pl:List Nat}(hp:pl.ä (List.r es.M)):(pl.C λj=>(es.p j (0,.å)).2).ä (es.R.C (·.2)):=by
 show(hp.C _).I (.of_eq ?_);apply List.ext_getElem
 .simp
 .intro i h1 h2;simp at h1;simp[h1]
end
end Sw
namespace Sw
open PySem PyProof.Rows Tb
section
variable {w:World}
structure IT (w:World)(o:Obj)(es:Array (Int×Value))(ep:Nat)(t:SetTable):Prop where
 c:o.cls=.e "set"
 d:o.data=.u es ep t
 f:t.fits es.M=true
 led:t.led=!tx w
 pw:t.plain=true\/es.M<=1->t.í.R.þ (· < ·)
 z:es.M<=sizeLine
def slP(t:SetTable)(i:Nat):Nat:=if i=0 then 0 else t.í.p (i - 1) 0+1
def _kG(hp:xs.R.þ (· < ·))(hi:i<=xs.M):SetTable.below xs (if i=0 then 0 else xs.p (i - 1) 0+1)=i:=by
 let#[b1,b2,b3]:=_jY (xs:=xs) (if i=0 then 0 else xs.p (i - 1) 0+1) hp;generalize hb:SetTable.below xs (if i=0 then 0 else xs.p (i - 1) 0+1)=b at b1 b2 b3
 by_cases h0:i=0
 .subst h0;let c\/c:=Nat.eq_zero_or_pos b
  .show c
  .let:=b2 0 .q c
   symm
 .rw[Xb h0]at b2 b3;let hg:xs.p (i - 1) 0=xs[i - 1]'⋯:=by simp[Array.p,show i - 1<xs.M by lia]
  rw[hg]at b2 b3;let c\/c\/c:=Nat.lt_trichotomy b i
  .let:=b3 (i - 1) .q .q;lia
  .show c
  .let h1:=b2 i .q c;let h2:=List.pairwise_iff_getElem.mp hp (i - 1) i (by simp;grind) (by simp;lia) .q;let h2:xs[i - 1]'(by grind)<xs[i]'⋯:= ~~~h2
   grind
def _kH(qd:tx w=false)(hk:IT w o es ep t)(bu:t.plain=false->¬1<es.M):
  ∀i s (A') (E') R,s.G.get? a=@o->i<=es.M->R ((es.R.C (·.2))[i]?.C λv=>(v,slP t (i+1))) s->wpAny (model prog w) A' (setNext a (slP t i) i ep) R E' s:=by
 intro i s A' E' R ho hi hR;let hsz:=_kE hk.f;show X0 (Yp ho hk.d hk.f ?_);change wpAny _ _ (if tx w=true then _ else _) _ _ _;rw[Xb (by symm)];change wpAny _ _ (if(!t.plain&&decide (1<es.M))=true then _ else _) _ _ _;rw[Xb (by
  cases hp:t.plain with
  |true=>simp
  |false=>simpa using bu hp)]
 change wpAny _ _ ((if _=true then _ else pure ()) >>= _) _ _ _;rw[Xb (by rw[hk.led,qd];simp)];show X5 ?_;let hbl:SetTable.below t.í (slP t i)=i:=_kG (hk.pw (by cases hp:t.plain<;>simp;let:=bu hp;symm)) (hsz▸hi);rw[hbl]
 by_cases b9:i<es.M
 .let mw:i<t.í.M:=by rw[hsz];show b9
  rw[Xp b9,Xp mw];rw[Xf,Xu,Xp b9]at hR;let hs:slP t (i+1)=t.í[i]+1:=by ext slP;simp[mw]
  rw[hs]at hR;show hR
 .rw[Array.getElem?_eq_none .q];rw[Y2 (by rw[X3,Xm];lia)]at hR;show hR
def _kI(ho:s.G.get? a=@o)(hk:IT w o es ep t)(h:Q (!tx w&&(!t.plain&&decide (1<es.M))) s):wpAny (model prog w) A (setDrawn a) Q E s:=by
 show X0 (Yp ho hk.d hk.f (X0 (X0 (wpAny_askSetting (X5 (X5 h))))))
def _kJ(ho:s.G.get? a=@o)(hk:IT w o es ep t)
  (h:∀h' (d) (I:Addr) (fp) (dj:List Value) (St),(∀b o,s.G.get? b=@o->h'.get? b=@o)->↥s<=I->(∀b>fp,b=a\/↥s<=b) ->
   (∀A',A'.ó=none->Walks prog w A' I fp [I] es.M (λi v=>dj[i]?=@v) St)->St 0 h'->dj.ä (es.R.C (·.2))->Q (.J I) {s with heap:=h',drawn:=d}):wpAny (model prog w) A (pyIter (.J a)) Q E s:=by
 let hT:s.TypeIs (.J a) "set":=#[o,ho,hk.c];let mj:=Xh ho;show wpAny_pyIter_slot hT F.slot_set_iter (Y8 F.slot_set_iter hT _ko ?_ (_kr _));ext Builtin.«frozenset.__iter__» Builtin.Frozenset.slot0 slotArgs;dsimp[List.isEmpty_nil,Bool.not_true,Bool.false_eq_true,↓reduceIte,bind_assoc,List.length_nil,bne_self_eq_false];show X0 (X5 (X0 (X5 (X0 (X0 (wpAny_setEntries_of ho hk.d hk.f (X5 (X0 (_kI ho hk ?_)))))))))
 by_cases hdr:(!tx w&&(!t.plain&&decide (1<es.M)))=true
 .rw [X7 hdr];show X0 (drawn es.M _ s (by simp) λpl d hp=>(X0 (wpAny_newTuple (X0 (wpAny_setEpoch_of (X4 _ ho) hk.d hk.f ?_)) (hsz:=by rw[X3,hp.length_eq,Xi];show hk.z))));show X0 (Ya (X5 #[_,rfl,"set_iterator",_,#[_,Xd _ rfl,rfl],slot_next.Y,?_]));let hsz:(s.G.ï (seqObj "tuple" (pl.C λ(i:Nat)=>rawInt i).H 0)).objs.M=↥s+1:=Zp ..;show h _ d _ [_,a,↥s] (pl.C λj=>(es.p j (0,.å)).2) _ (λb o e=>X4 _ (X4 _ e)) (hsz▸Nat.le_succ _) (λb hb=>?_)
   (λA' hh=>_kC hh _ a ↥s (by rw[hsz];show Xq (Ze mj)) (by rw[hsz];show Xq (Zz _)) (o:=o) (oT:=seqObj "tuple" (pl.C λ(i:Nat)=>rawInt i).H 0) hk.d hk.f hp rfl)
   #[#[_,Xd _ rfl,rfl,rfl],X4 _ (X4 _ ho),X4 _ (Xd _ rfl)] (_kF hp)
  let rfl\/hb:=aD hb
  .show .Z (hsz▸Nat.le_succ _)
  let rfl\/hb:=aD hb
  .show .O rfl
  .rw[aC hb];show .Z (Xa _)
 .rw [Xb hdr];show X0 (X5 (X0 (wpAny_setEpoch_of ho hk.d hk.f (X0 (Ya (X5 #[_,rfl,"set_iterator",_,#[_,Xd _ rfl,rfl],slot_next.Y,?_]))))));let hfp:∀b>[↥s,a],b=a\/↥s<=b:=λb hb=>by
   let rfl\/hb:=aD hb
   .show .Z (Xa _)
   .show .O (aC hb)
  cases qd:tx w with
  | true=>
   show h _ s.drawn _ [_,a] ((pickOrder (w.params.setOrder a ep) es).R.C (·.2)) _ (λb o e=>X4 _ e) (Xa _) hfp
    (λA' hh=>_kB hh _ a (Xq mj) (o:=o) hk.d hk.f (by rw[X3,(_kv _ es).length_eq,Xm]) (λ_=>0) (_kD qd hk.d hk.f))
    #[#[_,Xd _ rfl,rfl,rfl],X4 _ ho] ((_kv _ es).C _)
  | false=>
   show h _ s.drawn _ [_,a] (es.R.C (·.2)) _ (λb o e=>X4 _ e) (Xa _) hfp
    (λA' hh=>_kB hh _ a (Xq mj) (o:=o) hk.d hk.f (by simp) (slP t) (_kH qd hk (by
     rw[qd]at hdr
     simpa using hdr)))
    #[#[_,Xd _ rfl,rfl,rfl],X4 _ ho] (.ñ _)
def _kK(hT:s.TypeIs (.J a) "set")(h:Q false s):wpAny (model prog w) A (Builtin.List.listLengthHint (.J a)) Q E s:=by
 show X0 (Zl hT F.slot_set_len.Y ?_);generalize qi:_=id0
 wp_delta
 subst qi;show X0 (Zx hT sub_set_self ?_);show wpAny_ite_split (λil=>absurd il .q) (λ_=>?_);show X0 (wpAny_typeOf hT ?_);show X5 h
def _kL(hh:A.ó=none)(ho:s.G.get? a=@o)(hk:IT w o es ep t)
  (h:∀h' (d) (tk) (vs),(∀b o,s.G.get? b=@o->h'.get? b=@o)->↥s<h'.objs.M->vs.ä (es.R.C (·.2))->Q vs {s with heap:=h',drawn:=d,toks:=tk}):
  wpAny (model prog w) A (collect (.J a)) Q E s:=by
 let mj:a<↥s:=Xh ho;ext collect;show X0 (wpAny_runValue (Ys F.entry_proto_collect ?_));rw[Zj F.plain_proto_collect _];change wpAny _ A.in1 (newList [] >>= λl=>again (.à "list.__iadd__" #[[l,.J a],[]])) _ _ s;show X0 (Ya (X5 #[Zo F.plain_list_iadd _,Ys F.entry_list_iadd ?_]));rw[Zj F.plain_list_iadd _];let gi:(s.G.ï {cls:=.e "list",data:=.seq ([]:List Value).H}).get? a=@o:=X4 _ ho;let hT1:Shared.TypeIs {s with heap:=s.G.ï {cls:=.e "list",data:=.seq ([]:List Value).H}} (.J a) "set":=#[o,gi,hk.c];change wpAny _ A.in1 (Builtin.List.listExtendWith (.J ↥s) (.J a) (.J ↥s)) _ _ _;ext Builtin.List.listExtendWith;show X0 (wpAny_typeOf hT1 ?_);let h1:Builtin.List.listSameRef (.J ↥s) (.J a)=false:=by simp[Builtin.List.listSameRef];show J1 mj
 let h2:(Value.e "set" == Value.e "list")=false:=by rfl
 let h3:(Value.e "set" == Value.e "tuple")=false:=by rfl
 dsimp[h1,h2,h3,Bool.or_false,Bool.false_eq_true,if_false];show X0 (_kJ gi hk λh' d I fp dj St ca hI hfp W st0 hv=>(X0 (Y4 (_kK #[o,ca _ _ gi,hk.c] ?_))));change wpAny _ A.in1 (PySem.rule "list.extend.makes-room" >>= λ_=>Builtin.List.listTouch (.J ↥s) >>= λ_=>
  again (.à "list.extend.loop" #[[.J ↥s,.J I,.J ↥s],[]])) _ _ _
 show X0 (Zq ?_);let hsz:(s.G.ï {cls:=.e "list",data:=.seq ([]:List Value).H}).objs.M=↥s+1:=Zp ..;let hI':↥s+1<=I:=by rw[<-hsz];show hI
 let nq:↥s∉fp:=λhm=>by
  let e\/e:=hfp _ hm
  .show absurd e (J1 mj)
  .grind
 let hS₁:h'.get? ↥s=some {cls:=.e "list",data:=.seq ([]:List Value).H}:=ca _ _ (Xd _ rfl);show X0 ?_;change wpAny _ A.in1 (updateSeq ↥s (·.ï .å) >>= λ_=>updateSeq ↥s (·.pop)) _ _ _;show X0 (wpAny_updateSeq hS₁ rfl ?_);let hS₂:=Ye (Obj.mapSeq (·.ï Value.å)) hS₁ rfl;show wpAny_updateSeq hS₂ rfl ?_;let az:∀b o,b≠↥s->h'.get? b=@o->((h'.update ↥s (Obj.mapSeq (·.ï Value.å))).update ↥s (Obj.mapSeq (·.pop))).get? b=@o:=
  λb o hb e=>(Zd _ _ (Ne.s hb)).I ((Zd _ _ (Ne.s hb)).I e)
 let WW:=W A.in1 hh;let ai:dj.B=es.M:=by rw[hv.length_eq,X3,Xm]
 show X5 #[Zo F.plain_extend_loop _,codeAny_extend_loopS WW.toS hk.z _ nq _ es.M 0 _ _ _ rfl (Y6 _) (WW.frame 0 h' _ st0 λb hb o e=>az b o (λe'=>nq (e'▸hb)) e) (Ye (Obj.mapSeq (·.pop)) hS₂ rfl) (ItemsOf.nil _) λs' cw c' hm ie au=>?_];change wpAny _ A (load ↥s >>= _) _ _ s';show X0 (wpAny_load ie ?_);let hac:cw.R=dj:=by
  apply Zk;intro j
  by_cases hj:j<es.M
  .let hj1:j<cw.M:=by rw[au.1];show hj
   rw[Xu,Xp hj1];show(au.2 j _ (Xp hj1)).s
  .rw[Y2 (by rw[Xm,au.1];symm),Y2 (by symm)]
 show X5 ?_;rw[hac,Moved.eq_with hm];show h _ d _ dj (λb o e=>?_) (Xh ie) hv;let hb:b<↥s:=Xh e;let uh:b≠↥s:=Xq hb;show hm.G b o (λhmem=>?_) (az b o uh (ca b o (X4 _ e)));let e'\/hmem:=aD hmem
 .show uh e'
 .rw[aC hmem]at hb;show absurd hb (Nat.not_lt.y (Nat.le_of_succ_le hI'))
def _kM:∀{vs},(∀v>vs,∃x t,v=Value.ã x t)->StrsAre vs (vs.C strOf)
 |[],_=>.nil
 |v::vs,h=>by
  let#[x,t,rfl]:=h v X2;show .ê x t (_kM λv hv=>h v (_ad _ hv))
def _kN(hh:A.ó=none)(hS:Has prog w s.G a ls)
  (h:∀h' (d) (tk) (vs) (ss),(∀b o,s.G.get? b=@o->h'.get? b=@o)->↥s<h'.objs.M->StrsAre vs ss->ss.ä ls->Q vs {s with heap:=h',drawn:=d,toks:=tk}):
  wpAny (model prog w) A (collect (.J a)) Q E s:=by
 let#[o,es,ep,t,ho,hk,hp]:=hS;let hsz:=_kE hk.f;show _kL hh ho #[hk.ex.1,hk.d,hk.f,hk.led,λh1=>?_,fits_of_scanBound hk.b] λh' d tk vs ca hz hv=>h h' d tk vs (vs.C strOf) ca hz (_kM λv hvm=>?_) ?_
 .show List.pairwise_iff_getElem.y λi j hi hj lr=>?_
  let:=hk.pl;simp at hi hj;let h1\/h1:=h1<;>grind
 .let#[e,he,rfl]:=aE (hv.è.mp hvm);show _j8 hk.el he
 .show((hv.C strOf).I (.of_eq ?_)).I hp;rw[Xg];rfl
end
end Sw
namespace Sw
open PySem PyProof.Rows
section
def _kO(hh:A.ó=none)(hS:Has prog w s.G a ls)(xl:ls.B<64)
  (h:∀h' d (tk l e) out ss,(∀b o,s.G.get? b=@o->h'.get? b=@o)->↥s<=l->h'.get? l=@(seqObj "list" out e)->StrsAre out.R ss->ss.ä ls->sortedS ss=true->Q (.J l) {s with heap:=h',drawn:=d,toks:=tk}):
  wpAny (model prog w) A (call (.à "sorted") [.J a]) Q E s:=by
 show Calls.call_function_entry kind_sorted plain_sorted entry_sorted (args_sorted1 _) ?_;show X0 (X5 ?_);show X0 (_kN (~~~hh) hS λh' d tk vs ss ca hsz hv hp=>?_);let h64':vs.B<64:=by rw[_kg hv,hp.length_eq];show xl
 show X0 (wpAny_newList ?_ (hsz:=by rw[Za];lia));let ny:(h'.ï _).get? h'.objs.M=@(seqObj "list" vs.H 0):=Xd _ rfl;show X0 (Y4 (Y8 slot_list_sort #[_,ny,rfl] entry_list_sort (list_sort_treeK strKind_oneLt ny hv.keysOf (λv₁ v₂ af e=>keyKind_strs (by rw[<-e];show hv)) h64' λf9 a1 a2=>#[_,rfl,?_]) (args_list_sort _)));let#[ss',h1,h2,h3]:=sorted_out_str hv a1 a2;let#[e,he]:=sortedHeap_at ny;show X5 #[_,rfl,h _ d tk _ e _ ss' (λb o q=>?_) (J0 hsz) he h1 (h2.I hp) h3];let hb:=Xh (ca b o q);rw[sortedHeap_old (Xq hb) (by rw[size_push'];show Ze hb)];show X4 _ (ca b o q)
end
end Sw
namespace Q
open PySem PySem.Spec PyProof.Rows L2 L3 Sw
section
def Inv.dr(I:L2.Inv X a9 σ H s):L2.Inv X a9 σ H {s with drawn:=d}:=#[I.ok,I.os,I.bare,I.base,I.loc,I.cell,I.free,I.freeC,I.pin,I.hok,I.len]
def _kP(X:Cx)(f:Value)(r:List Str->Hp->VK->Prop):Prop:=
 ∀(a9:LA9) (s:Shared) (σ:L2.St) (H:Hp) (b:Addr) (ls:List Str) (Q:VK),L2.Inv X a9 σ H s->Has X.î X.w s.G b ls->r ls H Q->∅ (call f [.J b]) (EP X a9 σ Q) X.xe s
def _kQ(K:Frag)(r:List Str->Hp->VK->Prop):List V->Hp->VK->Prop:=λxs H Q=>∃p ss,xs=[.J p]/\SqL K H p (ss.C V.ã)/\ss.B<4000/\r (dd ss) H Q
def _kR{id}(hc:X.calm=true)(hf:_kP X (.à id) r)(hg:Gl X x)(hm:X.mg x=none)(hv:bootBuiltins x=@(.à id))(js:Gl X "set")(ot:X.mg "set"=none)(hv2:bootBuiltins "set"=@(.e "set"))
  (ha:PE X e t) (hn:x≠"__name__"<|>ŕ) (gr:Abd x<|>ŕ) (qr:("set":Str)≠"__name__"<|>ŕ) (hdb2:(("set":Str)==("__debug__":Str))=false<|>ŕ)
  (he:Abs e [] X<|>Ŕ):
  PE X (.û (.é x p) [.û (.é "set" p2) [e] [] pos2] [] pos) (fun σ H Q=>t σ H λv H1=>_kQ X.K r [v] H1 Q):=by
 intro a9 s σ H Q I h;show Yy (xQ I hg hm hv (PyProof.Rows.callWith_builtin1 ?_ rfl rfl) hn gr);change wpAny _ _ (spliced (_::[])) _ _ s;show Calls.spliced_cons (Yy (xQ I js ot hv2 (Y1 (thn (qX ha vx he pos2 a9 s σ H (λvs H1=>_kQ X.K r vs H1 Q) I ?_) λus s1 #[vs,H1,I1,r1,q1]=>?_) he rfl) qr hdb2))
 .show h
 let#[b,ss,rfl,hq,hl,q]:=q1;let#[u,rfl,rx]:=wZ r1;cases rx;let#[ac,r',pl,hz]:=I1.list hq;let ai:=r'.B;rw[X3]at ai hz;show _kk (I1.ok.hd hc) pl.isList (~~~(_hv r')) (by simp;ext scanBound;lia) λh' tk hS ca=>?_
 let I2:L2.Inv X a9 σ H1 {s1 with heap:=h',toks:=tk}:=I1.kept λb u q=>ca b u (Xh q) q
 show Calls.spliced_nil (hf a9 _ σ H1 _ _ Q I2 hS q)
def _kS(hc:X.calm=true):_kP X (.à "sorted") (λls H Q=>ls.B<64/\∀l,H l=none->Q (.J l) (upd H l (.L ((wV ls).C V.ã)))):=by
 intro a9 s σ H b ls Q I hS h;show _kO (I.ok.hd hc) hS h.1 λh' d tk l e out ss ca hl hg h1 h2 h3=>?_
 let e1:=_hu h2 h3;subst e1;let hz:(wV ls).B<=sizeLine:=by rw[(_hm ls).length_eq,Za];lia
 show#[.J l,_,Inv.dr (I.laid (t':=tk) ca hl ?_),rfl,h.2 l (I.hok.fresh hl)];show#[by rw[X3];show hz,out.R,e,_hw h1,~~~hg]
end
section
variable {K:Frag}
def _kT(h:z>ddS ss):z>ss:=by
 let:∀(l ae:List Str),z>l.foldl (λl k=>if l.any (· == k)then l else l++[k]) ae->z>ae\/z>l:=by
  intro l
  induction l with
  | nil=>intro ae h;show .O h
  | cons k l ih=>
   intro ae h;let h\/h:=ih _ h
   .dsimp only at h
    split at h
    .show .O h
    .let h\/h:=aA h
     .show .O h
     .show .Z (aC h▸X2)
   .show .Z (_ad _ h)
 let h\/h:=this ss [] h
 .symm
 .show h
def rSS(K:Frag):List V->Hp->VK->Prop:=_kQ K λls H Q=>ls.B<64/\∀l,H l=none->Q (.J l) (upd H l (.L ((wV ls).C V.ã)))
#where in
def _kU:Ad1 K (λv H Q=>rSS K [v] H Q) _jC:=by
 intro H x s Q ok hf k;unfold _jC at hf;dsimp only at hf;cases hx:x.d with
 | lst ds=>
  rw[hx]at hf;dsimp only at hf;let#[l,xs,bs,ev,q3,r3,_]:=items ok (.O hx);let q3:LsR K H l xs:=by let#[_,z]\/#[z,_]:=q3;show z;rw[hx]at z;cases z
  cases hs:KZ ds with
  | some ss=>
   rw[hs]at hf;dsimp only at hf
   split at hf
   .revert hl;cases _aa hf;let#[e1,e2]:=_hy hs r3;subst e1;show#[l,ss,by rw[ev],Kq q3,.q,Nat.lt_of_le_of_lt (_ke ss) hl,λp hp=>(k _ _ rfl rfl (Vw hp (_hA λz hz=>e2 z (_kT ((_hm _).è.mp hz))) nofun))]
   .cases hf
  |none=>rw[hs]at hf;cases hf
 |_=>rw[hx]at hf;cases hf
def _kV(hK:X.K=Z.K)(hc:X.calm=true)(ha:QV X Z q a ea)(hm:X.mg "sorted"=none)(ot:X.mg "set"=none)(hg:Gl X "sorted"<|>Ŕ)(js:Gl X "set"<|>Ŕ)(he:Abs ea [] X<|>Ŕ):
  QE X Z q (cF1 _jC a) (.û (.é "sorted" p) [.û (.é "set" p2) [ea] [] pos2] [] pos):=
 qv (_kR hc (_kS hc) hg hm rfl js ot rfl ha (he:=he)) fun σ H Q h=>by
  let:=_ef _kU h
  rwa [hK]
end
end Q
namespace Q
open PySem
def _kW(i:Nat)(c:Ex):Sm:=λE=>if Wx E[i]? then ofE (c E) λE x=>match E[i]?,x.2 with
 |some @(o,.L xs),.L ys=>if o=.x\/x.1=.x\/¬xs.B+ys.B<big then none else @(.nx (E.u i @(.rt,.L (xs++ys))))|_,_=>none
 else none
end Q
namespace Q
open PySem PySem.Spec PyProof.Rows L2 L3
section
variable {K:Frag}
def _kX (hb:PE X (.û (.ù o "extend" aq) [e] [] aj) (tBM Z.K "list" _b4 (vX i) (wjw (tQ Z q c) xva))) (hs:swapsWith (.û (.ù o "extend" aq) [e] [] aj) none pos.line X.V=pure false<|>Ŕ):
  QS X Z pn (_kW i c) (.Expr (.û (.ù o "extend" aq) [e] [] aj) pos):=z0 (ZY hb hs) λD' σ H am=>ex7 am λE L r m w hc k=>by
 unfold _kW at hc;cases h0:E[i]? with
 | none=>rw[h0]at hc;cases hc
 | some s0=>
  cases s0 with
  | none=>rw[h0]at hc;cases hc
  | some s0=>
   let#[o0,d0]:=s0;cases d0 with
   | lst ds0=>
    rw [h0,X7 (show Wx @(@(o0,D.L ds0))=true from rfl)]at hc;let#[x0,a1,a2,a3,a4]:=m.get h0;show#[x0.v,a4,_gi (w.ok x0 (vQ a1)) a3,(QQ m w hc k λE1 s h1 x L1 H1 e1 e2 m1 w1 st _=>?_)];cases hE:E1[i]? with
    | none=>rw[hE]at h1;cases h1
    | some s1=>
     cases s1 with
     | none=>rw[hE]at h1;cases h1
     | some s1=>
      let#[oo,dd]:=s1;rw [hE]at h1;cases dd with
      | lst ds=>
       let#[so,sd]:=s;cases sd with
       | lst ys=>
        dsimp only at h1
        by_cases lh:oo=.x\/so=.x\/¬ds.B+ys.B<big
        .rw[X7 lh]at h1;cases h1
        .rw[Xb lh]at h1;cases _aa h1;let#[y,b1,b2,b3,b4]:=m1.get hE;let hv:y.v=x0.v:=by rw[a4]at b4;show(_aa (_aa b4)).s
         let#[l,xs,bs,c1,c2,c3,c4,c5]:=_gh (w1.ok y (_ad _ (vQ b1))) b3 (by rw[b2];show(λz=>lh (.O z)));let#[l2,zs,bs2,g1,g2,g3,g4,g5]:=_gh w1.head e2 (by rw[e1];show(λz=>lh (.Z (.O z))));let ex0:=hv▸c1;rw[ex0];let oT:j7 [@x]=x.ì:=by simp
         let fT:jW [@x]=x.ÿ:=by simp
         let wk:∀{b ds xs bs},RepA Z.K H1 b ds xs bs->RepA Z.K H1 true ds xs bs:=fun {b ds xs} {bs} h=>by
          cases b with|true=>show h|false=>show h.wk
         show#[l,l2,xs,zs,rfl,by rw[g1],c2,g2,?_,?_]
         .let:=(wk c5).len;let:=(wk g5).len;let hb:big=sizeLine:=rfl;lia
         let#[w3,s3]:=XW (o':=.rt) (ds':=ds++ys) (xs':=xs++zs) w1 b1 c2 c3 c4 c1 (RepA.app (wk g5) (wk c5)) (.O #[rfl,λa ha=>(aA ha).imp id λz=>by rw[oT,fT];show Sl.as_of (g3▸_ad _ z)]);show k σ _ _ Pn.ñ ?_ w3 (st.I s3);let:=m1.u (x:=#[.rt,.L (ds++ys),y.v,l::(bs++bs2)]) i;rw[J4 b4]at this;show this
       |_=>cases h1
      |_=>symm
   |_=>rw[h0]at hc;cases hc
def _kY(h:QE X Z q c e)(hN:X.N[i]?=@x<|>Ŕ)(hv:Vis X.V.scope x<|>ř)(hd:Abd x<|>ŕ)
  (iy:(x==("__classdict__":Str))=false<|>ŕ) (aw:attributeBase (.é x xp) "extend" X.V (eval (.é x xp) X.V)=eval (.é x xp) X.V<|>Ŕ)
  (d9:autoParam (((backTo aj (starEach [e] X.V)).all (λx=>!x.1)&&(backToKw aj (keywordEach [] X.V)).all (λx=>x.1.isSome)
   && decide ([e].B+([]:List Keyword).B+(if([]:List Keyword).ô then 0 else 1)<30))=true) Ŕ)
  (av:Abe aq aj<|>Ŕ) (hs:Abs e [] X<|>Ŕ) (ay:Abb aj [] X<|>Ŕ) (hK:X.K=Z.K<|>Ŕ)
  (jt:swapsWith (.û (.ù (.é x xp) "extend" aq) [e] [] aj) none pos.line X.V=pure false<|>Ŕ):
  QS X Z pn (_kW i c) (.Expr (.û (.ù (.é x xp) "extend" aq) [e] [] aj) pos):=_kX (_cY Z.K Yw PySem.F.slot_list_extend PySem.F.type_list_extend _b5 (pv i hN hv hd iy) (qX h vx hs) aw d9 av hs ay hK) jt
end
abbrev vxx(K:Frag)(td ty:TE):TE:=fun σ H Q=>td σ H λx H1=>ty σ H1 λy H2=>∃(a b:Addr) (k:Kd) (es:List Ent) (ep:Nat) (v:V) (p:Addr×Value),x=.J a/\y=.J b/\H2 a=@(qZ a es ep)/\(es.C (·.1)).U/\(∀x>es,PuR K H2 x.1.1 (.J x.2.1))/\PuR K H2 k.1 (.J b)/\atKey es k=@p/\RelV v p.2/\Q v H2
section
def _kZ(hu:X.A.â+64<cLine)(ho:PE X o td)(hi:PE X i ty)(hs:_cr i):PE X (.Subscript o i pos) (vxx X.K td ty):=by
 intro a9 s σ H Q I h;show _cs PySem.F.slot_dict_getitem.Y hs (thn (ho a9 s σ H _ I h) λu s1 hz=>?_);let#[x,H1,I1,rx,q1]:=hz;show thn (hi a9 s1 σ H1 _ I1 q1) λiv s2 hz=>?_
 let#[y,H2,I2,ry,a,b,k,es,ep,v,p,ex,ey,d,hn,u6,hk,hp,rv,q2]:=hz;subst ex ey;obtain rfl:u=Value.J a:=rx;obtain rfl:iv=Value.J b:=ry;let dd:=_h1 I2 d hn u6;show#[dd.typeIs,wpAny_getItem_heap (_h3 hu) (V3 I2 hk rfl) dd hp #[v,H2,I2.tok _,rv,q2]]
end
section
def _k0(N:List Str)(hN:X.N.U)(hy:X.N[i]?=@y)(hx:Loc X.V.scope y)(hi:QIS X Z q tg it iter)
  (hg:∀cl C s0 H0 fp,QG (lcE X scope N cl C s0 H0 fp Z.EX) Z ((List.r R.B).C (k + ·)) tt tg) (ht:∀cl C s0 H0 fp,PTs (lcE X scope N cl C s0 H0 fp Z.EX) fm (tT Z q u)) (he:∀cl C s0 H0 fp,QE (lcE X scope N cl C s0 H0 fp Z.EX) Z q c elt)
  (gx:xv X Z.EX) (top:Jk X) (hR:R.U) (hr:∀j>R,j<X.N.B) (hp:i∉pn<|>ŕ)
  (jt:swapsWith (.ListComp elt [#[tg,iter,fm,0]] scope pos) @(.é y py) fi.line X.V=pure true<|>Ŕ)
  (hc:X.calm=true<|>Ŕ) (hk:scope.kind=.function<|>Ŕ) (jy:Kz X.N X.V.scope scope N k R=true<|>Ŕ) (hs:(∀x,foldedSetIterable iter X.V x=pure x)<|>Ŗ)
  (hf:X.fn y=true\/X.V.scope.ð.Y y=@.local<|>ś):
  QS X Z pn (jx i (cLC o k R it tt u c)) (.Assign [.é y py] (.ListComp elt [#[tg,iter,fm,0]] scope pos) fi):=
 _eL (q:=q) hp λa9 s σ H D I hw=>_gF N k R hN hy hx hi hg ht he gx top jt hc hk jy hs hf a9 s σ H D I (_gC I.len hR hr hw)
end
@[irreducible] noncomputable def ShE (X:Cx) (Z:Fx0) (q:Bool) (c:Ex) (e:Expr):Prop:=QE X Z q c e
@[irreducible] noncomputable def ShA (X:Cx) (Z:Fx0) (q:Bool) (cs:List Ex) (es:List Expr):Prop:=QA X Z q cs es
@[irreducible] noncomputable def ShS (X:Cx) (Z:Fx0) (pn:List Nat) (c:Sm) (st:Stmt):Prop:=QS X Z pn c st
@[irreducible] noncomputable def ShB (X:Cx) (Z:Fx0) (pn:List Nat) (c:Sm) (ss:List Stmt):Prop:=QSs X Z pn c ss
section
variable {st:Stmt}
def vZ(h:QE X Z q c e):ShE X Z q c e:=by ext ShE;show h
def JQ(h:QS X Z pn A st):ShS X Z pn A st:=by ext ShS;show h
def V6(h:ShE X Z q c e):QE X Z q c e:=by unfold ShE at h;show h
def _k1(h:ShB X Z pn A ss):QSs X Z pn A ss:=by unfold ShB at h;show h
def vW:ShA X Z true [] []:=by ext ShA;show j9
def qw(h:ShE X Z q c e)(hs:ShA X Z q cs es)(b7:Abs e es X<|>Ŕ):ShA X Z q (c::cs) (e::es):=by unfold ShE at h;unfold ShA at hs ⊢;show j6 h hs b7
def zx(h:ShA X Z q cs es)(hz:(cs.B<=1000)<|>ŕ):ShE X Z q (k9 o cs) (.List es pos):=by unfold ShA at h;ext ShE;show wK h hz
def WY(h:ShA X Z q cs es)(hz:(cs.B<=1000)<|>ŕ):ShE X Z q (jZ o cs) (.Tuple es x1 pos):=by unfold ShA at h;ext ShE;show kK h hz
def zj(h:ShS X Z pn A st)(hs:ShB X Z pn B ss):ShB X Z pn (jk A B) (st::ss):=by unfold ShS at h;unfold ShB at hs ⊢;show jq h hs
def _k2(hN:X.N.U)(h:ShE X Z q a ea)(hi:X.N[i]?=@y<|>Ŕ)(hx:Loc X.V.scope y<|>Ś)(hp:i∉pn<|>ŕ)(hs:swapsWith ea @(.é y bw) pos.line X.V=pure false<|>Ŕ)(hf:X.fn y=true\/X.V.scope.ð.Y y=@.local<|>Ř):
  ShS X Z pn (jx i a) (.Assign [.é y bw] ea pos):=by unfold ShE at h;ext ShS;show _eK hN hi hx h hp hs hf
end
end Q
namespace Srt
open PySem PySem.W PyProof.Rows
def Ev(key:Nat->Int)(n:Nat):KasT α->α->Prop
 |.ret a,b=>a=b|.ask i j k,b=>i<n/\j<n/\Ev key n (k (decide (key i<key j))) b
def JK:∀{t:KasT α},Ev key n t a->Ev key n (f a) b->Ev key n (t.bind f) b
 |.ret _,h,g=>by
  subst h;show g
 |.ask _ _ _,h,g=>#[h.1,h.2.1,JK h.2.2 g]
section
variable {key:Nat->Int}{n:Nat}
structure Ok (n:Nat)(p:Array Nat):Prop where
 sz:p.M=n
 pm:p.R.ä (List.r n)
def K(key:Nat->Int)(p:Array Nat)(k:Nat):Int:=key (p.p k 0)
def Ok.at(h:Ok n p)(hk:k<n):p[k]?=@(p.p k 0)/\p.p k 0<n:=by
 let hs:=h.sz;let e:p[k]?=@(p.p k 0):=by
  rw[Array.getD_eq_getD_getElem?,Xp .q];rfl
 show#[e,(List.á.mp (h.pm.è.mp (Array.mem_toList_iff.y (Array.mem_of_getElem? e))))]
variable (ib:∀i j,i<n->j<n->key i=key j->i=j)
include ib
omit ib in
omit ib in
def Ok.bubble(h:Ok n p)(k d):Ok n (bubble p k d):=#[by rw[bubble_size];show h.sz,((bubble_perm p k d).R).I h.pm]
omit ib in
def Ok.mirror(h:Ok n p)(i j d):Ok n (mirror p i j d):=#[by rw[mirror_size];show h.sz,((mirror_perm p i j d).R).I h.pm]
omit ib in
def _k3(h:p[i]?=q[j]?):K key p i=K key q j:=by
 ext K;rw[Array.getD_eq_getD_getElem?,Array.getD_eq_getD_getElem?,h]
end
section
def AscW(key:Nat->Int)(p:Array Nat)(m:Nat):Prop:=∀k,k+1<m->K key p k<=K key p (k+1)
def _k4(key:Nat->Int)(p:Array Nat)(m:Nat):Prop:=∀k,k+1<m->K key p (k+1)<=K key p k
def AscW.le(h:AscW key p m):∀{i j},i<=j->j<m->K key p i<=K key p j
 | i,0,lr,_=>by grind
 | i,j+1,lr,hj=>by
  by_cases e:i=j+1
  .subst e;show Int.le_refl _
  .let:=AscW.le h (i:=i) (j:=j) .q .q;let:=h j hj;lia
def _k5(h:Ok n p):∀f m,1<=m->m+f<=n->AscW key p m->∃m',Ev key n (kas_asc p f m) m'/\m<=m'/\m'<=m+f/\AscW key p m'/\(m'<m+f->K key p m'<K key p (m' - 1))
 | 0,m,h1,h2,ha=>#[m,rfl,Xa _,Xa _,ha,λh=>absurd h .q]
 | f + 1,m,h1,h2,ha=>by
  let a1:=h.at (k:=m) .q;let a2:=h.at (k:=m - 1) .q
  by_cases hc:key (p.p m 0)<key (p.p (m - 1) 0)
  .show#[m,#[a1.2,a2.2,?_],Xa _,by simp,ha,λ_=>hc];rw[X8 hc];rfl
  .let#[m',e1,e2,e3,e4,e5]:=_k5 h f (m+1) (by simp) .q (λk hk=>by
    by_cases ql:k+1<m
    .show ha k ql
    .let e:k=m - 1:=.q
     subst e;let e':m - 1+1=m:=.q
     let hc:¬K key p m<K key p _:=hc;lia)
   show#[m',#[a1.2,a2.2,?_],.q,.q,e4,λh=>e5 .q]
   rwa [Xk hc]
def _k6(hb:b<=p.M)(h:∀i,a<=i->i<b->K key p i=c) k:K key (kas_rev p a b) k=K key p k:=by
 let hr:=getElem?_mirror_all (i:=a) hb k
 by_cases hk:a<=k/\k<b
 .rw[X7 hk]at hr;let:K key (kas_rev p a b) k=K key p _:=_k3 hr;rw[this,h k hk.1 hk.2,h _ .q .q]
 .rw[Xb hk]at hr;show _k3 hr
def _k7:∀f {p} (m q),Ok n p->q+1<=m->m+f<=n->_k4 key p m->(∀i,m - (q+1)<=i->i<m->K key p i=K key p (m - 1)) ->
  ∃ p' m' q',Ev key n (kas_desc f p m q) (p',m',q')/\m<=m'/\m'<=m+f/\Ok n p'/\_k4 key p' m'/\∀i,m' - (q'+1)<=i->i<m'->K key p' i=K key p' (m' - 1)
 | 0,p,m,q,h,h1,h2,ha,hq=>#[p,m,q,rfl,Xa _,Xa _,h,ha,hq]
 | f + 1,p,m,q,h,h1,h2,ha,hq=>by
  let a1:=h.at (k:=m) .q;let a2:=h.at (k:=m - 1) .q;let e':m - 1+1=m:=.q
  by_cases hc:key (p.p m 0)<key (p.p (m - 1) 0)
  .let hd:_k4 key p (m+1):=λk hk=>by
    by_cases ql:k+1<m
    .show ha k ql
    .let e:k=m - 1:=.q
     subst e;let hc:K key p m<K key p _:=hc;lia
   let one:∀p',∀i,m+1 - (0+1)<=i->i<m+1->K key p' i=K key p' _:=λp' i i1 i2=>by
    let:i=m+1 - 1:=.q
    rw[this]
   by_cases hq0:0<q
   .let sm:=λk=>_k6 (by rw[h.sz];lia) hq k
    let#[p',m',q',e1,e2,e3,e4,e5,e6]:=_k7 f _ 0 (h.mirror _ m _) .q .q (λk hk=>by
     let s1:=sm k;let s2:=sm (k+1);unfold kas_rev at s1 s2;rw[s1,s2];show hd k hk) (one _)
    show#[p',m',q',#[a1.2,a2.2,?_],.q,.q,e4,e5,e6];rw[X8 hc];right;rw[X7 hq0];show e1
   .let#[p',m',q',e1,e2,e3,e4,e5,e6]:=_k7 f _ 0 h .q .q hd (one _);show#[p',m',q',#[a1.2,a2.2,?_],.q,.q,e4,e5,e6];rw[X8 hc];right;rw[Xb hq0];show e1
  .by_cases hd:key (p.p (m - 1) 0)<key (p.p m 0)
   .show#[p,m,q,#[a1.2,a2.2,?_],Xa _,by simp,h,ha,hq];rw[Xk hc];right;show#[a2.2,a1.2,?_];rw[X8 hd];rfl
   .let eq:K key p m=K key p (m - 1):=by
     let hc:¬K key p m<K key p _:=hc;let hd:¬K key p _<K key p m:=hd;lia
    let#[p',m',q',e1,e2,e3,e4,e5,e6]:=_k7 f (m+1) (q+1) h .q .q (λk hk=>by
     by_cases ql:k+1<m
     .show ha k ql
     .let e:k=m - 1:=.q
      subst e;rw[e',eq];show Int.le_refl _) (λi i1 i2=>by
     change K key p i=K key p m
     by_cases e:i=m
     .rw[e]
     .rw[eq];show hq i .q .q)
    show#[p',m',q',#[a1.2,a2.2,?_],.q,.q,e4,e5,e6];rw[Xk hc];right;show#[a2.2,a1.2,?_];rw[Xk hd];right;show e1
def _k8(h:Ok n p)(hk:k<n)(ha:AscW key p k):∀f l r,l<=r->r<=k->r - l<=f->(∀i,i<l->K key p i<=K key p k)->(∀i,r<=i->i<k->K key p k<=K key p i) ->
  ∃ l',Ev key n (kas_place p k f l r) l'/\l'<=k/\(∀i,i<l'->K key p i<=K key p k)/\∀i,l'<=i->i<k->K key p k<=K key p i
 | 0,l,r,h1,h2,h3,h4,h5=>#[l,rfl,.q,h4,λi hi=>h5 i .q]
 | f + 1,l,r,h1,h2,h3,h4,h5=>by
  by_cases hlr:l>=r
  .show#[l,?_,.q,h4,λi hi=>h5 i .q];ext kas_place;rw[X7 hlr];rfl
  .let a1:=h.at hk;let a2:=h.at (k:=(l+r) / 2) .q
   by_cases hc:key (p.p k 0)<key (p.p ((l+r) / 2) 0)
   .let#[l',e1,e2,e3,e4]:=_k8 h hk ha f l ((l+r) / 2) .q .q .q h4 (λi hi xu=>by
     let hc:K key p k<K key p _:=hc;let:=ha.le hi xu;lia)
    show#[l',?_,e2,e3,e4];ext kas_place;rw[Xb hlr];show#[a1.2,a2.2,?_]
    rwa [X8 hc]
   .let#[l',e1,e2,e3,e4]:=_k8 h hk ha f ((l+r) / 2+1) r .q (by omega) .q (λi hi=>by
     let hc:¬K key p k<K key p _:=hc;let:=ha.le (i:=i) (j:=(l+r) / 2) .q .q;lia) h5
    show#[l',?_,e2,e3,e4];ext kas_place;rw[Xb hlr];show#[a1.2,a2.2,?_]
    rwa [Xk hc]
def _k9:∀f {p} (k),Ok n p->1<=k->k+f=n->AscW key p k->∃p',Ev key n (kas_bin f p k) p'/\Ok n p'/\AscW key p' n
 | 0,p,k,h,h1,h2,ha=>#[p,rfl,h,by rw[<-h2];show ha]
 | f + 1,p,k,h,h1,h2,ha=>by
  let#[l,e1,e2,e3,e4]:=_k8 h .q ha k 0 k (by simp) (by simp) (by simp) (λi hi=>absurd hi (by simp)) (λi hi hk=>absurd hi .q);let hb:=λi=>getElem?_bubble (src:=k) (by rw[h.sz];lia) (k - l) (by simp) i
  let ek:k - (k - l)=l:=.q
  rw [ek]at hb;let#[p',g1,g2,g3]:=_k9 f (k+1) (h.bubble k _) (by simp) .q (λi hi=>by
   let q:∀i,K key _ i=if i=l then K key p k else if l<i/\i<=k then K key p _ else K key p i:=λi=>by
    let:=hb i
    by_cases c1:i=l
    .rw[X7 c1]at this ⊢;show _k3 this
    .rw[Xb c1]at this ⊢
     by_cases c2:l<i/\i<=k
     .rw[X7 c2]at this ⊢;show _k3 this
     .rw[Xb c2]at this ⊢;show _k3 this
   rw [q i,q _]
   by_cases c1:i+1<l
   .rw[Xb .q,Xb .q,Xb .q,Xb .q];show ha i .q
   .by_cases c2:i+1=l
    .rw[Xb .q,Xb .q,X7 c2];show e3 i .q
    .by_cases c3:i=l
     .rw[X7 c3,Xb (by omega),X7 .q];show e4 _ (by symm) (by symm)
     .rw[Xb c3,X7 .q,Xb (by omega),X7 .q];show ha.le (by simp) (by symm))
  show#[p',JK e1 g1,g2,g3]
def _la(hq:q<=p.M)(hd:_k4 key p q):AscW key (kas_rev p 0 q) q:=λk hk=>by
 let at':∀k,k<q->K key (kas_rev p 0 q) k=K key p (q - 1 - k):=λk hk=>_k3 (by
  let:=(λk=>getElem?_mirror_all (i:=0) hq k) k;rw[X7 (by symm)]at this;rw[show q - 1 - k=0+q - 1 - k by lia];show this)
 rw[at' k .q,at' _ hk,show q - 1 - k=q - 1 - (k+1)+1 by lia];show hd _ (by omega)
def _lb(h:Ok n p)(h1:1<=m)(h2:m+1<=n)(hd:_k4 key p (m+1)):∃m' p',Ev key n (kas_descPart m n p) (m',p')/\1<=m'/\m'<=n/\Ok n p'/\AscW key p' m':=by
 let#[p',m',q',e1,e2,e3,e4,e5,e6]:=_k7 (n - (m+1)) _ 0 h .q (by symm) hd (λi i1 i2=>by
  let:i=m+1 - 1:=.q
  rw[this])
 let tail:∀p2,Ok n p2->_k4 key p2 m'->∃m2 p3,Ev key n (kas_tail3 m' n p2) _/\1<=m2/\m2<=n/\Ok n p3/\AscW key p3 m2:=λp2 ho hd=>by
  let#[m2,f1,f2,f3,f4,_]:=_k5 (ho.mirror 0 m' _) (n - m') m' .q (by symm) (_la (by rw[ho.sz];lia) hd);show#[m2,kas_rev p2 0 m',JK f1 rfl,.q,by symm,ho.mirror 0 m' _,f4]
 by_cases hq0:0<q'
 .let sm:=λk=>_k6 (by rw[e4.sz];lia) e6 k
  let#[m2,p3,g1,g2]:=tail (kas_rev p' _ m') (e4.mirror _ _ _) λk hk=>by rw[sm k,sm _];show e5 k hk
  show#[m2,p3,JK e1 ?_,g2]
  rwa [X7 hq0]
 .let#[m2,p3,g1,g2]:=tail p' e4 e5;show#[m2,p3,JK e1 ?_,g2]
  rwa [Xb hq0]
def _lc(h2:2<=n):∃p,Ev key n (kas_sort n) p/\Ok n p/\AscW key p n:=by
 let h0:Ok n (List.r n).H:=#[by simp,by rfl];generalize qf:(List.r n).H=p0 at h0;let cnt:∃m p,Ev key n (kas_count n p0) (m,p)/\1<=m/\m<=n/\Ok n p/\AscW key p m:=by
  let#[m,e1,e2,e3,e4,e5]:=_k5 h0 (n - 1) 1 .q .q (λk hk=>absurd hk (by symm))
  by_cases hm:m=n
  .show#[m,_,JK e1 ?_,e2,by symm,h0,e4];rw [X7 (by rw[hm];simp)];rfl
  .let kg:¬(m==n)=true:= ~~~hm
   let b9:=e5 .q
   by_cases h1:1<m
   .by_cases hc:key (p0.p 0 0)<key (p0.p (m - 1) 0)
    .show#[m,_,JK e1 ?_,e2,.q,h0,e4];rw[Xb kg,X7 h1];show#[(h0.at .q).2,(h0.at .q).2,?_];rw[X8 hc];rfl
    .let ji:¬K key p0 0<K key p0 _:=hc;let same:∀i,0<=i->i<m->K key p0 i=K key p0 0:=λi _ hi=>by
      let x1:=e4.le (i:=0) .q hi;let x2:=e4.le (i:=i) (j:=m - 1) .q .q;lia
     let sm:=λk=>_k6 (by rw[h0.sz];lia) same k
     let#[m',p',g1,g2]:=_lb (p:=kas_rev p0 0 m) (m:=m) (h0.mirror _ _ _) (by omega) .q (λk hk=>by
      rw[sm k,sm _]
      by_cases ql:k+1<m
      .rw[same k .q .q,same _ (by simp) ql];show Int.le_refl _
      .let e:k=m - 1:=.q
       subst e;rw[show m - 1+1=m by lia];lia)
     show#[m',p',JK e1 ?_,g2];rw[Xb kg,X7 h1];show#[(h0.at .q).2,(h0.at .q).2,?_];rw[Xk hc];right;show g1
   .let e:m=1:=.q
    subst e;let#[m',p',g1,g2]:=_lb (m:=1) h0 .q (by omega) (λk hk=>by
     let:k=0:=.q
     subst this;show Int.le_of_lt b9)
    show#[m',p',JK e1 ?_,g2]
    rwa [Xb kg]
 let#[m,p,e1,e2,e3,e4,e5]:=cnt;rw[<-qf]at e1
 by_cases hm:m<n
 .let#[p',g1,g2,g3]:=_k9 (n - m) m e4 e2 (by symm) e5;show#[p',JK e1 ?_,g2,g3];let:max m 1=m:=by symm
  grind
 .show#[p,JK e1 ?_,e4,by rw[show n=m by lia];show e5];rw[Xb hm];rfl
end
def _ld(hc:∀i j C,i<n->j<n->C (decide (key i<key j)) s->cmp i j C s):
  ∀{t:KasT α},Ev key n t a->Q a s->KasT.kasWp cmp t Q s
 |.ret _,h,g=>by
  subst h;show g
 |.ask _ _ _,h,g=>hc _ _ _ h.1 h.2.1 (_ld hc h.2.2 g)
end Srt
namespace Q
open PySem PySem.Spec PyProof.Rows L2 L3
inductive F2 {α β:Type}(R:α->β->Prop):List α->List β->Prop
 |nil:F2 R [] []
 |cons {a:α} {b:β} {l:List α} {m:List β}:R a b->F2 R l m->F2 R (a::l) (b::m)
end Q
namespace Q
open PySem PySem.Spec PyProof.Rows L2 L3 Srt
def _le:∀{p:List Nat},(∀i>p,R (f i) (g i))->F2 R (p.C f) (p.C g)
 |[],_=>.nil|i::p,h=>.ê (h i X2) (_le λj hj=>h j (_ad _ hj))
def _lf(h:F2 R l m):l.B=m.B:=by
 induction h with|nil=>rfl|cons _ _ ih=>simp[ih]
def _lg:∀(as:List Addr),Vals (as.C V.J) (as.C Value.J)
 |[]=>.nil|a::as=>.ê rfl (_lg as)
end Q
namespace Tb
open PySem PySem.SetTable
def _lh(mask)(h):∀m,(pr mask h m).j+(pr mask h m).more<=mask
 | 0=>by
  change bits h % _+(runEnd mask (bits h % _) - bits h % _)<=mask;let:=Yo (bits h) (show 0<mask+1 by lia);ext runEnd
  split<;>lia
 | m+1=>by
  let ih:=_lh mask h m;rw[<-_j4];ext adv
  split
  .grind
  .let:(leap mask (pr mask h m).i (pr mask h m).perturb).1<=mask:=by
    ext leap;let:=Yo ((pr mask h m).i*5+1+(pr mask h m).perturb / 32) (show 0<mask+1 by lia);lia
   ext runEnd
   split<;>symm
def _li mask h m:jJ mask h m<=mask:=by
 let:=_lh mask h m;let e:jJ mask h m=(pr mask h m).j:=rfl;lia
structure OInv (mask:Nat)(hs:List Int)(owner:Array (Option Nat))(xs:List Nat):Prop where
 sz:owner.M=mask+1
 iff:∀(j k:Nat),owner[j]?=@(@k)↔xs[k]?=@j
 good:∀(k j:Nat),xs[k]?=@j->∃m,jJ mask (hs.p k 0) m=j/\∀m',m'<m->jJ mask (hs.p k 0) m'>xs
def _lj{mask}(hm:xJ mask)(o:OInv mask hs owner xs)(hl:xs.B<mask)(h)(hh:hs.p xs.B 0=h):
  ∃ j,layClean.free mask owner (turns mask) (bits h % (mask+1)) (bits h)=@j/\OInv mask hs (owner.õ j @xs.B) (xs++[j]):=by
 let az:∀j,j<=mask->(owner.p j @0).isNone=false->j>xs:=λj hj hn=>by
  let ni:j<owner.M:=by rw[o.sz];lia
  cases e:owner[j]with
  | none=>simp[Array.p,ni,e]at hn
  | some k=>
   let:=(o.iff j k).mp (by rw[Xp ni,e]);show Y5 this
 let hf:∃e,e<=mask/\(owner.p e @0).isNone=true:=by
  let#[j,h1,h2]:=_jT (mask+1) xs .q;show#[j,.q,?_];cases hn:(owner.p j @0).isNone with| true=>rfl| false=>show absurd (az j .q hn) h2
 let#[j,m,h1,h2,h3,h4]:=_jW hm h hf;let hj:j<=mask:=by rw[<-h2];show _li mask h m
 let ni:j<owner.M:=by rw[o.sz];lia
 let hjn:owner[j]?=@none:=by
  rw [Xp ni];simp[Array.p,ni]at h3;rw [h3]
 let hjx:j∉xs:=λz=>by
  let#[k,hk]:=List.mem_iff_getElem?.mp z;rw [(o.iff j k).y hk]at hjn
  symm
 show#[j,h1,#[by rw[Array.size_setIfInBounds];show o.sz,λj' k=>?_,λk j' e=>?_]]
 .rw [Array.getElem?_setIfInBounds]
  by_cases c:j=j'
  .subst c;rw [X7 rfl,X7 ni];constructor
   .intro e;let:xs.B=k:= ~~~e
    subst this;simp
   .intro e
    by_cases ck:k<xs.B
    .rw[Xx ck]at e;show absurd (Y5 e) hjx
    .let:k=xs.B:=by
      let:=(aF e).1;simp at this;lia
     rw[this]
  .rw [Xb c,o.iff];constructor
   .intro e
    rwa [Xx (aF e).1]
   .intro e
    by_cases ck:k<xs.B
    .rw[Xx ck]at e;show e
    .let:k=xs.B:=by
      let:=(aF e).1;simp at this;lia
     subst this;let:j=j':= ~~~e
     show absurd this c
 .by_cases ck:k<xs.B
  .rw[Xx ck]at e;let#[m,g1,g2]:=o.good k j' e;show#[m,g1,λm' kg=>_ac _ (g2 m' kg)]
  .let:k=xs.B:=by
    let:=(aF e).1;simp at this;lia
   subst this;let:j=j':= ~~~e
   subst this;rw[hh];show#[m,h2,λm' kg=>_ac _ (az _ (_li mask h m') (h4 m' kg))]
def _lk{mask}(hm:xJ mask)(hl:hs.B<=mask):∀af done (owner) (xs),hs=done++af->xs.B=done.B->OInv mask hs owner xs ->
  ∃ip xs',af.foldl (λae h=>do
   let (owner,k) <-ae
   let j <-layClean.free mask owner (turns mask) (bits h % (mask+1)) (bits h)
   pure (owner.õ j @k,k+1)) @(owner,xs.B)=@(ip,hs.B)/\xs'.B=hs.B/\OInv mask hs ip xs'
 |[],done,owner,xs,h1,h2,o=>by
  rw[Xz]at h1;subst h1;show#[owner,xs,by rw[h2];rfl,h2,o]
 |h::af,done,owner,xs,h1,h2,o=>by
  let ai:hs.B=done.B+(af.B+1):=by rw[h1];simp
  let#[j,e1,e2]:=_lj hm o .q h (by rw[h1,h2];simp);let#[ip,xs',f1,f2,f3]:=_lk hm hl af (done++[h]) _ _ (by rw[h1];simp) (by simp[h2]) e2;show#[ip,xs',?_,f2,f3];rw[Yz];rw[Xj]at f1;rw[<-f1]
  congr 1
  change(layClean.free mask owner _ _ _).bind _=_;rw[e1];rfl
def _ll{mask}(hm:xJ mask)(hl:hs.M<=mask):∃owner xs,layClean mask hs=@owner/\xs.B=hs.M/\OInv mask hs.R owner xs:=by
 let#[owner,xs,h1,h2,h3]:=_lk (hs:=hs.R) hm (~~~hl) hs.R [] (Array.h (mask+1) none) [] rfl rfl
  #[by simp,λj k=>by simp[Array.getElem?_replicate],λk j e=>by simp at e]
 show#[owner,xs,?_,~~~h2,h3];ext layClean
 symm
def rng_getD l (d:α):(List.r l.B).C (λi=>l.p i d)=l:=by
 show Zk λi=>?_
 by_cases hi:i<l.B
 .simp[hi]
 .simp[Nat.le_of_not_lt hi]
def J7(mask:Nat)(owner:Array (Option Nat)):List (Nat×Nat):=(List.r (mask+1)).filterMap λj=>(owner.p j none).C (j,·)
def _lm{mask}(hs:owner.M=mask+1):(j,k)>J7 mask owner↔owner[j]?=@(@k):=by
 ext J7;rw[List.mem_filterMap];constructor
 .rintro ⟨j',h1,h2⟩;let h1:j'<owner.M:=by rw[hs];show List.á.mp h1
  cases e:owner.p j' none with
  |none=>rw[e]at h2;cases h2
  |some k'=>
   rw[e]at h2;cases h2;rw[Xp h1];simp[Array.p,h1]at e;rw[e]
 .intro h;let hj:=(Array.getElem?_eq_some_iff.mp h).1;show#[j,List.á.y (hs▸hj),?_];let:owner.p j none=@k:=by
   rw[Xp hj]at h;simp[Array.p,hj];show _aa h
  rw[this];rfl
#where in
def _ln(owner:Array (Option Nat)):∀l:List Nat,l.þ (· < ·)->((l.filterMap λj=>(owner.p j none).C (j,·)).C (·.1)).þ (· < ·)
 | [],_=>.nil
 | j :: l,h=>by
  let#[h1,h2]:=List.pairwise_cons.mp h;rw [List.filterMap_cons]
  split
  .show _ln owner l h2
  .revert b hb;show List.pairwise_cons.y #[λa ha=>?_,_ln owner l h2];let#[p,hp,rfl]:=aE ha;let#[j',ni,e]:=List.mem_filterMap.mp hp;cases e1:owner.p j none with
   | none=>rw[e1]at hb;cases hb
   | some k=>
    rw[e1]at hb;cases _aa hb;cases e2:owner.p j' none with
    |none=>rw[e2]at e;cases e
    |some k'=>
     rw[e2]at e;cases _aa e;show h1 j' ni
def _lo{l:List Nat}(h:l.U)(hm:∀k,k>l↔k<n):l.ä (List.r n):=by
 show(List.perm_ext_iff_of_nodup h List.nodup_range).y λk=>?_
 rw[hm,List.á]
def _lp{mask}{es:Array Ent}(hm:xJ mask)(hl:es.M*5<mask*3)(fg mv)(led plain):
  ∃ t2 gj,laid mask fg mv led plain (es.C (·.1))=@(t2,gj)/\t2.led=led/\t2.plain=plain/\(gj.filterMap (es[·]?)).R.ä es.R/\TOk t2 (gj.filterMap (es[·]?)):=by
 let#[owner,xs,h1,h2,o]:=_ll (hs:=es.C (·.1)) hm (by rw[Array.size_map];lia);rw [Array.size_map]at h2;show#[_,_,by ext laid;rw[h1];rfl,rfl,rfl,?_];let hL:(List.r (mask+1)).filterMap (λj=>(owner.p j none).C (j,·))=J7 mask owner:=rfl;rw [hL];let mem:=λj k=>(_lm o.sz).I (o.iff j k)
 let pw:((J7 mask owner).C (·.1)).þ (· < ·):=_ln owner _ List.pairwise_lt_range;let nd2:((J7 mask owner).C (·.2)).U:=by
  rw[List.U,List.pairwise_map];rw[List.pairwise_map]at pw;show List.þ.imp_of_mem (fun {p q} hp hq lt e=>?_) pw
  symm
 let pm:=_lo nd2 λk=>by
  rw[List.mem_map];constructor
  .rintro ⟨⟨j,k'⟩,hp,rfl⟩;let:=(aF ((mem j k').mp hp)).1;change k'<es.M
   symm
  .intro hk;show#[(xs[k]'⋯,k),(mem _ k).y (X1 .q),rfl]
 let gw:∀p>J7 mask owner,p.2<es.M:=λp hp=>by
  let:=(aF ((mem p.1 p.2).mp hp)).1
  symm
 let jc:((((J7 mask owner).C (·.2)).H).filterMap (es[·]?)).R=(J7 mask owner).C λp=>es.p p.2 (0,.å):=by
  rw[Array.toList_filterMap];let:∀l:List (Nat×Nat),(∀p>l,p.2<es.M)->(l.C (·.2)).filterMap (es[·]?)=l.C λp=>es.p p.2 (0,.å):=by
   intro l
   induction l with
   |nil=>intro _;rfl
   |cons p l ih=>
    intro hp;let h0:=hp p X2;rw[List.l,List.filterMap_cons,List.l,Xp h0,ih λq hq=>hp q (_ad _ hq)];simp[Array.p,h0]
  show this _ gw
 let gf:((((J7 mask owner).C (·.2)).H).filterMap (es[·]?)).R.ä es.R:=by
  rw[jc];let e1:(J7 mask owner).C (λp=>es.p p.2 (0,.å))=((J7 mask owner).C (·.2)).C λk=>es.R.p k (0,.å):=by
   rw[Xg];show Xw λp _=>?_
   simp
  rw[e1];show(pm.C _).I (.of_eq ?_);let:=rng_getD es.R ((0,.å):Ent);show this
 let hsz:((((J7 mask owner).C (·.2)).H).filterMap (es[·]?)).M=es.M:=by
  rw[<-Xm,gf.length_eq,Xm]
 show#[gf,hm,rfl,?_,pw,λj hj=>?_,?_,λz hz=>?_]
 .rw[<-Xm (xs:=Array.filterMap _ _),jc];simp
 .let#[#[j',k],hp,rfl]:=aE hj;let:=(Array.getElem?_eq_some_iff.mp ((_lm o.sz).mp hp)).1;rw[o.sz]at this;change j'<=mask;lia
 .rwa [hsz]
 .unfold Z at hz;rw[jc,List.zip_map',List.mem_map]at hz;let#[#[j,k],hp,rfl]:=hz;let hk:=gw _ hp;let#[m,g1,g2]:=o.good k j ((mem j k).mp hp);let eh:(es.C (·.1)).R.p k 0=(es.p k (0,.å)).1:=by
   let hk:k<es.M:=hk;simp[Array.p,hk]
  rw[eh]at g1 g2;show#[m,g1,λm' kg=>?_];let#[k',be]:=List.mem_iff_getElem?.mp (g2 m' kg);show List.mem_map.y #[_,(mem _ k').y be,rfl]
def _lq{t:SetTable}(hd:t.dummies=(List.H [])) j:t.put j=({t with place:=insertAt t.í (below t.í j) j},below t.í j):=by
 ext put;rw[hd];let:has (List.H []) j=false:=by ext has;rfl
 symm
def _lr(ok:TOk t es)(hM:jJ t.ò h M∉t.í.R)(hb:∀m,m<M->jJ t.ò h m>t.í.R):
  (insertAt es (t.put (jJ t.ò h M)).2 (h,x)).R.ä ((h,x)::es.R)/\(t.put (jJ t.ò h M)).1.ò=t.ò/\(t.put (jJ t.ò h M)).1.led=t.led/\(t.put (jJ t.ò h M)).1.plain=t.plain /\
   (t.put (jJ t.ò h M)).1.fill=es.M+1/\(t.put (jJ t.ò h M)).1.í.M=es.M+1/\∀pl,(es.M+1)*5<t.ò*3->TOk { (t.put (jJ t.ò h M)).1 with plain:=pl} (insertAt es (t.put (jJ t.ò h M)).2 (h,x)):=by
 rw[_lq ok.d];right;let hp:(insertAt es (below t.í (jJ t.ò h M)) (h,x)).R.ä ((h,x)::es.R):=by
  rw[_j0];show _j1 _ _ _
 let hpp:(insertAt t.í (below t.í (jJ t.ò h M)) (jJ t.ò h M)).R.ä (jJ t.ò h M::t.í.R):=by
  rw[_j0];show _j1 _ _ _
 let hsz:(insertAt es (below t.í (jJ t.ò h M)) (h,x)).M=es.M+1:=by
  rw[<-Xm,hp.length_eq,Xn,Xm]
 let hpz:(insertAt t.í (below t.í (jJ t.ò h M)) (jJ t.ò h M)).M=es.M+1:=by
  rw[<-Xm,hpp.length_eq,Xn,Xm,ok.sz]
 show#[hp,rfl,rfl,rfl,?_,hpz,λpl hf=>#[ok.m,ok.d,?_,_j2 ok.pw hM,λj hj=>?_,?_,λz hz=>?_]]
 .rw[ok.d];change _+0=_;rw[hpz]
 .rw[hsz];show hpz
 .let rfl\/hj:=aD (hpp.è.mp hj)
  .show _li _ _ _
  .show ok.le j hj
 .rw[hsz];show hf
 .unfold Z at hz;rw[_j0,_j0]at hz;let hz:=(_j3 _ _ _ (by rw[Xm,Xm,ok.sz])).è.mp hz;let rfl\/hz:=aD hz
  .show#[M,rfl,λm' kg=>hpp.è.y (_ad _ (hb m' kg))]
  .let#[m,g1,g2]:=ok.good z hz;show#[m,g1,λm' kg=>hpp.è.y (_ad _ (g2 m' kg))]
def grow{mask n}(hm:xJ mask)(h1:n*5<mask*3)(h2:mask*3<=(n+1)*5)(hn:n+1<=70):xJ (sizeAbove (grown (n+1)) - 1)/\(n+1)*5<(sizeAbove (grown (n+1)) - 1)*3/\sizeAbove (grown (n+1))<=128:=by
 let rfl\/rfl\/rfl:=hm
 .let:n=4:=.q
  subst this;ext xJ;decide
 .let:n=18:=.q
  subst this;ext xJ;decide
 .lia
def _ls(ok:TOk t es){M i:Nat}(hM:jJ t.ò h M∉t.í.R)(hi:es[i]?=@e)(he:e.1=h):∃m,m<M/\t.í[i]?=@(jJ t.ò h m):=by
 let hip:i<t.í.M:=by rw[ok.sz];show((Array.getElem?_eq_some_iff.mp hi).1)
 let hz:(t.í[i],e)>Z t es:=by
  ext Z;show List.mem_iff_getElem?.y #[i,?_];rw[List.getElem?_zip_eq_some];show#[by simp[hip],~~~hi]
 let#[m,g1,g2]:=ok.good _ hz;rw[he]at g1 g2;show#[m,?_,by rw[Xp hip,g1]];let c\/c:=Nat.lt_or_ge m M
 .show c
 .let c2\/c2:=Nat.lt_or_ge M m
  .show absurd (g2 M c2) hM
  .let:m=M:=.q
   subst this;show absurd ?_ hM;rw[g1];show List.mem_iff_getElem.y #[i,~~~hip,by simp]
end Tb
namespace Tw
open PySem PyProof.Rows Tb Sw
section
variable {prog:Program}{w:World}{A:Around}{E:VP9}{s:Shared}{K:Type}[DecidableEq K]{knd:HeapKind prog w K}
structure KX (knd:HeapKind prog w K):Prop where
 keep:∀{h h':Heap} {k:K} {a:Addr},knd.is h k a->(∀b ob,h.get? b=@ob->ob.cls=.e "tuple"->h'.get? b=@ob)->knd.is h' k a
 cls:∀{A:Around} {E:VP9} {s:Shared} {k:K} {a:Addr} {Q:Bool->Shared->Prop},knd.is s.G k a->Q false s->wpAny (model prog w) A (ofAClassStatement 8 (.J a)) Q E s
def KX.keeps(X:KX knd)(hk:knd.is h k a)(ho:h.get? d=@o)(hc:o.cls=.e "set")(hs:Heap.SameBut d h h'):knd.is h' k a:=X.keep hk λb ob hb ht=>hs.extBut b ob (λz=>by
 rw[z,ho]at hb;cases hb;rw[hc]at ht;show absurd ht .q) hb
abbrev ent(knd:HeapKind prog w K)(p:K×Addr):Int×Value:=(knd.hash p.1,.J p.2)
structure OkT (knd:HeapKind prog w K)(h:Heap)(o:Obj)(es:Array (Int×Value))(ep:Nat)(t:SetTable)(ks:List (K×Addr)):Prop where
 ex:o.ExactSet
 d:o.data=.u es ep t
 el:es.R=ks.C (ent knd)
 is:∀p>ks,knd.is h p.1 p.2
 nd:(ks.C (·.1)).U
 tb:TOk t es
 led:t.led=!tx w
def OkT.f(ok:OkT knd h o es ep t ks):t.fits es.M=true:=by
 ext SetTable.fits SetTable.fill;rw[ok.tb.d,ok.tb.sz];let:=ok.tb.few;simp;lia
def OkT.sz(ok:OkT knd h o es ep t ks):es.M=ks.B:=by rw[<-Xm,ok.el,X3]
def OkT.at(ok:OkT knd h o es ep t ks){i:Nat}(hi:es[i]?=@e):∃p,ks[i]?=@p/\e=ent knd p:=by
 rw[<-Xu,ok.el,Xf]at hi;cases hk:ks[i]? with|none=>rw[hk]at hi;cases hi|some p=>rw[hk]at hi;show#[p,rfl,(_aa hi).s]
def _lt{t:SetTable}(hm:xJ t.ò):t.gaveWay=false:=by
 ext SetTable.gaveWay;let e\/e\/e:=hm<;>rw[e]<;>rfl
def _lu(X:KX knd)(hb:knd.is s.G k b)(h:Q false s):∀vs,(∀v>vs,∃k' b',v=.J b'/\knd.is s.G k' b')->wpAny (model prog w) A (searchCouldBeSeen (.J b) vs) Q E s:=by
 intro vs hv;show X0 (Zw _ (λaf r s'=>r.1=none/\s'=s/\∀v>af,∃k' b',v=.J b'/\knd.is s.G k' b') _ ?_ ?_ _ _ #[rfl,rfl,hv])
 .rintro v af r s' ⟨hr,rfl,hv⟩;let#[k',b',rfl,gc]:=hv v X2;let kt:=λv hv'=>hv v (_ad _ hv')
  right
  split
  .show X5 #[rfl,rfl,kt]
  .show X0 (knd.quiet hb (X0 (knd.quiet gc (X0 (X.cls hb (X0 (X.cls gc (X5 #[rfl,rfl,kt]))))))))
 .rintro ⟨r1,r2⟩ s' ⟨hr,rfl,_⟩;subst hr;show X5 h
end
def _lv(ok:TOk t es)(hM:jJ t.ò h M∉t.í.R)(hb:∀m,m<M->jJ t.ò h m>t.í.R)(hl:M<10*SetTable.turns t.ò)
  (o8:t.probe g h p=r) (hp:p=pr t.ò h m) (hm:m<=M):
   (r=@(.empty (jJ t.ò h M) none)/\∀m' i,m<=m'->m'<M->t.í[i]?=@(jJ t.ò h m')->g i≠h) \/
   ∃m' i,m<=m'/\m'<M/\t.í[i]?=@(jJ t.ò h m')/\g i=h/\r=@(.candidate (jJ t.ò h m') i (pr t.ò h (m'+1)))/\∀n6 i',m<=n6->n6<m'->t.í[i']?=@(jJ t.ò h n6)->g i'≠h:=by
 subst hp o8;show _j6 ok hM hb _ m hm (by omega)
def _lw(ok:TOk t es)(hM:jJ t.ò h M∉t.í.R)(hb:∀m,m<M->jJ t.ò h m>t.í.R)(hl:M<10*SetTable.turns t.ò)
  (hp:p=pr t.ò h m) (hm:m<=M):∃met,t.probe g h p=@met:=by
 let#[e1,_]\/#[m',i,_,_,_,_,e1,_]:=_lv ok hM hb hl rfl hp hm
 .show#[_,e1]
 .show#[_,e1]
def _lx{t:SetTable}(hp:t.í.R.þ (· < ·)){i j x:Nat}(h1:t.í[i]?=@x)(h2:t.í[j]?=@x):i=j:=by
 show(List.getElem?_inj (~~~(((Array.getElem?_eq_some_iff.mp h1).1))) (hp.imp λh=>Xq h)).mp ?_;rw[Xu,Xu,h1,h2]
def _ly{t:SetTable}(hp:t.í.R.þ (· < ·))(hd:t.dummies=(List.H [])){i j}(h:t.í[i]?=@j):t.slot j=.live i:=by
 let#[i',e1,e2]\/#[_,e2]:=_jZ hp hd j
 .rw[e1,_lx hp e2 h]
 .show absurd (Y5 (Xu▸h)) e2
def _lz{t:SetTable}:t.sameMemory t.moves t.ò=@true:=by
 ext SetTable.sameMemory;rw[X7 (by simp)]
section
variable {K:Type}[DecidableEq K]{knd:HeapKind prog w K}
#where in
def _lA (X : KX knd) (hr : knd.room A) (ho : s.G.get? a = @o) (ok : OkT knd s.G o es ep t ks) (hb : knd.is s.G k b)
 (hM : jJ t.ò (knd.hash k) M∉t.í.R) (hbf : ∀m,m<M -> jJ t.ò (knd.hash k) m > t.í.R) (hl : M<10*SetTable.turns t.ò)
    (hyes : k > ks.C (·.1) -> Q (.there none) s) (lh : k∉ks.C (·.1) -> Q (.free (jJ t.ò (knd.hash k) M) false) s):
    ∀ fuel m (ll),m<=M -> M - m<fuel -> ll.p (t.probeStart (knd.hash k)) = pr t.ò (knd.hash k) m ->
      (∀ (i : Nat) p,ks[i]? = @p -> p.1 = k -> ∃m',m<=m' /\ m'<M /\ t.í[i]? = @(jJ t.ò (knd.hash k) m')) ->
      wpAny (model prog w) A (setSearchFrom a (.J b) (knd.hash k) true fuel ll) Q E s:= by
  intro fuel
  induction fuel with
  | zero => intro m ll h1 h2; symm
  | succ fuel ih=>
    intro m ll h1 h2 b7 gw;ext setSearchFrom;show X0 (Yp ho ok.d ok.f ?_);right;rw [_lt ok.tb.m];simp only [Bool.false_eq_true,if_false]
    split
    . revert met o8
      let hg : ∀(i : Nat) (e : Int × Value),es[i]? = @e -> (es[i]?.C (·.1)).p 0 = e.1:= λi e he=>by rw[he]; rfl
      let#[e1,e2]\/#[m',i,q1,q2,q3,q4,q5,q6]:=_lv ok.tb hM hbf hl o8 b7 h1
      . cases _aa e1
        right;show X5 (lh λhk=> ?_);let#[p,hp,rfl]:= aE hk;let#[i,hi]:= List.mem_iff_getElem?.mp hp;let#[m',a1,a2,a3]:= gw i p hi rfl;show e2 m' i a1 a2 a3 ?_;let yc : es[i]? = @(ent knd p):= by rw[<-Xu,ok.el,Xf,hi]; rfl
        show hg i _ yc
      . cases _aa q5
        right;let si : i<es.M:= by rw[<-ok.tb.sz]; show(Array.getElem?_eq_some_iff.mp q3).1
        let#[p,hp,he]:= ok.at (Xp si);let hpk:= ok.is p (Y5 hp);refine' (fun {P Q : Prop} (f : P -> Q) (p : P)=>f p) (λkey=> ?m) ?k
        case m=>
          split
          . show X0 (_lu X hb ?_ _ λv hv=> ?_)
            . rw[Xb .q]
              show key
            . let#[e,tz,rfl]:= aE hv
              let tz : e > es.R:= (Array.mem_toList_iff.y (Array.mem_filter.mp (Array.mem_toList_iff.mp tz)).1);rw[ok.el]at tz;let#[p',hp',rfl]:= aE tz;show#[p'.1,p'.2,rfl,ok.is p' hp']
          . show key
        rw [Xp si,he];right;show X0 (Y4 (knd.eqBool hr hpk hb ?_));show X0 (Yp ho ok.d ok.f ?_);right
        by_cases hk : p.1 = k
        . rw [X8 hk,X7 (show(true&&true) = true from rfl)]
          show X5 (hyes (List.mem_map.y #[p,Y5 hp,hk]))
        . rw [Xk hk,Xb .q,_lz]
          right;rw [X7 rfl,_ly ok.tb.pw ok.tb.d q3];right;rw [Xp si,he];right;show X0 (wpAny_isSame_ref_self ?_);rw [X7 rfl];show X0 (X5 ?_);right;rw [Xb .q];show ih (m'+1) _ .q (by grind) rfl λi2 p2 hi2 ye=> ?_
          let#[m2,a1,a2,a3]:= gw i2 p2 hi2 ye;show#[m2,?_,a2,a3];let c\/c:=Nat.lt_or_ge m2 (m'+1)
          . exfalso
            by_cases c2 : m2 = m'
            . subst c2
              let:= _lx ok.tb.pw a3 q3;subst this;rw[hp]at hi2;cases _aa hi2;show hk ye
            . show q6 m2 i2 a1 .q a3 ?_
              let yc : es[i2]? = @(ent knd p2):= by rw[<-Xu,ok.el,Xf,hi2]; rfl
              let this : _ = knd.hash p2.1:= hg i2 _ yc;rw[ye]at this;show this
          . show c
    . revert o8
      show(Exists.ë (_lw ok.tb hM hbf hl b7 h1) λmet hm=>o8 met hm).ë
end
section
variable {K:Type}[DecidableEq K]{knd:HeapKind prog w K}
def HasT(knd:HeapKind prog w K)(h:Heap)(a:Addr)(ls:List K):Prop:=∃o es ep t ks,h.get? a=@o/\OkT knd h o es ep t ks/\(ks.C (·.1)).ä ls
def ByV(knd:HeapKind prog w K):Prop:=∀{A:Around} {E:VP9} {s:Shared} {k:K} {a:Addr} {Q:Bool->Shared->Prop},knd.is s.G k a->(∀b,Q b s)->wpAny (model prog w) A (hashByValue 8 (.J a)) Q E s
def _lB:∀{vs:List β} {ks},vs.ä (ks.C f)->∃cf:List α,cf.ä ks/\vs=cf.C f
 |[],ks,h=>#[ks,.ñ _,h.nil_eq]
 |v::vs,ks,h=>by
  let#[k,hk,rfl]:=aE (h.è.mp X2);let#[a,b,rfl]:=List.append_of_mem hk;let hp:(k::_).ä (a++k::b):=List.perm_middle.s;let#[cf,p,rfl]:=_lB ((h.I (hp.s.C f)).cons_inv);show#[k::cf,(p.ê k).I hp,rfl]
def add(X:KX knd)(V:ByV knd)(hr:knd.room A)(hS:HasT knd s.G a ls)(hb:knd.is s.G k b)(hl:ls.B+1<=60)
  (h:∀bb h',Heap.SameBut a s.G h'->HasT knd h' a (if k>ls then ls else ls++[k])->Q bb {s with heap:=h' }):wpAny (model prog w) A (setAddHashed a (.J b) (knd.hash k)) Q E s:=by
 let#[o,es,ep,t,ks,ho,ok,hp]:=hS;let hsz:es.M=ls.B:=by rw[ok.sz,<-hp.length_eq,X3]
 let#[M,m1,m2,m3]:=_jS ok.tb.m _ ok.tb.empty;let hmem:k>ks.C _↔k>ls:=hp.è;let hturn:10*SetTable.turns t.ò<=1420:=by
  let e\/e\/e:=ok.tb.m<;>rw[e]<;>decide
 show Y4 (X0 (Yp ho ok.d ok.f ?_));right;rw [show byScan _ es=false from rfl];ext setSearch;show X0 (_lA X hr ho ok hb m2 m3 m1 (λhk=>?_) (λhk=>?_) 100000 0 none (Y6 _) .q rfl λi p hi hpk=>?_)
 .let be:=hmem.mp hk;let:=h false s.G (Heap.SameBut.ñ a s.G);rw [X7 be]at this;show X5 (this #[o,es,ep,t,ks,ho,ok,hp])
 .let be:k∉ls:=λz=>hk (hmem.y z)
  rw [Xb be]at h;show X0 (Yp ho ok.d ok.f ?_);let#[p1,p2,p3,p4,p5,p6,p7]:=_lr ok.tb m2 m3;generalize t.put _=tp at p1 p2 p3 p4 p5 p6 p7 ⊢;let#[t1,pl]:=tp;generalize hes1:SetTable.insertAt es pl _=cq at p1 p7 ⊢;let mo:cq.M=es.M+1:=by rw[<-Xm,p1.length_eq,Xn,Xm]
  let nr:cq.M<=sizeLine:=by rw[Za];lia
  let#[ks1,q1,q2]:=_lB (ks:=(k,b)::ks) (vs:=cq.R) (by rw[List.l,<-ok.el];show p1);let p8:(ks1.C _).ä _:=(q1.C (·.1)).I (by
   show(hp.ê k).I (List.perm_append_singleton k ls).s)
  let dw:=((q1.C _).nodup_iff).y (by
   show List.ú.y #[hk,ok.nd])
  let his:∀p>ks1,knd.is s.G p.1 p.2:=λp hpp=>by
   let rfl\/hpp:=aD (q1.è.mp hpp)
   .show hb
   .show ok.is p hpp
  let fin:∀tj,wpAny (model prog w) A (do
    storeSet a cq (if tj=true then t1 else {t1 with plain:=false})
    if(!false&&(if tj=true then t1 else {t1 with plain:=false}).tooFull)=true then do
      setRelay a (SetTable.grown (es.M+1))
      pure true
     else pure true) Q E s:=λtj=>by
   obtain⟨pp,ht2⟩:∃pp,(if tj=true then t1 else {t1 with plain:=false})={t1 with plain:=pp}:=by
    cases tj
    .show#[false,rfl]
    .show#[t1.plain,rfl]
   rw[ht2];let gi:=_kc (es':=cq) (t':={t1 with plain:=pp}) ho ok.d;let o6:=Yd s.G a (Obj.putSet cq {t1 with plain:=pp});show X0 (wpAny_storeSet_of ho ok.d ?_ nr);let ur:∀p>ks1,knd.is _ p.1 p.2:=λp hpp=>X.keeps (his p hpp) ho ok.ex.1 o6
   by_cases hfull:({t1 with plain:=pp}:SetTable).tooFull=true
   .rw[hfull];let e5:({t1 with plain:=pp}:SetTable).fill=es.M+1:=p5;let e6:({t1 with plain:=pp}:SetTable).ò=t.ò:=p2;let uj:t.ò*3<=(es.M+1)*5:=by
     unfold SetTable.tooFull at hfull;rw[e5,e6]at hfull
     simpa using hfull
    let#[g1,g2,g3]:=grow ok.tb.m ok.tb.few uj .q;let#[t3,gj,r1,r2,r3,r4,r5]:=_lp (es:=cq) g1 (mo▸g2) ({t1 with plain:=pp}:SetTable).finger _ ({t1 with plain:=pp}:SetTable).led pp;let rj:({t1 with plain:=pp}:SetTable).fits cq.M=true:=by
     let e7:({t1 with plain:=pp}:SetTable).í.M=es.M+1:=p6;ext SetTable.fits;let:=ok.tb.few
     grind
    show X0 (X0 (Yp gi rfl rj ?_));right;rw[Xb (by rw[Za];lia)];let er:({t1 with plain:=pp}:SetTable).relaid _ _=@_:=r1;rw[er];show X0 ?_;let vo:(gj.filterMap (cq[·]?)).M=cq.M:=by rw[<-Xm,r4.length_eq,Xm]
    change wpAny _ _ (ite _ _ _) _ _ _;rw[vo,Xb (by simp)];show X5 ?_;let jd:=Yd (s.G.update a (Obj.putSet cq {t1 with plain:=pp})) a (Obj.putSet (gj.filterMap (cq[·]?)) t3);show wpAny_storeSet_of gi rfl ?_ (vo▸nr);let#[ks3,c1,c2]:=_lB (q2▸r4);show X5 (h true _ (o6.I jd) #[_,_,_,t3,ks3,_kc gi rfl,#[ok.ex,rfl,c2,λp hpp=>X.keeps (ur p (c1.è.mp hpp)) gi ok.ex.1 jd,((c1.C _).nodup_iff).y dw,r5,r2.I (p3.I ok.led)],(c1.C _).I p8])
   .rw[Bool.eq_false_iff.y hfull];let d9:(es.M+1)*5<t.ò*3:=by
     let e5:({t1 with plain:=pp}:SetTable).fill=es.M+1:=p5;unfold SetTable.tooFull at hfull;rw[e5]at hfull;let e6:({t1 with plain:=pp}:SetTable).ò=t.ò:=p2;rw[e6]at hfull
     simpa using hfull
    show X5 (h true _ o6 #[_,cq,_,_,ks1,gi,#[ok.ex,rfl,q2,ur,dw,p7 pp d9,p3.I ok.led],p8])
  split
  .show X0 (V hb λtj=>(fin tj))
  .show X0 (X5 (fin true))
 .let yc:es[i]?=@(ent knd p):=by rw[<-Xu,ok.el,Xf,hi];rfl
  let#[m',a1,a2]:=_ls ok.tb m2 yc (show knd.hash p.1=knd.hash k by rw[hpk]);show#[m',Y6 _,a1,a2]
end
section
variable {K:Type}[DecidableEq K]{knd:HeapKind prog w K}
def stepK(ls:List K)(k:K):List K:=if k>ls then ls else ls++[k]
def ddK(ss:List K):List K:=ss.foldl stepK []
def _lC{ss:List K}(h:ss[i]?=@x):ddK (ss.take (i+1))=stepK (ddK (ss.take i)) x:=by
 ext ddK;rw[List.take_succ,h,List.foldl_append];rfl
def _lD:∀(ss ls:List K),ls.B<=(ss.foldl stepK ls).B
 |[],ls=>Xa _
 |k::ss,ls=>by
  show Z5 ?_ (_lD ss _);ext stepK
  split
  .show Xa _
  .simp
def _lE(ss:List K) i:(ddK (ss.take i)).B<=(ddK ss).B:=by
 let:ddK ss=(ss.drop i).foldl stepK (ddK (ss.take i)):=by
  ext ddK;rw[<-List.foldl_append,List.take_append_drop]
 rw[this];show _lD _ _
def HasT.same(X:KX knd)(x:HasT knd h a ls)(e:∀b o,h.get? b=@o->o.cls≠.e "list_iterator"->h'.get? b=@o):HasT knd h' a ls:=by
 let#[o,es,ep,t,ks,ho,r,hp]:=x;show#[o,es,ep,t,ks,e _ _ ho (by rw[r.ex.1];decide),#[r.ex,r.d,r.el,λp hpp=>X.keep (r.is p hpp) λb ob hb ht=>e b ob hb (by rw[ht];decide),r.nd,r.tb,r.led],hp]
def _lF(e:h.get? a=@(fresh w)):HasT knd h a []:=
 #[_,(List.H []),0,.fresh 0 0 _,[],e,#[#[rfl,rfl,rfl],rfl,rfl,(nofun),Y7,#[.O rfl,rfl,rfl,.nil,(λj hj=>(nomatch hj)),by change 0*5<7*3;decide,(λz hz=>(nomatch hz))],rfl],.ñ _]
def _lG(X:KX knd)(V:ByV knd)(hr:knd.room A.in1.in1.in1)(hh:A.ó=none)(hl:s.G.IsList l items)(hn:ss.B=items.M)(hi:∀(i:Nat) v,items[i]?=@v->∃b x,v=.J b/\ss[i]?=@x/\knd.is s.G x b)(hb:(ddK ss).B<=59)
  (h:∀(h':Heap) (tk:Nat),HasT knd h' ↥s (ddK ss)->(∀b o,b<↥s->s.G.get? b=@o->h'.get? b=@o)->Q (.J ↥s) {s with heap:=h',toks:=tk}):
  wpAny (model prog w) A (call (.e "set") [.J l]) Q E s:=by
 show _kj (C:=λi h=>HasT knd h ↥s (ddK (ss.take i))/\∀(i:Nat) v,items[i]?=@v->∃b x,v=.J b/\ss[i]?=@x/\knd.is h x b) hh hl (λh' ca e=>#[_lF e,λi v hv=>?_]) (fun {i h h'} hS e=>#[hS.1.same X e,λi v hv=>?_]) (fun {i v s'} {Q E} hv lq hS hQ=>?_) λh' tk hS=>h h' tk ?_
 .let#[b,x,e1,e2,e3]:=hi i v hv;show#[b,x,e1,e2,X.keep e3 λb ob hb _=>ca b ob hb]
 .let#[b,x,e1,e2,e3]:=hS.2 i v hv;show#[b,x,e1,e2,X.keep e3 λb ob hb ht=>e b ob hb (by rw[ht];decide)]
 .let#[b,x,rfl,hx,jo]:=hS.2 i v hv;obtain⟨oS,hoS,hcS⟩:∃o,s'.G.get? ↥s=@o/\o.cls=.e "set":=by
   let#[o,es,ep,t,ks,ho,r,_]:=hS.1;show#[o,ho,r.ex.1]
  show Y4 (X0 (knd.pyHash hr jo (add (s:={s' with toks:=s'.ý+knd.draws x}) X V hr hS.1 jo ?_ λbb h' a1 a2=>?_)))
  .let:=_lE ss i;lia
  let a2:HasT knd h' ↥s (stepK (ddK (ss.take i)) x):=a2;rw[<-_lC hx]at a2;show hQ bb h' _ (Nat.le_add_right _ _) a1 #[a2,λi v hv=>?_];let#[b,x,e1,e2,e3]:=hS.2 i v hv;show#[b,x,e1,e2,X.keeps e3 hoS hcS a1]
 .rw[<-hn,List.take_length]at hS;show hS.1
end
end Tw
namespace Tl
open Q
mutual
def ltD:D->D->Option Bool
 |.int i,.int j=>⇑(decide (i<j))|.str x,.str y=>⇑(decide (x.cps.toList<y.cps.toList))|.tup xs,.tup ys=>ltDs xs ys|_,_=>none
def ltDs:List D->List D->Option Bool
 |[],[]=>⇑false|[],_::_=>⇑true|_::_,[]=>⇑false|a::x,b::y=>if a=b then ltDs x y else ltD a b
end
def _lH(a:D):List D->List D
 |[]=>[a]|b::r=>if ltD b a=@true then b::_lH a r else a::b::r
def JX:List D->List D
 |[]=>[]|a::r=>_lH a (JX r)
def Wq:D->Bool
 |.X (.E _::_)=>true|_=>false
def okT(ds:List D):Bool:=ds.all (λd=>jX 6 d&&Wq d)&&ds.all λa=>ds.all λb=>(ltD a b).isSome
def Qj(l:List D)(d:D):List D:=if d>l then l else l++[d]
def ddT(ds:List D):List D:=ds.foldl Qj []
end Tl
namespace Q
open Tl
def ZJ:Sd->Option Sd:=λx=>match x.2 with
 |.L ds=>if(ddT ds).B<=59/\okT ds=true then @(.rt,.L (JX (ddT ds)))else none|_=>none
end Q
namespace Tl
open PySem PyProof.Rows SeqAt
def YJ(A:Around)(s:Shared)(y x:Value)(b:Bool):Prop:=
 ∀(prog:Program) (w:World) (E:VP9) (Q:VP9),Q (.bool b) s->wpAny (model prog w) A (richCompare .Lt y x) Q E s
inductive Lx (A:Around)(s:Shared):List Value->List Value->Bool->Prop
 |nn:Lx A s [] [] false
 |nc (y:Value) (ys:List Value):Lx A s [] (y::ys) true
 |cn (x:Value) (xs:List Value):Lx A s (x::xs) [] false
 |eq {x y:Value} {xs ys:List Value} {b:Bool}:EqAt A s x y true->Lx A s xs ys b->Lx A s (x::xs) (y::ys) b
 |lt {x y:Value} {xs ys:List Value} {b:Bool}:EqAt A s x y false->YJ A s x y b->Lx A s (x::xs) (y::ys) b
def _lI (h:Lx A s xs ys k):∀{R:Option Fin×Unit->Shared->Prop},(R (@(.done (.ret (.bool k))),()) s)->(k=decide (xs.B<ys.B)->R (none,()) s) ->
  wpAny (model prog w) A (forIn (xs.zip ys) ((none,()):Option Fin×Unit) λx __s=>do
      let __do_lift <-eqBool x.fst x.snd
      if(!__do_lift)=true then do
        PySem.rule "tuple.compare.by-the-first-pair-that-differs"
        let __do_lift <-richCompare CmpOp.Lt x.fst x.snd
        let __do_lift <-ret __do_lift
        pure (ForInStep.done (@__do_lift,()))
       else pure (ForInStep.yield (none,()))) R E s:=by
 induction h with
 |nn=>intro R h1 h2;show X5 (h2 rfl)|nc y ys=>intro R h1 h2;show X5 (h2 (by rfl))|cn x xs=>intro R h1 h2;show X5 (h2 (by rfl))
 |eq he _ ih=>
  intro R h1 h2;rw[List.zip_cons_cons,List.forIn_cons];show X0 (X0 (he prog w _ _ ?_));show X5 ?_;show ih h1 λe=>h2 (by rw[e];simp)
 |lt he hl=>
  intro R h1 h2;rw[List.zip_cons_cons,List.forIn_cons];show X0 (X0 (he prog w _ _ ?_));show X0 (Zq (X0 (hl prog w _ _ ?_)));show X0 (X5 (X5 (X5 h1)))
def _lJ{Q:VP9}(hl:s.G.IsTuple l items)(hb:s.G.IsTuple b items2)(h:Lx A s items.R items2.R k)(hq:Q (.bool k) s):
  wpAny (model prog w) A (Builtin.«tuple.__lt__» #[[.J l,.J b],[]]) (λfin s'=>∃v,fin=.done (.ret v)/\Q v s') E s:=by
 let tyb:=hb.typeIs;let#[ol,hol,dk,nl,qg]:=hl;let#[ob,io,hcb,nb,gr]:=hb;change wpAny _ _ (isInstance _ _ >>= _) _ _ _;show X0 (Zx tyb isSubtype_tuple_tuple ?_);show X0 (wpAny_tupleItemsOf hol qg (X0 (wpAny_tupleItemsOf io gr ?_)));show X0 (_lI h ?_ λe=>?_)
 .show X5 #[_,rfl,hq]
 .show X5 #[_,rfl,?_];let:Builtin.Tuple.tupleCompareSizes CmpOp.Lt items.M items2.M=.bool k:=by
   rw[e];rfl
  rw[this];show hq
def _lK(hl:s.G.IsTuple l items)(hb:s.G.IsTuple b items2)(hu:A.â<cLine)(h:Lx A.in1 s items.R items2.R k):YJ A s (.J l) (.J b) k:=λprog w E Q hq=>by
 let t1:=hl.typeIs;let t2:=hb.typeIs;show richCompare_meets_room t1 t2 PySem.F.slot_tuple_lt PySem.F.entry_tuple_lt (PySem.F.args_tuple_lt_2 _ _)
  (Meets.of_wp (S:=λA R s=>s.G.IsTuple l items/\s.G.IsTuple b items2/\Lx A.in1 s items.R items2.R k/\R _ s) λprog w A R s hs=>_lJ hs.1 hs.2.1 hs.2.2.1 hs.2.2.2) #[hl,hb,h,#[(nofun),hq]] hu
open Q
def _lL(x y:Str)(t u:Tok):YJ A s (.ã x t) (.ã y u) (decide (x.cps.R<y.cps.R)):=λprog w E Q h=>PyProof.Rows.lt_str h
def lt_int(i j:Int)(t u:Tok):YJ A s (.E i t) (.E j u) (decide (i<j)):=λprog w E Q h=>wpAny_lt_int h
#where in
def _lM(hu:A.â+2*n+1<cLine)(b9:∀(d d':D) (u w:Value) b,jX n d=true->jX n d'=true->jK s.G d u->jK s.G d' w->ltD d d'=@b->YJ A s u w b):∀(xs ys:List D) (us px:List Value) b,keyDs n xs=true->keyDs n ys=true->CReps s.G xs us->CReps s.G ys px->ltDs xs ys=@b->Lx A s us px b:=by
 intro xs
 induction xs<;>intro ys us px b kx ky q1 q2 h<;>cases ys<;>unfold CReps at q1 q2<;>unfold ltDs at h
 .cases h;subst q1 q2;show .nn
 .let#[u,r,rfl,_,_]:=q2;cases h;subst q1;show .nc _ _
 .let#[u,r,rfl,_,_]:=q1;cases h;subst q2;show .cn _ _
 .revert x xs ihx y ys;let#[u,r,rfl,g1,g2]:=q1;let#[u',r',rfl,g3,g4]:=q2;unfold keyDs at kx ky;rw[Bool.æ]at kx ky;let he:=W7 n (A:=A) (_fo kx.1) g1 g3 .q;rw[_fp kx.1 ky.1]at he
  by_cases e:x=y
  .rw[X7 e]at h;rw[X8 e]at he;show .eq he (ihx ys r r' b kx.2 ky.2 g2 g4 h)
  .rw[Xb e]at h;rw[Xk e]at he;show .lt he (b9 _ _ _ _ _ kx.1 ky.1 g1 g3 h)
inductive Lv:D->D->Bool->Prop
 |int (i j:Int):Lv (.E i) (.E j) (decide (i<j))
 |str (x y:PySem.Str):Lv (.ã x) (.ã y) (decide (x.cps.R<y.cps.R))
 |tup {xs ys:List D} {k:Bool}:ltDs xs ys=@k->Lv (.X xs) (.X ys) k
def ltv(h:ltD a b=@k):Lv a b k:=by
 unfold ltD at h
 split at h
 .cases h;show .E _ _
 .cases h;show .ã _ _
 .show .X h
 .cases h
def lt_C:∀n {d d':D} {u w:Value} {A:Around} {b:Bool},jX n d=true->jX n d'=true->jK s.G d u->jK s.G d' w->A.â+2*n<cLine->ltD d d'=@b->YJ A s u w b:=by
 intro n
 induction n with
 | zero=>
  intro d d' u w A b k1 k2 r1 r2 hu h;cases ltv h with|int=>unfold jK at r1 r2;let#[t,rfl]:=r1;let#[t',rfl]:=r2;show lt_int _ _ _ _|str=>unfold jK at r1 r2;let#[t,rfl]:=r1;let#[t',rfl]:=r2;show _lL _ _ _ _|tup=>unfold jX at k1;cases k1
 | succ n ih=>
  intro d d' u w A b k1 k2 r1 r2 hu h;cases ltv h with
  |int=>unfold jK at r1 r2;let#[t,rfl]:=r1;let#[t',rfl]:=r2;show lt_int _ _ _ _|str=>unfold jK at r1 r2;let#[t,rfl]:=r1;let#[t',rfl]:=r2;show _lL _ _ _ _
  |tup h=>
   unfold jK at r1 r2;unfold jX at k1 k2;let#[a,us,rfl,h1,q1]:=r1;let#[a',px,rfl,h2,q2]:=r2;show _lK h1 h2 .q (_lM .q (λ_ _ _ _ _ a1 a2 a3 a4 a5=>ih a1 a2 a3 a4 .q a5) _ _ us px _ k1 k2 q1 q2 h)
end Tl
namespace Tl
open Q
structure Ord (n:Nat):Prop where
 a1:∀{a b:D},sizeOf a<n->ltD a b=@true->ltD b a=@false
 a2:∀{x y:List D},sizeOf x<n->ltDs x y=@true->ltDs y x=@false
 t1:∀{a b:D},sizeOf a<n->ltD a b=@false->a≠b->ltD b a=@true
 t2:∀{x y:List D},sizeOf x<n->ltDs x y=@false->x≠y->ltDs y x=@true
 r1:∀{a b c:D},sizeOf a<n->ltD a b=@true->ltD b c=@true->ltD a c=@true
 r2:∀{x y z:List D},sizeOf x<n->ltDs x y=@true->ltDs y z=@true->ltDs x z=@true
#where in
def ord (n): Ord n:= by
  induction n with
  | zero=>show#[nofun,nofun,nofun,nofun,nofun,nofun]
  | succ n ih=>
    show#[fun {a b} hs h=> ?_,fun {x y} hs h=> ?_,fun {a b} hs h ne=> ?_,fun {x y} hs h ne=> ?_,fun {a b c} hs h1 h2=> ?_,fun {x y z} hs h1 h2=> ?_]
    . generalize hk : true = k at h
      cases ltv h <;> ext ltD
      . rw[Xk (by let:= Yf hk.s; lia)]
      . rw[Xk (List.lt_asymm (Yf hk.s))]
      . subst hk
        show ih.a2 (by simp at hs; lia) ‹_›
    . cases x <;> cases y <;> unfold ltDs at h ⊢ <;> first
        | (cases h; done)
        | rfl
        | skip
      simp at hs
      split at h
      . rw[X7 (Eq.s ‹_›)]
        show ih.a2 .q h
      . rw[Xb λz=> ‹¬_› z.s]
        show ih.a1 .q h
    . generalize hk : false = k at h
      cases ltv h <;> ext ltD
      . revert i j
        let : i≠j:= λz=>ne (by rw[z])
        rw[X8 .q]
      . revert x y
        let h1:= List.not_lt.mp (of_decide_eq_false hk.s);let h2\/h2:=Decidable.em (y.cps.R<x.cps.R)
        . rw[X8 h2]
        . let:= List.le_antisymm (List.not_lt.mp h2) h1
          show absurd (by cases x; cases y; cases Array.toList_inj.mp this; rfl) ne
      . subst hk
        show ih.t2 (by simp at hs; lia) ‹_› λz=>ne (by rw[z])
    . cases x <;> cases y <;> unfold ltDs at h ⊢ <;> first
        | (cases h; done)
        | rfl
        | show absurd rfl ne
        | skip
      simp at hs
      split at h
      . revert e
        rw[X7 e.s];show ih.t2 .q h λz=>ne (by rw[e,z])
      . revert e
        rw[Xb λz=>e z.s];show ih.t1 .q h e
    . generalize hk : true = k at h1
      cases ltv h1 <;> generalize hl : true = l at h2 <;> cases ltv h2 <;> ext ltD
      . rw[X8 (by let:= Yf hk.s; let:= Yf hl.s; lia),<-hk]
      . rw[X8 (List.lt_trans (Yf hk.s) (Yf hl.s)),<-hk]
      . subst hk hl
        show ih.r2 (by simp at hs; lia) ‹_› ‹_›
    . cases x <;> cases y <;> (try (unfold ltDs at h1; cases h1; done)) <;> cases z <;> unfold ltDs at h1 h2 ⊢ <;> first
        | (cases h2; done)
        | rfl
        | skip
      revert a x b y c z;simp at hs
      by_cases e1 : a = b
      . subst e1
        rw[X7 rfl]at h1
        split at h2
        . rw[X7 ‹_›]
          show ih.r2 .q h1 h2
        . rwa [Xb ‹_›]
      . rw[Xb e1]at h1
        by_cases e2 : b = c
        . rwa [<-e2,Xb e1]
        . rw[Xb e2]at h2
          rw[Xb λe=>by subst e; rw[ih.a1 .q h1]at h2; cases h2];show ih.r1 .q h1 h2
def _lN(h:ltD a b=@true):ltD b a=@false:=(ord _).a1 (Zz _) h
def _lO(h:ltD a b=@false)(ne:a≠b):ltD b a=@true:=(ord _).t1 (Zz _) h ne
def lt_trans(h1:ltD a b=@true)(h2:ltD b c=@true):ltD a c=@true:=(ord _).r1 (Zz _) h1 h2
def _lP a (h:ltD a a=@true):False:=by
 let:=_lN h
 symm
end Tl
namespace Tl
open PySem PySem.W PyProof.Rows Srt Q
abbrev Ls(a b:D):Prop:=ltD a b=@true
def Cmp(ds:List D):Prop:=∀a>ds,∀b>ds,∃k,ltD a b=@k
def _lQ(h:Cmp ds)(ha:a>ds)(hb:b>ds)(ne:a≠b):Ls a b\/Ls b a:=by
 let#[k,hk]:=h a ha b hb;cases k with|true=>show .O hk|false=>show .Z (_lO hk ne)
def _lR:∀{l:List α},(∀a>l,p a=true->q a=true)->(∃x>l,q x=true/\p x=false)->l.countP p<l.countP q
 | [],_,h=>by grind
 | a::l,hi,h=>by
  let mono:=List.countP_mono_left λb hb hp=>hi b (_ad _ hb) hp
  rw[List.countP_cons,List.countP_cons];let#[x,hx,q1,q2]:=h;let rfl\/hx:=aD hx
  .rw[X7 q1,Xb (by rw[q2];decide)];lia
  .let:=_lR (λb hb hp=>hi b (_ad _ hb) hp) #[x,hx,q1,q2]
   by_cases c:p a=true
   .rw[X7 c,X7 ((hi a X2) c)]
    symm
   .rw[Xb c]
    split<;>lia
def rk(ds:List D)(d:D):Int:=((ds.countP λe=>decide (Ls e d):Nat):Int)
def _lS(ha:a>ds)(h:Ls a b):rk ds a<rk ds b:=by
 ext rk;let:=_lR (q:=λe=>decide (Ls e b)) (λe _ he=>X8 (lt_trans (Yf he) h)) #[a,ha,X8 h,Xk (_lP a)]
 symm
def _lT(hc:Cmp ds)(ha:a>ds)(hb:b>ds):ltD a b=@(decide (rk ds a<rk ds b)):=by
 let#[k,hk]:=hc a ha b hb;rw[hk];cases k with
 | true=>rw[X8 (_lS ha hk)]
 | false=>
  rw[Xk]
  by_cases e:a=b
  .symm
  .let:=_lS hb (_lO hk e);lia
def _lU(hc:Cmp ds)(ha:a>ds)(hb:b>ds)(h:rk ds a=rk ds b):a=b:=by
 by_cases e:a=b
 .show e
 .let z\/z:=_lQ hc ha hb e
  .let:=_lS ha z;symm
  .let:=_lS hb z;symm
structure TT (h:Heap)(vs:List Value)(ds:List D):Prop where
 len:vs.B=ds.B
 at':∀(i:Nat) v d,vs[i]?=@v->ds[i]?=@d->∃b x r,v=.J b/\d=.X (.E x::r)/\jK h d v/\jX 6 d=true
def TT.tail(t:TT h (v::vs) (d::ds)):TT h vs ds:=#[by let:=t.len;simpa using this,λi v d e1 e2=>t.at' (i+1) v d (~~~e1) (~~~e2)]
def TT.kat:∀{vs ds},TT h vs ds->∃fs,KatTups h vs fs/\fs.B=vs.B/\∀v>fs,∃x t,v=Value.E x t
 |[],_,_=>#[[],.nil,rfl,nofun]
 |v::vs,d::ds,t=>by
  let#[b,x,r,rfl,rfl,hr,hk]:=t.at' 0 v d rfl rfl;let#[fs,g1,g2,g3]:=TT.kat t.tail;let#[a,us,e,#[ob,io,hc,nn,m6],hi]:=hr;cases e;let#[u,rr,rfl,hu,_]:=hi;let#[tk,rfl]:=hu;show#[.E x tk::fs,.ê io hc m6 rfl g1,by simp[g2],λv hv=>?_];let rfl\/hv:=aD hv
  .show#[_,_,rfl]
  .show g3 v hv
section
#where in
def _lV(h:Lx A s us px b)(hq:Q b s):∀{fin i},fin=decide (us.B<px.B)->KatLex prog w A true fin Q (us.zip px) (i+1) s:=by
 induction h<;>intro f i e
 .rw[e];show kat_nil hq
 .rw[e];show kat_nil (~~~hq)
 .rw[e];show kat_nil (~~~hq)
 .revert he _ ih;show kat_cons (he prog w _ _ (kat_yes (ih hq (by rw[e];simp))))
 .revert he hl;show kat_cons (he prog w _ _ (kat_no (kat_one _ _ (hl prog w _ _ hq))))
def _lW(hu:A.â+20<cLine)(t:TT s.G vs ds) hi hj (hb:ltD (ds[i]'(by rw[<-t.len];show hi)) (ds[j]'(by rw[<-t.len];show hj))=@b)(h:C b s):kas_ask prog w A (tuples' true) vs i j C s:=by
 let li:i<ds.B:=by rw[<-t.len];show hi
 let lj:j<ds.B:=by rw[<-t.len];show hj
 ext kas_ask;let ei:vs.p i Value.å=vs[i]:=by simp[hi]
 let ej:vs.p j Value.å=vs[j]:=by simp[hj]
 rw[ei,ej];let#[b1,x1,r1,e1,f1,c1,k1]:=t.at' i _ _ (X1 hi) (X1 li);let#[b2,x2,r2,e2,f2,c2,k2]:=t.at' j _ _ (X1 hj) (X1 lj);rw[f1,f2]at hb;rw[f1]at c1 k1;rw[f2]at c2 k2;rw[e1]at c1 ⊢;rw[e2]at c2 ⊢;let#[a1,us1,q1,#[o1,gi,hc1,n1,pz],i1]:=c1;let#[a2,us2,q2,#[o2,jh,oz,n2,iu],i2]:=c2;cases q1;cases q2;unfold jX at k1 k2;let#[u1,v1,rfl,p1,w1]:=i1;let#[u2,v2,rfl,p2,w2]:=i2;let kd1:=k1;let kd2:=k2;unfold keyDs at kd1 kd2;rw[Bool.æ]at kd1 kd2;let#[t1,rfl]:=p1;let#[t2,rfl]:=p2;unfold ltD ltDs at hb;show kat_lt gi pz jh iu (kat_cons (wpAny_eqBool_int ?_))
 by_cases e:x1=x2
 .subst e;rw[X7 rfl]at hb;rw[beq_self_eq_true];show kat_yes (_lV (_lM (n:=5) .q (λ_ _ _ _ _ a1 a2 a3 a4 a5=>lt_C 5 a1 a2 a3 a4 .q a5) r1 r2 v1 v2 b kd1.2 kd2.2 w1 w2 hb) h (by simp))
 .rw[Xb (λz=>e (by injection z))]at hb;cases _aa hb;rw[Yt e];show kat_no (oneLt_int h)
end
def _lX(a):∀r,(_lH a r).ä (a::r)
 |[]=>.ñ _
 |b::r=>by
  ext _lH
  split
  .show((_lX a r).ê b).I (.swap _ _ _)
  .show .ñ _
def Vk:∀r,(JX r).ä r
 |[]=>.ñ _|a::r=>(_lX a _).I ((Vk r).ê a)
#where in
def _lY:∀{r},r.þ Ls->a∉r->(∀b>r,∃k,ltD b a=@k)->(_lH a r).þ Ls
 | [],_,_,_=>List.pairwise_singleton _ _
 | b::r,hp,hn,hc=>by
  let#[h1,h2]:=List.pairwise_cons.mp hp;ext _lH
  split
  .revert hb;show List.pairwise_cons.y #[λc hcm=>?_,_lY h2 (λz=>hn (_ad _ z)) λc hcm=>hc c (_ad _ hcm)];let rfl\/hcm:=aD ((_lX a r).è.mp hcm)
   .show hb
   .show h1 c hcm
  .revert hb;let il:Ls a b:=by
    let#[k,hk]:=hc b X2;cases k with|true=>show absurd hk hb|false=>show _lO hk λz=>hn (z▸X2)
   show List.pairwise_cons.y #[λc hcm=>?_,hp];let rfl\/hcm:=aD hcm
   .show il
   .show lt_trans il (h1 c hcm)
def _lZ:∀{ds},Cmp ds->ds.U->(JX ds).þ Ls
 |[],_,_=>.nil
 |a::r,hc,hn=>by
  let#[h1,h2]:=List.ú.mp hn;ext JX;show _lY (_lZ (λx hx y hy=>hc x (_ad _ hx) y (_ad _ hy)) h2) (λz=>h1 ((Vk r).è.mp z)) λb hb=>hc b (_ad _ ((Vk r).è.mp hb)) a X2
def _l0(hc:Cmp ds)(hn:ds.U)(hp:p.ä ds)(h:p.þ Ls):p=JX ds:=
 List.ä.eq_of_pairwise (λa b _ _ h1 h2=>by
  let h2:ltD b a=@true:=h2;rw[_lN h1]at h2;cases h2) h (_lZ hc hn) (hp.I (Vk ds).s)
abbrev XY(s:Shared)(a:Addr)(vs:List Value):Shared:={s with heap:=((s.G.update a (Obj.mapSeq λ_=>(List.H []))).ï (seqObj "tuple" vs.H 0)).ï (seqObj "list" (List.H []) 0)}
section
def TT.keep(t:TT h vs ds)(et:∀b ob,h.get? b=@ob->ob.cls=.e "tuple"->h'.get? b=@ob):TT h' vs ds:=#[t.len,λi v d e1 e2=>by
 let#[b,x,r,g1,g2,g3,g4]:=t.at' i v d e1 e2;show#[b,x,r,g1,g2,_fx (λb ob _ _ e c _=>et b ob e c) g4 g3,g4]]
def _l1{key:Nat->Int}{G:List Nat->Prop}(ho:s.G.get? a=@(seqObj "list" vs.H n))(xl:vs.B<64)
  (hk:2<=vs.B->∀Q,Q κ (XY s a vs)->wpAny (model prog w) A (keyKind' vs.H) Q E (XY s a vs))
  (hask:∀i j (C),i<vs.B->j<vs.B->C (decide (key i<key j)) (XY s a vs)->kas_ask prog w A κ vs i j C (XY s a vs))
  (fin:∀p,p.ä (List.r vs.B)->(p.C key).þ (·<=·)->G p)
  (h:∀p,p.ä (List.r vs.B)->G p->P (.done (.ret .å)) {s with heap:=sortedHeap s.G a vs (p.C λi=>vs.p i .å).H}):
  wpAny (model prog w) A (Builtin.«list.sort» #[[.J a],[]]) P E s:=by
 rw[list_sort_plain];show X0 (listItems_at ho rfl (X0 (listUpdate_at ho rfl ?_ (by rw[Xe,Za];lia) (Y6 _))));obtain⟨e1,gi⟩:∃e1,(s.G.update a (Obj.mapSeq λ_=>(List.H []))).get? a=@(seqObj "list" (List.H []) e1):=#[_,get?_update_seq ho (λ_=>(List.H []))];show X0 (seqEpoch_at gi rfl (X0 (wpAny_newTuple (X0 (wpAny_newList (Y4 ?_) (Y6 _))) (by change vs.B<=_;rw[Za];lia))));let ho6:(((s.G.update a (Obj.mapSeq λ_=>(List.H []))).ï (seqObj "tuple" vs.H 0)).ï (seqObj "list" (List.H []) 0)).get? a=@(seqObj "list" (List.H []) e1):=X4 _ (X4 _ gi);right;let hsz:vs.H.M=vs.B:=by rfl
 by_cases h2:vs.H.M<2
 .rw[X7 h2,X7 h2];show X0 (X5 (X0 (X5 ?_)));right;let es:(arrOf (SortSt.mk' general' (vs.H.zip vs.H) (List.H []) 7 none)).C (·.2)=((List.r vs.B).C λi=>vs.p i .å).H:=by
   apply Array.toList_inj.mp;show Zk λi=>?_
   by_cases hi:i<vs.B
   .simp[hi]
   .simp[Nat.le_of_not_lt hi]
  rw[es];show X0 (seqEpoch_at ho6 rfl (X0 (listUpdate_at ho6 rfl ?_ (Y6 _) (by rw[Xe,X3,Xi,Za];lia))));dsimp[bne_self_eq_false,Bool.false_eq_true,if_false];show X5 (h _ (.ñ _) (fin _ (.ñ _) ?_));rw[hsz]at h2;let e\/e:=(show vs.B=0\/vs.B=1 by lia)<;>rw[e]<;>simp
 .rw[Xb h2,Xb h2];show X0 (hk .q _ ?_);let#[p,q1,q2,q3]:=_lc (key:=key) (n:=vs.B) .q;show X0 (wpAny_mono (kat_run (ks:=vs) (vs:=vs) (G:=λp' s'=>p'=p/\s'=(XY s a vs))
   (Q:=λf9 s'=>arrOf f9=p.C (kas_item (vs.H.zip vs.H))/\failedOf f9=none/\s'=(XY s a vs))
   rfl .q xl (λp' f9 s' a1 a2 a3 a4=>#[by rw[a2,a4.1],a3,a4.2]) (_ld (λi j C hi hj hC=>hask i j C hi hj hC) q1 #[rfl,rfl])) ?_ λ_ _ e=>e)
  rintro ⟨⟨⟩,f9⟩ s' ⟨har,hf,rfl⟩;rw[kat_snds rfl har];show X0 (seqEpoch_at ho6 rfl (X0 (listUpdate_at ho6 rfl ?_ (Y6 _) (by rw[Xe,X3,Xm,q2.sz,Za];lia))));rw[hf];dsimp[bne_self_eq_false,Bool.false_eq_true,if_false];show X5 (h p.R q2.pm (fin _ q2.pm ?_));rw[List.pairwise_map];show List.pairwise_iff_getElem.y λi j hi hj lr=>?_
  rw[Xm,q2.sz]at hi hj;let:=q3.le (J0 lr) hj;unfold Srt.K at this
  simpa [Array.p,q2.sz,hi,hj]using this
def _l2(hu:A.â+20<cLine)(ho:s.G.get? a=@(seqObj "list" vs.H n))(ht:TT s.G vs ds)(hc:Cmp ds)(dw:ds.U)(xl:vs.B<64)
  (h:∀p:List Nat,p.ä (List.r vs.B)->(p.C λi=>ds.p i .ç)=JX ds->P (.done (.ret .å)) {s with heap:=sortedHeap s.G a vs (p.C λi=>vs.p i .å).H}):
  wpAny (model prog w) A (Builtin.«list.sort» #[[.J a],[]]) P E s:=by
 let ht6:TT (((s.G.update a (Obj.mapSeq λ_=>(List.H []))).ï (seqObj "tuple" vs.H 0)).ï (seqObj "list" (List.H []) 0)) vs ds:=ht.keep λb ob hb dk=>X4 _ (X4 _ (by
  rw[Zd _ _ (λz=>by
   rw[<-z,ho]at hb;cases hb;show absurd (show Value.e "list"=Value.e "tuple" from dk) .q)]
  show hb))
 let kl:=ht.len.s;let gd:∀i (hi:i<vs.B),ds.p i .ç=ds[i]'⋯:=λi hi=>by simp[show i<ds.B by lia]
 let key:∀i j,i<vs.B->j<vs.B->rk ds (ds.p i .ç)=rk ds (ds.p j .ç)->i=j:=λi j hi hj e=>by
  rw[gd i hi,gd j hj]at e;let:=_lU hc (Xr _) (Xr _) e;show(List.getElem?_inj .q dw).mp (by rw[X1 .q,X1 .q,this])
 let fin:∀p:List Nat,p.ä (List.r vs.B)->(p.C λi=>rk ds (ds.p i .ç)).þ (·<=·)->(p.C λi=>ds.p i .ç)=JX ds:=λp hp hpw=>by
  let pp:(p.C λi=>ds.p i .ç).ä ds:=by
   show(hp.C _).I (.of_eq ?_);rw[<-kl];show Tb.rng_getD ds .ç
  show _l0 hc dw pp ?_;rw[List.pairwise_map]at hpw ⊢;show List.þ.imp_of_mem (fun {i j} hi hj le=>?_) (hpw.and (hp.nodup_iff.y List.nodup_range));let hi:=List.á.mp (hp.è.mp hi);let hj:=List.á.mp (hp.è.mp hj);let:=_lT hc (a:=ds.p i .ç) (b:=ds.p j .ç) (gd i hi▸Xr _) (gd j hj▸Xr _);let ne:=λe=>le.2 (key i j hi hj e)
  rw[X8 .q]at this;show this
 show _l1 (κ:=tuples' true) (key:=λi=>rk ds (ds.p i .ç)) ho xl (λh2 Q hq=>?_) (λi j C hi hj hC=>_lW hu ht6 hi hj (by
    let:=_lT hc (a:=ds.p i .ç) (b:=ds.p j .ç) (gd i hi▸Xr _) (gd j hj▸Xr _);rw[<-gd i hi,<-gd j hj];show this) hC) fin h
 let#[fs,g1,g2,g3]:=ht6.kat;show kat_kind (T:=.e "int") g1 .q (λv hv=>?_) rfl ?_
 .let#[x,t,rfl]:=g3 v hv;show .now
 let eb:(Value.e "int" != Value.e "tuple")=true:=by rfl
 show hq
end
end Tl
namespace Tl
open PySem PySem.W PyProof.Rows Srt Q Tw Tb Sw
def trP(prog:Program)(w:PySem.World)(Pd:D->Addr->Prop):HeapKind prog w Kd where
 is:=λh k a=>jK h k.1 (.J a)/\Pd k.1 a
 hash:=λk=>J5 w k.1
 draws:=λk=>WK k.1
 room:=λA=>A.â+40<cLine
 inj:=λhx hy=>(KW prog w).inj hx.1 hy.1
 keeps:=λx ho hd hs=>#[(KW prog w).keeps x.1 ho hd hs,x.2]
 pyHash:=λhu hk h=>(KW prog w).pyHash hu hk.1 h
 eqBool:=λhu hx hy h=>(KW prog w).eqBool hu hx.1 hy.1 h
 quiet:=λhk h=>(KW prog w).quiet hk.1 h
section
def _l3(n m)(hm:n<=m)(hk:jX n d=true)(hr:jK s.G d u)(h:Q false s):wpAny (model prog w) A (ofAClassStatement m u) Q E s:=by
 show _fr (P:=λn u=>∀m Q,n<=m->Q false s->wpAny _ A (ofAClassStatement m u) Q E s) ?_ (λn a us ht hi m Q hm h=>?_) n hk hr m Q hm h
 .rintro n u (rfl|⟨i,t,rfl⟩|⟨i,t,rfl⟩) m Q _ h<;>(ext ofAClassStatement;show X5 h)
 let ty:=ht.typeIs;let#[ob,io,dk,nn,m6]:=ht;cases m
 .symm
 ext ofAClassStatement;show X0 (wpAny_typeOf ty ?_);right;show X0 (X5 (X0 (Zy io m6 (X0 ?_))));rw[<-Array.forIn_toList];show Zw _ (λaf r s'=>r.1=none/\s'=s/\∀u>af,u>us) _ ?_ ?_ _ _ #[rfl,rfl,λ_ h=>h]
 .rintro v af r s' ⟨hr,rfl,hu⟩;show X0 (hi v (hu v X2) _ _ (by symm) (X5 #[rfl,rfl,λu h=>hu u (_ad _ h)]))
 .rintro ⟨r1,r2⟩ s' ⟨hz,rfl,_⟩;cases hz;show X5 h
def _l4(n m)(hm:n<=m)(hk:jX n d=true)(hr:jK s.G d u)(h:∀b,Q b s):wpAny (model prog w) A (hashByValue m u) Q E s:=by
 show _fr (P:=λn u=>∀m Q,n<=m->(∀b,Q b s)->wpAny _ A (hashByValue m u) Q E s) ?_ (λn a us ht hi m Q hm h=>?_) n hk hr m Q hm h
 .rintro n u (rfl|⟨i,t,rfl⟩|⟨i,t,rfl⟩) m Q _ h<;>(ext hashByValue;show X5 (h _))
 let ty:=ht.typeIs;let#[ob,io,dk,nn,m6]:=ht;cases m
 .symm
 show X0 (Zl ty F.slot_tuple_hash.Y (X0 (Zy io m6 (X0 ?_))));rw[<-Array.forIn_toList];show Zw _ (λaf r s'=>s'=s/\∀u>af,u>us) _ ?_ ?_ _ _ #[rfl,λ_ h=>h]
 .rintro v af r s' ⟨rfl,hu⟩;show X0 (hi v (hu v X2) _ _ (by symm) λb=>?_);cases b
  .show X5 (X5 (h _))
  .show X5 #[rfl,λu h=>hu u (_ad _ h)]
 .rintro ⟨r1,r2⟩ s' ⟨rfl,_⟩;cases r1<;>show X5 (h _)
def kindX:KX (trP prog w Pd):=#[fun {_ _ k _} hk et=>#[_fx (λb ob _ _ e c _=>et b ob e c) k.2 hk.1,hk.2],fun {_ _ _ k _ _} hk h=>_l3 6 8 (by simp) k.2 hk.1 h]
def _l5:ByV (trP prog w Pd):=fun {_ _ _ k _ _} hk h=>_l4 6 8 (by simp) k.2 hk.1 h
def _l6{ks:List (Kd×Addr)}(hk:∀p>ks,jK h p.1.1 (.J p.2))(hf:∀p>ks,Wq p.1.1=true):TT h (ks.C λp=>Value.J p.2) (ks.C λp=>p.1.1):=#[by simp,λi v d e1 e2=>by
 rw[Xf]at e1 e2;cases hp:ks[i]? with
 | none=>rw[hp]at e1;cases e1
 | some p=>
  rw[hp]at e1 e2;cases _aa e1;cases _aa e2;let hm:=Y5 hp;let f:=hf p hm;let c:=hk p hm;let k:=p.1.2;let g:∀d,Wq d=true->jK h d (.J p.2)->jX 6 d=true->∃b x r,Value.J p.2=.J b/\d=.X (.E x::r)/\jK h d _/\jX 6 d=true:=λd f c k=>by
   match d,f with
   |.X (.E x::r),_=>show#[_,x,r,rfl,rfl,c,k]
  show g _ f c k]
def _l7(hu:A.â+60<cLine)(hh:A.ó=none)(hS:HasT (trP prog w Pd) s.G a ls)(hc:Cmp (ls.C (·.1)))(hf:∀k>ls,Wq k.1=true)(hl:ls.B<=59)
  (h:∀h' (d) (tk l e) (as),(∀b o,s.G.get? b=@o->h'.get? b=@o)->↥s<=l->h'.get? l=@(seqObj "list" (as.C Value.J).H e)->F2 (λa d=>Pd d a) as (JX (ls.C (·.1)))->Q (.J l) {s with heap:=h',drawn:=d,toks:=tk}):
  wpAny (model prog w) A (call (.à "sorted") [.J a]) Q E s:=by
 let#[o,es,ep,t,ks,ho,ok,hp]:=hS;let hsz:=ok.sz;let tq:ks.B=ls.B:=by rw[<-hp.length_eq,X3]
 show Calls.call_function_entry kind_sorted plain_sorted entry_sorted (args_sorted1 _) ?_;show X0 (m:=checkCount "sorted" 1 1 _) (X5 ?_);show X0 (_kL (~~~hh) ho #[ok.ex.1,ok.d,ok.f,ok.led,λ_=>ok.tb.pw,by rw[hsz,tq,Za];lia] λh1 d tk vs ca hsz1 hv=>?_);let hv:vs.ä (ks.C λp=>Value.J p.2):=by
  rw[ok.el,Xg]at hv;show hv
 let#[cf,p1,rfl]:=_lB hv;let ai:(cf.C λp=>Value.J p.2).B=ls.B:=by rw[X3,p1.length_eq,tq]
 show X0 (wpAny_newList ?_ (hsz:=by rw[ai,Za];lia));let ny:(h1.ï (seqObj "list" (cf.C λp=>Value.J p.2).H 0)).get? h1.objs.M=@(seqObj "list" (cf.C λp=>Value.J p.2).H 0):=Xd _ rfl;let gf:(cf.C λp=>p.1.1).ä (ls.C (·.1)):=by
  let:=((p1.C (·.1)).I hp).C (·.1);rw[Xg]at this;show this
 let hmem:=λp hpp=>hp.è.mp (List.mem_map.y #[p,p1.è.mp hpp,rfl])
 let hcm:=λx hx y hy=>hc x (gf.è.mp hx) y (gf.è.mp hy)
 let vi:(ls.C (·.1)).U:=by
  let n1:=hp.nodup_iff.mp ok.nd;show List.pairwise_map.y (n1.imp λbc z=>bc (Subtype.ext z))
 let dw:=gf.nodup_iff.y vi;let his:=λp hpp=>ok.is p (p1.è.mp hpp)
 let up:∀b ob,s.G.get? b=@ob->(h1.ï (seqObj "list" (cf.C λp=>Value.J p.2).H 0)).get? b=@ob:=λb ob e=>X4 _ (ca b ob e)
 let ht:=_l6 (λp hpp=>_fx (λb ob _ _ e _ _=>up b ob e) p.1.2 (his p hpp).1) λp hpp=>hf _ (hmem p hpp)
 show X0 (Y4 (Y8 slot_list_sort #[_,ny,rfl] entry_list_sort (_l2 .q ny ht hcm dw (by rw[ai];lia) λp ml hps=>#[_,rfl,?_]) (args_list_sort _)));let#[e,he]:=sortedHeap_at (out:=(p.C λi=>(cf.C λp=>Value.J p.2).p i .å).H) ny;let hrg:∀i>p,i<cf.B:=λi hi=>by
  let:=List.á.mp (ml.è.mp hi);rw[X3]at this;show this
 let ev:(p.C λi=>(cf.C λp=>Value.J p.2).p i .å)=(p.C λi=>(cf.C (·.2)).p i 0).C Value.J:=by
  rw[Xg];show Xw λi hi=>?_
  let:=hrg i hi;simp[this]
 rw[ev]at he;show X5 #[_,rfl,h _ d tk _ e (p.C λi=>(cf.C (·.2)).p i 0) (λb o q=>?_) (J0 hsz1) (by rw[ev];show he) ?_]
 .let hb:=Xh (ca b o q);rw[sortedHeap_old (Xq hb) (by rw[size_push'];show Ze hb)];show X4 _ (ca b o q)
 .let e2:JX (ls.C (·.1))=p.C λi=>(cf.C λp=>p.1.1).p i .ç:=by
   rw[hps];show(_l0 hc vi ((Vk _).I gf) (_lZ hcm dw)).s
  rw[e2];show _le λi hi=>?_
  let hi:=hrg i hi;let:=(his cf[i] (Xr hi)).2
  simpa [hi]using this
end
end Tl
namespace Q
open PySem PySem.Spec PyProof.Rows L2 L3 Sw Tw Tl
def _l8(h:okT ds=true):(∀d>ds,jX 6 d=true/\Wq d=true)/\Cmp ds:=by
 unfold okT at h;rw[Bool.æ,Yb,Yb]at h;show#[λd hd=>by let:=h.1 d hd;rw[Bool.æ]at this;show this,λa ha b hb=>?_];let:=h.2 a ha;rw[Yb]at this;show Option.isSome_iff_exists.mp (this b hb)
def _l9:∀{ds},(∀d>ds,jX 6 d=true)->∃ss:List Kd,ss.C (·.1)=ds
 |[],_=>#[[],rfl]
 |d::ds,h=>by
  let#[ss,e]:=_l9 λd hd=>h d (_ad _ hd)
  show#[#[d,h d X2]::ss,congrArg _ e]
def _ma:∀(ss ls:List Kd),(ss.foldl Tw.stepK ls).C (·.1)=(ss.C (·.1)).foldl Qj (ls.C (·.1))
 | [],_=>rfl
 | k::ss,ls=>by
  rw[Yz,List.l,Yz,_ma ss];ext Tw.stepK Qj;let:k>ls↔k.1>ls.C _:=#[λh=>List.mem_map.y #[k,h,rfl],λh=>by
   let#[k',h1,h2]:=aE h;rw[<-Subtype.ext h2];show h1]
  by_cases c:k>ls
  .rw[X7 c,X7 (this.mp c)]
  .rw[Xb c,Xb λz=>c (this.y z)];simp
def _mb(ss:List Kd):(ddK ss).C (·.1)=ddT (ss.C (·.1)):=_ma ss []
def _mc:∀(ds ls:List D) {d},d>ds.foldl Qj ls->d>ls\/d>ds
 | [],ls,d,h=>.O h
 | a::ds,ls,d,h=>by
  let h\/h:=_mc ds _ h
  .unfold Qj at h
   split at h
   .show .O h
   .grind
  .show .Z (_ad _ h)
section
variable {K:Frag}
def _md:∀{as ds},F2 (λa d=>PuR K H d (V.J a)) as ds->RepA K H true ds (as.C V.J) []
 |_,_,.nil=>#[rfl,rfl]
 |_,_,.ê h r=>by
  ext RepA;show#[_,_,[],[],rfl,rfl,_ik h,_md r]
def _me(I:L2.Inv X a9 σ H s):∀{ds zs us bs},RepA X.K H true ds zs bs->Vals zs us->(∀d>ds,jX 6 d=true/\Wq d=true) ->
  us.B=ds.B/\∀(i:Nat) u,us[i]?=@u->∃b d,u=.J b/\ds[i]?=@d/\jK s.G d (.J b)/\PuR X.K H d (V.J b)
 | [],_,_,_,r,v,_=>by
  let#[rfl,_]:=r;cases v;show#[rfl,λi u h=>by simp at h]
 | d :: ds,_,_,_,r,v,hk=>by
  let#[z,r',b1,b2,rfl,_,r1,r2]:=r;cases v with
  | cons h1 h2=>
   let#[g1,g2]:=_me I r2 h2 λd hd=>hk d (_ad _ hd)
   let#[k1,k2]:=hk d X2;let pu:=_h0 k1 r1;show#[by simp[g1],λi u' hu=>?_];cases i with
   | zero=>
    cases _aa hu;let cr:=V3 I pu h1
    match d,k2 with
    |.X _,_=>
     let pu':=pu;let#[a,xs,rfl,_,_]:=pu';cases h1;show#[a,_,rfl,rfl,cr,pu]
   |succ i=>show g2 i u' (~~~hu)
def _mf(K:Frag):List V->Hp->VK->Prop:=λxs H Q=>∃(p:Addr) (zs:List V) (ds:List D) (bs:List Addr),xs=[.J p]/\SqL K H p zs/\RepA K H true ds zs bs/\(ddT ds).B<=59/\okT ds=true/\∀l zs',H l=none->RepA K H true (JX (ddT ds)) zs' []->Q (.J l) (upd H l (.L zs'))
def _mg(hc:X.calm=true)(hu:X.A.â+64<cLine)(hg:Gl X "sorted")(hm:X.mg "sorted"=none)(js:Gl X "set")(ot:X.mg "set"=none)(ha:PE X e t)(he:Abs e [] X<|>Ŕ):
  PE X (.û (.é "sorted" p) [.û (.é "set" p2) [e] [] pos2] [] pos) (fun σ H Q=>t σ H λv H1=>_mf X.K [v] H1 Q):=by
 intro a9 s σ H Q I h;show Yy (xQ I hg hm (u:=.à "sorted") (by decide +kernel) (PyProof.Rows.callWith_builtin1 ?_ rfl rfl) .q (by rfl));change wpAny _ _ (spliced ((false,eval (.û (.é "set" p2) [e] [] pos2) X.V)::[])) _ _ s;show Calls.spliced_cons (Yy (xQ I js ot (u:=.e "set") (by decide +kernel) (Y1 (thn (qX ha vx he pos2 a9 s σ H (λvs H1=>_mf X.K vs H1 Q) I ?_) λus s1 hz=>?_) he rfl) .q (by rfl)))
 .show h
 let#[vs,H1,I1,r1,q1]:=hz;let#[b,zs,ds,bs,rfl,hq,rA,hl,hok,q]:=q1;let#[u,rfl,rx]:=wZ r1;cases rx;let#[ac,r',pl,hz]:=I1.list hq;let#[kf,cm]:=_l8 hok;let#[ln,at']:=_me I1 rA r' kf;let#[ss,ph]:=_l9 λd hd=>(kf d hd).1
 let qy:ss.B=ds.B:=by rw[<-ph,X3]
 let u1:=L3.in1_units X.A;let u2:=L3.in1_units X.A.in1;let u3:=L3.in1_units X.A.in1.in1;let bg:(ddK ss).C (·.1)=ddT ds:=by rw[_mb,ph]
 let ai:(ddK ss).B<=59:=by rw[<-X3 (f:=(·.1)),bg];show hl
 show _lG (knd:=trP X.î X.w λd a=>PuR X.K H1 d (V.J a)) kindX _l5 (show X.A.in1.in1.in1.â+40<cLine by lia) (I1.ok.hd hc) pl.isList (ss:=ss) (by rw[Xe,ln,qy]) (λi v hv=>?_) ai λh' tk hS ca=>?_
 .let#[b',d,e1,e2,e3,e4]:=at' i v (~~~hv);let hi:i<ss.B:=by rw[qy];show(aF e2).1
  show#[b',ss[i],e1,X1 hi,?_];let ed:(ss[i]).1=d:=by
   let:(ss.C (·.1))[i]?=@(ss[i]).1:=by rw[Xf,X1 hi];rfl
   rw[ph,e2]at this;show(_aa this).s
  change jK s1.G (ss[i]).1 (.J b')/\PuR X.K H1 (ss[i]).1 (V.J b');rw[ed];show#[e3,e4]
 .let sub:∀d>ddT ds,d>ds:=λd hd=>(_mc ds [] hd).ë (nofun) id
  show Calls.spliced_nil (_l7 .q (I1.ok.hd hc) hS (by rw[bg];show λx hx y hy=>cm x (sub x hx) y (sub y hy)) (λk hk=>(kf k.1 (sub k.1 (bg▸List.mem_map.y #[k,hk,rfl]))).2) ai λh2 d tk2 l e2 as old2 lu uu hF=>?_);rw[bg]at hF;let I2:L2.Inv X a9 σ H1 {s1 with heap:=h',toks:=tk}:=I1.kept λb u q=>ca b u (Xh q) q
  let nr:as.B<=sizeLine:=by
   let e3:=_lf hF;rw[(Vk _).length_eq,<-bg,X3]at e3;rw[Za];lia
  show#[.J l,_,Inv.dr (I2.laid (t':=tk2) (o:=.L (as.C V.J)) old2 lu (#[by rw[X3];show nr,as.C Value.J,e2,_lg as,uu])),rfl,q l (as.C V.J) (I2.hok.fresh lu) (_md (K:=X.K) (H:=H1) hF)]
#where in
def _mh:Ad1 K (λv H Q=>_mf K [v] H Q) ZJ:=by
 intro H x s Q ok hf k;unfold ZJ at hf;dsimp only at hf;cases hx:x.d with
 | lst ds=>
  rw[hx]at hf;dsimp only at hf
  split at hf
  .revert pq;cases _aa hf;let#[l,xs,bs,ev,q3,r3,_]:=items ok (.O hx);let q3:LsR K H l xs:=by let#[_,z]\/#[z,_]:=q3;show z;rw[hx]at z;cases z
   let r4:RepA K H true ds xs bs:=by
    cases ho:(x.o != .dp)with|true=>rw[ho]at r3;show r3|false=>rw[ho]at r3;show r3.wk
   show#[l,xs,ds,bs,by rw[ev],Kq q3,r4,pq.1,pq.2,λp zs' hp rp=>k _ _ rfl rfl (Vw hp rp nofun)]
  .cases hf
 |_=>rw[hx]at hf;cases hf
end
section
variable {K:Frag}
def _mi(hK:X.K=Z.K)(hc:X.calm=true)(hu:X.A.â+64<cLine)(ha:QV X Z q a ea)(hm:X.mg "sorted"=none)(ot:X.mg "set"=none)(hg:Gl X "sorted"<|>Ŕ)(js:Gl X "set"<|>Ŕ)(he:Abs ea [] X<|>Ŕ):
  QE X Z q (cF1 ZJ a) (.û (.é "sorted" p) [.û (.é "set" p2) [ea] [] pos2] [] pos):=
 qv (_mg hc hu hg hm js ot ha (he:=he)) fun σ H Q h=>by
  let:=_ef _mh h
  rwa [hK]
end
end Q
namespace Tw
open PySem PyProof.Rows Tb Sw
section
variable {St:Nat->Shared->Prop}{K:Type}[DecidableEq K]{knd:HeapKind prog w K}
def _mj(X:KX knd){h h':Heap}(x:h.DictOfH knd a xs)(e:∀o,h.get? a=@o->h'.get? a=@o)(et:∀b ob,h.get? b=@ob->ob.cls=.e "tuple"->h'.get? b=@ob):h'.DictOfH knd a xs:=by
 let#[o,es,ep,ho,h1,h2,h3,h4,h5]:=x;show#[o,es,ep,e _ ho,h1,h2,h3,λp hp=>X.keep (h4 p hp) et,h5]
def _mk{more:List _}(dw:(more.C (·.1)).U){p:K×Addr×Value}(h:more[i]?=@p):atKey (more.take i) p.1=none:=by
 show atKey_none_of_get λj q hj=>?_
 let hl:=(aF hj).1;rw[Z1]at hl;rw[List.getElem?_take,X7 (by symm)]at hj;let:=idxH_unique dw hj (by rw[h]);lia
def _ml(X:KX knd)(hr:knd.room A.in1)(W:WalksS prog w A.in1 I fp wr G n P St)(S:Addr)(nq:S∉fp)(xb:∀i s,St i s->∀b>wr,∀ob,s.G.get? b=@ob->ob.cls≠.e "tuple")(hn:more.B=n)(dw:(more.C (·.1)).U)(hz:n<=sizeLine):
  ∀ (k i:Nat) (c:Tok) (s:Shared),n - i=k->i<=n->St i s->s.G.DictOfH knd S (more.take i) ->
   (∀i v,P i v->∃T u x k,v=.J T/\s.G.IsTuple T %[.J u,x|0]/\more[i]?=@(k,u,x)/\knd.is s.G k u) ->
   (∀s',Moved (S::wr) G s s'->s'.G.DictOfH knd S more->R (.ok (.ret .å)) s') ->
   codeAny (model prog w) A (.à "dict.update.loop" #[[.J S,.J I,.E i c,.å],[]]) R s:=by
 let wc:S∉wr:=λh=>nq (W.sub _ h)
 let dz:∀b>wr,b>S::wr:=λb hb=>_ad _ hb
 intro k
 induction k with
 | zero=>
  intro i c s hk hi b7 hS f7 hR;let gw:i=n:=.q
  subst gw;show Ys F._Ed ?_;rw[Zj F._Pd _];change wpAny _ A.in1 (pyNext (.J I) >>= _) _ _ s;show X0 (W.done s _ _ b7 λs' hm=>?_);change wpAny _ A.in1 (Builtin.Dict.addKeywords S [] >>= _) _ _ s';show X0 (X5 (X5 (hR s' (hm.mono dz) ?_)));rw[<-hn,List.take_length]at hS;show _mj X hS (λo e=>hm.G S _ wc e) λb ob hb ht=>hm.G b ob (λz=>xb _ _ b7 b z ob hb ht) hb
 | succ k ih=>
  intro i c s hk hi b7 hS f7 hR;let b9:i<n:=.q
  show Ys F._Ed ?_;rw[Zj F._Pd _];change wpAny _ A.in1 (pyNext (.J I) >>= _) _ _ s;show X0 (W.item i s _ _ b9 b7 λv s' hP mz hm=>?_);let tm:∀b ob,s.G.get? b=@ob->ob.cls=.e "tuple"->s'.G.get? b=@ob:=λb ob hb ht=>hm.G b ob (λz=>xb _ _ b7 b z ob hb ht) hb
  let tup:∀{h h':Heap} {T:Addr} {xs:Array Value},(∀b ob,h.get? b=@ob->ob.cls=.e "tuple"->h'.get? b=@ob)->h.IsTuple T xs->h'.IsTuple T xs:=λet #[o,ho,hc,af]=>#[o,et _ _ ho hc,hc,af]
  let#[T,u,x,kk,rfl,hT,hmo,iw]:=f7 i v hP;let ie:s'.G.DictOfH knd S (more.take i):=_mj X hS (λo e=>hm.G S _ wc e) tm;let rn:s'.G.IsTuple T %[.J u,x|0]:=tup tm hT;let vu:knd.is s'.G kk u:=X.keep iw tm;let gz:(more.take i).B<=sizeLine:=by rw[Z1];lia
  let#[oS,esS,epS,hoS,hcS,hdS,_]:=id ie;change wpAny _ A.in1 (holding [Value.J T] _ >>= _) _ _ s';show X0 (Y4 (X0 (wpAny_tryCatch (_iY rn ?_))));change wpAny _ A.in1 (holding [Value.J u,x] (dictSet S (.J u) x)) _ _ s';show Y4 (wpAny_dictSet_heap (hsz:=gz) hr vu ie λh' vf im=>?_);let iu:h'.DictOfH knd S (more.take (i+1)):=by
   rw[storedH_new (_mk dw hmo)]at vf;rw[List.take_succ,hmo];show vf
  let tm2:∀b ob,s'.G.get? b=@ob->ob.cls=.e "tuple"->h'.get? b=@ob:=λb ob hb ht=>by
   let uh:b≠S:=λz=>by
    subst z;rw[hoS]at hb;cases hb;rw[hcS.1]at ht;show absurd ht .q
   rw[im.2 b uh];show hb
  show X5 #[Zo F._Pd _,?_];change codeAny _ _ (.à "dict.update.loop" #[[.J S,.J I,.E ((i+1:Nat):Int) 0,.å],[]]) R _;show ih (i+1) 0 _ (by grind) b9 (W.frame _ s' _ _ mz (Nat.le_add_right _ _) λb hb o e=>?_) iu (λj v hv=>?_) λlx mq my=>?_
  .rw[im.2 b (λh:b=S=>nq (by rw[<-h];show hb))];show e
  .let#[T,u,x,k,e1,e2,e3,e4]:=f7 j v hv;show#[T,u,x,k,e1,tup tm2 (tup tm e2),e3,X.keep (X.keep e4 tm) tm2]
  .show hR lx (Moved.I W.gtrans ((hm.mono dz).then_heap (Nat.le_add_right _ _) λb o hb e=>?_) mq) my;rw[im.2 b (λh:b=S=>hb (by rw[h];show X2))];show e
def call_dict_listH(X:KX knd)(hr:knd.room A.in1.in1)
  (hh:A.ó=none) (ho:s.G.get? l=@o) (hc:o.cls=.e "list") (fk:o.data=.seq items m) (hd:o.dict=none) (hn:more.B=items.M) (dw:(more.C (·.1)).U) (hz:items.M<=sizeLine)
  (f7:∀(i:Nat) (v:Value),items[i]?=@v->∃T u x k,v=.J T/\s.G.IsTuple T %[.J u,x|0]/\more[i]?=@(k,u,x)/\knd.is s.G k u)
  (h:∀(h':Heap) (tk:Nat),h'.DictOfH knd ↥s more->(∀b o,b<↥s->s.G.get? b=@o->h'.get? b=@o)->Q (.J ↥s) {s with heap:=h',toks:=tk}):
  wpAny (model prog w) A (call (.e "dict") [.J l]) Q E s:=by
 show callType_codes (Q₁:=λobj s₁=>obj=Value.J ↥s/\s₁={s with heap:=s.G.ï {cls:=Value.e "dict",data:=Data.dict (List.H [])}}) F.kt_called_dict (F.kt_typeCall_dict_1 _) F.entry_dict_init (kt_code_dict_new _ #[rfl,rfl]) ?_;rintro obj s₁ ⟨rfl,rfl⟩;let fe:(s.G.ï {cls:=.e "dict",data:=.dict (List.H [])}).DictOfH knd ↥s []:=Heap.DictOfH.new s.G;let ju:(s.G.ï {cls:=.e "dict",data:=.dict (List.H [])}).get? l=@o:=X4 _ ho;let hT:Shared.TypeIs {s with heap:=s.G.ï {cls:=.e "dict",data:=.dict (List.H [])}} (.J l) "list":=#[_,ju,hc];let pe:=Xh ho;show#[fe.typeIs,F.args_dict_init_2 _ _,?_];show X0 ?_;ext Builtin.Dict.selfAndRest;show X0 (wpAny_notOrdered_dict fe.typeIs ?_);show X5 ?_;change wpAny _ _ (Builtin.Dict.updateFrom "dict.__init__" ↥s (.J l) [] .å) _ _ _;show X0 (wpAny_typeOf hT ?_);rw[X7 (by rfl)];show X0 (_iX ju hc fk hd (by simp[hh]) λh' tk hk=>?_);let qe:∀b q,s.G.get? b=@q->h'.get? b=@q:=λb q e=>hk b q (X4 _ e)
 let kr:h'.IsList l items:=#[o,qe _ _ ho,hc,m,fk];let xt:h'.DictOfH knd ↥s []:=by
  let#[q,es,ep,hq,h1,h2,h3,_,h5]:=fe;show#[q,es,ep,hk _ _ hq,h1,h2,h3,(nofun),h5]
 let ix:↥s<h'.objs.M:=by
  let#[q,es,ep,hq,af]:=xt;show Xh hq
 show X0 (Zq (X0 (Zc kr ?_)));show X5 #[Zo F._Pd _,?_];let hneI:l≠h'.objs.M:=Xq (J3 pe ix);show _ml (A:=A.in1) X hr ((Walks.list (A:=A.in1.in1) (by simp[hh]) h'.objs.M l hneI items).toS) ↥s ?_ (λi s b7 b hb ob io=>?_) hn dw hz (items.M - 0) 0 0 _ (by simp) (Y6 _)
  #[#[_,Xd _ rfl,rfl,rfl],kr.ï _] ?_ (λi v hv=>?_) λs' hm ie=>?_
 .simp;show#[Xq ix,J1 pe]
 .rw[aC hb]at io;let#[#[o',ju,ji,_],_]:=b7
  grind
 .show _mj X xt (λo e=>X4 _ e) λb ob hb _=>X4 _ hb
 .let#[T,u,x,k,e1,e2,e3,e4]:=f7 i v hv;let#[q,hq,oz,af]:=e2;show#[T,u,x,k,e1,#[q,X4 _ (qe _ _ hq),oz,af],e3,X.keep e4 λb ob hb _=>X4 _ (qe b ob hb)]
 .let#[h2,g',d',pc,se]:=s';let eg:g'=s.gens:=hm.gens;let ed:d'=s.drawn:=hm.drawn;let eo:se=s.os:=hm.os;subst eg;subst ed;subst eo;show#[rfl,h h2 pc ie λb q hb e=>?_];show hm.G b q ?_ (X4 _ (qe b q e));simp;show#[Xq hb,Xq (J3 hb ix)]
end
end Tw
namespace Q
open PySem PySem.Spec PyProof.Rows L2 L3
section
variable {K:Frag}
def World.later(w:World K H L)(sm:kj H H2):World K H2 L:=#[λy hy=>RepO.kp (w.ok y hy) (Kp.of_same sm),w.nd,w.ds]
end
def RepA.front{K}:∀{ds xs as},RepA K H g ds xs as->∃bs,RepA K H g ds.dropLast xs.dropLast bs/\bs.Sublist as:=by
 intro ds
 induction ds with
 | nil=>intro xs as h;let#[rfl,rfl]:=h;show#[[],#[rfl,rfl],Zu _]
 | cons d ds ih=>
  intro xs as h;let#[x,r,bs,cs,rfl,rfl,h1,h2]:=h;cases ds with
  |nil=>
   let#[rfl,rfl]:=h2;show#[[],#[rfl,rfl],List.nil_sublist _]
  |cons e ds=>
   let#[es,g1,g2]:=ih h2;let#[y,r',_,_,rfl,_]:=h2;show#[bs++es,#[x,_,bs,es,rfl,rfl,h1,g1],List.Sublist.append (Zu _) g2]
def OkF(P:Program)(w:PySem.World)(K:Frag)(mg:Str->Option Value)(base:Heap)(k:Nat)(x:Str)(st:Stmt)(ps:List Str)(n:Nat)(m:Fn):Prop:=∀(f:Addr) (fd:FuncData),Fun K x x st f fd->FnOk P w K mg base (CXE P w) k f fd ps (spF K mg n m)
section
variable {K:Frag}{st:Stmt}
def okF(S:FnScope N ps (k6 st))(t:∀{f d8 A outer s H E},Room k (A.deeper (envOfC x (k6 st) ↥s f d8))->QSs (Cx.ex' (Jj (CXE P w) P w K mg base N x (k6 st) f d8 A outer s H E) E) #[K,mg,E] [] B (Jv st))(hp:ps.B=n<|>Ŕ)(hN:N.B=nn<|>Ŕ):OkF P w K mg base (k+1) x st ps n (fn nn B):=
 λ_ _ F=>_dv F S (_fK hp) λ_ _ _ _ _ _ _ _ hr h=>_fM hN (t hr) h
end
section
def xj:QE X Z true (cC (.bl v)) (.Constant (.bool v) j p):=q_C _au λ_=>_ek
def Q7:QE X Z true (k9 .rt []) (.List [] p):=wK j9
def kz(h:QE X Z q a ea):QSs X Z pn (kq a) [.Return @ea pos]:=qJ (_eI h)
def WZ(ha:QV X Z qa a ea)(hb:QV X Z true b eb):QE X Z qa (cF2 (pu2 Kv) a b) (.BinOp ea .FloorDiv eb pos):=QK _cI _es ha hb
def _mm(hr:Room m X.A)(ha:QV X Z qa a ea)(hb:QV X Z true b eb)(hK:X.K=Z.K<|>Ŕ):QT X Z qa (tE (cF2 (pu2 fEq) a b)) (.Compare ea [.Eq] [eb] pos):=xw (_fk hr.â hK) _fm ha hb (K5 _) _gU
def _mn(hr:Room m X.A)(ha:QV X Z qa a ea)(hb:QV X Z true b eb)(hK:X.K=Z.K<|>Ŕ):QT X Z qa (tE (cF2 (pu2 fNe) a b)) (.Compare ea [.NotEq] [eb] pos):=xw (_fl hr.â hK) _fn ha hb (K5 _) _gV
def Ww(hr:Room m X.A)(ha:QV X Z qa a ea)(hb:QV X Z true b eb)(hK:X.K=Z.K<|>Ŕ):QE X Z qa (cF2 (pu2 fEq) a b) (.Compare ea [.Eq] [eb] pos):=_eh (_fk hr.â hK) _fm ha hb (K5 _)
def _mo(ha:QV X Z qa a ea)(hb:QV X Z true b eb):QT X Z qa (tE (cF2 (f2First fIsNon) a b)) (.Compare ea [.Is] [eb] pos):=xw _be _gb ha hb (K5 _) _gZ
def tGtr(ha:QV X Z qa a ea)(hb:QV X Z true b eb):QT X Z qa (tE (cF2 (pu2 fGt) a b)) (.Compare ea [.Gt] [eb] pos):=xw _bb _eq ha hb (K5 _) _gT
def tLss(ha:QV X Z qa a ea)(hb:QV X Z true b eb):QT X Z qa (tE (cF2 (pu2 fLt) a b)) (.Compare ea [.Lt] [eb] pos):=xw _a9 _eq ha hb (K5 _) _gT
def _mp(ha:QV X Z qa a ea)(hb:QV X Z true b eb):QE X Z qa (cF2 (pu2 fLe) a b) (.Compare ea [.LtE] [eb] pos):=_eh _ba _eq ha hb (K5 _)
def xk(h:QT X Z q u ea)(t:QSs X Z pn A ss):QS X Z pn (sIf u A vY) (.If ea ss [] pos):=_eJ h t _eH
end
section
variable {K:Frag}{st:Stmt}
def okS(S:FnScope N ps (k6 st))(t:∀{f d8 A outer s H E},Room k (A.deeper (envOfC x (k6 st) ↥s f d8))->ShB (Cx.ex' (Jj (CXE P w) P w K mg base N x (k6 st) f d8 A outer s H E) E) #[K,mg,E] [] B (Jv st))(hp:ps.B=n<|>Ŕ)(hN:N.B=nn<|>Ŕ):OkF P w K mg base (k+1) x st ps n (fn nn B):=
 okF S (λhr=>_k1 (t hr)) hp hN
end
def _mq(h:QSs X Z pn A ss):ShB X Z pn A ss:=by ext ShB;show h
end Q
namespace Q
open PySem
def _mr(i:Nat):Ex:=λE=>match E[i]? with
 |some @(o,.L ds)=>if o=.x then none else(match ds.getLast? with
  |some d=>if d.pure=true then @(.ok (E.u i @(o,.L ds.dropLast)) (.dp,d))else none
  |none=>none)
 |_=>none
def xY:List (D×D)->D->D->List (D×D)
 |[],_,_=>[]|(q,d)::r,k,d'=>if q=k then(q,d')::r else(q,d)::xY r k d'
def sDA(i j:Nat)(c:Ex):Sm:=λE=>match E[i]?,E[j]? with
 |some @(.dp,.dct ab),some @(_,k)=>if kZ k=true/\unm ab=true then(match x3 ab k with
  |some (.L ds)=>if ds.B<big then ofE (c (E.u i none)) λE1 x=>if x.2.pure=true then @(.nx (E1.u i @(.dp,.dct (xY ab k (.L (ds++[x.2]))))))else none else none
  |_=>none)else none
 |_,_=>none
def prW:List D->Option (List (D×D))
 |[]=>⇑[]|.X [k,v]::r=>if kZ k=true then(prW r).C ((k,v):: ·)else none|_=>none
def _ms : Sd -> Option Sd:= λx=>match x with
  | (.dp,.L ds)=>(match prW ds with
    |some ab=>if ab.B<big /\ (ab.C (·.1)).U then @(.dp,.dct ab)else none
    |none=>none)
  |_=>none
def cDW(c:Ex):Ex:=λE=>bnd (c E) λE x=>match _ms x with
 |some s=>@(.ok E s)|none=>none
def _mt:D->D->Option D:=λy x=>match y with
 |.dct ab=>if kZ x=true/\unm ab=true then x3 ab x else none|_=>none
def _mu(a b:Ex):Ex:=λE=>bnd (a E) λE x=>bnd (b E) λE y=>val E (if x.1=.rt then none else(_mt x.2 y.2).C λd=>(sub x.1,d))
def K9 (i s:Nat) (c:Ex) (T:Ts) (d0:D):Nat->Nat->List D->En->Option Fl
 | 0,_,ds,E=>@(.nx (E.u i @(.dp,.L ds)))
 | n + 1,k,ds,E=>match ds[k]? with
  | some (.L es)=>if es.B<big then(match c (E.u s none)with
   | some (.ok E1 x)=>if x.2.pure=true then(match T (E1.u i @(.dp,.L (ds.u k (.L (es++[x.2])))))with
    | some (.ok E2 true)=>@(.rt E2 (.dp,d0))
    | some (.ok E2 false)=>(match E2[i]? with
     |some @(.dp,.L jm)=>(match jm[k]? with
      |some (.L _)=>K9 i s c T d0 n (k+1) (jm.u k (.L [])) (E2.u i none)
      |_=>none)
     |_=>none)
    |_=>none)else none
   |_=>none)else none
  |_=>none
def _mv(i s:Nat)(c:Ex)(T:Ts)(d0:D):Sm:=λE=>match E[i]? with
 |some @(.dp,.L ds)=>if s<E.B then K9 i s c T d0 ds.B 0 ds (E.u i none)else none|_=>none
noncomputable def xjo(i:Nat):Ev (List D):=λE=>match E[i]? with
 |some @(_,.dct ab)=>if ab.B<=big/\unm ab=true then @(.ok E (ab.C (·.1)))else none|_=>none
end Q
namespace Q
open PySem PySem.Spec PyProof.Rows L2 L3
section
#where in
def _mw(hP:PE X ex (vX i))(hK:X.K=Z.K<|>Ŕ)(hm:MtR X "list.pop" _b6)
  (aw:attributeBase ex "pop" X.V (eval ex X.V)=eval ex X.V<|>Ŕ) (av:Abe aq aj<|>Ŕ):QE X Z false (_mr i) (.û (.ù ex "pop" aq) [] [] aj):=
 qv (_dc Z.K Yw PySem.F.slot_list_pop PySem.F.type_list_pop hm hP aw av hK) fun σ H Q am=>ex8 am λE L r m w hc xc k=>by
 unfold _mr at hc
 split at hc
 rotate_left
 .cases hc
 revert o ds hE
 split at hc
 .cases hc
 revert ho
 split at hc
 rotate_left
 .cases hc
 revert d hd
 split at hc
 rotate_left
 .cases hc
 revert hp;cases _aa hc;let#[y,a1,a2,a3,a4]:=m.get hE;let#[l,xs,bs,c1,c2,c3,c4,c5]:=_gh (w.ok y (vQ a1)) a3 (a2▸ho);let#[dl,rfl]:=List.getLast?_eq_some_iff.mp hd;let#[v,cs,ev,rv,_]:=RepA.get (i:=xs.B - 1) (d:=d) c5 (by rw[<-c5.len];simp);let#[rfl,rp]:=RepL.pu (g':=false) rv hp;let#[es,r1,r2]:=c5.front;rw [List.dropLast_concat]at r1;show#[y.v,a4,by rw[c1];show _jp c2,l,xs,v,c1,rfl,c2,ev,?_];let hb:bs.U->es.U:=λh=>h.sublist r2
 obtain⟨w2,s2⟩:World Z.K (upd H l (.L xs.dropLast)) (L.u i @#[o,.L dl,y.v,l::es])/\Step H L (upd H l (.L xs.dropLast)) (L.u i @#[o,.L dl,y.v,l::es]):=by
  rw[a2]at c5 r1;cases o with
  | no=>show absurd rfl ho| rt=>show XW (T:=[]) (o':=.rt) w a1 c2 c3 c4 c1 r1 (.O #[rfl,λa ha=>.O (r2.subset ha)])
  | dp=>
   let yn:y.ì.U:=by
    let#[A,B,e,_]:=W0 a1;let:=w.nd;rw[e,k5,X9]at this;let:=this.2.1;rw[jz,X9]at this;show this.1
   let e:y.ì=l::bs:=by ext Sl.ì;rw[a2,c3]
   rw[e]at yn;show XW (T:=[]) (o':=.dp) w a1 c2 c3 c4 c1 r1 (.Z #[rfl,a2,hb (List.ú.mp yn).2,λa ha=>.O (r2.subset ha)])
 let mm:=m.u (x:=#[o,.L dl,y.v,l::es]) i;rw[J4 a4]at mm;rw[List.dropLast_concat]at k;let rp2:RepL Z.K (upd H l (.L xs.dropLast)) false d v []:=rp.kp (_jo c2 nofun);show k _ _ rfl _ _ _ rfl rfl mm (w2.consPu (x:=#[.dp,d,v,[]]) rp2 rfl) (KJ s2 (nofun) rfl) λz=>(nomatch z)
end
def _mx:∀{ab},(xY ab k d').C (·.1)=ab.C (·.1)
 |[]=>rfl
 |_::r=>by
  ext xY
  split
  .rfl
  .rw[List.l,List.l,_mx]
def RepP.hole {K}: ∀{ab xs as} {es : List Ent} {d1},RepP K H false ab xs as -> ab.C (·.1) = es.C (·.1.1) -> Vals xs (es.C (·.2.2)) -> as.U -> x3 ab k.1 = @d1 ->
    ∃ p x bs,atKey es k = @p /\ RelV x p.2 /\ RepL K H false d1 x bs /\ bs.U /\ (∀b > bs,b > as) /\ ∀H' (d') (bf),Kx H H' as bs -> RepL K H' false d' x bf -> bf.U -> (∀b > as,b∉bs -> b∉bf) ->
      ∃ dv,RepP K H' false (xY ab k.1 d') xs dv /\ dv.U /\ ∀b > dv,(b > as /\ b∉bs) \/ b > bf
  | [],_,_,_,_,_,_,_,_,hg=>by cases hg| _ :: _,_,_,[],_,_,h,_,_,_=>by cases h
  | (q,d)::ab,xs,as,e::es,d1,hr,hk,hv,nd,hg=>by
    let#[x,r,b1,c1,rfl,rfl,h1,h2]:= hr;injection hk with k1 k2;rw [X9]at nd;cases hv with
    | cons v1 v2=>
      let k1 : q = e.1.1:= k1
      by_cases he : e.1 = k
      . let hq : q = k.1:= by rw[k1,he]
        let mf : d = d1:= by unfold x3 at hg; rw[List.find?_cons_of_pos (by simp[hq])]at hg; show _aa hg
        subst mf;let ha : atKey (e::es) k = @e.2:= by
          let#[ek,ev]:= e;let he : ek = k:= he;simp[atKey,he]
        show#[e.2,x,b1,ha,v1,h1,nd.1,λb hb=>_ac _ hb,λH' d' bf kx r' km hd=> ?_];let hc : ∀b > c1,b > b1 ++ c1 /\ b∉b1:= λb hb=>#[_ab _ hb,λz=>nd.2.2 b z b hb rfl]
        show#[bf ++ c1,?_,?_,λb hb=> ?_]
        . ext xY
          rw[X7 hq];show#[x,r,bf,c1,rfl,rfl,r',h2.kp (kx.kp hc)]
        . rw[X9]
          show#[km,nd.2.1,λa ha b hb il=> ?_];subst il;show hd a (hc a hb).1 (hc a hb).2 ha
        . let z\/z:=aA hb
          . show .Z z
          . show .O (hc b z)
      . let hq : q≠k.1:= λz=>he (Subtype.ext (k1.s.I z))
        let js : x3 ab k.1 = @d1:= by unfold x3 at hg ⊢; rw[Zn (by simp[hq])]at hg; show hg
        let#[p,y,bs,q0,q1,q2,q3,q4,q5]:= RepP.hole h2 k2 v2 nd.2.1 js;let ha : atKey (e::es) k = @p:= by
          obtain _:= e;unfold atKey at q0 ⊢
          rwa [Zn (by simp[he])]
        let hb : ∀b > b1,b > b1 ++ c1 /\ b∉bs:= λb hb=>#[_ac _ hb,λz=>nd.2.2 b hb b (q4 b z) rfl]
        show#[p,y,bs,ha,q1,q2,q3,λb hb=>_ab _ (q4 b hb),λH' d' bf kx r' km hd=> ?_];let#[dv,a1,a2,a3]:= q5 H' d' bf #[kx.X,kx.ÿ,λb hb=>kx.out b (_ab _ hb)] r' km (λb hb=>hd b (_ab _ hb));show#[b1 ++ dv,?_,?_,λb qu=> ?_]
        . ext xY
          rw[Xb hq];show#[x,r,b1,dv,rfl,rfl,h1.kp (kx.kp hb),a1]
        . rw[X9]
          show#[nd.1,a2,λa ha b qu il=> ?_];subst il;let z\/z:=a3 a qu
          . show nd.2.2 a ha a z.1 rfl
          . show hd a (hb a ha).1 (hb a ha).2 z
        . let z\/z:=aA qu
          . show .O (hb b z)
          . show(a3 b z).imp (λz=>#[_ab _ z.1,z.2]) id
def World.holeD{K}(w:World K H (@y::L))(ho:y.o=.dp)(hd:y.d=.dct ab)(hu:unm ab=true)(hg:x3 ab k.1=@d1):∃y1,y1.o=.dp/\y1.d=d1 /\
  (∃a es ep p,y.v=.J a/\H a=@(qZ a es ep)/\(es.C (·.1)).U/\(∀x>es,PuR K H x.1.1 (.J x.2.1))/\atKey es k=@p/\RelV y1.v p.2)/\World K H (@y1::L) /\
  ∀He (Le:Ls) z,World K He (@z::Le)->Step H (@y1::L) He (@z::Le)->z.o=.dp->z.v=y1.v->∃y',y'.o=.dp/\y'.d=.dct (xY ab k.1 z.d)/\y'.v=y.v/\World K He (@y'::Le)/\Step H (@y::L) He (@y'::Le):=
 w.holeG (Pv:=λv=>∃a es ep p,y.v=.J a/\H a=@_/\(es.C (·.1)).U/\_/\atKey es k=@p/\RelV v p.2) (pt:=λd=>.dct _) ho λok nd=>by
  rw[hd]at ok;let#[a,xs,bs,ev,rp,dc,ea]:=ok;let#[es,ep,g1,g2,g3,g4,g5,g6,g7]:=DcA.un dc hu;rw[ea,Yh]at nd;let#[p,x,b1,q0,q1,q2,q3,q4,q5]:=RepP.hole rp g5 g7 nd.2 hg;show#[x,b1,#[a,es,ep,p,ev,g1,g4,g6,q0,q1],q2,q3,λb hb=>by rw[ea];show _ad _ (q4 b hb),λH' d' bf kx r' km t6=>?_];rw[ea]at kx t6;let an:=λz=>nd.1 (q4 a z)
  let#[dv,a1,a2,a3]:=q5 H' d' bf #[kx.X,kx.ÿ,λb hb=>kx.out b (_ad _ hb)] r' km (λb hb=>t6 b (_ad _ hb));let k0:Kp H H' []:=#[kx.X,kx.ÿ,nofun];show#[a::dv,#[a,xs,dv,ev,a1,.O #[es,ep,kx.out a X2 an _ g1,g2,g3,g4,by rw[_mx];show g5,λn hn=>PuR.kp k0 (g6 n hn),g7],rfl],List.ú.y #[λh=>?_,a2],λb hb=>?_]
  .let z\/z:=a3 a h
   .show nd.1 z.1
   .show t6 a X2 an z
  .rw[ea];let rfl\/hb:=aD hb
   .show .O #[X2,an]
   .show(a3 b hb).imp (λz=>#[_ad _ z.1,z.2]) id
section
#where in
def _my(hP:PE X ep (vxx Z.K (vX i) (vX j)))(hc:QE X Z q c e)(hK:X.K=Z.K<|>Ŕ)(hm:MtR X "list.append" _b2)
  (aw:attributeBase ep "append" X.V (eval ep X.V)=eval ep X.V<|>Ŕ)
  (d9:autoParam (((backTo aj (starEach [e] X.V)).all (λx=>!x.1)&&(backToKw aj (keywordEach [] X.V)).all (λx=>x.1.isSome)
   && decide ([e].B+([]:List Keyword).B+(if([]:List Keyword).ô then 0 else 1)<30))=true) Ŕ)
  (av:Abe aq aj<|>Ŕ) (hs:Abs e [] X<|>Ŕ) (ay:Abb aj [] X<|>Ŕ)
  (jt:swapsWith (.û (.ù ep "append" aq) [e] [] aj) none fi.line X.V=pure false<|>Ŕ):
  QS X Z pn (sDA i j c) (.Expr (.û (.ù ep "append" aq) [e] [] aj) fi):=
 z0 (ZY (_cY Z.K Yw PySem.F.slot_list_append PySem.F.type_list_append hm hP (qX hc vx hs) aw d9 av hs ay hK) jt) λDe σ H am=>ex7 am λE L r m w dh k=>by
 unfold sDA at dh
 split at dh
 rotate_left
 .grind
 revert ab o2 kd hE hE2
 split at dh
 rotate_left
 .grind
 revert hck
 split at dh
 rotate_left
 .grind
 revert ds nj
 split at dh
 rotate_left
 .grind
 revert ai;let#[y,a1,a2,a3,a4]:=m.get hE;let#[y2,k1,k2,k3,k4]:=m.get hE2;let#[b,eb,pb]:=_ia (w.ok y2 (Y5 k1)) (k3▸hck.1);let lg:jX 6 y2.d=true:=by
  let:=hck.1;unfold kZ at this;rw[Bool.æ]at this;show k3▸this.1
 let#[w0,s0]:=_jm w a1;let#[y1,b1,b2,#[a,es,ep,p,ev,g1,g4,g6,q0,q1],b4,b5]:=w0.holeD (k:=#[y2.d,lg]) a2 a3 hck.2 (by change x3 ab y2.d=_;rw[k3];show nj);let#[l,xs,bs,c1,c2,_,_,_]:=W2 (b4.ok y1 X2) b2 b1;show#[y.v,a4,y2.v,k4,a,b,_,es,ep,y1.v,p,ev,eb,g1,g4,g6,pb,q0,q1,by rw[c1];show _jp c2,(QQ (_d9 i m) w0.tail dh (k.step (s0.I Step.drop) Pn.ñ) λE1 s h1 x L1 H1 e1 e2 m1 w1 st _=>?_)]
 split at h1
 rotate_left
 .symm
 revert vt;cases _aa h1;let#[w2,s2]:=XQ (T:=[@y1]) b4 st w1;let#[l',xs',f1,f2,f3,z,z1,z2,z3,z4,z5]:=World.app w2 b1 b2 (e2▸vt);let#[y',n1,n2,n3,n4,n5]:=b5 _ _ z z4 (s2.I z5) z1 z3;show#[l',xs',x.v,f1,rfl,f2,by rw[f3];show ai,?_];let mm:=VV (i:=i) (s:=(.dp,.dct (xY ab kd _))) m1 n1 (by rw[n2,z2,e2];change D.dct (xY ab y2.d _)=_;rw[k3]);rw[n3,J4 a4]at mm;show k σ _ _ Pn.ñ mm n4.u (s0.I (n5.I Step.u))
end
def _mz(K:Frag):List V->Hp->VK->Prop:=λxs H Q=>∃(a:Addr) (ts:List V) (ps:List (Kd×Addr×V)),xs=[.J a]/\SqL K H a ts/\ts.B=ps.B /\
 (∀i (h:i<ps.B),∃T,ts[i]?=@(.J T)/\SqT K H T [.J ps[i].2.1,ps[i].2.2]/\PuR K H ps[i].1.1 (.J ps[i].2.1))/\ps.B<big/\(ps.C (·.1)).U /\
 ∀l es ep,H l=none->(l==sysModules)=false->es.C (λe=>(e.1,e.2.1))=ps.C (λp=>(p.1,p.2.1))->Vals (ps.C (·.2.2)) (es.C (·.2.2))->Q (.J l) (upd H l (qZ l es ep))
#where in
def _mA(I:Inv X a9 σ H s):∀(ps:List (Kd×Addr×V)) (ts) (ac),ts.B=ps.B ->
  (∀ i (h:i<ps.B),∃T,ts[i]?=@(.J T)/\SqT X.K H T [.J ps[i].2.1,ps[i].2.2]/\PuR X.K H ps[i].1.1 (.J ps[i].2.1))->Vals ts ac ->
  ∃ more:List Ent,more.B=ac.B/\more.C (λe=>(e.1,e.2.1))=ps.C (λp=>(p.1,p.2.1))/\Vals (ps.C (·.2.2)) (more.C (·.2.2))/\∀(i:Nat) (v),ac[i]?=@v->∃T u x k,v=.J T/\s.G.IsTuple T %[.J u,x|0]/\more[i]?=@(k,u,x)/\jK s.G k.1 (.J u)
 | [],ts,ac,hl,_,hv=>by
  cases ts with| nil=>cases hv;show#[[],rfl,rfl,.nil,λi v h=>by simp at h]| cons=>cases hl
 | p :: ps,t::ts,_,hl,hp,hv=>by
  cases hv with
  | cons h1 h2=>
   revert u us;let#[T,e1,e2,e3]:=hp 0 (by simp);let e1:t=.J T:= ~~~e1
   subst e1;cases h1;let#[ii,rv,tp,_]:=I.tuple e2;obtain⟨u2,rfl,r2⟩:∃u2,ii=[.J p.2.1,u2]/\RelV p.2.2 u2:=by
    cases rv with
    |cons a b=>
     cases b with|cons c d=>cases d;cases a;show#[_,rfl,c]
   let#[more,m1,m2,m3,m4]:=_mA I ps ts us (~~~hl) (λi h=>by
    let#[T,a,b]:=hp (i+1) (by symm);show#[T,~~~a,~~~b]) h2
   show#[(p.1,p.2.1,u2)::more,by rw[Xn,Xn,m1],by rw[List.l,List.l,m2],.ê r2 m3,λi v h=>?_];cases i with
   |zero=>
    let h:Value.J T=v:= ~~~h
    subst h;show#[T,p.2.1,u2,p.1,rfl,tp,rfl,V3 I e3 rfl]
   |succ i=>show m4 i v (~~~h)
def _mB{K}(hu:X.A.â+64<cLine)(hc:X.calm=true<|>Ŕ)(hK:X.K=K<|>Ŕ):CallR X (.e "dict") (_mz K):=by
 subst hK;rintro a9 s σ H xs us Q I r ⟨a,ts,ps,rfl,hq,hl,hp,hb,dw,q⟩;let#[u,rfl,rx]:=wZ r;cases rx;let#[ac,rv,#[o,n,ho,dk,hd,fk],hz]:=I.list hq;let#[more,m1,m2,m3,m4]:=_mA I ps ts ac hl hp rv;let hk:more.C (·.1)=ps.C (·.1):=by
  let:=congrArg (List.C Prod.fst) m2
  rwa [Xg,Xg]at this
 show Tw.call_dict_listH (knd:=Tl.trP X.î X.w λ_ _=>True) Tl.kindX (show X.A.in1.in1.â+40<cLine by lia) (I.ok.hd hc) ho dk fk hd (by rw[m1];rfl) (by symm) (by rw[Xe,<-rv.B];show hz) (λi v hv=>?_) λh' tk dd kp=>?_
 .let#[T,u,x,k,f1,f2,f3,f4]:=m4 i v (~~~hv);show#[T,u,x,k,f1,f2,f3,f4,True.intro]
 let#[q',ds,ep,hq',g2,g3,g4,_,_]:=dd;show#[.J ↥s,_,I.laid (o:=qZ ↥s more ep) (t':=tk) (λb ob e=>kp b ob (Xh e) e) (Xa _) #[#[q',ds,hq',g2,g3,g4],#[q',hq'],λh1 h2 #[o,ds,a1,a2] k=>#[o,ds,k o a1,a2]],rfl,q _ more ep (I.hok.fresh (Xa _)) (Yt (J1 I.big)) m2 m3]
#where in
def _mC{K}:∀{ds ab xs bs},prW ds=@ab->RepA K H g ds xs bs->∃(qs:List (Kd×Addr×V)) (cs:List Addr),qs.C (·.1.1)=ab.C (·.1)/\xs.B=qs.B /\
  (∀ i (h:i<qs.B),∃T,xs[i]?=@(.J T)/\SqT K H T [.J qs[i].2.1,qs[i].2.2]/\PuR K H qs[i].1.1 (.J qs[i].2.1))/\RepP K H g ab (qs.C (·.2.2)) cs/\cs.Sublist bs:=by
 intro ds
 induction ds with
 | nil=>
  intro ab xs bs h r;cases _aa h;let#[rfl,rfl]:=r;show#[[],[],rfl,rfl,λi h=>absurd h (Nat.not_lt_zero _),#[rfl,rfl],Zu _]
 | cons d ds ih=>
  intro ab xs bs h r;unfold prW at h
  split at h
  .symm
  .revert k v r' e;injection e with e1 e2;subst e1 e2
   split at h
   rotate_left
   .cases h
   revert hk;cases hr:prW ds with
   | none=>symm
   | some q=>
    rw[hr]at h;cases _aa h;let#[x,rr,b1,b2,rfl,rfl,r1,r2]:=r;let#[qs,cs,q1,q2,q3,q4,q5]:=ih hr r2;let#[T,ys,rfl,sq,ra]:=r1;let#[y1,_,c1,c2,rfl,rfl,f1,f2]:=ra;let#[y2,_,c3,c4,rfl,rfl,f3,f4]:=f2;let#[rfl,rfl]:=f4;let be:=hk;unfold kZ at be;rw[Bool.æ]at be;obtain⟨b,rfl⟩:∃b,y1=.J b:=by
     cases k with|tup es=>unfold RepL at f1;let#[a,_,e,_]:=f1;show#[a,e]|_=>cases be.2
    show#[(#[k,be.1],b,y2)::qs,c3++cs,by rw[List.l,List.l,q1],by rw[Xn,Xn,q2],λi hi=>?_,?_,?_]
    .cases i with|zero=>show#[T,rfl,sq,(_h0 be.1 f1)]|succ i=>show q3 i _
    .show#[y2,_,c3,cs,rfl,rfl,f3,q4]
    .rw[Xz];show((List.sublist_append_right _ _)).append q5
  .cases h
section
#where in
def _mD(hu:X.A.â+64<cLine)(hc:QE X Z q c ea)(hm:X.mg x=none)(hv:bootBuiltins x=@(.e "dict"))(dk:X.calm=true<|>Ŕ)(hK:X.K=Z.K<|>Ŕ)(hg:Gl X x<|>Ŕ)(hn:x≠"__name__"<|>ŕ)(gr:Abd x<|>ŕ)
  (he:Abs ea [] X<|>Ŕ) (bu:Abb pos [] X<|>Ŕ):QE X Z q (cDW c) (.û (.é x p) [ea] [] pos):=
 qv (_bE (_mB hu dk hK) hg hm hv (qX hc vx he) hn gr he bu) fun σ H Q am=>ex8 am λE L r m w hr xc k=>by
 show VQ m w hr xc λE1 s h1 x L1 H1 e1 e2 m1 w1 st sm=>?_
 unfold _ms at h1
 split at h1
 rotate_left
 .cases h1
 revert sd hs;cases _aa h1
 split at hs
 rotate_left
 .cases hs
 split at hs
 rotate_left
 .cases hs
 revert ab hp
 split at hs
 rotate_left
 .symm
 revert hc;cases _aa hs;let#[l0,xs,bs,c1,c2,c3,c4,c5]:=W2 (w1.ok x X2) e2 e1;let#[qs,cs,q1,q2,q3,q4,q5]:=_mC hp c5;let hql:qs.B=ab.B:=by let:=congrArg List.B q1;simpa using this
 let dw:(qs.C (·.1)).U:=by
  let:=hc.2;rw[<-q1]at this;rw[List.nodup_iff_pairwise_ne,List.pairwise_map]at this ⊢;show this.imp λh e=>h (congrArg Subtype.val e)
 show#[l0,xs,qs,by rw[c1],.O (.O c2),q2,q3,by rw[hql];show hc.1,dw,λl es ep hl oq m1' m2'=>?_];let same:kj H1 (upd H1 l (qZ l es ep)):=vw hl;let hk:es.C (·.1)=qs.C (·.1):=by
  let:=congrArg (List.C Prod.fst) m1'
  rwa [Xg,Xg]at this
 let hel:es.B=qs.B:=by let:=congrArg List.B m1';simpa using this
 let nd:=w1.nd;rw [jz,X9,c4,Yh]at nd;let hlo:∀b>l0::bs,H1 b≠none:=λb hb=>w1.own_some (by rw[jz,c4];show _ac _ hb)
 let lc:∀b>cs,b>l0::bs:=λb hb=>_ad _ (q5.subset hb)
 let hL:=λb hb h=>nd.2.2 b hb b h rfl
 let hF:=λb hb h=>w1.ds b (by rw[jz,c4];show _ac _ hb) (_ab _ h)
 let wl:=(w1.tail).later same;show k _ _ rfl #[.dp,.dct ab,.J l,l::cs] L1 _ rfl rfl m1 (wl.ê ?_ ?_ ?_ ?_ (λb hb=>by cases hb) (λb _ hb=>by cases hb)) ?_ λhq=>?_
 .show#[l,qs.C _,cs,rfl,q4.kp (Kp.of_same same),.O #[es,ep,wj,oq,?_,by rw[hk];show dw,?_,λe he=>?_,m2'],rfl]
  .rw[hel,hql];show J0 hc.1
  .rw[<-q1];let:=congrArg (List.C λk:Kd=>k.1) hk;rw[Xg,Xg]at this;show this.s
  .let#[i,hi,rfl]:=Yu he;let#[T,_,_,hp3]:=q3 i _;let g:(es.C (λe=>(e.1,e.2.1)))[i]?=(qs.C (λp=>(p.1,p.2.1)))[i]?:=by rw[m1']
   rw[Xf,Xf,X1 hi,X1 .q]at g;let g:=_aa g;let g2:es[i].2.1=(qs[i]'_).2.1:=congrArg Prod.snd g;rw[(congrArg Prod.fst g),g2];show PuR.kp (as:=[]) (Kp.of_same same) hp3
 .show List.ú.y #[(λh=>hlo l (lc l h) hl),nd.1.2.sublist q5]
 .intro b hb h;let rfl\/hb:=aD hb
  .show w1.tail.own_some h hl
  .show hL b (lc b hb) h
 .intro b hb h;let rfl\/hb:=aD hb
  .show w1.tail.frz_some h hl
  .show hF b (lc b hb) h
 .show st.I #[λa ob h _=>same a ob h,λa ha=>?_,λa ha=>?_]
  .rw[jz]at ha ⊢;let h\/h:=aA ha
   .let rfl\/h:=aD h
    .show .Z hl
    .show .O (_ac _ (c4▸lc a h))
   .show .O (_ab _ h)
  .rw[v4]at ha ⊢;show .O (_ab _ (by simpa [Sl.ÿ]using ha))
 .show#[kX (sm hq).1 same,λb hb=>?_];let rfl\/hb:=aD hb
  .cases hh:H b with|none=>rfl|some ob=>rw[(sm hq).1 b ob hh]at hl;cases hl
  .show(sm hq).2 b (c4▸lc b hb)
end
noncomputable def Itk(a:Addr)(es:List Ent)(ep:Nat):It:=#[λi H=>H a=@(qZ a es ep)/\i<es.B,
 λi H v H'=>H'=H/\∃n,es[i]?=@n/\v=.J n.2.1,λi H=>H a=@(qZ a es ep)/\es.B<=i]
def _mE{K}:
  Turn P w K tg (Itk a es ep) [it] it (λi h=>h.IsKeyIter it a i es.B ep) where
 mem:=by simp
 obj:=λi h st b hb=>by
  let e:b=it:= ~~~hb
  subst e;let#[o,e,c,d]:=st;show#[o,e,λv z=>by rw[d]at z;cases z]
 keep:=λi h h' st k=>st.at λo e=>k it (by simp) o e
 item:=by
  rintro X hP hw hK hc i a9 s σ H E I hf st ⟨hH,hi⟩;let jc:=X1 hi;let#[f0,f1,f2,f3,f4,f5]:=hf it (by simp);show _im (by rw[X3];show st) (_ij I hH) (by rw[Xf,jc];rfl) λh' f9 sb=>?_
  rw[X3]at f9;let I1:L2.Inv X a9 σ H {s with heap:=h' }:=I.turned (t':=s.ý) (λb o hb e=>(sb.2 b hb).I e) f0 f1 f3 f4 f5;let#[o,e,c,d]:=id f9;show#[_,rfl,_aR e c d (by rfl) #[.J es[i].2.1,H,I1,rfl,#[rfl,_,jc,rfl],f9,λb hb=>(hf b hb).1]]
 done:=by
  rintro X hP hw hK hc i a9 s σ H E I hf st ⟨hH,hi⟩;let#[f0,f1,f2,f3,f4,f5]:=hf it (by simp);show _in (I.ok.hd hc) (by rw[X3];show st) (_ij I hH) (by rw[X3];show hi) λh' eb=>#[rfl,I.turned (t':=s.ý) (λb o hb e=>eb b o hb e) f0 f1 f3 f4 f5]
 self:=λ_ _ _ _ _ st h=>wpAny_pyIter_keyiter st h
abbrev xx5(to:TE):TI:=fun σ H R=>to σ H λx H1=>∃a es ep,x=.J a/\H1 a=@(qZ a es ep)/\(a==sysModules)=false/\R (Itk a es ep) H1
section
def _mF(ho:PE X e to):PI X tg e (xx5 to):=by
 intro a9 s σ H R I h;show thn (ho a9 s σ H _ I h) λv s1 hz=>?_
 let#[x,H1,I1,r1,a,es,ep,ex,hH,hs,hR]:=hz;subst ex;cases r1;show _il hs (_ij I1 hH) ?_;let I2:L2.Inv X a9 σ H1 {s1 with heap:=s1.G.ï {cls:=.e "dict_keyiterator",data:=.fields %[.J a,.E 0 0,.E (es.C λx=>(#[J5 X.w x.1.1,.J x.2.1,x.2.2]:DictEntry)).B 0,.E ep 0|0]},toks:=s1.ý}:=I1.kept (t':=s1.ý) λb o z=>X4 _ z
 show#[↥s1,[_],_,_,H1,rfl,I2,_mE,?_,λb hb=>?_,hR]
 .let:=Xd (h:=s1.G) (o:={cls:=.e "dict_keyiterator",data:=.fields %[.J a,.E 0 0,.E (es.C λx=>(#[J5 X.w x.1.1,.J x.2.1,x.2.2]:DictEntry)).B 0,.E ep 0|0]}) rfl;rw[X3]at this ⊢;show#[_,this,rfl,rfl]
 .rw[aC hb];show I1.fpOk (Xa _) (I1.hok.fresh (Xa _))
end
def RepP.atT {K}: ∀{ab xs as} {es : List Ent} {d1},RepP K H g ab xs as -> ab.C (·.1) = es.C (·.1.1) -> Vals xs (es.C (·.2.2)) -> x3 ab k.1 = @d1 ->
    ∃ p x bs,atKey es k = @p /\ RelV x p.2 /\ RepL K H g d1 x bs /\ ∀b > bs,b > as
  | [],_,_,_,_,_,_,_,hg=>by cases hg| _ :: _,_,_,[],_,_,h,_,_=>by cases h
  | (q,d)::ab,xs,as,e::es,d1,hr,hk,hv,hg=>by
    let#[x,r,b1,c1,rfl,rfl,h1,h2]:= hr;injection hk with k1 k2;cases hv with
    | cons v1 v2=>
      let k1 : q = e.1.1:= k1;let#[ek,ev]:= e
      by_cases he : ek = k
      . let hq : q = k.1:= by rw[k1,he]
        let mf : d = d1:= by unfold x3 at hg; rw[List.find?_cons_of_pos (by simp[hq])]at hg; show _aa hg
        subst mf;show#[ev,x,b1,by simp[atKey,he],v1,h1,λb hb=>_ac _ hb]
      . let hq : q≠k.1:= λz=>he (Subtype.ext (k1.s.I z))
        let js : x3 ab k.1 = @d1:= by unfold x3 at hg ⊢; rw[Zn (by simp[hq])]at hg; show hg
        let#[p,y,bs,q0,q1,q2,q3]:= RepP.atT h2 k2 v2 js;show#[p,y,bs,?_,q1,q2,λb hb=>_ab _ (q3 b hb)];unfold atKey at q0 ⊢
        rwa [Zn (by simp[he])]
section
#where in
def _mG(hu:X.A.â+64<cLine)(ha:QV X Z qa a ea)(hb:QV X Z true b eb)(hs:_cr eb)(hK:X.K=Z.K<|>Ŕ):QV X Z qa (_mu a b) (.Subscript ea eb pos):=
 qv (hK▸_kZ hu ha hb hs) fun σ H Q am=>ex8 am λE L r m w hc xc k=>by
  show vJ m w (hc) xc λE1 s h1 x L1 H1 e1 e2 m1 w1 ok fr sr st sm=>(vJ m1 w1 h1 (xc.step st) λE2 s2 h2 y L2 H2 e3 e4 m2 w2 ir ug ui bv ff=>?_)
  let#[z,hz0,rfl]:=J8 h2
  split at hz0
  .symm
  revert hrt;let#[d,hz,rfl]:=Option.map_eq_some_iff.mp hz0;unfold _mt at hz
  split at hz
  rotate_left
  .grind
  revert ab hy
  split at hz
  rotate_left
  .grind
  revert hc;let#[b,eb,pb]:=_ia ir (e4▸hc.1);let lg:jX 6 y.d=true:=by
   let:kZ y.d=true:=by rw[e4];show hc.1
   unfold kZ at this;rw[Bool.æ]at this;show this.1
  let kx:=W6 ok fr bv (ff rfl);let fin:∀g,RepL Z.K H2 g x.d x.v x.as->(∀v cs,RepL Z.K H2 g d v cs->(∀b>cs,b>x.as)->Q v H2)->∃(a b:Addr) (k:Kd) (es:List Ent) (ep:Nat) (v:V) (p:Addr×Value),x.v=.J a/\y.v=.J b/\H2 a=@(qZ a es ep)/\(es.C (·.1)).U/\(∀x>es,PuR Z.K H2 x.1.1 (.J x.2.1))/\PuR Z.K H2 k.1 (.J b)/\atKey es k=@p/\RelV v p.2/\Q v H2:=by
   intro g h kk;rw[e2,hy]at h;let#[l,xs,bs,e,rp,dc,ea]:=h;let#[es,ep,d1,d2,d3,d4,d5,d6,d7]:=DcA.un dc hc.2;let#[p,v',cs,q0,q1,q2,q3]:=RepP.atT (k:=#[y.d,lg]) rp d5 d7 (by change x3 ab y.d=_;rw[e4];show hz);show#[l,b,_,es,ep,v',p,e,eb,d1,d4,d6,pb,q0,q1,kk v' cs q2 λb hb=>by rw[ea];show _ad _ (q3 b hb)]
  cases ho:x.o with
  |rt=>show absurd (e1▸ho) hrt
  |no=>
   let h:=kx.1;unfold Sl.ok at h;rw[ho]at h;show fin true h λv cs r sub=>(k _ _ rfl #[.x,d,v,cs] L2 H2 (by rw[<-e1,ho];rfl) rfl m2 w2 r (λb hb=>kx.2 b ?_) (_ed sr sub) (st.I bv) λhq=>kX (sm hq) (ff rfl))
   ext Sl.ÿ;rw[ho];show sub b hb
  |dp=>
   let h:=kx.1;unfold Sl.ok at h;rw[ho]at h;show fin false h λv cs r sub=>(k _ _ rfl #[.dp,d,v,cs] L2 H2 (by rw[<-e1,ho];rfl) rfl m2 w2 r (nofun) (_ed sr sub) (st.I bv) λhq=>kX (sm hq) (ff rfl))
end
def _mH(h:ds[k]?=@d):D.at [k] (.L ds)=@d:=by
 change(match ds[k]? with|some d=>D.at [] d|none=>none)=_;rw[h];rfl
def _mI(h:ds[k]?=@d):D.put e [k] (.L ds)=.L (ds.u k e):=by
 change(match ds[k]? with|some d=>Q.D.L _|none=>_)=_;rw[h];rfl
#where in
def _mJ{i s:Nat}{c:Ex}{T:Ts}{d0:D}{n k:Nat}{ds:List D}{E:En}{rr:Fl}(h:K9 i s c T d0 (n+1) k ds E=@rr):∃es E1 x,ds[k]?=@(.L es)/\es.B<big/\c (E.u s none)=@(.ok E1 x)/\x.2.pure=true/\∃E2 b,T (E1.u i @(.dp,.L (ds.u k (.L (es++[x.2])))))=@(.ok E2 b)/\(b=true/\rr=.rt E2 (.dp,d0)\/b=false/\∃jm u0,E2[i]?=some @(.dp,.L jm)/\jm[k]?=@(.L u0)/\K9 i s c T d0 n (k+1) (jm.u k (.L [])) (E2.u i none)=@rr):=by
 unfold K9 at h
 split at h
 rotate_left
 .cases h
 revert es h1
 split at h
 rotate_left
 .cases h
 revert h2
 split at h
 rotate_left
 .cases h
 revert E1 x h3
 split at h
 rotate_left
 .cases h
 revert h4
 split at h
 .revert E2 h5;show#[es,E1,x,h1,h2,h3,h4,E2,true,h5,.O #[rfl,(_aa h).s]]
 .revert E2 h5
  split at h
  rotate_left
  .cases h
  revert jm h6
  split at h
  rotate_left
  .cases h
  revert u0 h7;show#[es,E1,x,h1,h2,h3,h4,E2,false,h5,.Z #[rfl,jm,_,h6,h7,h]]
 .cases h
inductive EaI (i r:Nat)(c:Ex)(T:Ts)(d0:D)(rr:Fl)(K:Frag)(H:Hp)(L:Ls)(pn:List Nat)(σ:L2.St)(v:V):Nat->Nat->L2.St->Hp->Prop
 |mk {k0 σ1 H1} (E1:En) (L1:Ls) (z:Sl) (fy:List Q.D) (h0:k0<=fy.B) (h1:Mt E1 σ1 L1) (h2:World K H1 (@z::L1)) (h3:z.o=.dp) (h4:z.d=.L fy) (h5:z.v=v) (h6:Step H L H1 (@z::L1)) (h7:K9 i r c T d0 (fy.B - k0) k0 fy E1=@rr) (h8:σ1[i]?=some @v) (h9:Pn pn σ σ1) (h10:r < σ1.B):EaI i r c T d0 rr K H L pn σ v k0 (fy.B - k0) σ1 H1
section
variable {aq aj fi a2 c2 s2 p1 p2 fpos:Pos}
#where in
def _mK(hp:PassesOwn (model X.î X.w) X.A X.V X.xe)(hcm:X.calm=true)(hP:PE X ep (vX i))(hg:PG X tg (qw5 r))(hR:PE X er (vX r))(hc:QE X Z q c e)(hT:QT X Z true T te)(hN:QE X Z true (cC d0) ne)(hR2:PE X er2 (vX r))(hK:X.K=Z.K<|>Ŕ)(hm:MtR X "list.append" _b2)(ot:MtR X "list.clear" _b8)
  (hir:r≠i<|>ŕ) (hpn:r∉pn<|>ŕ)
  (aw:attributeBase er "append" X.V (eval er X.V)=eval er X.V<|>Ŕ)
  (d9:autoParam (((backTo aj (starEach [e] X.V)).all (λx=>!x.1)&&(backToKw aj (keywordEach [] X.V)).all (λx=>x.1.isSome)
   && decide ([e].B+([]:List Keyword).B+(if([]:List Keyword).ô then 0 else 1)<30))=true) Ŕ)
  (av:Abe aq aj<|>Ŕ) (hs:Abs e [] X<|>Ŕ) (ay:Abb aj [] X<|>Ŕ)
  (jt:swapsWith (.û (.ù er "append" aq) [e] [] aj) none fi.line X.V=pure false<|>Ŕ)
  (t8:attributeBase er2 "clear" X.V (eval er2 X.V)=eval er2 X.V<|>Ŕ) (qo:Abe a2 c2<|>Ŕ)
  (hsw2:swapsWith (.û (.ù er2 "clear" a2) [] [] c2) none s2.line X.V=pure false<|>Ŕ)
  (oe:(∀x,foldedSetIterable ep X.V x=pure x)<|>Ŗ):
  QS X Z pn (_mv i r c T d0) (.For tg ep [.Expr (.û (.ù er "append" aq) [e] [] aj) fi,.If te [.Return @ne p1] [] p2,.Expr (.û (.ù er2 "clear" a2) [] [] c2) s2] [] fpos):=
 z0 (_a1 hp hcm (_aV hP) hg (_aH (ZY (_cY Z.K Yw PySem.F.slot_list_append PySem.F.type_list_append hm hR (qX hc vx hs) aw d9 av hs ay hK) jt)
  (_aH (_aK hT (_aI (_aJ hN)) _aG) (_aI (ZY (_dc Z.K Yw PySem.F.slot_list_clear PySem.F.type_list_clear ot hR2 t8 qo hK) hsw2)))) oe) λDe σ H am=>ex7 am λE L rr m w dh k=>by
 unfold _mv at dh
 split at dh
 rotate_left
 .cases dh
 revert ds hE
 split at dh
 rotate_left
 .cases dh
 revert hrE;let#[y,a1,a2,a3,a4]:=m.get hE;let#[w0,s0]:=_jm w a1;let#[l,xs0,bs,c1,c2,_,_,c5]:=W2 (w0.ok y X2) a3 a2;show#[y.v,a4,l,c1,#[xs0,.O (.O c2)],?_];show#[EaI i r c T d0 rr Z.K H L pn σ y.v,#[_,.mk _ _ y ds (Y6 _) (_d9 i m) w0 a2 a3 rfl s0 dh a4 Pn.ñ (by rw[<-m.len.1];show hrE)],?_];rintro k0 n σ1 H1 ⟨E1,L1,z,fy,hk,m1,w1,z1,z2,z3,jg,hea1,o6,hpn1,hrS⟩;let#[l',xs,bf,d1,d2,d3,d4,d5]:=W2 (w1.ok z X2) z2 z1;let hll:l'=l:=by rw[z3,c1]at d1;show(V.J.inj d1).s
 subst hll;let hxl:=d5.len.s
 by_cases b9:k0<fy.B
 .show .Z #[#[xs,xs[k0]'⋯,.O (.O d2),X1 _],fun σ2 H2=>∃m',m'<fy.B - k0/\_,fun σ' H' h=>h,λx H' hy=>?_];let#[rfl,hyx]:=hy;let hx:=hyx xs (.O (.O d2));obtain⟨n,hn⟩:∃n,fy.B - k0=n+1:=#[fy.B - k0 - 1,.q];rw[hn]at hea1;let#[es,E2,sx,jc,ai,hcE,vt,E3,bb2,hTE,hh]:=_mJ hea1;let#[y2,f1,f2,f3,f4,f5]:=w1.hole z1 (z2▸_mH jc);rw[z2]at f3;let#[la,xs2,x2,dx,g1,g2,g3,#[g4,_],g5]:=f3;let e1:la=l':=by rw[d1]at g1;show(V.J.inj g1).s
  subst e1;let e2:xs2=xs:=by rw[d2]at g2;cases g2;rfl
  subst e2;let e3:x2=x:=by rw[hx]at g3;show(_aa g3).s
  subst e3;let g6:y2.v=x2:=by first|show g5|show g5.s|(let#[h,_]:=g5)|(cases g5)
  let#[lb,ys,bb,q1,q2,_,_,_]:=W2 (f4.ok y2 X2) f2 f1;let hlb:lb≠la:=by
   let#[v',cs,j1,j2,j3]:=d5.get jc;let:v'=x2:=by rw[hx]at j1;show(_aa j1).s
   subst this;let#[la2,_,cs2,t1,_,t4\/#[t4,_]]:=j2
   rotate_left
   .cases t4
   let nd:=w1.nd;rw[jz,X9,d4,Yh]at nd;intro hh;let:la2=lb:=by rw[<-g6,q1]at t1;show(V.J.inj t1).s
   show nd.1.1 (j3 la (by rw[t4.2,this,hh];show X2))
  let hlL:la∉j7 L1:=by
   let nd:=w1.nd;rw[jz,X9,d4]at nd;show λh=>nd.2.2 la X2 la h rfl
  let#[wu,su]:=World.out1 r w1.tail;let#[wv,sv]:=XQ (T:=[@y2]) f4 su wu;let sg:(σ1.u r @x2)[r]?=@(@x2):=Z0 hrS;show#[x2,sg,by rw[<-g6,q1];show _jp q2,?_];show#[E1.u r none,L1.u r none,_,_jq r m1,wu,hcE,(λ_ _ z=>by cases z),λE' s' zz x L2 H2 e1 e2 m2 w2 bv _=>?_];injection zz with zz1 zz2;subst zz1 zz2;let#[w3,s3]:=XQ (T:=[@y2]) wv bv w2;let#[l3,xs3,h1,h2,h3,zn,n1,n2,n3,n4,n5]:=World.app w3 f1 f2 (e2▸vt);let#[z',o1,o2,o3,o4,o5]:=f5 _ _ zn n4 (sv.I (s3.I n5)) n1 n3;let hl3:l3=lb:=by rw[q1]at h1;show(V.J.inj h1).s
  subst hl3;let hH2:=bv.keep la _ d2 λh=>hlL (su.ì la h |>.elim id λz=>by rw[d2]at z;cases z)
  show#[l3,xs3,x.v,by rw[<-g6];show h1,rfl,h2,by rw[h3];show ai,?_];let ld:z'.d=.L (fy.u k0 (.L (es++[sx.2]))):=by rw[o2,n2,z2,e2,_mI jc]
  let hiS:(σ1.u r @x2)[i]?=@(@y.v):=by rw[Yi hir];show o6
  let mm:=VV (i:=i) (x:=z') (s:=(.dp,.L (fy.u k0 (.L (es++[sx.2]))))) m2 o1 ld;rw[o3,z3,J4 hiS]at mm;let#[rfl,rfl]\/#[rfl,jm,u0,hE3,hes2,hea1]:=hh
  .skip
   show#[_,_,_,mm,o4.u,hTE,(λ_ _ z=>by cases z),λE4 k4 e4 L4 H4 m4 w4 s4 _=>?_];injection e4 with e5 e6;subst e5 e6;show#[_,L4,_,m4,w4,rfl,(λ_ _ z=>by cases z),λE8 a e8 x8 L8 H8 x1 x2' m8 w8 s8 _=>?_];injection e8 with e9 e10;subst e9 e10;show k x8 _ L8 H8 x1 x2' (hpn1.u hpn) m8 w8 (((jg.I o5).I (Step.u (i:=i))).I (s4.I s8))
  .show#[_,_,_,mm,o4.u,hTE,(λ_ _ z=>by cases z),λE4 k4 e4 L4 H4 m4 w4 s4 vm=>?_];injection e4 with e5 e6;subst e5 e6;rw[Xb .q];let#[y4,b1,b2,b3,b4]:=m4.get hE3;let hy4:y4.v=y.v:=by rw[hiS]at b4;show(_aa (_aa b4)).s
   let#[w5,s5]:=_jm w4 b1;let#[y5,f1',f2',f3',f4',f5']:=w5.hole b2 (b3▸_mH hes2);rw[b3]at f3';let#[la',xs4,x4,dx',g1',g2',g3',#[g4',_],g5']:=f3';let hla:la'=la:=by rw[hy4,<-z3,d1]at g1';show(V.J.inj g1').s
   subst hla;let hH4:=vm rfl la' _ (by rw[qj (Ne.s hlb)];show hH2);let hxs:xs4=xs2:=by rw[hH4]at g2';cases g2';rfl
   subst hxs;let hx4:x4=x2:=by rw[hx]at g3';show(_aa g3').s
   subst hx4;let g6':y5.v=x4:=by first|show g5'|show g5'.s|(let#[h,_]:=g5')|(cases g5')
   let#[l5,xs5,i1,i2,z5,i3,i4,i5,i6,i7]:=World.clr f4' f1' f2';let#[z6,j1,j2,j3,j4,j5]:=f5' _ _ z5 i6 i7 i3 i5;let hz6:z6.d=.L (jm.u k0 (.L [])):=by rw[j2,i4,b3,_mI hes2]
   show#[x4,sg,by rw[<-g6',i1];show _jp i2,l5,xs5,by rw[<-g6'];show i1,rfl,i2,?_];let lu:jm.B=fy.B:=by
    grind
   show#[fy.B - (k0+1),.q,(show(jm.u k0 (.L [])).B - (k0+1)=fy.B - (k0+1)by rw[Z6,lu])▸.mk _ _ z6 (jm.u k0 (.L [])) (by rw[Z6];lia) (_d9 i m4) j4 j1 hz6 (by rw[j3];show hy4) (((jg.I o5).I (Step.u (i:=i))).I (s4.I (s5.I j5))) ?_ hiS (hpn1.u hpn) (by rw[Z6];show hrS)]
   rwa [Z6,lu,show fy.B - (k0+1)=n from by lia]
 .let gh:k0=fy.B:=.q
  show .O #[#[xs,.O (.O d2),.q],?_];rw[gh,Nat.sub_self]at hea1;cases _aa hea1;let mm:=VV (i:=i) (x:=z) (s:=(.dp,.L fy)) m1 z1 z2;rw[z3,J4 o6]at mm;show k σ1 _ _ hpn1 mm w1.u (jg.I Step.u)
end
#where in
def _mL(h:PE X e (vX i))(hK:X.K=Z.K<|>Ŕ):QIS X Z true tg (xjo i) e:=λa9 s σ H R I am=>ex8 am λE L r m w hc xc k=>by
 show(_mF h) a9 s σ H R I ?_;unfold xjo at hc
 split at hc
 rotate_left
 .cases hc
 revert o ab hE
 split at hc
 rotate_left
 .cases hc
 revert ai;cases _aa hc;let#[x,a1,a2,a3,a4]:=m.get hE;let yk:=RepO.wk (w.ok x (vQ a1));rw[a3]at yk;let#[a,xs,bs,ev,rp,q4,eas]:=yk;let#[es,ep,g1,g2,g3,g4,g5,g6,g7]:=DcA.un q4 ai.2;let hln:ab.B=es.B:=by let:=congrArg List.B g5;simpa using this
 show#[x.v,a4,a,es,ep,ev,g1,g2,k _ _ rfl _ [] L H m (by rw[List.map_nil,Xz];show w) (by rw[List.map_nil,Xz];show Step.ñ) (by rw[X3];show ai.1) (λ_=>xq) #[λt ht=>(nomatch ht),λj H2 _ hs hj=>?_,λH2 _ hs=>?_,λj H2 v H3 d _ hs hy fh=>?_]]
 .show#[hs rfl _ _ g1,by rw[X3]at hj;omega]
 .show#[hs rfl _ _ g1,by rw[X3];symm]
 .let#[rfl,n,hn,rfl]:=hy;let hk:n.1.1=d:=by
   rw[g5,Xf,hn]at fh;show _aa fh
  subst hk;show#[#[.x,_,.J n.2.1,[]],rfl,rfl,rfl,xq,_ik (PuR.kp (as:=[]) (Kp.of_same (hs rfl)) (g6 n (Y5 hn))),λb hb=>(nomatch hb)]
end Q
namespace Q
open PySem
def _mM n (h:300<=n):10 ^ 70<2 ^ n:=Xv (show 10 ^ 70<2 ^ 240 by decide) (Nat.pow_le_pow_right .q .q)
def mul_l(h1:-18446744073709551616<a)(h2:a<18446744073709551616):KQ (o1,.E a) (o2,.E b)=@(.dp,.E (a*b)):=by
 let:Qk a b=true:=by
  let:W3 a=true:=by ext W3;rw[X8 (show -_<a by lia),X8 (show a<2 ^ 64 by lia)];rfl
  ext Qk;rw[this];rfl
 change(if Qk a b=true then _ else _)=_;rw[X7 this]
def mul_r(h1:-18446744073709551616<b)(h2:b<18446744073709551616):KQ (o1,.E a) (o2,.E b)=@(.dp,.E (a*b)):=by
 let:Qk a b=true:=by
  let:W3 b=true:=by ext W3;rw[X8 (show -(2 ^ 64)<b by lia),X8 (show b<2 ^ 64 by lia)];rfl
  ext Qk;rw[this,Bool.or_true];rfl
 change(if Qk a b=true then _ else _)=_;rw[X7 this]
def add_i:kw (o1,.E a) (o2,.E b)=@(.dp,.E (a+b)):=rfl
def sub_i:Q0 (.E a) (.E b)=@(.E (a - b)):=rfl
def div_i(h:0<b)(h2:b<10 ^ 70):Kv (.E a) (.E b)=@(.E (a / b)):=by
 let hb:b.natAbs.log2<9000:=by
  show(Nat.log2_lt (by grind)).y (J3 (show b.natAbs<10 ^ 70 by omega) (_mM 9000 (by simp)))
 change(if 0<b/\b.natAbs.log2<9000 then @_ else none).C _=_;rw[X7 #[h,hb]];rfl
def mod_i(h:0<b):v6 (.E a) (.E b)=@(.E (a % b)):=by
 change(if 0<b then @_ else none).C _=_;rw[X7 h];rfl
def Q2:fEq (.E a) (.E b)=@(.bl (a==b)):=rfl
def lt_ii:fLt (.E a) (.E b)=@(.bl (decide (a<b))):=rfl
def gt_ii:fGt (.E a) (.E b)=@(.bl (decide (b<a))):=rfl
def le_ii:fLe (.E a) (.E b)=@(.bl (decide (a<=b))):=rfl
def ge_ii:fGe (.E a) (.E b)=@(.bl (decide (b<=a))):=rfl
def WJ(h0:0<=i)(h:xs[i.S]?=@d):kQ (.L xs) (.E i)=@d:=by
 change((ixN xs.B i).bind λj=>xs[j]?)=@d;let hl:=(aF h).1;ext ixN
 rwa [X7 h0,X7 (by symm)]
def ix_t(h0:0<=i)(h:xs[i.S]?=@d):kQ (.X xs) (.E i)=@d:=by
 change((ixN xs.B i).bind λj=>xs[j]?)=@d;let hl:=(aF h).1;ext ixN
 rwa [X7 h0,X7 (by symm)]
def len_l:v8 (.L xs)=@(.E xs.B):=rfl
def len_t:v8 (.X xs)=@(.E xs.B):=rfl
def _mN(h1:o1≠.dp)(h2:o2≠.dp)(hl:a.B+b.B<10000):kw (o1,.L a) (o2,.L b)=@(.rt,.L (a++b)):=by
 change(if a.B+b.B<=big/\qV _/\qV _ then _ else _)=_;rw[X7 #[by ext big;lia,by cases o1<;>simp_all [qV],by cases o2<;>simp_all [qV]]]
def _mO(h1:o1≠.dp)(h0:0<=k)(hk:k<1000)(ha:a.B=1):KQ (o1,.L a) (o2,.E k)=@(.rt,.L (List.h k.S a).flatten):=by
 change(if -(2 ^ 63)<=k/\k<2 ^ 63/\a.B*k.S<=big/\qV (o1,.L a)then _ else _)=_;rw[X7 #[.q,.q,by rw[ha];ext big;lia,by cases o1<;>simp_all [qV]]]
def tup_l(h:o≠.dp):zV (o,.L xs)=@(.x,.X xs):=by
 change(if qV _ then _ else _)=_;rw[X7 (by cases o<;>simp_all [qV])]
abbrev XP:=Str->Prop
def nd(h:a=b):a=b:=h
@[irreducible] noncomputable def Eo (m:Option (Res α)) (P:En->α->Prop) (X:XP):Prop:=match m with
 |some (.ok E a)=>P E a|some (.exc _ c)=>X c|none=>False
@[irreducible] noncomputable def Vo (m:Option α) (P:α->Prop):Prop:=match m with
 |some a=>P a|none=>False
@[irreducible] noncomputable def Oo (f:Fn) (xs:List Sd) (P:Sd->Prop) (X:XP):Prop:=match f xs with
 |some (.ok _ y)=>P y|some (.exc _ c)=>X c|none=>False
@[irreducible] noncomputable def Po (r:Option Fl) (N C:En->Prop) (R:Sd->Prop) (X:XP):Prop:=match r with
 |some (.nx E)=>N E|some (.ct E)=>C E|some (.rt _ x)=>R x|some (.xc _ c)=>X c|_=>False
abbrev noX:XP:=λ_=>False
section
def QY:Eo @(.ok E a) P X=P E a:=nd (by ac_rfl)
def _mP:Eo none P X=False:=nd (by ac_rfl)
def k7:Eo (bnd m f) P X=Eo m (λE a=>Eo (f E a) P X) X:=by
 cases m with|none=>ac_rfl|some r=>cases r<;>ac_rfl
def vo_some:Vo @a P=P a:=nd (by ac_rfl)
def vo_map:Vo (x.C f) P=Vo x (λa=>P (f a)):=by cases x<;>ac_rfl
def J9:Eo (val E x) P X=Vo x (P E):=by cases x<;>ac_rfl
def _mQ:Po @(.nx E) N C R X=N E:=nd (by ac_rfl)
def zX:Po (ofE m f) N C R X=Eo m (λE a=>Po (f E a) N C R X) X:=by
 cases m with|none=>ac_rfl|some r=>cases r<;>ac_rfl
def _mR:Po (jk a b E) N C R X=Po (a E) (λE=>Po (b E) N C R X) C R X:=by
 ext jk Po;cases a E with|none=>ac_rfl|some r=>cases r<;>ac_rfl
def _mS:Po (x.C f) N C R X=Vo x (λa=>Po @(f a) N C R X):=by cases x<;>ac_rfl
def Eo.mono(h:Eo m P X)(k:∀E a,P E a->P' E a):Eo m P' X:=by
 cases m with
 |none=>exists h
 |some r=>cases r with|ok E a=>exists k E a h|exc E c=>exists h
def Oo.mono(h:Oo f xs P X)(k:∀y,P y->P' y):Oo f xs P' X:=by
 unfold Oo at h ⊢;cases hf:f xs with
 |none=>symm
 |some r=>rw[hf]at h;cases r with|ok E a=>exists k a h|exc E c=>symm
def Oo.out(h:Oo f xs P noX):∃E y,f xs=@(.ok E y)/\P y:=by
 unfold Oo at h;cases hf:f xs with
 |none=>symm
 |some r=>rw[hf]at h;cases r with|ok E a=>with_unfolding_all show#[E,a,rfl,h]|exc E c=>exists (h).ë
def q9(h:Po (b (xs.C some++List.h (n - xs.B) none)) (λ_=>P (.dp,.ç)) (λ_=>False) P X):Oo (fn n b) xs P X:=by
 ext Oo fn;unfold Po at h;cases hb:b _ with|none=>symm|some r=>rw[hb]at h;cases r<;>exists h
def _mT:Eo (jQ f cs E) P X=Eo (vK cs E) (λE xs=>Oo f (letAll xs) (P E) X) X:=by
 ext jQ;rw[k7]
 congr 1
 funext E xs;ext Oo;cases f _ with|none=>ac_rfl|some r=>cases r<;>ac_rfl
def _mU:Eo (YV f cs E) P X=Eo (vK cs E) (λE xs=>Oo f (letAll xs) (λy=>y.2.pure=true/\P E (.dp,y.2)) X) X:=by
 ext YV;rw[k7]
 congr 1
 funext E xs;ext Oo;cases f _ with
 | none=>ac_rfl
 | some r=>
  cases r with
  |exc=>ac_rfl
  |ok E1 y=>
   right
   by_cases hp:y.2.pure=true
   .rw[X7 hp];with_unfolding_all show propext #[λh=>#[hp,h],λh=>h.2]
   .rw[Xb hp];with_unfolding_all show propext #[λh=>(h).ë,λh=>hp h.1]
def _mV(d:D)(a b:Option α):Option α:=match d with
 |.bl k=>if k=true then a else b|_=>none
def _mW(a b:Ex):Wv a b E=bnd (a E) λE x=>_mV x.2 (b E) (@(.ok E (.dp,.bl false))):=by
 ext Wv _mV
 congr 1
 funext E x;cases x.2 with|bl k=>cases k<;>ac_rfl|_=>ac_rfl
def _mX(I:En->List D->Prop)(hs:∀E d ds,I E (d::ds)->Vo (tg.put d E) λE1=>Po (b E1) (λE2=>I E2 ds) (λE2=>I E2 ds) R X)(h1:∀E,I E []->N E):∀ds E,I E ds->Po (Q3 tg b ds E) N C R X
 | [],E,h=>by exists h1 E h
 | d::ds,E,h=>by
  let h2:=hs E d ds h;ext Q3;cases hp:tg.put d E with
  | none=>rw[hp]at h2;exists (h2).ë
  | some E1=>
   rw[hp]at h2;let h2:Po (b E1) (λE2=>I E2 ds) (λE2=>I E2 ds) R X:=by exists h2
   right;cases hb:b E1 with
   |none=>rw[hb]at h2;exists (h2).ë
   |some r=>
    rw[hb]at h2;cases r with|nx E2=>exists _mX I hs h1 ds E2 h2|ct E2=>exists _mX I hs h1 ds E2 h2|rt E2 x=>exists h2|xc E2 c=>exists h2|bk E2=>exists (h2).ë
def z8 I (h0:Eo (it E) I X)(hs:∀E d ds,I E (d::ds)->Vo (tg.put d E) λE1=>Po (b E1) (λE2=>I E2 ds) (λE2=>I E2 ds) R X)(h1:∀E,I E []->N E):Po (wJ it tg b E) N C R X:=by
 change Po (ofE _ λE ds=>Q3 tg b ds E) N C R X;rw[zX]
 exists h0.mono λE ds h=>_mX I hs h1 ds E h
def _mY(I:Nat->En->Prop)(hs:∀n E,I n E->Eo (t E) (λE1 k=>if k=true then Po (b E1) (λE2=>∃m,m<n/\I m E2) (λE2=>∃m,m<n/\I m E2) R X else N E1) X):∀n E,I n E->Po (K0 t b E) N C R X:=by
 intro n
 induction n using Nat.strongRecOn with
 | _ n ih=>
  intro E h;let h2:=hs n E h;rw [_dJ];ext whF;cases ht:t E with
  | none=>rw[ht]at h2;exists (h2).ë
  | some r=>
   rw [ht]at h2;cases r with
   | exc E1 c=>exists h2
   | ok E1 k=>
    cases k with
    | false=>exists h2
    | true=>
     let h2:Po (b E1) (λE2=>∃m,m<n/\I m E2) (λE2=>∃m,m<n/\I m E2) R X:=by exists h2
     right;cases hb:b E1 with
     |none=>rw[hb]at h2;exists (h2).ë
     |some r=>
      rw[hb]at h2;cases r with|nx E2=>show(show ∃m,m<n/\I m E2 by exists h2).ë λm hh=>ih m hh.1 E2 hh.2|ct E2=>show(show ∃m,m<n/\I m E2 by exists h2).ë λm hh=>ih m hh.1 E2 hh.2|rt E2 x=>exists h2|xc E2 c=>exists h2|bk E2=>exists (h2).ë
def _mZ(J:En->List D->List Sd->Prop)(hs:∀B d ds ae,J B (d::ds) ae->Vo (tg.put d B) λB1=>Eo (t B1) (λB2 k=>if k=true then Eo (c B2) (λB3 y=>J B3 ds (ae++[y])) X else J B2 ds ae) X)(h1:∀B ae,J B [] ae->P B ae):∀ds B ae,J B ds ae->Eo (lcL tg t c ds B ae) P X
 | [],B,ae,h=>by exists h1 B ae h
 | d::ds,B,ae,h=>by
  let h2:=hs B d ds ae h;ext lcL;cases hp:tg.put d B with
  | none=>rw[hp]at h2;exists (h2).ë
  | some B1=>
   rw[hp]at h2;let h2:Eo (t B1) (λB2 k=>if k=true then Eo (c B2) (λB3 y=>J B3 ds (ae++[y])) X else J B2 ds ae) X:=by exists h2
   rw[k7];show h2.mono λB2 k h3=>?_
   cases k with
   |false=>exists _mZ J hs h1 ds B2 ae h3
   |true=>
    change Eo (bnd _ _) P X;rw[k7]
    exists Eo.mono h3 λB3 y h4=>_mZ J hs h1 ds B3 _ h4
def Jx(J:En->En->List D->List Sd->Prop)(h0:Eo (it E) (λE1 ds=>J E1 (_dK k r E1) ds []) X)
  (hs:∀E1 B d ds ae,J E1 B (d::ds) ae->Vo (tg.put d B) λB1=>Eo (t B1) (λB2 k=>if k=true then Eo (c B2) (λB3 y=>J E1 B3 ds (ae++[y])) X else J E1 B2 ds ae) X) (h1:∀E1 B ae,J E1 B [] ae->Eo (mkL o (JW k r B E1) ae) P X):Eo (cLC o k r it tg t c E) P X:=by
 ext cLC;rw[k7];show h0.mono λE1 ds hJ=>?_
 let:=_mZ _ (hs E1) (h1 E1) ds _ _ hJ;cases hl:lcL tg t c ds _ []with|none=>rw[hl]at this;exists (this).ë|some q=>rw[hl]at this;cases q<;>exists this
end
def mulT_i:K7 (o1,.E a) y=KQ (o1,.E a) y:=by
 ext K7;ac_rfl
def mulT_l:K7 (o1,.L a) y=KQ (o1,.L a) y:=by
 ext K7;ac_rfl
def sl(q:Option (Option Sd)):Option Sd:=match q with
 |some @x=>@x|_=>none
def sl_some:sl @(@x)=@x:=nd (by ac_rfl)
def _m0(d:D)(a b:Prop):Prop:=match d with
 |.bl k=>if k=true then a else b|_=>False
def andP_bl:_m0 (.bl k) a b=if k=true then a else b:=nd (by ac_rfl)
def Wo(m:Option α)(E:En)(P:En->α->Prop):Prop:=Vo m (P E)
def wo_some:Wo @a E P=P E a:=vo_some
def wo_map:Wo (x.C f) E P=Wo x E (λE a=>P E (f a)):=vo_map
def Oe(f:Fn)(xs:List Sd)(E:En)(P:En->Sd->Prop)(X:XP):Prop:=Oo f xs (P E) X
def intP(d:D)(P:Int->Prop):Prop:=match d with
 |.E i=>P i|_=>False
def Ie(d:D)(E:En)(P:En->Int->Prop):Prop:=intP d (P E)
def ie_i:Ie (.E i) E P=P E i:=nd (by ac_rfl)
section
def w_seq:Po (jk a b (e::E)) N C R X=Po (a (e::E)) (λE=>Po (b E) N C R X) C R X:=_mR
def w_asg:Po (jx i c (e::E)) N C R X=Eo (c (e::E)) (λE x=>N (E.u i @x)) X:=by ext jx;rw[zX];ac_rfl
def w_ret:Po (kq c (e::E)) N C R X=Eo (c (e::E)) (λ_ x=>R x) X:=by ext kq;rw[zX];ac_rfl
def w_pass:Po (vY (e::E)) N C R X=N (e::E):=nd (by ac_rfl)
def w_if:Po (sIf t a b (e::E)) N C R X=Eo (t (e::E)) (λE k=>if k=true then Po (a E) N C R X else Po (b E) N C R X) X:=by
 ext sIf;rw[zX];congr 1;funext E k;cases k<;>ac_rfl
def w_tup:Po (_dD is c (e::E)) N C R X=Eo (c (e::E)) (λE x=>Vo (Tg.put (.t is) x.2 E) N) X:=by
 ext _dD;rw[zX];congr 1;funext E x;rw[_mS];ac_rfl
def w_vV:Eo (vV i (e::E)) P X=Wo (sl (e::E)[i]?) (e::E) P:=by
 ext vV Wo;cases(e::E)[i]? with|none=>ac_rfl|some q=>cases q<;>ac_rfl
def w_cV:Eo (cV i (e::E)) P X=Wo (sl (e::E)[i]?) (e::E) (λE x=>P (E.u i @(.x,x.2)) (.x,x.2)):=by
 ext cV Wo;cases(e::E)[i]? with|none=>ac_rfl|some q=>cases q<;>ac_rfl
def w_cMv:Eo (cMv i (e::E)) P X=Wo (sl (e::E)[i]?) (e::E) (λE x=>P (E.u i none) x):=by
 ext cMv Wo;cases(e::E)[i]? with|none=>ac_rfl|some q=>cases q<;>ac_rfl
def w_cC:Eo (cC d (e::E)) P X=P (e::E) (.dp,d):=nd (by ac_rfl)
def w_vE:Eo (vE c (e::E)) P X=Eo (c (e::E)) (λE x=>P E (.x,x.2)) X:=by ext vE;rw[k7];ac_rfl
def w_cH:Eo (cH c (e::E)) P X=Eo (c (e::E)) (λE x=>if x.1=.x then P E (.x,x.2)else if x.2.pure=true then P E (.dp,x.2)else False) X:=by
 ext cH;rw[k7]
 congr 1
 funext E x
 by_cases h:x.1=.x
 .rw[X7 h,X7 h];ac_rfl
 .rw[Xb h,Xb h]
  by_cases h2:x.2.pure=true
  .rw[X7 h2,X7 h2];ac_rfl
  .rw[Xb h2,Xb h2];ac_rfl
def w_f1:Eo (cF1 f a (e::E)) P X=Eo (a (e::E)) (λE x=>Wo (f x) E P) X:=by
 ext cF1;rw[k7];congr 1;funext E x;show J9
def w_f2:Eo (cF2 f a b (e::E)) P X=Eo (a (e::E)) (λE x=>Eo (b E) (λE y=>Wo (f x y) E P) X) X:=by
 ext cF2;rw[k7];congr 1;funext E x;rw[k7];congr 1;funext E y;show J9
def w_ix:Eo (jw a b (e::E)) P X=Eo (a (e::E)) (λE x=>Eo (b E) (λE y=>Wo (kQ x.2 y.2) E (λE d=>P E (sub x.1,d))) X) X:=by
 ext jw;rw[k7];congr 1;funext E x;rw[k7];congr 1;funext E y;rw[J9];show vo_map
def w_tE:Eo (tE c (e::E)) T X=Eo (c (e::E)) (λE x=>Wo (truth x.2) E T) X:=by
 ext tE;rw[k7];congr 1;funext E x;show J9
def w_tEQ:Eo (tEQ c (e::E)) T X=Eo (c (e::E)) (λE x=>Wo (truthQ x.2) E T) X:=by
 ext tEQ;rw[k7];congr 1;funext E x;show J9
def w_tNot:Eo (tNot t (e::E)) T X=Eo (t (e::E)) (λE k=>T E (!k)) X:=by ext tNot;rw[k7];ac_rfl
def w_tOr:Eo (tOr t u (e::E)) T X=Eo (t (e::E)) (λE k=>if k=true then T E true else Eo (u E) T X) X:=by
 ext tOr;rw[k7];congr 1;funext E k;cases k<;>ac_rfl
def w_tYes:Eo (tYes (e::E)) T X=T (e::E) true:=nd (by ac_rfl)
def w_cIf:Eo (cIf t a b (e::E)) P X=Eo (t (e::E)) (λE k=>if k=true then Eo (a E) P X else Eo (b E) P X) X:=by
 ext cIf;rw[k7];congr 1;funext E k;cases k<;>ac_rfl
def w_cAnd:Eo (Wv a b (e::E)) P X=Eo (a (e::E)) (λE x=>_m0 x.2 (Eo (b E) P X) (P E (.dp,.bl false))) X:=by
 rw[_mW,k7];congr 1;funext E x;cases x.2 with|bl k=>cases k<;>ac_rfl|_=>ac_rfl
def w_call:Eo (jQ f cs (e::E)) P X=Eo (vK cs (e::E)) (λE xs=>Oe f (letAll xs) E P X) X:=by exists _mT
def w_callB:Eo (YV f cs (e::E)) P X=Eo (vK cs (e::E)) (λE xs=>Oe f (letAll xs) E (λE y=>y.2.pure=true/\P E (.dp,y.2)) X) X:=by exists _mU
def w_idx:Eo (Wz a b (e::E)) P X=Eo (a (e::E)) (λE x=>if isSq x.2=true then Eo (b E) (λE y=>Wo (_g6 x.2 y.2) E (λE d=>P E (.dp,d))) X else False) X:=by
 ext Wz;rw[k7];congr 1;funext E x;cases isSq x.2 with
 |false=>ac_rfl
 |true=>
  change Eo (bnd _ _) P X=_;rw[k7]
  congr 1;funext E y;rw[J9];show vo_map
def w_itS:Eo (itS c (e::E)) P X=Eo (c (e::E)) (λE x=>Wo (seqOf x.2) E P) X:=by
 ext itS;rw[k7]
 congr 1
 funext E x;show J9
def w_itEn:Eo (xjp c (e::E)) P X=Eo (c (e::E)) (λE x=>Wo (lstOf x.2) E (λE ds=>P E (xx 0 ds))) X:=by
 ext xjp;rw[k7]
 congr 1
 funext E x;rw[J9];show vo_map
end
def args_nil:Eo (vK [] (e::E)) P X=P (e::E) []:=nd (by ac_rfl)
def args_cons:Eo (vK (c::cs) (e::E)) P X=Eo (c (e::E)) (λE x=>Eo (vK cs E) (λE xs=>P E (x::xs)) X) X:=by
 change Eo (bnd _ λE x=>bnd _ λE xs=>@_) P X=_;rw[k7]
 congr 1
 funext E x;rw[k7]
 ac_rfl
def eo_tup:Eo (jZ .x cs (e::E)) P X=Eo (vK cs (e::E)) (λE xs=>P E (.x,.X (xs.C (·.2)))) X:=by
 ext jZ;rw[k7]
 ac_rfl
def eo_lst:Eo (k9 .rt cs (e::E)) P X=Eo (vK cs (e::E)) (λE xs=>P E (.rt,.L (xs.C (·.2)))) X:=by
 ext k9;rw[k7]
 ac_rfl
def _m1(h:Eo (c E) (λE x=>∃n,x.2=.E n/\n<=1000/\-1000<=n/\P E (jV 0 n)) X):Eo (ww c E) P X:=by
 ext ww;rw[k7];show h.mono ?_;rintro E ⟨o,d⟩ ⟨n,rfl,h1,h2,h3⟩;let:kY n=true:=by ext kY;rw[X8 .q,X8 .q];ac_rfl
 change Eo (if kY n=true/\n.S<=big then _ else _) P X;rw[X7 #[this,by ext big;lia]]
 exists h3
def _m2(h:Eo (c E) (λE x=>Eo (c' E) (λE y=>∃m n:Int,x.2=.E m/\y.2=.E n/\n<=1000/\-1000<=n/\m<=1000/\-1000<=m/\P E (jV m n)) X) X):Eo (Wj c c' E) P X:=by
 ext Wj;rw[k7];show h.mono ?_;rintro E ⟨o,d⟩ h;rw[k7];show h.mono ?_;rintro E ⟨o',d'⟩ ⟨m,n,e1,rfl,h1,h2,h3,h4,h5⟩;subst e1;let a1:kY n=true:=by ext kY;rw[X8 .q,X8 .q];ac_rfl
 let a2:kY m=true:=by ext kY;rw[X8 .q,X8 .q];ac_rfl
 change Eo (if kY m=true/\kY n=true/\(n - m).S<=big then _ else _) P X;rw[X7 #[a2,a1,by ext big;lia]]
 exists h5
def _m3(h0:E[i]?=some @(o,.L xs))
  (h:Eo (c E) (λE1 x=>∃o ys,E1[i]?=some @(o,.L ys)/\o≠.x/\ys.B<10000/\N (E1.u i @(if o=.dp/\qz x then .dp else .rt,.L (ys++[x.2])))) X):Po (v0 qY i c E) N C R X:=by
 ext v0;rw[h0,X7 (show Wx _=true from rfl),zX];show h.mono ?_;rintro E1 x ⟨o,ys,h1,h2,h3,h4⟩;rw[h1];right;let hg:qY ys x.2=@(ys++[x.2]):=by ext qY;rw[X7 (by ext big;lia)]
 rw[Xb h2,hg]
 exists h4
def wQ(h0:E[i]?=some @(.rt,.L xs))
  (h:Eo (c E) (λE1 x=>∃ys,E1[i]?=some @(.rt,.L ys)/\ys.B<10000/\N (E1.u i @(.rt,.L (ys++[x.2])))) X):Po (v0 qY i c E) N C R X:=
 _m3 h0 (h.mono λE1 x hz=>by let#[ys,h1,h2,h3]:=hz;show#[.rt,ys,h1,.q,h2,by rw[];exists h3])
def rng_ok(h1:-1000<=n)(h2:n<=1000):(kY n=true/\n.S<=big)=True:=by
 let:kY n=true:=by ext kY;rw[X8 .q,X8 .q];ac_rfl
 with_unfolding_all show eq_true #[this,by ext big;lia]
def rng2_ok(h1:-1000<=n)(h2:n<=1000)(h3:-1000<=m)(h4:m<=1000):(kY m=true/\kY n=true/\(n - m).S<=big)=True:=by
 let a1:kY n=true:=by ext kY;rw[X8 .q,X8 .q];ac_rfl
 let a2:kY m=true:=by ext kY;rw[X8 .q,X8 .q];ac_rfl
 with_unfolding_all show eq_true #[a2,a1,by ext big;lia]
def _m4[Decidable p]:Eo (if p then a else none) P X=(p/\Eo a P X):=by
 by_cases h:p
 .symm
 .rw[Xb h];with_unfolding_all show propext #[λz=>z.ë,λz=>h z.1]
def w_R1:Eo (ww c (e::E)) P X=Eo (c (e::E)) (λE x=>Ie x.2 E λE n=>(kY n=true/\n.S<=big)/\P E (jV 0 n)) X:=by
 ext ww;rw[k7];congr 1;funext E x;cases x.2 with|int n=>exists _m4|_=>ac_rfl
def w_LR1:Eo (W8 c (e::E)) P X=Eo (c (e::E)) (λE x=>Ie x.2 E λE n=>(kY n=true/\n.S<=big)/\P E (.rt,.L (jV 0 n))) X:=by
 ext W8;rw[k7];congr 1;funext E x;cases x.2 with|int n=>exists _m4|_=>ac_rfl
def w_R2:Eo (Wj c c' (e::E)) P X=Eo (c (e::E)) (λE x=>Eo (c' E) (λE y=>Ie x.2 E λE m=>Ie y.2 E λE n=>(kY m=true/\kY n=true/\(n - m).S<=big)/\P E (jV m n)) X) X:=by
 ext Wj;rw[k7];congr 1;funext E x;rw[k7];congr 1;funext E y;cases x.2 with
 |int m=>cases y.2 with|int n=>exists _m4|_=>ac_rfl
 |_=>ac_rfl
def _m5(h:ys.all qz=true):Eo (mkL .dp E ys) P X=P E (.dp,.L (ys.C (·.2))):=by
 ext mkL;rw[X7 h];ac_rfl
def sub_no:sub .x=.x:=nd (by ac_rfl)
def Oo.use{g:ι->Sd}{S:ι->Prop}(h:Oo f xs (λy=>∃i,y=g i/\S i) X)(k:∀i,S i->P E (g i)):Oe f xs E P X:=h.mono λy hz=>by let#[i,e,s]:=hz;show e▸k i s
def Oo.via(h:Oo f xs S X)(k:∀y,S y->P E y):Oe f xs E P X:=h.mono k
def vj:Eo (mkL .rt E ys) P X=P E (.rt,.L (ys.C (·.2))):=nd (by ac_rfl)
def w_zip:Eo (vwq c d (e::E)) P X=Eo (c (e::E)) (λE x=>Eo (d E) (λE y=>Wo ((lstOf x.2).bind λxs=>(lstOf y.2).bind λys=>if xs.B<=big then @(Kj xs ys)else none) E P) X) X:=by
 ext vwq;rw[k7];congr 1;funext E x;rw[k7];congr 1;funext E y;show J9
section
def _m6(h:Eo (vc E) (λE1 v=>g0 E1[i]?=true/\Eo (kc E1) (λE2 k=>∃s d,E2[i]?=some @s/\g s k.2 v.2=@d/\N (E2.u i @(.rt,d))) X) X):Po (_dL g0 g i kc vc E) N C R X:=by
 ext _dL;rw[zX];show h.mono λE1 v hz=>?_
 rw[X7 hz.1,zX];show hz.2.mono λE2 k hz=>?_
 let#[s,d,e2,h3,h4]:=hz;rw[e2];right
 rwa [h3,Option.map_some,_mQ]
end
def _m7(h:ab.B<=10000)(hu:unm ab=true):_g8 (o,.dct ab)=@(.rt,.L (ab.C (·.1))):=by
 ext _g8;right;rw[X7 #[by ext big;lia,hu]]
def _m8(h:kZ x=true)(hu:unm ab=true):V0 x (.dct ab)=@(.bl (!decide (x>ab.C (·.1)))):=by
 ext V0;right;rw[X7 #[h,hu]]
section
def _m9:Eo (_hd a b (e::E)) P X=Eo (a (e::E)) (λE x=>Eo (b E) (λE y=>Wo (_hc x.2 y.2) E (λE d=>P E (.dp,d))) X) X:=by
 ext _hd;rw[k7];congr 1;funext E x;rw[k7];congr 1;funext E y;rw[J9];show vo_map
def _na:Eo (vwr c (e::E)) P X=Eo (c (e::E)) (λE x=>Wo (_hf x.2) E (λE ds=>P E (xx 0 ds))) X:=by
 ext vwr;rw[k7];congr 1;funext E x;rw[J9];show vo_map
def _nb(h:E[i]?=some @(o,.L ds))(hp:D.pures ds=true)(k:P E ds):Eo (itV i E) P X:=by
 ext itV;rw[h];right
 rwa [X7 hp,QY]
def _lq(h:Eo (vc E) (λE1 v=>Wx E1[i]?=true/\Eo (kc E1) (λE2 k=>∃(o:Own) (xs:List D) (j:Int) (n:Nat),E2[i]?=some @(o,.L xs)/\o≠.x/\k.2=.E j/\ixN xs.B j=@n/\N (E2.u i @(.rt,.L (xs.u n v.2)))) X) X):Po (ZQ i kc vc E) N C R X:=by
 show _m6 (h.mono λE1 v hz=>#[hz.1,hz.2.mono λE2 k hz=>?_]);let#[o,xs,j,n,e2,ho,hk,hn,h4]:=hz;show#[_,_,e2,by ext _ha;rw[hk];right;rw[Xb ho,hn];rfl,h4]
end
def _nc:W4 (.E k) (Qx kv)=@(.bl (jY kv k).isSome):=by
 ext W4;rw[_iI]
def _nd(h:jY kv k=@v):_hc (Qx kv) (.E k)=@(.E v):=by
 ext _hc;rw[_iI];right;rw[h];rfl
def _ne{ps:List (Int×Int)}(h:ps.B<10000):_he (o,.L (ps.C λp=>D.X [.E p.1,.E p.2]))=@(.rt,Qx (ps.foldl (λkv p=>qW kv p.1 p.2) [])):=by
 ext _he;right;rw[_i7];right;rw[X7 (by ext big;lia)]
section
def _nf(h:Eo (vc E) (λE1 v=>_hg E1[i]?=true/\Eo (kc E1) (λE2 k=>∃ab,E2[i]?=some @(.dp,.dct ab)/\(kZ k.2=true/\ab.B<10000/\unm ab=true/\KK v=true/\k.2∉ab.C (·.1))/\N (E2.u i @(.dp,.dct (ab++[(k.2,v.2)])))) X) X):Po (_hh i kc vc E) N C R X:=by
 ext _hh;rw[zX];show h.mono ?_;rintro E1 v ⟨e1,h1⟩;rw[X7 e1,zX];show h1.mono ?_;rintro E2 k ⟨ab,e2,hc,h4⟩;rw[e2];right;rw[X7 #[hc.1,by ext big;lia,hc.2.2],_mQ];show h4
end
section
def _ng:Eo (_hi c (e::E)) P X=Eo (c (e::E)) (λE x=>KK x=true/\P E (.dp,x.2)) X:=by
 ext _hi;rw[k7];congr 1;funext E x;rw[_m4,QY]
def _nh:Eo (YW c (e::E)) P X=Eo (c (e::E)) (λ_ x=>x.2.pure=true/\P (e::E) (.dp,x.2)) X:=by
 ext YW;rw[k7];congr 1;funext E x;rw[_m4,QY]
def _ni(h0:E[i]?=some @(.dp,d))(nj:D.at p d=@(.L ds))(h:N (E.u i @(.dp,D.put (.L []) p d))):Po (sPC i p E) N C R X:=by
 ext sPC;rw[h0];right;rw[nj];right;rw[_mQ];show h
end
def _nj(h0:E[i]?=some @(.rt,.L xs))
  (h:Eo (c E) (λE1 x=>∃ys zs,E1[i]?=some @(.rt,.L ys)/\x.2=.L zs/\x.1≠.x/\ys.B+zs.B<10000/\N (E1.u i @(.rt,.L (ys++zs)))) X):Po (_kW i c E) N C R X:=by
 ext _kW;rw[h0,X7 (show Wx @(@(Own.rt,D.L xs))=true from rfl),zX];show h.mono λE1 x #[ys,zs,h1,h2,h3,h4,h5]=>?_
 rw[h1,h2];right;let hn:¬(Own.rt=.x\/x.1=.x\/¬ys.B+zs.B<big):=by
  rintro (z|z|z)
  .cases z
  .show h3 z
  .show z (by ext big;lia)
 rw[Xb hn,_mQ];show h5
end Q
namespace C
open PySem Q
def m_read_by:Fn:=fn 8
  (jk (sIf (tOr (tE (cF2 (f2First fIsNon) (vV 1) (vE (cC .ç)))) (tE (cF2 (pu2 V1) (vV 2) (jw (vV 0) (C9 0))))) (kq (cC .ç)) vY)
  (jk (jx 4 (cH (jw (vV 1) (C9 1))))
  (jk (jx 5 (cH (jw (jw (jw (jw (vV 0) (C9 1)) (jw (vV 1) (C9 0))) (C9 2)) (vE (Wz (jw (vV 0) (C9 0)) (vV 2))))))
  (jk (jx 6 (cH (jw (vV 5) (vE (cIf (tE (cF2 (pu2 Jz) (vV 3) (vV 4))) (Wz (vV 4) (vV 3)) (cF1 (pu1 v8) (vV 4)))))))
  (jk (sIf (tE (cF2 (f2First fIsNon) (vV 6) (vE (cC .ç)))) (kq (cC .ç)) vY)
  (jk (jx 7 (cF2 kw (vV 4) (vE (jZ .x [(cV 3)]))))
  (kq (jZ .x [(cH (jw (vV 6) (C9 0))),(cF1 zV (vE (cLC .rt 1 [7] (itS (cH (jw (vV 6) (C9 1)))) (.n 0) tYes (cH (jw (vV 1) (vV 0))))))]))))))))
end C
local macro_rules
 | `(tactic| simp![$ts,*])=>do
  let f:=λ(p s:String)=>((s.splitOn " ").map λs=>Lean.mkIdent (p++s).toName).toArray
  let a:=f "_root_.Q." "w_seq w_asg w_ret w_pass w_if w_tup w_vV w_cV w_cMv w_cC w_vE w_cH w_f1 w_f2 w_ix w_tE w_tEQ w_tNot w_tOr w_tYes w_cIf w_cAnd w_call w_callB w_idx w_itS w_itEn w_zip w_R1 w_R2 w_LR1 ie_i andP_bl vo_some vo_map wo_some wo_map args_nil args_cons eo_tup eo_lst"
  let b:=f "_root_." "Q.rng_ok Q.rng2_ok true_and Q.isSq Q.sl_some Q.letAll Q.pu2 Q.pu1 Q.f2First Q.fIsNon Q.isNon List.map_cons List.map_nil List.cons_append List.nil_append _a.Xn List.length_nil _a.X3 List.replicate List.set_cons_zero List.set_cons_succ List.getElem?_cons_zero List.getElem?_cons_succ Q.len_l Q.len_t Q.lt_ii Q.gt_ii Q.le_ii Q.ge_ii Q.add_i Q.sub_i Q.div_i Q.mod_i Q.mulT_i Q.mulT_l Q.mul_l Q.mul_r Option.map_some Q.truth Q.truthQ Q.D.pure if_true if_false ite_true ite_false Q.sub_no Bool.false_eq_true Bool.not_true Bool.not_false Q.Tg.put Q.setAll Q.seqOf Q.lstOf"
  `(tactic| simp(config:={maxSteps:=1000000,failIfUnchanged:=false,implicitDefEqProofs:=true}) (disch:=lia) only[$[↓$a:ident],*,$[$b:ident],*,Nat.reduceAdd,Nat.reduceSub,↓reduceIte,reduceCtorEq,$ts,*])
namespace C
open Q PySem
abbrev most:Int:=1000*10 ^ 64
abbrev iL(ns:List Int):D:=.L (ns.C D.E)
def Each(G:D->Sd->Prop):List D->List Sd->Prop
 |[],[]=>True|d::ds,y::ys=>G d y/\Each G ds ys|_,_=>False
def Each.snoc(h:G d y):∀{ds ys},Each G ds ys->Each G (ds++[d]) (ys++[y])
 |[],[],_=>#[h,trivial]|_::_,_::_,r=>#[r.1,Each.snoc h r.2]
def xV(af:En) G (h0:Eo (it E) (λE1 ds=>r.C (at' E1)=af/\(∀d>ds,Eo (c (@(.x,d)::af)) (λB y=>(∃q,B=q::af)/\G d y) X)/\∀ys,Each G ds ys->Eo (mkL o (back r af (clr r E1)) ys) P X) X):Eo (cLC o 1 r it (.n 0) tYes c E) P X:=by
 show Jx (λE1 B jm ae=>∃ds fy q,ds=fy++jm/\B=q::af/\Each G fy ae/\(∀d>ds,Eo (c (@(.x,d)::af)) (λB y=>(∃q,B=q::af)/\G d y) X)/\∀ys,Each G ds ys->Eo (mkL o (back r af (clr r E1)) ys) P X) ?_ ?_ ?_
 .show h0.mono λE1 ds hz=>by let#[h1,h2,h3]:=hz;show#[ds,[],none,rfl,by rw[<-h1];rfl,trivial,h2,h3]
 .rintro E1 B d jm ae ⟨ds,fy,q,e,rfl,hE,h2,h3⟩;let hp:(Tg.n 0).put d (q::af)=@_:=rfl;rw[hp,vo_some,show tYes _=@_ from rfl,QY];show(h2 d (by rw[e];simp)).mono ?_;rintro B y ⟨⟨q',rfl⟩,hG⟩;show#[ds,fy++[d],q',by rw[e];simp,rfl,hE.snoc hG,h2,h3]
 .rintro E1 B ae ⟨ds,fy,q,e,rfl,hE,h2,h3⟩;rw[Xz]at e;subst e;show h3 ae hE
def _nk:jV n n=[]:=by ext jV;rw[Int.sub_self];rfl
def _nl(h:k<n):jV k n=.E k::jV (k+1) n:=by
 ext jV;let:(n - k).S=(n - (k+1)).S+1:=by
  let#[m,hm]:=Yx (show 0<=n - (k+1)by lia);rw[hm,show n - k=(m+1:Nat)by lia];rfl
 rw[this,List.range_succ_eq_map,List.l,Xg]
 congr 1
 .simp
 .apply Xw;intro i _
  grind
def _nm(hk:k<=n)(h:d::ds=jV k n):k<n/\d=.E k/\ds=jV (k+1) n:=by
 by_cases hl:k<n
 .rw[_nl hl]at h;injection h with h1 h2;show#[hl,h1,h2]
 .let:k=n:=.q
  subst this;rw[_nk]at h
  symm
def _nn(hk:k<=n)(h:[]=jV k n):k=n:=by
 by_cases hl:k<n
 .rw[_nl hl]at h;cases h
 .lia
def VY(h:d>jV k n):∃i,k<=i/\i<n/\d=.E i:=by
 let#[j,hj,rfl]:=aE h;let:=List.á.mp hj;show#[k+j,.q,by omega,rfl]
def _bO z i (h0:0<=i)(h1:i<z.cps.M):∃c,kQ (.ã z) (.E i)=@(.ã #[%[c|0]]):=by
 let:i.S<z.cps.R.B:=by rw[Xm];symm
 show#[z.cps.R[i.S],?_];change((ixN z.cps.M i).bind λj=>(z.cps.R[j]?).C λc=>D.ã #[%[c|0]])=_;ext ixN;rw[X7 h0,X7 h1];change((z.cps.R[i.S]?).C λc=>D.ã #[%[c|0]])=_;rw[X1 this];rfl
def _no(h:a.cps.M+b.cps.M<=10000):kw (o1,.ã a) (o2,.ã b)=@(.dp,.ã (a++b)):=by
 change(if a.cps.M+b.cps.M<=big then _ else _)=_;rw[X7 (by ext big;lia)]
def _np:∀ss,KZ (ss.C D.ã)=@ss
 |[]=>rfl|s::ss=>by rw[List.l,KZ,_np ss];rfl
abbrev sL(ss:List Str):D:=.L (ss.C D.ã)
def xK:∀{ks},(∀k>ks,k.flat n=true)->D.flats n ks=true
 |[],_=>by cases n<;>rfl|k::ks,h=>by rw[D.flats,h k X2,xK λe he=>h e (_ad _ he)];rfl
mutual
theorem _e8:∀{n} (d),d.flat n=true->peq d d=true
 |n,.non,_=>by simp[peq]|n,.bl b,_=>by simp[peq]|n,.int b,_=>by simp[peq]|n,.str b,_=>by simp[peq]|n+1,.tup xs,h=>peqs_refl xs (by simpa [D.flat]using h)|n+1,.lst xs,h=>peqs_refl xs (by simpa [D.flat]using h)|n,.dct _,h=>by cases n<;>simp[D.flat]at h|n,.obj _ _,h=>by cases n<;>simp[D.flat]at h
theorem peqs_refl:∀{n} ds,D.flats n ds=true->peqs ds ds=true
 |_,[],_=>by rfl
 |n,d::ds,h=>by
  rw[D.flats,Bool.and_eq_true]at h;rw[peqs,_e8 d h.1,peqs_refl ds h.2];rfl
end
def _nq(h:d.flat 40=true):fEq d d=@(.bl true):=by ext fEq;rw[h,_e8 d h];rfl
def _nr(h:d.flat 40=true):fNe d d=@(.bl false):=by ext fNe;rw[h,_e8 d h];rfl
def p0(a b:D):kQ (.X [a,b]) (.E 0)=@a:=rfl
def p1(a b:D):kQ (.X [a,b]) (.E 1)=@b:=rfl
def t0(a b c:D):kQ (.X [a,b,c]) (.E 0)=@a:=rfl
def t1(a b c):kQ (.X [a,b,c]) (.E 1)=@b:=rfl
def t2(a b c):kQ (.X [a,b,c]) (.E 2)=@c:=rfl
def x5(hG:∀d y,G d y->y.2=h d):∀{ds ys},Each G ds ys->ys.C (·.2)=ds.C h
 |[],[],_=>rfl|d::ds,y::ys,r=>by rw[List.l,List.l,hG d y r.1,x5 hG r.2]
abbrev jv(ss:List Str)(rs:List D):D:=.X [sL ss,.L rs]
def _ns{α:Type}[DecidableEq α]:∀{l m:List α},l.U->(∀x>l,x>m)->l.B<=m.B
 |[],_,_,_=>Y6 _
 |a::l,m,nd,h=>by
  rw[Yh]at nd;let ha:=h a X2;let:=_ns nd.2 λx hx=>(List.mem_erase_of_ne (by rintro rfl;show nd.1 hx)).y (h x (_ad _ hx))
  grind
def _nt{G:D->Sd->Prop}(hG:∀d y,G d y->y.2=d){ds:List D}{ys:List Sd}(h:Each G ds ys):ys.C (·.2)=ds:=by
 rw[x5 (h:=id) hG h,List.map_id]
def _nu{z ss}:V1 (.ã z) (sL ss)=@(.bl (!ss.any λw=>w==z)):=by
 change Wk _ _=_;ext Wk;let:fIn (.ã z) (sL ss)=@(.bl (ss.any λw=>w==z)):=by
  change(if(D.ã z).flat 30&&D.flats 30 _ then @_ else none)=_;rw[xK (λk hk=>by let#[w,_,rfl]:=aE hk;rfl),List.any_map];rfl
 rw[this];rfl
def _nv:Jz (.E p) (iL ks)=@(.bl (ks.any λw=>w==p)):=by
 change(if(D.E p).flat 30&&D.flats 30 _ then @_ else none)=_;rw[xK (λk hk=>by let#[w,_,rfl]:=aE hk;rfl),List.any_map];rfl
def _nw{ks:List Int}:Jz (.E p) (.X (ks.C D.E))=@(.bl (ks.any λw=>w==p)):=by
 change(if(D.E p).flat 30&&D.flats 30 _ then @_ else none)=_;rw[xK (λk hk=>by let#[w,_,rfl]:=aE hk;rfl),List.any_map];rfl
def YK{ks:List Int}:(ks.any λw=>w==p)=decide (p>ks):=by
 rw[Bool.eq_iff_iff];simp
def V4(own k:Int):Int:=own+(if k=own then 1 else 0)
def Cs(aa:List Int)(b:Int)(c:D):Prop:=c=.ç\/∃(to:Int) (fs:List Int),c=.X [.E to,.X (fs.C D.E)]/\0<=to/\to<aa.B/\(∀f>fs,0<=f/\f<b)/\fs.U/\(fs.B:Int)=aa.p to.S 0
def Pr(aa:List Int)(n:Nat)(own:Int)(d:D):Prop:=∃(gd:Bool) (st:List D),d=.X [.E own,.bl gd,.L st]/\st.B=n/\∀c>st,∃cs:List D,c=.L cs/\(cs.B:Int)=own+1/\∀k:Nat,k<cs.B->∃z,cs[k]?=@z/\Cs aa (V4 own k) z
def Prs(aa:List Int)(n:Nat)(rs:List D):Prop:=rs.B=aa.B/\∀i:Nat,i<aa.B->∃r,rs[i]?=@r/\Pr aa n (aa.p i 0) r
def Ps(r:D):Prop:=∃(own:Int) (gd:Bool) (st:List D),r=.X [.E own,.bl gd,.L st]/\∀c>st,∃cs:List D,c=.L cs/\∀z>cs,z=.ç\/∃(to:Int) (fs:List Int),z=.X [.E to,.X (fs.C D.E)]
def Prs.ps(h:Prs aa n rs):∀r>rs,Ps r:=λr hr=>by
 let#[i,hi,e]:=Yu hr;let#[r',e',gd,st,h1,h2,h3]:=h.2 i (h.1▸hi);rw[X1 hi,e]at e';cases e';show#[_,gd,st,h1,λc hc=>?_];let#[cs,g1,g2,g3]:=h3 c hc;show#[cs,g1,λz hz=>?_];let#[k,hk,ek]:=Yu hz;let#[z',e2,ji]:=g3 k hk;rw[X1 hk,ek]at e2;cases e2;let rfl\/#[to,fs,rfl,_]:=ji
 .show .O rfl
 .show .Z #[to,fs,rfl]
def _nx:∀{l:List α},l.any p=true->l.findIdx? p=@(l.ß p)
 | [],h=>by cases h
 | a::l,h=>by
  rw[List.findIdx?_cons,Zv];cases hp:p a with
  |true=>rfl
  |false=>
   rw[List.any_cons,hp]at h;rw[_nx h];rfl
def _ny{l:List α}(h:l.any p=true):l.ß p<l.B:=by
 let#[x,hx,hp]:=List.any_eq_true.mp h;show Yv #[x,hx,hp]
def _nz{l:List α}(h:l.any p=false):l.ß p=l.B:=by
 rw[List.findIdx_eq_length];intro x hx;cases hp:p x with|false=>rfl|true=>rw[List.any_eq_true.y #[x,hx,hp]]at h;cases h
def _nA(h:(ss.any λw=>w==z)=true):_g6 (sL ss) (.ã z)=@(.E (ss.ß λw=>w==z:Nat)):=by
 change(if(D.ã z).flat 30&&D.flats 30 _ then((ss.C D.ã).findIdx? λw=>peq w _).C λ(j:Nat)=>D.E j else none)=_;rw[xK (λk hk=>by let#[w,_,rfl]:=aE hk;rfl),List.findIdx?_map];let:ss.findIdx? ((λw=>peq w (.ã z))∘D.ã)=ss.findIdx? λw=>w==z:=rfl
 rw[this,_nx h];rfl
def _nB{ks:List Int}(h:(ks.any λw=>w==p)=true):_g6 (.X (ks.C D.E)) (.E p)=@(.E (ks.ß λw=>w==p:Nat)):=by
 change(if(D.E p).flat 30&&D.flats 30 _ then((ks.C D.E).findIdx? λw=>peq w _).C λ(j:Nat)=>D.E j else none)=_;rw[xK (λk hk=>by let#[w,_,rfl]:=aE hk;rfl),List.findIdx?_map];let:ks.findIdx? ((λw=>peq w (.E p))∘D.E)=ks.findIdx? λw=>w==p:=rfl
 rw[this,_nx h];rfl
def _nC(hl:a.B+b.B<=10000):kw (.x,.X a) (.x,.X b)=@(.x,.X (a++b)):=by
 change(if a.B+b.B<=big/\qV _/\qV _ then _ else _)=_;rw[X7 #[by ext big;lia,rfl,rfl]]
abbrev iT(ks:List Int):D:=.X (ks.C D.E)
def nameAt(ks:List Int)(p:Int)(f:Int):Int:=(ks++[p]).p f.S 0
def V8(ks:List Int)(p:Int)(c:D):D:=match c with
 |.X [to,.X fs]=>.X [to,.X (fs.C λf=>match f with|.E i=>.E (nameAt ks p i)|_=>.ç)]
 |_=>.ç
def caseD_is:V8 ks p (.X [.E to,iT fs])=.X [.E to,iT (fs.C (nameAt ks p))]:=by
 ext V8 iT;simp
def zw(ss:List Str)(st:List D)(ks:List Int)(z:Str)(p:Int):D:=match st[ss.ß λw=>w==z]? with
 |some (.L cs)=>cs.p (ks.ß λw=>w==p) .ç|_=>.ç
def wX(ss:List Str)(st:List D)(ks:List Int)(z:Str)(p:Int):D:=if(ss.any λw=>w==z)=true then V8 ks p (zw ss st ks z p)else .ç
def Cas(aa:List Int)(n:Nat)(own:Int)(st:List D):Prop:=st.B=n/\∀c>st,∃cs:List D,c=.L cs/\(cs.B:Int)=own+1/\∀k:Nat,k<cs.B->∃z,cs[k]?=@z/\Cs aa (V4 own k) z
def zY{ks:List Int}:(ks.ß λw=>w==p)<=ks.B:=List.findIdx_le_length
def _nD p (h:Cas aa ss.B ks.B st)(hz:(ss.any λw=>w==z)=true):∃cs,st[ss.ß λw=>w==z]?=@(.L cs)/\(cs.B:Int)=ks.B+1/\cs[ks.ß λw=>w==p]?=@(zw ss st ks z p)/\Cs aa (V4 ks.B (ks.ß λw=>w==p:Nat)) (zw ss st ks z p):=by
 let hj:(ss.ß λw=>w==z)<st.B:=by rw[h.1];show _ny hz
 let#[cs,e,hl,hc]:=h.2 st[ss.ß λw=>w==z] (Xr hj);let hg:st[ss.ß λw=>w==z]?=@(.L cs):=by rw[X1 hj,e]
 let gz:=zY (ks:=ks) (p:=p);let#[c,e2,hC]:=hc (ks.ß λw=>w==p) (by omega);let hca:zw ss st ks z p=c:=by ext zw;rw[hg];right;rw[X6,e2];rfl
 show#[cs,hg,hl,by rw[hca];show e2,by rw[hca];show hC]
def _nE(h0:0<=f)(h1:f<=ks.B):kQ (.X (ks.C D.E++[.E p])) (.E f)=@(.E (nameAt ks p f)):=by
 show ix_t h0 ?_;rw[show ks.C D.E++[D.E p]=(ks++[p]).C D.E by simp,Xf];ext nameAt;rw[X6,X1 (by simp;lia)];rfl
def _nF:V4 own k<=own+1:=by ext V4;split<;>lia
def _nG{a0 a1 a2 a5 a6 a7 o3 o4 ks p P X}:Eo (cIf (tE (cF2 (pu2 Jz) (vV 3) (vV 4))) (Wz (vV 4) (vV 3)) (cF1 (pu1 v8) (vV 4)) [a0,a1,a2,@(o3,.E p),@(o4,iT ks),a5,a6,a7]) P X=P [a0,a1,a2,@(o3,.E p),@(o4,iT ks),a5,a6,a7] (.dp,.E (ks.ß λw=>w==p:Nat)):=by
 cases hp:(ks.any λw=>w==p)with|true=>simp![_nw,hp,_nB hp]|false=>simp![_nw,hp,_nz hp]
def _nH(h0:0<=room)(hr:rs[room.S]?=@(.X [kp,gd,.L st]))(hc:Cas aa ss.B ks.B st)(hl:ks.B<=1000):
  Oo m_read_by [(.x,jv ss rs),(.x,.X [.E room,iT ks]),(.x,.ã z),(.x,.E p)] (λy=>y.2=wX ss st ks z p) noX:=by
 let hi:kQ (.L rs) (.E room)=@(.X [kp,gd,.L st]):=WJ h0 hr;let hif:=λa5 a6 a7 P=>@@_nG @(.x,jv ss rs) @(.x,.X [.E room,iT ks]) @(.x,.ã z) a5 a6 a7 .x .x ks p P noX
 ext wX m_read_by;generalize cIf _ _ _=I at hif ⊢;show q9 ?_;cases hz:(ss.any λw=>w==z)with
 | false=>simp![p0,_nu,hz]
 | true=>
  let#[cs,g1,g2,g3,g4]:=_nD p hc hz;let hx:kQ (.L st) (.E (ss.ß λw=>w==z:Nat))=@(.L cs):=WJ (by simp) (by rw[Xs];show g1);let hy:kQ (.L cs) (.E (ks.ß λw=>w==p:Nat))=@(zw ss st ks z p):=WJ (by simp) (by rw[Xs];show g3);let jp:=_nC (a:=ks.C D.E) (b:=[.E p]) (by simp;lia);let hidx:=_nA hz;let hb:=_nF (own:=ks.B) (k:=(ks.ß λw=>w==p:Nat));generalize zw ss st ks z p=c at g4 hy;rw[X7 rfl];generalize hR:jk (sIf (tE (cF2 _ (vV 6) _)) _ _) _=R;simp![p0,p1,_nu,hz,hi,t2,hidx,hx,hif,hy];subst hR;let rfl\/#[to,fs,rfl,t0',t1',oe,_]:=g4
  .simp![];rfl
  .simp![p0,p1,jp];show xV [@(.x,.X (ks.C D.E++[.E p]))] (λf y=>y.2=match f with|.E i=>.E (nameAt ks p i)|_=>.ç) ?_;simp![p1];show#[rfl,λf hf=>?_,λys hy=>?_]
   .let#[i,lq,rfl]:=aE hf;let:=oe i lq;simp![_nE (ks:=ks) (p:=p) (f:=i) this.1 .q];show#[#[_,rfl],trivial]
   .rw[vj,x5 (h:=λf=>match f with|.E i=>.E (nameAt ks p i)|_=>.ç) (λd y h=>h) hy,Xg,show(_∘D.E)=D.E∘nameAt ks p from rfl,<-Xg];dsimp[back,clr,at',List.ö,List.ø];simp![tup_l (o:=.x) (xs:=(fs.C (nameAt ks p)).C D.E) .q];show caseD_is.s
def Ok2(aa:List Int)(s:D):Prop:=s=.ç\/∃(room:Int) (ks:List Int),s=.X [.E room,iT ks]/\0<=room/\room<aa.B/\(ks.B:Int)=aa.p room.S 0
def Rd(aa:List Int)(ss:List Str)(rs:List D)(s:D)(w:Str×Int)(s':D):Prop:=(s=.ç/\s'=.ç)\/∃(room:Int) (ks:List Int) (st:List D) (kp gd:D),s=.X [.E room,iT ks]/\0<=room/\rs[room.S]?=@(.X [kp,gd,.L st])/\Cas aa ss.B ks.B st/\ks.B<=6/\s'=wX ss st ks w.1 w.2
abbrev _root_.Abk(l:List Int):Prop:=∀p>l,0<=p/\p<=3
def _cj w (hP:Prs aa ss.B rs)(hk:Abk aa)(h:Ok2 aa s):∃s',Rd aa ss rs s w s'/\Ok2 aa s'/\((ss.any λz=>z==w.1)=false->s'=.ç):=by
 let rfl\/#[room,ks,rfl,r0,r1,hl]:=h
 .show#[.ç,.O #[rfl,rfl],.O rfl,λ_=>rfl]
 .let#[r,er,gd,st,rfl,qy,b7]:=hP.2 room.S .q;let hk3:=hk (aa.p room.S 0) (by rw[X6,X1 .q];show Xr _);let lw:Cas aa ss.B ks.B st:=#[qy,by rw[hl];show b7];show#[wX ss st ks w.1 w.2,.Z #[room,ks,st,_,_,rfl,r0,er,lw,.q,rfl],?_,λhz=>?_]
  .ext wX;cases hz:(ss.any λz=>z==w.1)with
   |false=>show .O rfl
   |true=>
    let#[cs,g1,g2,g3,g4]:=_nD w.2 lw hz;let e\/#[to,fs,e,t0,t1,_,_,fu]:=g4
    .rw[e];show .O rfl
    .rw[e,caseD_is];show .Z #[to,_,rfl,t0,t1,by rw[X3];show fu]
  .ext wX;rw[hz];rfl
def _nI(h:Rd aa ss rs s w s'):Oo m_read_by [(.x,jv ss rs),(.x,s),(.x,.ã w.1),(.x,.E w.2)] (λy=>y.2=s') noX:=by
 let#[rfl,rfl]\/#[room,ks,st,kp,gd,rfl,r0,er,hc,hl,rfl]:=h
 .show q9 ?_;simp![]
 .show _nH r0 er hc .q
noncomputable section
end
noncomputable section
end
end C
namespace B
open PySem Q
def m_keepers_in:Fn:=fn 2
  (kq (cIf (tE (cF2 (pu2 fEq) (vV 1) (vE (cC (.E (-1)))))) (cC (.E 0)) (cH (jw (jw (jw (vV 0) (C9 1)) (vV 1)) (C9 0)))))
def m_standing_in:Fn:=fn 2
  (kq (cIf (tE (cF2 (pu2 fEq) (vV 0) (vE (cC (.E (-1)))))) (cC .ç) (jZ .x [(cV 0),(cF1 zV (vV 1))])))
def m_first_standings:Fn:=fn 7
  (jk (jx 3 (jQ m_keepers_in [(cV 0),(cH (jw (vV 2) (C9 0)))]))
  (jk (jx 4 (cF1 _he (vE (cLC .rt 2 [] (itS (cH (jw (vV 2) (C9 2)))) (.t [0,1]) tYes (jZ .x [(cV 1),(cV 0)])))))
  (jk (jx 5 (k9 .rt []))
  (jk (wJ (ww (vE (jQ m_keepers_in [(cV 1),(cH (jw (vV 2) (C9 1)))]))) (.n 6) (v0 qY 5 (cIf (tE (cF2 (pu2 W4) (vV 6) (vV 4))) (cH (_hd (vV 4) (vV 6))) (cF2 kw (vV 3) (vE (cF1 (pu1 v8) (vE (cLC .rt 1 [3] (itV 5) (.n 0) (tE (cF2 (pu2 fGe) (vV 0) (vV 1))) (cV 0)))))))))
  (kq (jZ .x [(jQ m_standing_in [(cH (jw (vV 2) (C9 0))),(W8 (vV 3))]),(YV m_standing_in [(jw (vV 2) (C9 1)),(vV 5)])]))))))
def m_names_of:Fn:=fn 1
  (kq (cIf (tE (cF2 (f2First fIsNon) (vV 0) (vE (cC .ç)))) (jZ .x []) (cH (jw (vV 0) (C9 1)))))
def m_room_of:Fn:=fn 1
  (kq (cIf (tE (cF2 (f2First fIsNon) (vV 0) (vE (cC .ç)))) (cC (.E (-1))) (cH (jw (vV 0) (C9 0)))))
def m_pair_of:Fn:=fn 4
  (jk (jx 1 (jQ m_names_of [(cH (jw (vV 0) (C9 0)))]))
  (jk (jx 2 (jQ m_names_of [(cH (jw (vV 0) (C9 1)))]))
  (jk (jx 3 (cLC .rt 2 [2] (vwr (cV 1)) (.t [0,1]) (tE (cF2 (pu2 Jz) (vV 1) (vV 2))) (jZ .x [(cV 0),(Wz (vV 2) (vV 1))])))
  (kq (jZ .x [(jQ m_room_of [(cH (jw (vV 0) (C9 0)))]),(jQ m_room_of [(cH (jw (vV 0) (C9 1)))]),(cF1 zV (vV 3))])))))
def m_read_by_both:Fn:=fn 5
  (kq (jZ .x [(jQ C.m_read_by [(cV 0),(cH (jw (vV 2) (C9 0))),(cV 3),(cV 4)]),(jQ C.m_read_by [(cV 1),(cH (jw (vV 2) (C9 1))),(cV 3),(cV 4)])]))
def m_held_by_both:Fn:=fn 2
  (jk (jx 1 (jQ m_names_of [(cH (jw (vV 0) (C9 0)))]))
  (kq (cF2 kw (vV 1) (vE (cF1 zV (vE (cLC .rt 1 [1] (itS (jQ m_names_of [(cH (jw (vV 0) (C9 1)))])) (.n 0) (tE (cF2 (pu2 V1) (vV 0) (vV 1))) (cV 0))))))))
def m_is_good_in:Fn:=fn 2
  (kq (Wv (vE (cF2 (pu2 fNe) (vV 1) (vE (cC (.E (-1)))))) (cH (jw (jw (jw (vV 0) (C9 1)) (vV 1)) (C9 1)))))
def m_agrees:Fn:=fn 3
  (kq (cF2 (pu2 fEq) (vE (jQ m_is_good_in [(cV 0),(cH (jw (vV 2) (C9 0)))])) (vE (jQ m_is_good_in [(cV 1),(cH (jw (vV 2) (C9 1)))]))))
end B
namespace B
open Q PySem C
abbrev Sn:=Option (Int×List Int)
def stn:Sn->D
 |none=>.ç|some p=>.X [.E p.1,iT p.2]
def nms:Sn->List Int
 |none=>[]|some p=>p.2
def rmO:Sn->Int
 |none=>-1|some p=>p.1
def _nJ s:Oo m_names_of [(.x,stn s)] (λy=>y=(.x,iT (nms s))) noX:=by
 cases s with
 |none=>
  show q9 ?_;simp![stn];rfl
 |some p=>
  show q9 ?_;simp![stn,p1];rfl
def _nK s:Oo m_room_of [(.x,stn s)] (λy=>∃o',y=(o',.E (rmO s))/\True) noX:=by
 cases s with
 |none=>
  show q9 ?_;simp![stn];show#[_,rfl,trivial]
 |some p=>
  show q9 ?_;simp![stn,p0];show#[_,rfl,trivial]
def _nL(h:Rd aa ss rs s w s')(h':Rd ak ss rs' t w t'):Oo m_read_by_both [(.x,jv ss rs),(.x,jv ss rs'),(.x,.X [s,t]),(.x,.ã w.1),(.x,.E w.2)] (λy=>y=(.x,.X [s',t'])) noX:=by
 show q9 ?_;simp![p0];show(_nI h).via ?_;rintro ⟨o,d⟩ e;cases(show d=s' from e);simp![p1];show(_nI h').via ?_;rintro ⟨o',d⟩ e;cases(e);simp![]
def v5(o t:List Int):List Int:=o++t.filter λn=>!(o.any λw=>w==n)
def _nM{ks:List Int}:V1 (.E p) (.X (ks.C D.E))=@(.bl (!(ks.any λw=>w==p))):=by
 change Wk _ _=_;ext Wk;let:fIn _ (.X _)=@(.bl (ks.any λw=>w==p)):=_nw;rw[this];rfl
def _nN(a b)(ha:(nms a).B<=100)(hb:(nms b).B<=100):Oo m_held_by_both [(.x,.X [stn a,stn b])] (λy=>y=(.x,iT (v5 (nms a) (nms b)))) noX:=by
 show q9 ?_;simp![p0];show(_nJ a).via ?_;rintro _ rfl;simp![p1];show Jx (λE1 B ds ae=>E1=[@(Own.x,D.X [stn a,stn b]),@(.x,iT (nms a))]/\∃q f1 f2,B=[q,@(.x,iT (nms a))]/\nms b=f1++f2/\ds=f2.C D.E/\ae.C (·.2)=(f1.filter λn=>!(nms a).any λw=>w==n).C D.E) ?_ ?_ ?_
 .simp![p1];show(_nJ b).via ?_;rintro _ rfl;simp![];show#[none,[],nms b,rfl,rfl,rfl,rfl]
 .rintro E1 B d ds ae ⟨rfl,q,f1,f2,rfl,hf,bm,au⟩;cases f2 with
  | nil=>cases bm
  | cons z f2=>
   injection bm with e1 e2;subst e1 e2;simp![_nM];cases hz:((nms a).any λw=>w==z)with
   |true=>
    show#[_,f1++[z],f2,rfl,by rw[hf];simp,rfl,?_];rw[au,Yj];simp[hz]
   |false=>
    show#[_,f1++[z],f2,rfl,by rw[hf];simp,rfl,?_];rw[Xl,au,Yj];simp[hz]
 .rintro E1 B ae ⟨rfl,q,f1,f2,rfl,hf,bm,au⟩;cases f2 with
  |cons=>symm
  |nil=>
   rw[Xz]at hf;subst hf;let gz:((nms b).filter λn=>!(nms a).any λw=>w==n).B<=100:=Z5 (List.length_filter_le _ _) hb;rw[vj,au];simp![Q.tup_l (o:=.x) (xs:=((nms b).filter λn=>!(nms a).any λw=>w==n).C D.E) .q,_nC (a:=(nms a).C D.E) (b:=((nms b).filter λn=>!(nms a).any λw=>w==n).C D.E) (by rw[X3,X3];lia)];ext v5 iT;rw[Xl]
def k8(t:List Int):Nat->List Int->List (Int×Int)
 |_,[]=>[]|k,n::o=>if(t.any λw=>w==n)=true then((k:Int),((t.ß λw=>w==n:Nat):Int))::k8 t (k+1) o else k8 t (k+1) o
abbrev prs(l:List (Int×Int)):List D:=l.C λp=>.X [.E p.1,.E p.2]
def v7(a b:Sn):D:=.X [.E (rmO a),.E (rmO b),.X (prs (k8 (nms b) 0 (nms a)))]
def _nO(a b)(ha:(nms a).B<=100)(hb:(nms b).B<=100):Oo m_pair_of [(.x,.X [stn a,stn b])] (λy=>y=(.x,v7 a b)) noX:=by
 show q9 ?_;simp![p0,p1];show(_nJ a).via ?_;rintro _ rfl;simp![p0,p1];show(_nJ b).via ?_;rintro _ rfl;simp![];show Jx (λE1 B ds ae=>E1=[@(Own.x,D.X [stn a,stn b]),@(Own.x,iT (nms a)),@(Own.x,iT (nms b)),none]/\∃(q0 q1:Option Sd) (f1 f2:List Int),B=[q0,q1,@(.x,iT (nms b))]/\nms a=f1++f2/\ds=xx f1.B (f2.C D.E)/\ae.C (·.2)++prs (k8 (nms b) f1.B f2)=prs (k8 (nms b) 0 (nms a))) ?_ ?_ ?_
 .simp![↓_na,show _hf (iT (nms a))=@((nms a).C D.E)from rfl];show#[none,none,[],nms a,rfl,rfl,rfl,rfl]
 .rintro E1 B d ds ae ⟨rfl,q0,q1,f1,f2,rfl,hf,bm,au⟩;cases f2 with
  | nil=>cases bm
  | cons z f2=>
   injection bm with e1 e2;subst e1 e2;simp![_nw];let kr:(f1++[z]).B=f1.B+1:=by simp
   cases hz:((nms b).any λw=>w==z)with
   |false=>
    show#[_,_,f1++[z],f2,rfl,by rw[hf];simp,by rw[kr],?_];rw[<-au,kr]
    conv=>rhs;unfold k8
    rw[hz,Xb .q]
   |true=>
    simp![_nB hz];show#[_,_,f1++[z],f2,rfl,by rw[hf];simp,by rw[kr],?_];rw[<-au,kr,Xl,Y3]
    conv=>rhs;unfold k8
    rw[hz,X7 rfl];rfl
 .rintro E1 B ae ⟨rfl,q0,q1,f1,f2,rfl,hf,bm,au⟩;cases f2 with
  |cons=>cases bm
  |nil=>
   let au:ae.C (·.2)=prs (k8 (nms b) 0 (nms a)):=by rw[<-au];simp[k8]
   rw[vj,au,show JW 2 [2] [q0,q1,@(Own.x,iT (nms b))] [@(Own.x,D.X [stn a,stn b]),@(Own.x,iT (nms a)),@(Own.x,iT (nms b)),none]=[@(Own.x,D.X [stn a,stn b]),@(Own.x,iT (nms a)),@(Own.x,iT (nms b)),none]from rfl];simp![p0,p1];show(_nK a).use ?_;intro o1 _;simp![p0,p1];show(_nK b).use ?_;intro o2 _;simp![Q.tup_l (o:=.rt) (xs:=prs (k8 (nms b) 0 (nms a))) .q];rfl
def Kpr(rs:List D)(room k:Int):Prop:=(room=-1/\k=0)\/(0<=room/\∃g st,rs[room.S]?=@(.X [.E k,g,st]))
def eqi(h:(a==b)=k):fEq (.E a) (.E b)=@(.bl k):=by rw[<-h];rfl
def _nP(h:Kpr rs room k):Oo m_keepers_in [(.x,jv ss rs),(.x,.E room)] (λy=>∃o',y=(o',.E k)/\True) noX:=by
 show q9 ?_;let#[rfl,rfl]\/#[h0,g,st,hr]:=h
 .simp![eqi rfl];show#[_,rfl,trivial]
 .let bc:(room == -1)=false:=Yt .q;simp![p1,eqi bc,(WJ h0 hr),show kQ (.X [.E k,g,st]) (.E 0)=@_ from rfl];show#[_,rfl,trivial]
def v9(room:Int)(ks:List Int):Sn:=if room=-1 then none else @(room,ks)
def _nQ room ks o (ho:o≠.dp):Oo m_standing_in [(.x,.E room),(o,iL ks)] (λy=>∃o',y=(o',stn (v9 room ks))/\True) noX:=by
 ext m_standing_in v9;show q9 ?_
 by_cases h:room=-1
 .subst h;simp![eqi rfl];show#[_,rfl,trivial]
 .let bc:_=false:=Yt h;rw[Xb h];simp![eqi bc,Q.tup_l ho];show#[_,rfl,trivial]
def nmF(own:Int)(kv:List (Int×Int)):Nat->List Int
 |0=>[]
 |n+1=>nmF own kv n++[match jY kv n with
  |some i=>i
  |none=>own+((nmF own kv n).filter λx=>decide (own<=x)).B]
def _nR:∀(ks:List Int),D.pures (ks.C D.E)=true
 |[]=>rfl
 |k::ks=>by
  rw[List.l];ext D.pures;rw[_nR ks];rfl
def _nS own kv n:nmF own kv (n+1)=nmF own kv n++[match jY kv n with|some i=>i|none=>own+((nmF own kv n).filter λx=>decide (own<=x)).B]:=rfl
def _nT k:jV 0 k=(((List.r k.S).C λ(i:Nat)=>(i:Int)).C D.E):=by
 ext jV;rw[Xg,Int.sub_zero];show Xw λi _=>?_
 change D.E _=D.E i;rw[Int.zero_add]
def _nU s:(stn s).pure=true:=by
 cases s with
 |none=>rfl
 |some p=>
  change D.pures [.X _]=true;dsimp[D.pures,D.pure,_nR,Bool.and_self]
def QJ(own)(kv):∀n,(nmF own kv n).B=n
 |0=>rfl|n+1=>by ext nmF;rw[Xj,QJ own kv n];rfl
def kvS(sh:List (Int×Int)):List (Int×Int):=(sh.C λp=>(p.2,p.1)).foldl (λkv p=>qW kv p.1 p.2) []
def _nV (hp:Kpr rs p k) (hq:Kpr rs' q k') (hk:0<=k) (gh:k<=100) (be:0<=k') (hk2':k'<=100) (qp:sh.B<=100):
  Oo m_first_standings [(.x,jv ss rs),(.x,jv ss rs'),(.x,.X [.E p,.E q,.X (prs sh)])] (λy=>y=(.x,.X [stn (v9 p ((List.r k.S).C λ(i:Nat)=>(i))),stn (v9 q (nmF k (kvS sh) k'.S))])) noX:=by
 show q9 ?_;simp![t0,t1,t2];show (_nP hp).use ?_;intro o1 _;simp![t0,t1,t2];show Jx (λE1 B ds ae=>E1=[@(Own.x,jv ss rs),@(Own.x,jv ss rs'),@(Own.x,D.X [D.E p,D.E q,D.X (prs sh)]),@(o1,D.E k),none,none,none]/\∃(q0 q1:Option Sd) (f1 f2:List (Int×Int)),B=[q0,q1]/\sh=f1++f2/\ds=prs f2/\ae.C (·.2)=prs (f1.C λp=>(p.2,p.1))) ?_ ?_ ?_
 .simp![t2];show #[none,none,[],sh,rfl,rfl,rfl,rfl]
 .rintro E1 B d ds ae ⟨rfl,q0,q1,f1,f2,rfl,hf,bm,au⟩;cases f2 with
  | nil=>cases bm
  | cons z f2=>
   let bm:d::ds=.X [.E z.1,.E z.2]::prs f2:=bm;injection bm with e1 e2;subst e1 e2;simp![];show#[_,_,f1++[z],f2,rfl,by rw[hf];simp,rfl,?_];rw [Xl,au,Xl];simp
 .rintro E1 B ae ⟨rfl,q0,q1,f1,f2,rfl,hf,bm,au⟩;cases f2 with
  | cons=>cases bm
  | nil =>
   rw [Xz]at hf;subst hf;rw [vj,au,show JW 2 [] [q0,q1] [@(Own.x,jv ss rs),@(Own.x,jv ss rs'),@(Own.x,D.X [D.E p,D.E q,D.X (prs sh)]),@(o1,D.E k),none,none,none]=[@(Own.x,jv ss rs),@(Own.x,jv ss rs'),@(Own.x,D.X [D.E p,D.E q,D.X (prs sh)]),@(o1,D.E k),none,none,none]from rfl];let fh:_he (Own.x,D.L (prs (sh.C λp=>(p.2,p.1))))=@(.rt,Qx (kvS sh)):=_ne (by rw[X3];lia);simp![fh];show z8 (λE af=>∃(j:Int) (l6:Option Sd),E=[@(Own.x,jv ss rs),@(Own.x,jv ss rs'),@(Own.x,D.X [D.E p,D.E q,D.X (prs sh)]),@(o1,D.E k),@(.rt,Qx (kvS sh)),@(.rt,iL (nmF k (kvS sh) j.S)),l6]/\0<=j/\j<=k'/\af=jV j k') ?_ ?_ ?_
   .simp![t0,t1,t2];show(_nP hq).use ?_;intro o2 _;simp![];show#[0,_,rfl,.q,be,rfl]
   .rintro E d ds ⟨j,l6,rfl,j0,j1,hr⟩;let#[hj,rfl,rfl]:=_nm j1 hr;let hjn:(j+1).S=j.S+1:=.q
    let hjc:((j.S:Nat):Int)=j:=by grind
    simp![];show wQ rfl ?_;cases hv:jY (kvS sh) j with
    | some v=>
     simp![↓_m9,_nc,_nd hv,hv,Option.isSome_some];show#[_,rfl,by rw[X3,QJ];lia,j+1,@(.x,.E j),?_,.q,.q,rfl];rw [hjn,_nS,hjc,hv];simp
    | none=>
     simp![↓_m9,_nc,hv,Option.isSome_none];let hge:∀z,fGe (.E z) (.E k)=@(.bl (decide (k<=z))):=λz=>rfl
     show Jx (λE1 B ds ae=>E1=[@(Own.x,jv ss rs),@(Own.x,jv ss rs'),@(Own.x,D.X [D.E p,D.E q,D.X (prs sh)]),@(o1,D.E k),@(.rt,Qx (kvS sh)),@(.rt,iL (nmF k (kvS sh) j.S)),@(.x,.E j)]/\∃(q0:Option Sd) (f1 f2:List Int),B=[q0,@(o1,.E k)]/\nmF k (kvS sh) j.S=f1++f2/\ds=f2.C D.E/\ae.C (·.2)=(f1.filter λx=>decide (k<=x)).C D.E) ?_ ?_ ?_
     .show _nb rfl (_nR _) (#[rfl,none,[],_,rfl,rfl,rfl,rfl])
     .rintro E1 B d ds ae ⟨rfl,q0,f1,f2,rfl,hf,bm,au⟩;cases f2 with
      | nil=>cases bm
      | cons z f2=>
       rw[List.l]at bm;injection bm with e1 e2;subst e1 e2;simp![hge]
       by_cases hz:k<=z
       .let ld:decide (k<=z)=true:=X8 hz;simp![ld];show#[_,f1++[z],f2,rfl,by rw[hf];simp,rfl,?_];rw[Xl,au,Yj];simp[hz]
       .let ld:decide (k<=z)=false:=Xk hz;simp![ld];show#[_,f1++[z],f2,rfl,by rw[hf];simp,rfl,?_];rw[au,Yj];simp[hz]
     .rintro E1 B ae ⟨rfl,q0,f1,f2,rfl,hf,bm,au⟩;cases f2 with
      |cons=>cases bm
      |nil=>
       rw[Xz]at hf;rw[vj,au,<-hf];simp![];show#[_,rfl,by rw[X3,QJ];lia,j+1,@(.x,.E j),?_,.q,.q,rfl];rw[hjn,_nS,hjc,hv];let:∀l (v),l.C D.E++[D.E v]=(l++[v]).C D.E:=λl v=>by simp
       rw[this];rfl
   .rintro E ⟨j,l6,rfl,j0,j1,hr⟩;let:=_nn j1 hr;subst this;simp![t0,t1,t2];rw[_nT];show(_nQ p ((List.r k.S).C λ(i:Nat)=>(i)) .x .q).use ?_;intro o3 _;simp![t0,t1,t2];show(_nQ q (nmF k (kvS sh) j.S) .x .q).use ?_;intro o4 _;show#[_nU _,?_];simp![]
abbrev vk(k:Int):List Int:=(List.r k.S).C λ(i:Nat)=>(i:Int)
def _nW(p k:Int):Sn:=v9 p (vk k)
def _nX(q k k':Int)(sh:List (Int×Int)):Sn:=v9 q (nmF k (kvS sh) k'.S)
def vz(f:Int->Int):Sn->Sn:=Option.C λp=>(p.1,p.2.C f)
def _nY f s:nms (vz f s)=(nms s).C f:=by cases s<;>rfl
def _nZ f s:rmO (vz f s)=rmO s:=by cases s<;>rfl
section
variable {f:Int->Int}
def _n0(h:f x=f n->x=n):(f x==f n)=(x==n):=by
 rw[Bool.eq_iff_iff];simp;show#[h,λe=>by rw[e]]
def _n1:∀{t:List Int},(∀x>t,f x=f n->x=n)->((t.C f).any λw=>w==f n)=t.any λw=>w==n
 |[],_=>rfl
 |x::t,h=>by
  rw[List.l,List.any_cons,List.any_cons,_n0 (h x X2),_n1 λy hy=>h y (_ad _ hy)]
def _n2:∀{t:List Int},(∀x>t,f x=f n->x=n)->((t.C f).ß λw=>w==f n)=t.ß λw=>w==n
 |[],_=>rfl
 |x::t,h=>by
  rw[List.l,Zv,Zv,_n0 (h x X2),_n2 λy hy=>h y (_ad _ hy)]
def _n3:∀{o} (k),(∀n>o,∀x>t,f x=f n->x=n)->k8 (t.C f) k (o.C f)=k8 t k o
 |[],_,_=>rfl
 |n::o,k,h=>by
  let h1:=h n X2;rw[List.l];ext k8;rw[_n1 h1,_n2 h1,(_n3 (k+1) λm hm=>h m (_ad _ hm))]
def _n4(h:∀n>nms s,∀x>nms t,f x=f n->x=n):v7 (vz f s) (vz f t)=v7 s t:=by
 ext v7;rw[_nZ,_nZ,_nY,_nY,_n3 0 h]
def _n5(h:i.S<ks.B+1):C.nameAt (ks.C f) (f c) i=f (C.nameAt ks c i):=by
 ext C.nameAt;rw[show ks.C f++[f c]=(ks++[c]).C f by simp,X6,X6,Xf,X1 (~~~h)];rfl
def _n6(h:i.S<ks.B+1):C.nameAt ks c i>ks\/C.nameAt ks c i=c:=by
 ext C.nameAt;rw[X6,X1 _];let:(ks++[c])[i.S]'(~~~h)>ks++[c]:=Xr _;let q\/q:=aA this
 .show .O q
 .show .Z (~~~q)
def _n7(h:∀x>ks,f x=f c->x=c):zw ss st (ks.C f) z (f c)=zw ss st ks z c:=by
 ext zw;rw[_n2 h]
def qk(aa:List Int)(s:Sn):Prop:=∀room ks,s=@(room,ks)->0<=room/\room<aa.B/\(ks.B:Int)=aa.p room.S 0
def _n8(hP:Prs aa ss.B rs)(hk:Abk aa)(hS:qk aa S)(ib:∀x>nms S,f x=f c->x=c):
  ∃ s',Rd aa ss rs (stn S) (z,c) (stn s')/\Rd aa ss rs (stn (vz f S)) (z,f c) (stn (vz f s'))/\(∀n>nms s',n>nms S\/n=c)/\(nms s').B<=100/\qk aa s':=by
 cases S with
 | none=>show#[none,.O #[rfl,rfl],.O #[rfl,rfl],λ_ h=>(nomatch h),Y6 _,λ_ _ h=>(nomatch h)]
 | some P=>
  let#[room,ks]:=P;let#[r0,r1,hl]:=hS room ks rfl;let#[r,er,gd,st,rfl,qy,b7]:=hP.2 room.S .q;let hk3:=hk (aa.p room.S 0) (by rw[X6,X1 .q];show Xr _);let lw:Cas aa ss.B ks.B st:=#[qy,by rw[hl];show b7];let uk:Cas aa ss.B (ks.C f).B st:=by rw[X3];show lw
  let inj:∀x>ks,f x=f c->x=c:=ib;let done:∀s',wX ss st ks z c=stn s'->wX ss st _ z (f c)=stn _->_->(nms s').B<=100->qk aa s'->∃s',Rd aa ss rs _ (z,c) _/\Rd aa ss rs _ (z,f c) (stn (vz f s'))/\(∀n>nms s',n>nms (@(room,ks))\/n=c)/\(nms s').B<=100/\qk aa s':=λs' h1 h2 h3 h4 h5=>
   #[s',.Z #[room,ks,st,_,_,rfl,r0,er,lw,.q,h1.s],.Z #[room,ks.C f,st,_,_,rfl,r0,er,uk,by rw[X3];lia,h2.s],h3,h4,h5]
  cases hz:(ss.any λw=>w==z)with
  | false=>
   show done none ?_ ?_ (λ_ h=>(nomatch h)) (Y6 _) (λ_ _ h=>(nomatch h))
   .ext wX;rw[hz];rfl
   .ext wX;rw[hz];rfl
  | true=>
   let#[cs,g1,g2,g3,g4]:=_nD c lw hz;let e1:wX ss st ks z c=V8 ks c (zw ss st ks z c):=by ext wX;rw[hz,X7 rfl]
   let e2:wX ss st (ks.C f) z (f c)=V8 (ks.C f) (f c) (zw ss st ks z c):=by ext wX;rw[hz,X7 rfl,_n7 inj]
   let e\/#[to,fs,e,t0,t1,oe,_,fu]:=g4
   .show done none ?_ ?_ (λ_ h=>(nomatch h)) (Y6 _) (λ_ _ h=>(nomatch h))
    .rw[e1,e];rfl
    .rw[e2,e];rfl
   .let hb:=_nF (own:=ks.B) (k:=(ks.ß λw=>w==c:Nat));let b9:∀i>fs,i.S<ks.B+1:=λi hi=>by let:=oe i hi;lia
    show done @(to,fs.C (C.nameAt ks c)) ?_ ?_ (λn hn=>?_) ?_ (λvl cf h=>?_)
    .rw[e1,e,caseD_is];rfl
    .rw[e2,e,caseD_is];change D.X [.E to,iT _]=D.X [.E to,iT ((fs.C _).C f)];rw[Xg]
     congr 4
     show Xw λi hi=>_n5 (b9 i hi)
    .let#[i,hi,rfl]:=aE hn;show _n6 (b9 i hi)
    .change(fs.C _).B<=100;rw[X3];let:=hk (aa.p to.S 0) (by rw[X6,X1 .q];show Xr _);lia
    .injection h with h;injection h with h3 h4;subst h3 h4;show#[t0,t1,by rw[X3];show fu]
end
end B
namespace B
open PySem Q
def m__law_cell_at:Fn:=fn 2
  (jk (sIf (tE (cF2 (pu2 fLt) (vV 1) (vE (cF1 (pu1 v8) (vV 0))))) (kq (cH (jw (vV 0) (vV 1)))) vY)
  (kq (cC (.E 0))))
end B
namespace B
open Q PySem C
def qQ(ns:List Int)(k:Nat):Int:=ns.p k 0
def cell_ok ns (k:Nat)(hn:ns.B<=10000):Oo m__law_cell_at [(.x,iL ns),(.x,.E k)] (λy=>∃o',y=(o',.E (qQ ns k))/\True) noX:=by
 show q9 ?_;simp![]
 by_cases h:(k:Int)<ns.B
 .let hx:kQ (iL ns) (.E k)=@(.E (qQ ns k)):=by
   show WJ (by simp) ?_;ext qQ;rw[Xs,Xf,X6,X1 (by symm)];rfl
  let hd:=X8 h;rw[X7 hd];simp![hx];show#[_,rfl,trivial]
 .let hd:¬decide ((k:Int)<ns.B)=true:=by rw[Xk h];decide
  rw[Xb hd];show#[.dp,?_,trivial];rw[show qQ ns k=0 by ext qQ;rw[X6,Y2 (by symm)];rfl]
def Gdr(rs:List D)(room:Int)(g:Bool):Prop:=(room=-1/\g=false)\/(0<=room/\∃k st,rs[room.S]?=@(.X [k,.bl g,st]))
def nei(h:(a==b)=k):fNe (.E a) (.E b)=@(.bl !k):=by rw[<-h];rfl
def _n9(h:Gdr rs room g):Oo m_is_good_in [(.x,jv ss rs),(.x,.E room)] (λy=>∃o',y=(o',.bl g)/\True) noX:=by
 show q9 ?_;let#[rfl,rfl]\/#[h0,k,st,hr]:=h
 .simp![nei rfl];show#[_,rfl,trivial]
 .let bc:(room == -1)=false:=Yt .q;simp![p1,nei bc,(WJ h0 hr),show kQ (.X [k,.bl g,st]) (.E 1)=@_ from rfl];show#[_,rfl,trivial]
def eqb(a b):fEq (.bl a) (.bl b)=@(.bl (a==b)):=by cases a<;>cases b<;>rfl
def _oa(h:Gdr rs p g)(h':Gdr rs' q g'):Oo m_agrees [(.x,jv ss rs),(.x,jv ss rs'),(.x,.X [.E p,.E q,d])] (λy=>∃o',y=(o',.bl (g==g'))/\True) noX:=by
 show q9 ?_;simp![t0];show(_n9 h).use ?_;intro o1 _;simp![t1];show(_n9 h').use ?_;intro o2 _;simp![eqb];show#[_,rfl,trivial]
def kvN(N:List Int)(sh:List (Int×Int)):List (Int×Int):=sh.foldl (λkv p=>qW kv p.2 (N.p p.1.S 0)) []
def _ob(N:List Int)(k:Int)(sh:List (Int×Int))(n:Nat):List Int:=(List.r n).C λ(j:Nat)=>(jY (kvN N sh) (j:Int)).p (N.p (k.S+j) 0)
def _oc(h:p>qW kv k v):p>kv\/p=(k,v):=by
 unfold qW at h
 split at h
 .let#[q,hq,rfl]:=aE h
  by_cases e:q.1=k
  .rw[X7 e];show .Z (by rw[e])
  .rw[Xb e];show .O hq
 .let z\/z:=aA h
  .show .O z
  .show .Z (aC z)
def _od(h:Int->Int)(kv:List (Int×Int))(k v:Int):(qW kv k v).C (λp=>(p.1,h p.2))=qW (kv.C λp=>(p.1,h p.2)) k (h v):=by
 ext qW;rw[List.any_map];let:(kv.any λp=>decide (p.1=k))=kv.any ((λp=>decide (p.1=k))∘λ(p:Int×Int)=>(p.1,h p.2)):=rfl;rw[<-this]
 split
 .rw[Xg,Xg];show Xw λp _=>?_
  simp
  split<;>rfl
 .rw[Xl];rfl
def _oe(h:Int->Int)(k:Int):∀(kv:List (Int×Int)),jY (kv.C λp=>(p.1,h p.2)) k=(jY kv k).C h
 | []=>rfl
 | p::kv=>by
  let ih:=_oe h k kv;unfold jY at ih ⊢;rw[List.l,List.find?_cons,List.find?_cons]
  by_cases e:p.1=k
  .simp[e]
  .dsimp[Xk e];show ih
def _of(h:jY kv k=@v):(k,v)>kv:=by
 unfold jY at h;cases hf:kv.find? λp=>decide (p.1=k)with|none=>symm|some p=>grind
def _og(N:List Int):∀(sh kv kv':List (Int×Int)),kv'=kv.C (λp=>(p.1,N.p p.2.S 0))->sh.foldl (λkv p=>qW kv p.2 (N.p p.1.S 0)) kv'=(((sh.C λp=>(p.2,p.1)).foldl (λkv p=>qW kv p.1 p.2) kv).C λp=>(p.1,N.p p.2.S 0))
 |[],kv,kv',h=>h
 |p::sh,kv,kv',h=>by
  rw[List.l,Yz,Yz];show _og N sh _ _ ?_;rw[h];show(_od (λi=>N.p i.S 0) kv p.2 p.1).s
def _oh(N:List Int)(sh:List (Int×Int))(j:Int):jY (kvN N sh) j=(jY (kvS sh) j).C λi=>N.p i.S 0:=by
 ext kvN kvS;rw[_og N sh [] [] rfl];show _oe (λi=>N.p i.S 0) j _
def _oi:∀(ps kv:List (Int×Int)) {p},p>ps.foldl (λkv p=>qW kv p.1 p.2) kv->p>kv\/p>ps
 | [],kv,p,h=>.O h
 | q::ps,kv,p,h=>by
  let z\/z:=_oi ps _ h
  .let z\/z:=_oc z
   .show .O z
   .show .Z (z▸X2)
  .show .Z (_ad _ z)
def _oj(h:jY (kvS sh) j=@i):(i,j)>sh:=by
 let z\/z:=_oi _ _ (_of h)
 .symm
 .grind
def v3(own:Int)(kv:List (Int×Int))(n:Nat):Nat:=((nmF own kv n).filter λx=>decide (own<=x)).B
section
def _ok{n:Nat}(h:jY kv n=@i):nmF own kv (n+1)=nmF own kv n++[i]:=by rw[_nS,h]
def _ol{n:Nat}(h:jY kv n=none):nmF own kv (n+1)=nmF own kv n++[own+v3 own kv n]:=by rw[_nS,h];rfl
def _om(ho:0<=own)(hv:∀j i,jY kv j=@i->0<=i/\i<own):∀n,∀x>nmF own kv n,0<=x/\x<own+v3 own kv n
 | 0,x,h=>nomatch h
 | n+1,x,h=>by
  let ih:=_om ho hv n;cases hc:jY kv n with
  | some i=>
   let hi:=hv _ _ hc;let rq:v3 own kv (n+1)=v3 own kv n:=by
    ext v3;rw[_ok hc,Yj];let:decide (own<=i)=false:=Xk (by symm);simp[this]
   rw[_ok hc]at h;rw[rq];let z\/z:=aA h
   .show ih x z
   .rw[aC z];lia
  | none=>
   let rq:v3 own kv (n+1)=v3 own kv n+1:=by
    ext v3;rw[_ol hc,Yj];let:decide (own<=own+(v3 own kv n))=true:=X8 .q;simp[this]
   rw[_ol hc]at h;rw[rq];let z\/z:=aA h
   .let:=ih x z;lia
   .rw[aC z];lia
def _on(n:Nat):∀m,∃r,nmF own kv (n+m)=nmF own kv n++r
 |0=>#[[],by simp]
 |m+1=>by
  let#[r,hr]:=_on n m;show#[r++[match jY kv ((n+m:Nat):Int)with|some i=>i|none=>own+((nmF own kv (n+m)).filter λx=>decide (own<=x)).B],?_];change nmF own kv (n+m+1)=_;rw[_nS,<-Y3,<-hr]
  try rfl
def _oo:∀{l r:List Int},x∉l->((l++x::r).ß λw=>w==x)=l.B
 |[],r,_=>by simp[Zv]
 |y::l,r,h=>by
  let hy:(y==x)=false:=Yt λe=>h (by rw[e];show X2)
  rw[List.cons_append,Zv,hy,_oo λz=>h (_ad _ z)];rfl
def _op(ho:0<=own)(hv:∀j i:Int,jY kv j=@i->0<=i/\i<own){n m:Nat}(hc:jY kv n=none)(hm:n<m):((nmF own kv m).ß λw=>w==own+v3 own kv n)=n:=by
 let#[r,hr]:=_on (own:=own) (kv:=kv) (n+1) (m - (n+1));rw[show n+1+(m - (n+1))=m by omega,_ol hc,Y3]at hr;rw[hr];change((nmF own kv n++(own+(v3 own kv n:Int))::r).ß _)=n;rw[_oo,QJ];intro z;let:=_om ho hv n _ z
 symm
end
def ren(N:List Int)(k:Int)(T:List Int)(x:Int):Int:=if x<k then N.p x.S 0 else N.p (k.S+T.ß λw=>w==x) 0
def _oq{N:List Int}(h:N.U)(ha:a<N.B)(hb:b<N.B)(e:N.p a 0=N.p b 0):a=b:=by
 rw[X6,X6,X1 ha,X1 hb]at e;let e:N[a]=N[b]:=e;let z\/z\/z:=Nat.lt_trichotomy a b
 .show absurd e (List.pairwise_iff_getElem.mp h a b ha hb z)
 .show z
 .show absurd e.s (List.pairwise_iff_getElem.mp h b a hb ha z)
def _or{T:List Int}(h:x>T):T[T.ß λw=>w==x]?=@x:=by
 let hl:(T.ß λw=>w==x)<T.B:=Yv #[x,h,by simp];rw[X1 hl];let:=List.findIdx_getElem (w:=hl)
 congr 1
 simpa using this
def _os(hk:0<=k)(hl:k<=N.B):(vk k).C (ren N k T)=N.take k.S:=by
 ext vk;rw[Xg];show Zk λi=>?_
 rw[Xf]
 by_cases hi:i<k.S
 .rw[List.getElem?_take_of_lt hi,Yl hi,X1 .q];change @(ren N k T i)=_;ext ren;rw[X7 (by symm),X6,Xs,X1 .q];rfl
 .rw[Y2 (by rw[Xi];symm),Y2 (by rw[Z1];grind)];rfl
def _ot(h:j<n)(hx:nmF own kv (j+1)=nmF own kv j++[x]):(nmF own kv n)[j]?=@x:=by
 let#[r,hr]:=_on (own:=own) (kv:=kv) (j+1) (n - (j+1));rw[show j+1+(n - (j+1))=n by omega,hx,Y3]at hr;rw[hr,Y9 (by rw[QJ];simp),QJ,Nat.sub_self];rfl
def _ou(hk:0<=k)(hv:∀j i:Int,jY (kvS sh) j=@i->0<=i/\i<k):(nmF k (kvS sh) n).C (ren N k (nmF k (kvS sh) n))=_ob N k sh n:=by
 show Zk λj=>?_
 ext _ob;rw[Xf,Xf]
 by_cases hj:j<n
 .rw[Yl hj];change _=@((jY (kvN N sh) (j:Int)).p (N.p (k.S+j) 0));rw[_oh];cases hc:jY (kvS sh) j with
  |some i=>
   let:=hv _ _ hc;rw[_ot hj (_ok hc)];change @(ren N k _ i)=@(N.p i.S 0);ext ren;rw[X7 this.2]
  |none=>
   rw[_ot hj (_ol hc)];change @(ren N k _ (k+v3 k (kvS sh) j))=@(N.p (k.S+j) 0);ext ren;rw[Xb .q,_op hk hv hc hj]
 .rw[Y2 (by rw[QJ];lia),Y2 (by rw[Xi];lia)];rfl
def _ov(hk:0<=k)(hv:∀j i,jY (kvS sh) j=@i->0<=i/\i<k):((v5 (vk k) (nmF k (kvS sh) n)).B:Int)=k+v3 k (kvS sh) n:=by
 ext v5 v3;rw[Xj,X3,Xi];let:(nmF k (kvS sh) n).filter (λm=>!(vk k).any λw=>w==m)=(nmF k (kvS sh) n).filter λx=>decide (k<=x):=by
  show List.filter_congr λx hx=>?_
  let h0:=(_om hk hv n x hx).1;rw[YK]
  by_cases ua:k<=x
  .rw[X8 ua,Xk]
   .rfl
   .grind
  .rw[Xk ua,X8]
   .rfl
   .show List.mem_map.y #[x.S,List.á.y .q,.q]
 rw[this];lia
def _ow{p:Int}(hP:Prs aa n rs)(h0:-1<=p)(h1:p<aa.B):∃k g,Kpr rs p k/\Gdr rs p g/\(p=-1->k=0)/\(0<=p->k=aa.p p.S 0):=by
 by_cases h:p=-1
 .show#[0,false,.O #[h,rfl],.O #[h,rfl],λ_=>rfl,λz=>by symm]
 .let#[r,er,gd,st,rfl,_]:=hP.2 p.S .q;show#[_,gd,.Z #[.q,_,_,er],.Z #[.q,_,_,er],λz=>absurd z h,λ_=>rfl]
def _ox(h:qk aa s):-1<=rmO s/\rmO s<aa.B:=by
 cases s with|none=>show#[Int.le_refl _,by change(-1:Int)<_;lia]|some P=>let#[a,b]:=P;let#[h0,h1,_]:=h a b rfl;show#[by change -1<=a;lia,h1]
def _oy(h0:-1<=p)(h1:p<aa.B)(h2:0<=p->(ks.B:Int)=aa.p p.S 0):qk aa (v9 p ks):=by
 intro room cf e;unfold v9 at e
 split at e
 .symm
 .injection e with e;injection e with e1 e2;subst e1 e2;show#[.q,h1,h2 .q]
#where in
def _oz(h:p=-1->ks=[]):nms (v9 p ks)=ks:=by
 ext v9
 split
 .revert e;rw[h e];rfl
 .rfl
def _oA(hP:Prs aa ss.B rs) n:(jv ss rs).flat (n+8)=true:=by
 show xK λd hd=>?_
 simp at hd;let rfl\/rfl:=hd
 .show xK λk hk=>by let#[w,_,rfl]:=aE hk;rfl
 .show xK λr hr=>?_
  let#[i,hi,e]:=List.mem_iff_getElem.mp hr;let#[r',er,gd,st,rfl,_,b7]:=hP.2 i (by let:=hP.1;lia);rw[X1 hi,e]at er;injection er with er;subst er;show xK λd hd=>?_
  simp at hd;let rfl\/rfl\/rfl:=hd
  .rfl
  .rfl
  .show xK λc hc=>?_
   let#[cs,rfl,_,lc]:=b7 c hc;show xK λz hz=>?_
   let#[j,hj,ej]:=List.mem_iff_getElem.mp hz;let#[z',ez,hcs']:=lc j hj;rw[X1 hj,ej]at ez;injection ez with ez;subst ez;let rfl\/#[to,fs,rfl,_]:=hcs'
   .rfl
   .show xK λd hd=>?_
    simp at hd;let rfl\/rfl:=hd
    .rfl
    .show xK λk hk=>by let#[w,_,rfl]:=aE hk;rfl
end B
namespace J
open Q PySem C B F
def m_is_small:Fn:=fn 1
  (kq (Wv (vE (cF2 (pu2 fLe) (vE (cF1 (pu1 v8) (jw (vV 0) (C9 1)))) (C9 12))) (cF1 (pu1 _dN) (vE (cLC .rt 1 [] (itS (cH (jw (vV 0) (C9 1)))) (.n 0) tYes (cF2 (pu2 fLe) (jw (vV 0) (C9 0)) (C9 3)))))))
def _oB:D->Int
 |.E i=>i|_=>0
def K6:D->Sn
 |.X [.E r,.X ks]=>@(r,ks.C _oB)|_=>none
def rdF(ss:List Str)(rs:List D)(S:Sn)(z:Str)(c:Int):Sn:=match S with
 |none=>none
 |some (room,ks)=>(match rs[room.S]? with
  |some (.X [_,_,.L st])=>K6 (wX ss st ks z c)
  |_=>none)
def _oC(h:Ok2 aa d):stn (K6 d)=d/\qk aa (K6 d):=by
 let rfl\/#[room,ks,rfl,r0,r1,hl]:=h
 .show#[rfl,nofun]
 .let e:K6 (.X [.E room,iT ks])=@(room,ks):=by
   change @_=_;rw[Xg]
   congr 2
   show List.map_id ks
  rw[e];show#[rfl,λa b e=>?_];cases e;show#[r0,r1,hl]
def _oD(h:qk aa S):Ok2 aa (stn S):=by
 cases S with|none=>show .O rfl|some x=>let#[a,b,c]:=h x.1 x.2 rfl;show .Z #[x.1,x.2,rfl,a,b,c]
def VX z c (hP:Prs aa ss.B rs)(hk:Abk aa)(hS:qk aa S):Rd aa ss rs (stn S) (z,c) (stn (rdF ss rs S z c))/\qk aa (rdF ss rs S z c):=by
 let#[s',h1,h2,_]:=_cj (z,c) hP hk (_oD hS);let#[g1,g2]:=_oC h2;let e:rdF ss rs S z c=K6 s':=by
  let#[h3,rfl]\/#[room,ks,st,kp,gd,h3,_,hr,_,_,h4]:=id h1
  .cases S with| none=>rfl| some x=>cases h3
  .cases S with
   | none=>cases h3
   | some x=>
    injection h3 with h3;injection h3 with e1 h3;injection h3 with e2 _;injection e1 with e1;injection e2 with e2;change(match rs[x.1.S]? with
     |some (.X [_,_,.L st])=>K6 _
     |_=>none)=_
    rw[e1,hr,((List.map_inj_right λa b h=>by injection h).mp e2),h4]
 rw[e,g1];show#[h1,g2]
def kpF(rs:List D)(p:Int):Int:=if p=-1 then 0 else(match rs[p.S]? with
 |some (.X [.E k,_,_])=>k
 |_=>0)
def gdF(rs:List D)(p:Int):Bool:=if p=-1 then false else(match rs[p.S]? with
 |some (.X [_,.bl g,_])=>g
 |_=>false)
def _oE(h:Kpr rs p k):kpF rs p=k:=by
 let#[rfl,rfl]\/#[h0,g,st,e]:=h
 .rfl
 .ext kpF;rw[Xb .q,e]
def _oF(h:Gdr rs p g):gdF rs p=g:=by
 let#[rfl,rfl]\/#[h0,k,st,e]:=h
 .rfl
 .ext gdF;rw[Xb .q,e]
def W5{p:Int}(hP:Prs aa n rs)(hk:Abk aa)(h0:-1<=p)(h1:p<aa.B):Kpr rs p (kpF rs p)/\Gdr rs p (gdF rs p)/\0<=kpF rs p/\kpF rs p<=3/\(0<=p->kpF rs p=aa.p p.S 0):=by
 let#[k,g,a,b,c,d]:=_ow hP h0 h1;rw[_oE a,_oF b];show#[a,b,?_]
 by_cases hp:p=-1
 .rw[c hp];show#[.q,.q,λh=>by symm]
 .let hd:=d .q;let hm:aa.p p.S 0>aa:=by rw[X6,X1 .q];show Xr _
  rw[hd];show#[(hk _ hm).1,(hk _ hm).2,λ_=>rfl]
def _oG:∀l,keyDs 4 (prs l)=true
 |[]=>rfl
 |p::l=>by
  change(jX 4 _&&keyDs 4 _)=true;rw[_oG l];rfl
def key_pr(r r') l:kZ (.X [.E r,.E r',.X (prs l)])=true:=by
 let:keyDs 5 [D.E r,.E r',.X (prs l)]=true:=by
  change(jX 5 _&&(jX 5 _&&(keyDs 4 _&&true)))=true;rw[_oG];rfl
 change(keyDs 5 [D.E r,.E r',.X _]&&true)=true;rw[this];rfl
def _oH(h:qk aa S)(e:rmO S=-1):S=none:=by
 cases S with|none=>rfl|some x=>let:=(h x.1 x.2 rfl).1;let e:x.1=-1:=e;symm
def Q6(hk:Abk aa)(h:qk aa S):(nms S).B<=3:=by
 cases S with
 |none=>show Y6 _
 |some x=>
  let#[a,b,c]:=h x.1 x.2 rfl;let hm:aa.p x.1.S 0>aa:=by rw[X6,X1 (by symm)];show Xr _
  let:=(hk _ hm).2;change x.2.B<=3;lia
def lat(x:Sn×Sn):D:=.X [stn x.1,stn x.2]
section
variable {aa ak:List Int}{ss:List Str}{rs rs':List D}
def pS(rs:List D):D->Sn
 |.X [.E p,_,_]=>_nW p (kpF rs p)|_=>none
def W1:List D->List (Int×Int)
 |[]=>[]|.X [.E i,.E j]::r=>(i,j)::W1 r|_::r=>W1 r
def _oI:∀l,W1 (prs l)=l
 |[]=>rfl
 |p::l=>by
  change _::W1 (prs l)=_;rw[_oI l]
def pT(rs rs':List D):D->Sn
 |.X [.E p,.E q,.X sh]=>_nX q (kpF rs p) (kpF rs' q) (W1 sh)|_=>none
def pO(rs rs':List D)(P:D):Nat:=(v5 (nms (pS rs P)) (nms (pT rs rs' P))).B
def gS(rs:List D):D->Bool
 |.X [.E p,_,_]=>gdF rs p|_=>false
def gT(rs:List D):D->Bool
 |.X [_,.E q,_]=>gdF rs q|_=>false
def Pok(aa ak:List Int)(P:D):Prop:=∃(p q:Int) (sh:List (Int×Int)),P=.X [.E p,.E q,.X (prs sh)]/\-1<=p/\p<aa.B/\-1<=q/\q<ak.B/\sh.B<=3
def _oJ(ha:a.B<=3)(hb:b.B<=3):(v5 a b).B<=6:=by
 ext v5
 grind
def _oK(hP:Prs aa ss.B rs)(hk:Abk aa)(h:Pok aa ak P):qk aa (pS rs P):=by
 let#[p,q,sh,rfl,h0,h1,_]:=h;let#[_,_,c,_,e]:=W5 hP hk h0 h1;show _oy h0 h1 λhp=>?_
 rw[<-e hp,X3,Xi];lia
def _oL(f8:Prs ak ss.B rs')(be:Abk ak)(h:Pok aa ak P):qk ak (pT rs rs' P):=by
 let#[p,q,sh,rfl,_,_,h0,h1,_]:=h;let#[_,_,c,_,e]:=W5 f8 be h0 h1;show _oy h0 h1 λhp=>?_
 rw[<-e hp,QJ];lia
def _oM(hP:Prs aa ss.B rs)(hk:Abk aa)(f8:Prs ak ss.B rs')(be:Abk ak)(h:Pok aa ak P):
  Oo m_first_standings [(.x,jv ss rs),(.x,jv ss rs'),(.x,P)] (λy=>y=(.x,lat (pS rs P,pT rs rs' P))) noX:=by
 let#[p,q,sh,rfl,h0,h1,h2,h3,h4]:=h;let#[a,_,c,d,_]:=W5 hP hk h0 h1;let#[a',_,c',d',_]:=W5 f8 be h2 h3;show(_nV a a' c .q c' .q .q).mono λy hy=>?_
 rw[hy];change _=(Own.x,D.X [stn _,stn (_nX q _ _ _)]);rw[_oI];rfl
def _oN(hP:Prs aa ss.B rs)(hk:Abk aa)(f8:Prs ak ss.B rs')(be:Abk ak)(h:Pok aa ak P):pO rs rs' P<=6:=_oJ (Q6 hk (_oK hP hk h)) (Q6 be (_oL f8 be h))
def _oO(t):∀k (o),(k8 t k o).B<=o.B
 |_,[]=>Xa _
 |k,n::o=>by
  let:=_oO t (k+1) o;ext k8
  split<;>simp<;>lia
def _oP(ha:qk aa a)(hb:qk ak b)(hk:Abk aa):Pok aa ak (v7 a b):=by
 let#[a0,a1]:=_ox ha;let#[b0,b1]:=_ox hb;show#[_,_,_,rfl,a0,a1,b0,b1,Z5 (_oO _ _ _) (Q6 hk ha)]
def _oQ:D->Int
 |.X [.E k,_,_]=>k|_=>0
def _oR(rs:List D):Bool:=decide (rs.B<=12)&&rs.all λr=>decide (_oQ r<=3)
def _oS(g):∀ds:List D,bls (ds.C λd=>D.bl (g d))=@(ds.C g)
 |[]=>rfl
 |d::ds=>by
  rw[List.l,bls,_oS g ds];rfl
def _oT g (ds:List D):_dN (.L (ds.C λd=>D.bl (g d)))=@(.bl (ds.all g)):=by
 change(bls _).C _=_;rw[_oS];simp[Function.comp_def]
def small_is(h:∀r>rs,∃(own:Int) (a b:D),r=.X [.E own,a,b]):Oo m_is_small [(.x,.X [d0,.L rs])] (λy=>∃o',y=(o',.bl (_oR rs))/\True) noX:=by
 let q1:∀a b,kQ (.X [a,b]) (.E 1)=@b:=λ_ _=>rfl
 show q9 ?_
 by_cases hl:rs.B<=12
 .let e:fLe (.E rs.B) (.E 12)=@(.bl true):=by rw[le_ii,X8 .q]
  simp![q1,e];show xV [] (λd y=>y.2=.bl (decide (_oQ d<=3))) ?_;simp![q1];show#[λd hd=>?_,λys hy=>?_]
  .let#[own,a,b,rfl]:=h d hd;simp![t0];show#[#[_,rfl],rfl]
  .rw[vj,x5 (h:=λd=>.bl (decide (_oQ d<=3))) (λ_ _ h=>h) hy];simp![_oT (λd=>decide (_oQ d<=3))];show#[_,by ext _oR;rw[X8 hl];rfl,trivial]
 .let e:fLe (.E rs.B) (.E 12)=@(.bl false):=by rw[le_ii,Xk .q]
  simp![q1,e];show#[_,by ext _oR;rw[Xk hl];rfl,trivial]
def _oU(hP:Prs aa n rs):∀r>rs,∃(own:Int) (a b:D),r=.X [.E own,a,b]:=λr hr=>by
 let#[i,hi,e]:=Yu hr;let#[r',e',gd,st,h',_]:=hP.2 i (hP.1▸hi);rw[X1 hi,e]at e'
 grind
def _oV(hP:Prs aa n rs)(hk:Abk aa)(i9:aa.B<=12):_oR rs=true:=by
 ext _oR;rw[X8 (hP.1▸i9),Bool.true_and,Yb];intro r hr;let#[i,hi,e]:=Yu hr;let lq:i<aa.B:=by rw[<-hP.1];show hi
 let#[r',e',gd,st,h',_]:=hP.2 i lq;rw[X1 hi,e]at e';cases _aa e';rw[h'];let hm:aa.p i 0>aa:=by rw[X6,X1 lq];show Xr _
 show X8 (hk _ hm).2
end
end J
namespace Kp
open Q PySem C
def bk(E:En):back [] [] (clr [] E)=E:=rfl
end Kp
namespace U
open Q PySem C B J
def _oW(h:stn a=stn b):a=b:=by
 cases a with
 | none=>cases b with|none=>rfl|some y=>cases h
 | some x=>cases b with
  |none=>cases h
  |some y=>
   let h:(D.X [.E x.1,iT x.2])=.X [.E y.1,iT y.2]:=h;injection h with h;injection h with e1 h;injection h with e2 _;injection e1 with e1;injection e2 with e2;let e2:x.2=y.2:=(List.map_inj_right λa b h=>by injection h).mp e2;show congrArg some (Prod.ext e1 e2)
def _oX(h:Rd aa ss rs s w a)(h':Rd aa ss rs s w b):a=b:=by
 let#[rfl,rfl]\/#[room,ks,st,kp,gd,rfl,_,hr,_,_,e]:=h
 .let#[_,rfl]\/#[room,ks,st,kp,gd,h,_]:=h'
  .rfl
  .cases h
 .let#[h,_]\/#[vl,cf,f9,kp',gd',h,_,hr',_,_,e']:=h'
  .cases h
  .injection h with h;injection h with e1 h;injection h with e2 _;injection e1 with e1;injection e2 with e2;let e2:ks=cf:=(List.map_inj_right λa b h=>by injection h).mp e2;subst e1 e2;rw[hr]at hr';injection hr' with hr';injection hr' with hr';injection hr' with _ hr';injection hr' with _ hr';injection hr' with hr' _;injection hr' with hr';rw[e,e',hr']
section
def _oY(hP:Prs aa ss.B rs)(hk:Abk aa)(hS:qk aa S)(ib:∀x>nms S,f x=f c->x=c):rdF ss rs (vz f S) z (f c)=vz f (rdF ss rs S z c)/\∀n>nms (rdF ss rs S z c),n>nms S\/n=c:=by
 let#[s',h1,h2,h3,_]:=_n8 (z:=z) hP hk hS ib;let hm:qk aa (vz f S):=by
  cases S with
  |none=>show nofun
  |some x=>
   intro room ks e;cases e;let#[a,b,c]:=hS x.1 x.2 rfl;show#[a,b,by rw[X3];show c]
 let e1:=_oW (_oX (VX z c hP hk hS).1 h1);let e2:=_oW (_oX (VX z (f c) hP hk hm).1 h2);rw[e1,e2];show#[rfl,h3]
def _oZ{l:List Int}(h:l.U)(hi:∀x>l,∀y>l,g x=g y->x=y):(l.C g).U:=by
 induction l with
 |nil=>show Y7
 |cons a l ih=>
  rw[Yh]at h;rw[List.l,Yh];show#[λz=>?_,ih h.2 λx hx y hy=>hi x (_ad _ hx) y (_ad _ hy)];let#[b,hb,e]:=aE z;let:=hi b (_ad _ hb) a X2 e;show h.1 (this▸hb)
def _o0(hP:Prs aa ss.B rs)(hk:Abk aa)(hS:qk aa S)(hn:(nms S).U):(nms (rdF ss rs S z c)).U:=by
 let h1:=(VX z c hP hk hS).1;generalize rdF ss rs S z c=S' at h1;let#[_,e]\/#[room,ks,st,kp,gd,e,_,_,hc,_,e']:=h1
 .cases S' with| none=>show Y7| some x=>cases e
 .let u6:nms S=ks:=by
   cases S with
   | none=>cases e
   | some x=>
    let e:(D.X [.E x.1,iT x.2])=.X [.E room,iT ks]:=e;injection e with e;injection e with _ e;injection e with e _;injection e with e;show(List.map_inj_right λa b h=>by injection h).mp e
  rw [u6]at hn;unfold wX at e';cases hz:(ss.any λw=>w==z)with
  | false=>
   rw [hz]at e';cases S' with| none=>show Y7| some x=>cases e'
  | true=>
   rw [hz,X7 rfl]at e';let#[cs,_,_,_,g4]:=_nD c hc hz;let g\/#[to,fs,g,_,_,oe,dw,_]:=g4
   .rw [g]at e';cases S' with| none=>show Y7| some x=>cases e'
   .rw [g,show(D.X (fs.C D.E))=iT fs from rfl,caseD_is]at e';cases S' with
    | none=>cases e'
    | some x=>
     let e':(D.X [.E x.1,iT x.2])=.X [.E to,iT (fs.C (C.nameAt ks c))]:=e';injection e' with e';injection e' with _ e';injection e' with e' _;injection e' with e';let e':x.2=fs.C (C.nameAt ks c):=(List.map_inj_right λa b h=>by injection h).mp e';change x.2.U;rw[e'];let hb:=λi hi=>oe i hi
     show _oZ dw λi hi j hj lr=>?_
     let#[i0,i1]:=oe i hi;let#[j0,j1]:=oe j hj;unfold V4 at i1 j1;unfold C.nameAt at lr;let key:i.S=j.S:=by
      by_cases hm:c>ks
      .let b9:(ks.ß λw=>w==c)<ks.B:=Yv #[c,hm,by simp];rw[Xb .q]at i1 j1;rw[X6,X6,Xx .q,Xx .q,<-X6,<-X6]at lr;show _oq hn .q .q lr
      .let qr:(ks++[c]).U:=List.nodup_append.y #[hn,by simp,λx hx y hy e=>by rw[aC hy]at e;show hm (e▸hx)];let:(if((ks.ß λw=>w==c:Nat):Int)=ks.B then(1:Int)else 0)<=1:=by split<;>decide
       show _oq qr (by rw[Xj,Xy];lia) (by rw[Xj,Xy];lia) lr
     lia
#where in
def _o1:∀{o:List Int} {k:Nat},(i,j)>k8 t k o->∃m:Nat,∃x:Int,i=((k+m:Nat):Int)/\o[m]?=@x/\x>t/\j=((t.ß λw=>w==x:Nat):Int)
 | [],k,h=>nomatch h
 | n::o,k,h=>by
  let e:k8 t k (n::o)=if(t.any λw=>w==n)=true then((k:Int),((t.ß λw=>w==n:Nat):Int))::k8 t (k+1) o else k8 t (k+1) o:=rfl
  rw[e]at h;let go:(i,j)>k8 t (k+1) o->∃m:Nat,∃x:Int,i=((k+m:Nat):Int)/\(n::o)[m]?=@x/\x>t/\j=((t.ß λw=>w==x:Nat):Int):=λh=>by
   let#[m,x,h1,h2,h3,h4]:=_o1 h;show#[m+1,x,by rw[h1];congr 1;lia,h2,h3,h4]
  split at h
  .revert ha;let h\/h:=aD h
   .injection h with h1 h2;rw[YK]at ha;show#[0,n,h1,rfl,Yf ha,h2]
   .show go h
  .show go h
def _o2:∀{o:List Int} {k m:Nat},o[m]?=@x->x>t->(((k+m:Nat):Int),((t.ß λw=>w==x:Nat):Int))>k8 t k o
 | [],k,m,h,_=>nomatch h
 | n::o,k,m,h,hx=>by
  let e:k8 t k (n::o)=if(t.any λw=>w==n)=true then((k:Int),((t.ß λw=>w==n:Nat):Int))::k8 t (k+1) o else k8 t (k+1) o:=rfl
  rw[e];cases m with
  |zero=>
   let h:n=x:= ~~~h
   subst h;rw[X7 (by rw[YK];show X8 hx)];show X2
  |succ m=>
   let:=_o2 (k:=k+1) (m:=m) (o:=o) (~~~h) hx;rw[show k+1+m=k+(m+1)by lia]at this
   split
   .show _ad _ this
   .show this
def _o3(kv:List (Int×Int))(k v j:Int):(jY kv j).isSome=true\/k=j->(jY (qW kv k v) j).isSome=true:=by
 intro h;ext jY;rw [Option.isSome_map,List.find?_isSome];ext qW
 by_cases ha:(kv.any λp=>decide (p.1=k))=true
 .rw[X7 ha];let:∃p>kv,p.1=j:=by
   let h\/rfl:=h
   .unfold jY at h;rw[Option.isSome_map,List.find?_isSome]at h;let#[p,hp,e]:=h;show#[p,hp,Yf e]
   .let#[p,hp,e]:=List.any_eq_true.mp ha;show#[p,hp,Yf e]
  let#[p,hp,e]:=this;show#[_,List.mem_map.y #[p,hp,rfl],X8 ?_]
  split
  .show e
  .show e
 .rw[Xb ha];let h\/rfl:=h
  .unfold jY at h;rw[Option.isSome_map,List.find?_isSome]at h;let#[p,hp,e]:=h;show#[p,_ac _ hp,e]
  .show#[(k,v),_ab _ X2,X8 rfl]
def _o4:∀(ps kv:List (Int×Int)) (j:Int),(jY kv j).isSome=true\/(∃p>ps,p.1=j)->(jY (ps.foldl (λkv p=>qW kv p.1 p.2) kv) j).isSome=true
 | [],kv,j,h=>by
  let h\/#[p,hp,_]:=h
  .show h
  .show nomatch hp
 | p::ps,kv,j,h=>by
  rw[Yz];show _o4 ps _ j ?_;let h\/#[q,hq,e]:=h
  .show .O (_o3 _ _ _ _ (.O h))
  .let rfl\/hq:=aD hq
   .show .O (_o3 _ _ _ _ (.Z e))
   .show .Z #[q,hq,e]
def _o5(h:(i,j)>sh):(jY (kvS sh) j).isSome=true:=_o4 _ _ _ (.Z #[(j,i),List.mem_map.y #[(i,j),h,rfl],rfl])
def _o6(hv:∀j i,jY kv j=@i->0<=i/\i<own):∀n,(nmF own kv n).filter (λx=>decide (own<=x))=(List.r (v3 own kv n)).C λ(c:Nat)=>own+c
 | 0=>rfl
 | n+1=>by
  let ih:=_o6 hv n;cases h:jY kv n with
  | some i=>
   let:=hv _ _ h;let e:v3 own kv (n+1)=v3 own kv n:=by
    ext v3;rw[_ok h,Yj,List.filter_cons_of_neg (by simp;lia)];simp
   rw[e,<-ih,_ok h,Yj,List.filter_cons_of_neg (by simp;lia)];simp
  | none=>
   let e:v3 own kv (n+1)=v3 own kv n+1:=by
    change((nmF own kv _).filter _).B=_;rw[_ol h,Yj,List.filter_cons_of_pos (by simp;lia),Xj];rfl
   rw[e,Z7,Xl,<-ih,_ol h,Yj,List.filter_cons_of_pos (by simp;lia)];rfl
def _o7(hk:0<=k)(hv:∀j i,jY (kvS sh) j=@i->0<=i/\i<k):v5 (vk k) (nmF k (kvS sh) n)=vk ((v5 (vk k) (nmF k (kvS sh) n)).B:Nat):=by
 let e:(nmF k (kvS sh) n).filter (λm=>!(vk k).any λw=>w==m)=(nmF k (kvS sh) n).filter λx=>decide (k<=x):=by
  show List.filter_congr λx hx=>?_
  let h0:=(_om hk hv n x hx).1;rw[YK]
  by_cases ua:k<=x
  .rw[X8 ua,Xk]
   .rfl
   .grind
  .rw[Xk ua,X8]
   .rfl
   .show List.mem_map.y #[x.S,List.á.y .q,.q]
 let e2:v5 (vk k) (nmF k (kvS sh) n)=vk (k+v3 k (kvS sh) n):=by
  ext v5;rw[e,_o6 hv];change(List.r k.S).C _++_=(List.r (k+v3 k _ n).S).C _;rw[show(k+_).S=k.S+v3 k (kvS sh) n by lia,List.range_add,Xl,Xg]
  congr 1
  show Xw λc _=>?_
  grind
 rw[(_ov (n:=n) hk hv),e2]
end
section
variable {ss:List Str}
abbrev hp(rs rs':List D)(P:D):List Int:=v5 (nms (pS rs P)) (nms (pT rs rs' P))
def Rl(rs rs':List D)(P:D)(a b:Sn):Prop:=∃f:Int->Int,a=vz f (pS rs P)/\b=vz f (pT rs rs' P)/\(∀x>hp rs rs' P,∀y>hp rs rs' P,f x=f y->x=y)/\hp rs rs' P=vk (pO rs rs' P)
def _o8(hP:Prs aa ss.B rs)(hk:Abk aa)(h:qk aa s):kpF rs (rmO s)=(nms s).B:=by
 cases s with
 |none=>rfl
 |some x=>
  let#[a,b,c]:=h x.1 x.2 rfl;let#[_,_,_,_,e]:=W5 hP hk .q b;change kpF rs x.1=(x.2.B:Int);rw[e a,c]
def _o9(h:qk aa s) g (hg:T.C g=nms s):s=vz g (v9 (rmO s) T):=by
 cases s with
 |none=>rfl
 |some x=>
  let:=(h x.1 x.2 rfl).1;let hg:T.C g=x.2:=hg;change @x=vz g (v9 x.1 T);ext v9;rw[Xb .q];change @x=@(x.1,T.C g);rw[hg]
def _pa(hP:Prs aa ss.B rs)(hk:Abk aa)(f8:Prs ak ss.B rs')(be:Abk ak)(ha:qk aa a)(hb:qk ak b)(na:(nms a).U)(nb:(nms b).U):Rl rs rs' (v7 a b) a b:=by
 let ka:=_o8 hP hk ha;let qp:W1 (prs (k8 (nms b) 0 (nms a)))=k8 (nms b) 0 (nms a):=_oI _;let eS:pS rs (v7 a b)=v9 (rmO a) (vk ((nms a).B:Nat)):=by
  change _nW (rmO a) (kpF rs (rmO a))=_;rw [ka];rfl
 let eT:pT rs rs' (v7 a b)=v9 (rmO b) (nmF ((nms a).B:Nat) (kvS (k8 (nms b) 0 (nms a))) (nms b).B):=by
  change _nX (rmO b) (kpF rs (rmO a)) (kpF rs' (rmO b)) (W1 (prs (k8 (nms b) 0 (nms a))))=_;rw [ka,(_o8 f8 be hb),qp];rfl
 generalize hA:nms a=A at *;generalize hB:nms b=B' at *;let hv:∀j i,jY (kvS (k8 B' 0 A)) j=@i->0<=i/\i<(A.B:Nat):=λj i h=>by
  let#[m,x,h1,h2,_]:=_o1 (_oj h);let:=(aF h2).1
  symm
 let k0:(0:Int)<=(A.B:Nat):=by simp
 generalize hT:nmF ((A.B:Nat):Int) (kvS (k8 B' 0 A)) B'.B=T at *;let hTl:T.B=B'.B:=by rw[<-hT,QJ]
 let fa:(vk (A.B:Nat)).C (ren (A++B') (A.B:Nat) T)=A:=by
  rw [_os k0 (by rw[Xj];lia),Xs,List.take_left]
 let fb:T.C (ren (A++B') (A.B:Nat) T)=B':=by
  rw [<-hT,_ou k0 hv];ext _ob;show Zk λj=>?_
  rw [Xf]
  by_cases hj:j<B'.B
  .rw[Yl hj,X1 hj];change @((jY (kvN (A++B') (k8 B' 0 A)) (j)).p ((A++B').p ((A.B:Int).S+j) 0))=_;rw[_oh];cases h:jY (kvS (k8 B' 0 A)) (j)with
   | none=>
    change @((A++B').p ((A.B:Int).S+j) 0)=_;rw[Xs,X6,Y9 (by simp),show A.B+j - A.B=j by simp,X1 hj];rfl
   | some i=>
    change @((A++B').p i.S 0)=_;let#[m,x,h1,h2,h3,h4]:=_o1 (_oj h);let hm:=(aF h2).1;let n8:=_or h3;rw[show(B'.ß λw=>w==x)=j by lia,X1 hj]at n8;rw[n8,show i.S=m by symm,X6,Xx hm,h2];rfl
  .rw[Y2 (by rw[Xi];lia),Y2 .q];rfl
 let hnA:nms (v9 (rmO a) (vk (A.B:Nat)))=vk (A.B:Nat):=_oz λe=>by
  let:=_oH ha e;rw [this]at hA;rw [<-hA];rfl
 let hnB:nms (v9 (rmO b) T)=T:=_oz λe=>by
  let:=_oH hb e;rw [this]at hB;let:T.B=0:=by rw[hTl,<-hB];rfl
  show List.length_eq_zero_iff.mp this
 let hhp:hp rs rs' (v7 a b)=v5 (vk (A.B:Nat)) T:=by
  ext hp;rw [eS,eT,hnA,hnB]
 let hrng:hp rs rs' (v7 a b)=vk (pO rs rs' (v7 a b)):=by
  change _=vk ((hp rs rs' (v7 a b)).B:Nat);rw [hhp,<-hT];show _o7 k0 hv
 show#[ren (A++B') (A.B:Nat) T,?_,?_,?_,hrng]
 .rw [eS];show _o9 ha _ (by rw[fa,hA])
 .rw [eT];show _o9 hb _ (by rw[fb,hB])
 .rw [hhp];let big:∀x>T,((A.B:Nat):Int)<=x->∃j,j<B'.B/\T[j]?=@x/\(ren (A++B') (A.B:Nat) T x)=B'.p j 0/\B'.p j 0∉A:=λx hx ua=>by
   let n8:=_or hx;let hj:=(aF n8).1;let vy:ren (A++B') (A.B:Nat) T x=B'.p (T.ß λw=>w==x) 0:=by
    ext ren;rw[Xb (by symm),Xs,X6,Y9 (by simp),X6]
    congr 2
    simp
   generalize (T.ß λw=>w==x)=j at n8 hj vy;show#[j,.q,n8,vy,λgw=>?_];let#[m,hm,em]:=Yu gw;let hB:B'.p j 0>B':=by rw[X6,X1 .q];show Xr _
   let qp:=_o2 (k:=0) (t:=B') (o:=A) (m:=m) (x:=B'.p j 0) (by rw[X1 hm,em]) hB;let lr:(B'.ß λw=>w==B'.p j 0)=j:=by
    let h1:=_or hB;let h2:=(aF h1).1;show _oq nb h2 .q ?_;rw[X6,h1];rfl
   rw[lr]at qp;let#[i,hi]:=Option.isSome_iff_exists.mp (_o5 qp);let:=_ot (own:=(A.B:Nat)) (n:=B'.B) .q (_ok (own:=((A.B:Nat):Int)) hi);rw[hT,n8]at this;let e:=_aa this;let:=hv _ _ hi;lia
  let sml:∀x:Int,0<=x->x<(A.B:Nat)->ren (A++B') (A.B:Nat) T x=A.p x.S 0:=λx h0 h1=>by
   ext ren;rw[X7 h1,X6,Xx .q,X6]
  let mA:∀x:Int,0<=x->x<(A.B:Nat)->A.p x.S 0>A:=λx h0 h1=>by
   rw[X6,X1 .q];show Xr _
  let cs:∀x>v5 (vk (A.B:Nat)) T,(0<=x/\x<(A.B:Nat))\/(x>T/\((A.B:Nat):Int)<=x):=λx hx=>by
   let hx\/hx:=aA hx
   .let#[i,hi,rfl]:=aE hx;let:=List.á.mp hi;show .O (by symm)
   .let hx:=(List.mem_filter.mp hx)
    by_cases h:x<(A.B:Nat)
    .show .O #[?_,h];let:=hx.1;rw[<-hT]at this;show(_om k0 hv _ x this).1
    .show .Z #[hx.1,by symm]
  intro x hx y hy e;let#[x0,x1]\/#[x0,x1]:=cs x hx
  .let#[y0,y1]\/#[y0,y1]:=cs y hy
   .rw[sml x x0 x1,sml y y0 y1]at e;let:=_oq na .q (by symm) e;lia
   .let#[j,_,_,h1,h2]:=big y y0 y1;rw[sml x x0 x1,h1]at e;show absurd (e▸mA x x0 x1) h2
  .let#[i,i1,i2,i3,i4]:=big x x0 x1;let#[y0,y1]\/#[y0,y1]:=cs y hy
   .rw[sml y y0 y1,i3]at e;show absurd (e▸mA y y0 y1) i4
   .let#[j,j1,j2,j3,j4]:=big y y0 y1;rw[i3,j3]at e;let:=_oq nb i1 j1 e;subst this;rw[i2]at j2;show _aa j2
end
def _pb(h:∀n>t,∀x>o,f x=f n->x=n):v5 (o.C f) (t.C f)=(v5 o t).C f:=by
 ext v5;rw[Xl,List.filter_map]
 congr 2
 show List.filter_congr λn hn=>?_
 change(!_)=_;rw[_n1 (h n hn)]
section
variable {aa ak:List Int}{ss:List Str}
def xW(ss:List Str)(rs rs':List D)(P:D)(z:Str)(i:Int):D:=v7 (rdF ss rs (pS rs P) z i) (rdF ss rs' (pT rs rs' P) z i)
def Lk(own:Nat)(a b:Sn)(i c:Int):Prop:=(0<=i/\i<own/\(v5 (nms a) (nms b))[i.S]?=@c)\/(i=own/\c∉v5 (nms a) (nms b))
def _pc(h:x>nms (pS rs P)):x>hp rs rs' P:=_ac _ h
def _pd(h:x>nms (pT rs rs' P)):x>hp rs rs' P:=by
 by_cases hx:x>nms (pS rs P)
 .show _ac _ hx
 .show _ab _ (List.mem_filter.y #[h,?_]);rw[YK,Xk hx];rfl
def mem_rngL:x>vk k↔0<=x/\x<k:=by
 constructor
 .intro h;let#[i,hi,rfl]:=aE h;let:=List.á.mp hi
  symm
 .intro h;show List.mem_map.y #[x.S,List.á.y .q,.q]
def _pe(h:∀x>nms s,f x=g x):vz f s=vz g s:=by
 cases s with|none=>rfl|some x=>show congrArg some (Prod.ext rfl (Xw h))
def _pf(e1:a=vz f (pS rs P))(e2:b=vz f (pT rs rs' P))(hi:∀x>hp rs rs' P,∀y>hp rs rs' P,f x=f y->x=y):v5 (nms a) (nms b)=(hp rs rs' P).C f:=by
 rw[e1,e2,_nY,_nY];show _pb λn hn x hx e=>hi x (_pc hx) n (_pd hn) e
def _pg(h:Rl rs rs' P a b):(v5 (nms a) (nms b)).B=pO rs rs' P:=by
 let#[f,e1,e2,hi,_]:=h;rw[_pf e1 e2 hi,X3];rfl
def _ph(hP:Prs aa ss.B rs)(hk:Abk aa)(f8:Prs ak ss.B rs')(be:Abk ak)(qf:Pok aa ak P)(h:Rl rs rs' P a b)(hl:Lk (pO rs rs' P) a b i c):
  v7 (rdF ss rs a z c) (rdF ss rs' b z c)=xW ss rs rs' P z i:=by
 let#[f,e1,e2,hi,hr]:=h;let hh:=_pf e1 e2 hi;let key:∀g:Int->Int,(∀x>hp rs rs' P,g x=f x)->g i=c->(∀x,x>hp rs rs' P\/x=i->∀y,y>hp rs rs' P\/y=i->g x=g y->x=y)->v7 (rdF ss rs a z c) (rdF ss rs' b z c)=xW ss rs rs' P z i:=λg hg hc hj=>by
  let a1:a=vz g (pS rs P):=by rw[e1];show(_pe λx hx=>hg x (_pc hx)).s
  let b1:b=vz g (pT rs rs' P):=by rw[e2];show(_pe λx hx=>hg x (_pd hx)).s
  let#[r1,r2]:=_oY hP hk (_oK hP hk qf) λx hx e=>hj x (.O (_pc hx)) i (.Z rfl) e
  let#[r3,r4]:=_oY f8 be (_oL f8 be qf) λx hx e=>hj x (.O (_pd hx)) i (.Z rfl) e
  rw[a1,b1,<-hc,r1,r3];show _n4 λn hn x hx e=>(hj x ?_ n ?_ e)
  .let q\/q:=r4 x hx
   .show .O (_pd q)
   .show .Z q
  .let q\/q:=r2 n hn
   .show .O (_pc q)
   .show .Z q
 let#[i0,i1,hc]\/#[rfl,hc]:=hl
 .let him:i>hp rs rs' P:=by rw[hr];show mem_rngL.y #[i0,i1]
  let hci:f i=c:=by
   rw[hh,hr,Xf,Xf,Yl (by grind)]at hc
   grind
  show key f (λ_ _=>rfl) hci λx hx y hy e=>hi x (hx.ë id λq=>q▸him) y (hy.ë id λq=>q▸him) e
 .let lh:((pO rs rs' P):Int)∉hp rs rs' P:=λq=>by
   rw[hr]at q;let:=mem_rngL.mp q;lia
  let bc:∀x>hp rs rs' P,x≠((pO rs rs' P):Int):=λx hx e=>lh (e▸hx)
  let hfc:∀x>hp rs rs' P,f x≠c:=λx hx e=>hc (by rw[hh,<-e];show List.mem_map.y #[x,hx,rfl])
  show key (λx=>if x=_ then c else f x) (λx hx=>Xb (bc x hx)) (X7 rfl) λx hx y hy e=>?_
  let hx\/rfl:=hx
  .grind
  .grind
structure Two (aa ak:List Int)(S T:Sn):Prop where
 a:qk aa S
 b:qk ak T
 na:(nms S).U
 nb:(nms T).U
#where in
def Two.next{a b} z c (hP:Prs aa ss.B rs)(hk:Abk aa)(f8:Prs ak ss.B rs')(be:Abk ak)(h:Two aa ak a b):Two aa ak (rdF ss rs a z c) (rdF ss rs' b z c):=
 #[(VX z c hP hk h.a).2,(VX z c f8 be h.b).2,_o0 hP hk h.a h.na,_o0 f8 be h.b h.nb]
#where in
def _pi(hP:Prs aa ss.B rs)(hk:Abk aa)(f8:Prs ak ss.B rs')(be:Abk ak)(qf:Pok aa ak P)(ht:Two aa ak a b)(h:Rl rs rs' P a b)(hl:Lk (pO rs rs' P) a b i c):
  Rl rs rs' (xW ss rs rs' P z i) (rdF ss rs a z c) (rdF ss rs' b z c):=by
 rw[<-_ph hP hk f8 be qf h hl];let t:=ht.next z c hP hk f8 be
 show _pa hP hk f8 be t.a t.b t.na t.nb
def _pj c (h:Rl rs rs' P a b):∃i:Int,0<=i/\i<=pO rs rs' P/\Lk (pO rs rs' P) a b i c:=by
 let hl:=_pg h
 by_cases hc:c>v5 (nms a) (nms b)
 .let#[m,hm,e]:=Yu hc;show#[m,.q,.q,.O #[.q,.q,by rw[Xs,X1 hm,e]]]
 .show#[_,by simp,Int.le_refl _,.Z #[rfl,hc]]
#where in
def _pk(qf:Pok aa ak P)(h:Rl rs rs' P a b):gdF rs (rmO a)=gS rs P/\gdF rs' (rmO b)=gT rs' P:=by
 let#[f,e1,e2,_]:=h;let#[p,q,sh,rfl,_]:=qf;let rm:∀r ks,rmO (v9 r ks)=r:=λr ks=>by
  ext v9
  split
  .revert h;rw[h];rfl
  .rfl
 rw[e1,e2,_nZ,_nZ];constructor
 .change gdF rs (rmO (v9 p _))=gdF rs p;rw[rm]
 .change gdF rs' (rmO (v9 q _))=gdF rs' q;rw[rm]
def run(ss:List Str)(rs:List D)(S:Sn)(w:List (Str×Int)):Sn:=w.foldl (λS x=>rdF ss rs S x.1 x.2) S
#where in
def _pl{K:List D}(hP:Prs aa ss.B rs)(hk:Abk aa)(f8:Prs ak ss.B rs')(be:Abk ak)(hK:∀P>K,Pok aa ak P/\gS rs P=gT rs' P/\∀z>ss,∀i:Int,0<=i->i<=pO rs rs' P->xW ss rs rs' P z i>K):
  ∀w {P a b},(∀x>w,x.1>ss)->P>K->Two aa ak a b->Rl rs rs' P a b->gdF rs (rmO (run ss rs a w))=gdF rs' (rmO (run ss rs' b w))
 |[],P,a,b,_,mt,_,h=>by
  let#[h1,h2,_]:=hK P mt;let#[g1,g2]:=_pk h1 h;change gdF rs (rmO a)=gdF rs' (rmO b);rw[g1,g2,h2]
 |x::w,P,a,b,hw,mt,ht,h=>by
  let#[h1,_,h3]:=hK P mt;let#[i,i0,i1,hl]:=_pj x.2 h;show _pl hP hk f8 be hK w (λy hy=>hw y (_ad _ hy)) (h3 x.1 (hw x X2) i i0 i1) (ht.next x.1 x.2 hP hk f8 be) (_pi hP hk f8 be h1 ht h hl)
end
def m_steps_from:Fn:=fn 8
  (jk (jx 3 (jQ B.m_first_standings [(cV 0),(cV 1),(cV 2)]))
  (jk (jx 4 (W8 (vE (cF2 kw (vE (cF1 (pu1 v8) (vE (jQ B.m_held_by_both [(cV 3)])))) (C9 1)))))
  (jk (jx 5 (k9 .rt []))
  (jk (wJ (itS (cF1 _jC (vE (cF2 kw (jw (vV 0) (C9 0)) (jw (vV 1) (C9 0)))))) (.n 6) (wJ (itS (cV 4)) (.n 7) (v0 qY 5 (jZ .x [(cV 6),(cV 7),(jQ B.m_pair_of [(jQ B.m_read_by_both [(cV 0),(cV 1),(cV 3),(cV 6),(cV 7)])])]))))
  (kq (cMv 5))))))
def J6(i:Int):List (List (Int×Int)):=[[],[(i,0)],[(i,1)],[(i,2)]]
def AllS:List (List (Int×Int)):=(J6 0).flatMap λa=>(J6 1).flatMap λb=>(J6 2).C λc=>a++(b++c)
def _pm{f:α->List β}:∀(l:List α),(∀a>l,(f a).B=n)->(l.flatMap f).B=l.B*n
 |[],_=>by simp
 |a::l,h=>by
  rw[List.flatMap_cons,Xj,_pm l λb hb=>h b (_ad _ hb),h a X2,Xn,Nat.add_mul];lia
def _pn(h0:0<=j)(h1:j<3):[(i,j)]>J6 i:=by
 let rfl\/rfl\/rfl:=(show j=0\/j=1\/j=2 by lia)<;>simp[J6]
def _po t (ht:t.B<=3)(k:Nat) n o:∃a>J6 k,k8 t k (n::o)=a++k8 t (k+1) o:=by
 let e:k8 t k (n::o)=if _=true then _::k8 t _ o else k8 t _ o:=rfl
 rw[e]
 by_cases h:(t.any λw=>w==n)=true
 .let#[x,hx,e]:=List.any_eq_true.mp h;let:=Yv (p:=λw=>w==n) #[x,hx,e];rw[X7 h];show#[_,_pn .q .q,rfl]
 .rw[Xb h];show#[[],by simp[J6],rfl]
def _pp(ht:t.B<=3)(ho:o.B<=3):k8 t 0 o>AllS:=by
 let em:∀i,[]>J6 i:=λi=>by simp[J6]
 let mk:∀{a b c},a>J6 0->b>J6 1->c>J6 2->a++_>AllS:=λha hb hc=>List.mem_flatMap.y #[_,ha,List.mem_flatMap.y #[_,hb,List.mem_map.y #[_,hc,rfl]]]
 match o,ho with
 |[],_=>show mk (em 0) (em 1) (em 2)
 |[x],_=>
  let#[a,ha,e]:=_po t ht 0 x [];rw[e];show mk ha (em 1) (em 2)
 |[x,y],_=>
  let#[a,ha,e]:=_po t ht 0 x [y];let#[b,hb,e2]:=_po t ht 1 y [];rw[e,e2];show mk ha hb (em 2)
 |[x,y,z],_=>
  let#[a,ha,e]:=_po t ht 0 x [y,z];let#[b,hb,e2]:=_po t ht 1 y [z];let#[c,hc,e3]:=_po t ht 2 z [];rw[e,e2,e3];let:=mk ha hb hc
  simpa [k8]using this
section
variable {aa ak:List Int}{ss:List Str}{rs rs':List D}
def _pq(a):∀l,(z9 a l).B=l.B+1
 |[]=>rfl
 |b::l=>by
  ext z9
  split
  .rw[Xn,_pq a l,Xn]
  .rfl
def sortS_len:∀l,(wV l).B=l.B
 |[]=>rfl|a::l=>by rw[wV,_pq,sortS_len l];rfl
#where in
def _pr:∀(l ae:List Str),(l.foldl (λl k=>if l.any (· == k)then l else l++[k]) ae).B<=ae.B+l.B
 |[],ae=>Xa _
 |a::l,ae=>by
  rw[Yz];let:=_pr l (if ae.any (· == a)then ae else ae++[a])
  split at this
  .rw[Xn];revert h;rw[X7 h];lia
  .revert h;rw[Xb h];rw[Xj,Xy]at this;rw[Xn];lia
abbrev St3:=List (Str×Int×D)
abbrev stD(x:Str×Int×D):D:=.X [.ã x.1,.E x.2.1,x.2.2]
def _ps:∀{l},x=a\/x>l->x>z9 a l
 | [],h=>by
  let rfl\/h:=h
  .show aB rfl
  .grind
 | b::l,h=>by
  ext z9
  split
  .let rfl\/h:=h
   .show _ad _ (_ps (.O rfl))
   .let rfl\/h:=aD h
    .show X2
    .show _ad _ (_ps (.Z h))
  .grind
def _pt:∀{l},x>l->x>wV l
 |[],h=>nomatch h|a::l,h=>_ps ((aD h).imp id _pt)
def _pu:∀(l ae:List Str),x>ae\/x>l->x>l.foldl (λl k=>if l.any (· == k)then l else l++[k]) ae
 | [],ae,h=>h.ë id nofun
 | a::l,ae,h=>by
  rw[Yz];show _pu l _ ?_
  by_cases ha:(ae.any (· == a))=true
  .rw[X7 ha];let h\/h:=h
   .show .O h
   .let rfl\/h:=aD h
    .symm
    .show .Z h
  .rw[Xb ha];let h\/h:=h
   .show .O (_ac _ h)
   .grind
end
end U
namespace Y
open Q PySem C B J U
def _pv(d:D):Prop:=∃(r r':Int) (l:List (Int×Int)),d=.X [.E r,.E r',.X (prs l)]
section
variable {ss:List Str}{rs rs':List D}
def _pw z P i:_pv (xW ss rs rs' P z i):=#[_,_,_,rfl]
end
def AllJ:List (List (Int×Int)):=AllS.filter λl=>decide (l.C (·.2)).U
def rmQ:List Int:=[-1,0,1,2,3,4,5,6,7,8,9,10,11]
def AllQ:List D:=rmQ.flatMap λp=>rmQ.flatMap λq=>AllJ.C λs=>.X [.E p,.E q,.X (prs s)]
def _px:AllJ.B=34:=by decide +kernel
def _py:AllQ.B=5746:=by
 ext AllQ;rw[_pm (n:=442)]
 .rfl
 .intro p _;rw[_pm (n:=34)]
  .rfl
  .intro q _;rw[X3,_px]
def _pz(h0:-1<=p)(h1:p<12):p>rmQ:=by
 let:p=-1\/p=0\/p=1\/p=2\/p=3\/p=4\/p=5\/p=6\/p=7\/p=8\/p=9\/p=10\/p=11:=.q
 simpa [rmQ]using this
#where in
def _pA:∀{o k},o.U->((k8 t k o).C (·.2)).U
 | [],k,_=>Y7
 | n::o,k,h=>by
  rw[Yh]at h;let ih:=_pA (t:=t) (k:=k+1) h.2;let e:k8 t k (n::o)=if _=true then _::k8 t _ o else k8 t _ o:=rfl
  rw[e]
  split
  .revert ha;rw[YK]at ha;rw[List.l,Yh];show#[λhm=>?_,ih];let#[#[i,j],hx,ej]:=aE hm;let#[m,x,_,h2,h3,h4]:=_o1 hx;let g2:=_or h3;rw[show(t.ß λw=>w==x)=(t.ß λw=>w==n)by lia,(_or (Yf ha))]at g2;show h.1 (_aa g2▸Y5 h2)
  .show ih
def _pB{l:List Int}(h:(l.C f).U):l.U:=(List.pairwise_map.mp h).imp λbc e=>bc (congrArg f e)
section
variable {aa ak:List Int}{ss:List Str}{rs rs':List D}
def Pk(rs:List D)(P:D):Prop:=∃(p q:Int) (sh:List (Int×Int)),P=.X [.E p,.E q,.X (prs sh)]/\∀x>sh,0<=x.1/\x.1<kpF rs p
def _pC(t):∀o (k) x,x>k8 t k o->(k)<=x.1/\x.1<k+o.B
 | [],_,_,h=>nomatch h
 | n::o,k,x,h=>by
  let ih:=_pC t o (k+1) x;unfold k8 at h;rw[Xn]
  split at h
  .let rfl\/h:=aD h
   .grind
   .lia
  .grind
structure Pin (aa ak:List Int)(rs rs':List D)(P:D):Prop where
 ok:Pok aa ak P
 pk:Pk rs P
 two:Two aa ak (pS rs P) (pT rs rs' P)
 rl:Rl rs rs' P (pS rs P) (pT rs rs' P)
def _pD s:vz id s=s:=by
 cases s with|none=>rfl|some x=>show congrArg some (Prod.ext rfl (List.map_id _))
def _pE(hP:Prs aa ss.B rs)(hk:Abk aa)(f8:Prs ak ss.B rs')(be:Abk ak)(t:Two aa ak a b):Pin aa ak rs rs' (v7 a b):=by
 let hok:=_oP t.a t.b hk;let#[f,e1,e2,hi,hr]:=_pa hP hk f8 be t.a t.b t.na t.nb;let na:=t.na;let nb:=t.nb;rw[e1,_nY]at na;rw[e2,_nY]at nb;show#[hok,#[_,_,_,rfl,λx hx=>?_],#[_oK hP hk hok,_oL f8 be hok,_pB na,_pB nb],id,(_pD _).s,(_pD _).s,λ_ _ _ _ e=>e,hr];let h:=_pC _ _ _ _ hx;let:=_o8 hP hk t.a
 grind
def _pF(i9:aa.B<=12)(h12':ak.B<=12)(hk:Abk aa)(be:Abk ak)(t:Two aa ak a b):v7 a b>AllQ:=by
 let#[a0,a1]:=_ox t.a;let#[b0,b1]:=_ox t.b;show List.mem_flatMap.y #[_,_pz a0 .q,List.mem_flatMap.y #[_,_pz b0 .q,List.mem_map.y #[_,List.mem_filter.y #[_pp (Q6 be t.b) (Q6 hk t.a),X8 (_pA t.na)],rfl]]]
def K3(h:Pin aa ak rs rs' d):kZ d=true/\d.pure=true:=by
 let#[p,q,sh,rfl,_]:=h.ok;show#[key_pr _ _ _,?_];let:D.pures (prs sh)=true:=D.pures_map _ _ λx _=>rfl
 change(true&&(true&&(D.pures _&&true)))=true;rw[this];rfl
def gp(ss:List Str)(rs rs':List D)(a b:Sn)(w:List (Str×Int)):Prop:=gdF rs (rmO (run ss rs a w))=gdF rs' (rmO (run ss rs' b w))
end
def _pG:∀{l},x>z9 a l->x=a\/x>l
 | [],h=>.O (aC h)
 | b::l,h=>by
  unfold z9 at h
  split at h
  .let rfl\/h:=aD h
   .show .Z X2
   .show(_pG h).imp id λh=>_ad _ h
  .show aD h
def _pH:∀{l},x>wV l->x>l
 |[],h=>nomatch h|a::l,h=>(_pG h).ë (λe=>e▸X2) λh=>_ad _ (_pH h)
def _pI:∀(l ae:List Str),x>l.foldl (λl k=>if l.any (· == k)then l else l++[k]) ae->x>ae\/x>l
 | [],ae,h=>.O h
 | a::l,ae,h=>by
  rw[Yz]at h;let h\/h:=_pI l _ h
  .split at h
   .show .O h
   .let h\/h:=aA h
    .show .O h
    .show .Z (aC h▸X2)
  .show .Z (_ad _ h)
section
variable {aa ak:List Int}{ss:List Str}{rs rs':List D}
def Stp(ss:List Str)(rs rs':List D)(P:D)(L:List (Str×Int×D)):Prop:=∀x>L,x.1>ss/\0<=x.2.1/\x.2.1<=pO rs rs' P/\x.2.2=xW ss rs rs' P x.1 x.2.1
inductive FrA (aa ak:List Int)(ss:List Str)(rs rs':List D)(P:D)(S T:Sn)(own:Nat)(zz:List Str):En->List D->Prop
 |mk (L:St3) (zs:List Str) {o4:Own} {l6:Option Sd} {l7:Option Sd} {af:List D} (h0:o4≠.dp) (h1:af=zs.C D.ã) (h2:zs.B<=6/\∀z>zs,z>ss) (h3:L.B+zs.B*7<=42) (h4:(∀x>L,x.1>ss/\0<=x.2.1/\x.2.1<=own/\x.2.2=xW ss rs rs' P x.1 x.2.1)) (h5:∀z>zz,z>zs\/∀i:Int,0<=i->i<=own->(z,i,xW ss rs rs' P z i)>L):FrA aa ak ss rs rs' P S T own zz [@(.x,jv ss rs),@(.x,jv ss rs'),@(.x,P),@(.x,lat (S,T)),@(o4,.L (jV 0 ((own:Int)+1))),@(.rt,.L (L.C stD)),l6,l7] af
inductive FrB (aa ak:List Int)(ss:List Str)(rs rs':List D)(P:D)(S T:Sn)(own:Nat)(z:Str)(L:St3):En->List D->Prop
 |mk (L2:St3) (pre:List D) {l7:Option Sd} {af:List D} (h0:jV 0 ((own:Int)+1)=pre++af) (h1:L2.B=L.B+pre.B) (h2:(∀x>L2,x.1>ss/\0<=x.2.1/\x.2.1<=own/\x.2.2=xW ss rs rs' P x.1 x.2.1)) (h3:(∀x>L,x>L2)) (h4:∀c:Int,D.E c>pre->(z,c,xW ss rs rs' P z c)>L2):FrB aa ak ss rs rs' P S T own z L [@(.x,jv ss rs),@(.x,jv ss rs'),@(.x,P),@(.x,lat (S,T)),@(.x,.L (jV 0 ((own:Int)+1))),@(.rt,.L (L2.C stD)),@(.x,.ã z),l7] af
def _pJ(hs:ss.B<=3)(hP:Prs aa ss.B rs)(hk:Abk aa)(f8:Prs ak ss.B rs')(be:Abk ak)(h:Pok aa ak P):
  Oo m_steps_from [(.x,jv ss rs),(.x,jv ss rs'),(.x,P)] (λy=>∃L,y=(.rt,.L (L.C stD))/\Stp ss rs rs' P L/\∀z>ss,∀i:Int,0<=i->i<=pO rs rs' P->(z,i,xW ss rs rs' P z i)>L) noX:=by
 let hS:=_oK hP hk h;let hT:=_oL (rs:=rs) f8 be h;let hO:=_oN hP hk f8 be h;let lS:=Q6 hk hS;let lT:=Q6 be hT;let jn:((v5 (nms (pS rs P)) (nms (pT rs rs' P))).B:Int)=(pO rs rs' P):=rfl;let q0:∀a b,kQ (.X [a,b]) (.E 0)=@a:=λ_ _=>rfl
 show q9 ?_;simp![];show(_oM hP hk f8 be h).via ?_;intro y hy;subst hy;simp![];show(_nN (pS rs P) (pT rs rs' P) .q .q).via ?_;intro y hy;subst hy;simp![jn];let b7:∀z i,xW ss rs rs' P z i=v7 (rdF ss rs (pS rs P) z i) (rdF ss rs' (pT rs rs' P) z i):=λ_ _=>rfl
 ext Stp;generalize pO rs rs' P=own at *;generalize pS rs P=S at *;generalize pT rs rs' P=T at *;let ph:∀o,_jC (o,.L (ss.C D.ã++ss.C D.ã))=@(.rt,.L ((wV (ddS (ss++ss))).C D.ã)):=λo=>by
  rw [<-Xl];ext _jC;right;rw [_np];right;rw [X7 (by rw[Xj];lia)]
 let hzl:(wV (ddS (ss++ss))).B<=6:=by
  rw [U.sortS_len];let:=_pr (ss++ss) [];change(ddS (ss++ss)).B<=6;ext ddS
  grind
 let hzr:∀z>wV (ddS (ss++ss)),z>ss:=λz hz=>by
  let:=_pI _ _ (_pH hz)
  simpa using this
 let hzm:∀z>ss,z>wV (ddS (ss++ss)):=λz hz=>_pt (_pu _ _ (.Z (_ac _ hz)))
 generalize wV (ddS (ss++ss))=zz at ph hzl hzm hzr;let jp:kw (.x,sL ss) (.x,sL ss)=@(.rt,.L (ss.C D.ã++ss.C D.ã)):=_mN .q .q (by rw[X3];lia);let jl:(jV 0 ((own)+1)).B=own+1:=by ext jV;rw[X3,Xi];simp
 show z8 (FrA aa ak ss rs rs' P S T own zz) ?_ ?_ ?_
 .simp![q0,jp,ph];show .mk [] zz .q rfl #[hzl,hzr] (by rw[List.length_nil];lia) (nofun) λz hz=>.O hz
 .rintro E d ds ⟨L,zs,ho4,bm,⟨hz6,p9⟩,hl,hL,hM⟩;cases zs with
  | nil=>cases bm
  | cons z zs=>
   rw [List.l]at bm;injection bm with e1 e2;subst e1 e2;rw [Xn]at hz6 hl;simp![];show z8 (FrB aa ak ss rs rs' P S T own z L) ?_ ?_ ?_
   .simp![];show#[L,[],rfl,rfl,hL,λ_ h=>h,nofun]
   .rintro E d ds ⟨L2,pre,me,lu,hL2,hLL,hM2⟩;let#[c,c0,c1,rfl]:=VY (show d>jV 0 ((own)+1)by rw[me];simp);let ai:=congrArg List.B me;rw[jl,Xj,Xn]at ai;let#[r1,r2]:=VX z c hP hk hS;let#[r1',r2']:=VX z c f8 be hT;simp![];show wQ rfl ?_;simp![];show(_nL (w:=(z,c)) r1 r1').via ?_;intro y hy;subst hy;simp![];let l1:=Q6 hk r2;let l2:=Q6 be r2';show(_nO (rdF ss rs S z c) (rdF ss rs' T z c) .q .q).via ?_;intro y hy;subst hy;simp![];let e5:(L2++[(z,c,v7 (rdF ss rs S z c) (rdF ss rs' T z c))]).C stD=L2.C stD++[stD (z,c,v7 (rdF ss rs S z c) (rdF ss rs' T z c))]:=by rw[Xl];rfl
    show#[_,rfl,by rw[X3];lia,?_];rw[<-e5];show .mk (L2++[(z,c,v7 (rdF ss rs S z c) (rdF ss rs' T z c))]) (pre++[.E c]) (by rw[me];simp) (by simp;lia) (λx hx=>?_) (λx hx=>_ac _ (hLL x hx)) λc' ji=>?_
    .let hx\/hx:=aA hx
     .show hL2 x hx
     .rw[aC hx];show#[p9 z X2,c0,by change c<=own;lia,(b7 z c).s]
    .grind
   .rintro E ⟨L2,pre,me,lu,hL2,hLL,hM2⟩;rw[Xz]at me;rw[<-me,jl]at lu;show#[L2,zs,.q,rfl,#[.q,λz hz=>p9 z (_ad _ hz)],.q,hL2,λz' ld=>?_];let h\/h:=hM z' ld
    .let rfl\/h:=aD h
     .show .Z λi i0 i1=>hM2 i ?_
      rw[<-me];show List.mem_map.y #[i.S,List.á.y .q,by change D.E (0+(i.S:Int))=_;congr 1;lia]
     .show .O h
    .show .Z λi i0 i1=>hLL _ (h i i0 i1)
 .rintro E ⟨L,zs,ho4,bm,_,hl,hL,hM⟩;cases zs with
  |cons=>cases bm
  |nil=>
   simp![];show#[L,rfl,hL,λz hz=>(hM z (hzm z hz)).ë (nofun) id]
end
end Y
namespace Nk50
open PySem Q
def m_is_small : Fn:= J.m_is_small
def m_read_by : Fn:= C.m_read_by
def m_keepers_in : Fn:= B.m_keepers_in
def m_standing_in : Fn:= B.m_standing_in
def m_first_standings : Fn:= B.m_first_standings
def m_names_of : Fn:= B.m_names_of
def m_held_by_both : Fn:= B.m_held_by_both
def m_room_of : Fn:= B.m_room_of
def m_pair_of : Fn:= B.m_pair_of
def m_read_by_both : Fn:= B.m_read_by_both
def m_steps_from : Fn:= U.m_steps_from
def _pK:Fn:=fn 3
  (kq (cF1 ZJ (vE (cLC .rt 1 [] (itS (jQ m_steps_from [(cV 0),(cV 1),(cV 2)])) (.n 0) tYes (cH (jw (vV 0) (C9 2)))))))
def m_is_good_in : Fn:= B.m_is_good_in
def m_agrees : Fn:= B.m_agrees
def _pL:Fn:=fn 3
  (kq (jZ .x [(cV 0),(cV 0),(cF1 zV (vE (cLC .rt 1 [2] (ww (vV 1)) (.n 0) (tE (cF2 (pu2 fNe) (vV 0) (vV 1))) (jZ .x [(cV 0),(cV 0)]))))]))
def _pM:Fn:=fn 3
  (kq (cLC .dp 1 [0,1,2] (ww (vV 1)) (.n 0) (tE (cF2 (pu2 XV) (vE (jQ _pL [(cV 1),(cV 2),(cV 0)])) (vV 3))) (cV 0)))
def _pN:Fn:=fn 2
  (kq (cLC .dp 2 [1] (xjp (cH (jw (vV 0) (C9 1)))) (.t [0,1]) tYes (_hi (jQ _pM [(cV 0),(cH (jw (vV 1) (C9 0))),(cV 2)]))))
def _pO:Fn:=fn 6
  (jk (jx 2 (cDW (cLC .dp 1 [] (itS (cV 1)) (.n 0) tYes (jZ .dp [(cV 0),(k9 .dp [])]))))
  (jk (jx 3 (cF1 _g8 (vV 2)))
  (jk (K0 (tEQ (vV 3)) (jk (jx 4 (_mr 3))
  (wJ (itS (jQ _pK [(cV 0),(cV 0),(cV 4)])) (.n 5) (jk (sIf (tE (cF2 (pu2 V0) (vV 5) (vV 2))) (jk (_hh 2 (vV 5) (k9 .rt []))
  (v0 qY 3 (cV 5))) vY)
  (sDA 2 5 (cV 4))))))
  (kq (cMv 2)))))
def _pP:Fn:=fn 7
  (jk (jx 2 (jQ _pO [(cV 0),(cV 1)]))
  (jk (jx 3 (cLC .rt 1 [0] (xjo 2) (.n 0) (tNot (tEQ (vE (jQ m_agrees [(cV 1),(cV 1),(cV 0)])))) (cV 0)))
  (jk (jx 4 (cDW (cLC .dp 1 [] (itV 3) (.n 0) tYes (jZ .dp [(cV 0),(cC (.bl true))]))))
  (jk (K0 (tEQ (vV 3)) (jk (jx 5 (_mr 3))
  (wJ (itS (cH (_mu (vE (cV 2)) (vV 5)))) (.n 6) (sIf (tE (cF2 (pu2 V0) (vV 6) (vV 4))) (jk (_hh 4 (vV 6) (cC (.bl true)))
  (v0 qY 3 (cV 6))) vY))))
  (kq (cMv 4))))))
def _pQ:Fn:=fn 4
  (jk (jx 1 (k9 .rt []))
  (jk (wJ (xjp (cH (jw (vV 0) (C9 1)))) (.t [2,3]) (_kW 1 (cLC .rt 1 [2,3] (ww (jw (vV 3) (C9 0))) (.n 0) tYes (jQ _pL [(cV 1),(cH (jw (vV 2) (C9 0))),(cV 0)]))))
  (kq (cMv 1))))
def _pR:Fn:=fn 1
  (jk (sIf (tNot (tEQ (vE (jQ m_is_small [(cV 0)])))) _g5 vY)
  (kq (jQ _pN [(cV 0),(jQ _pP [(cV 0),(jQ _pQ [(cV 0)])])])))
def m__law_cell_at : Fn:= B.m__law_cell_at
def _pS:Fn:=fn 5
  (jk (jx 1 (cC (.ã "abcdefghijklmnopqrstuvwxyz")))
  (jk (jx 2 (cF2 (pu2 v6) (vE (cF2 K7 (vV 0) (C9 982451653))) (C9 1000000000039)))
  (jk (jx 3 (cC (.ã "")))
  (jk (wJ (ww (vE (cF2 kw (C9 1) (vE (cF2 (pu2 v6) (vV 2) (C9 8)))))) (.n 4) (jk (jx 2 (cF2 (pu2 Kv) (vV 2) (C9 8)))
  (jx 3 (cF2 kw (vV 3) (jw (vV 1) (vE (cF2 (pu2 v6) (vV 2) (C9 26))))))))
  (kq (cMv 3))))))
def _pT:Fn:=fn 4
  (jk (sIf (tEQ (vV 3)) (kq (jZ .x [(cV 0),(jZ .x [(cV 2),(cV 1)])])) vY)
  (kq (jZ .x [(cV 0),(jZ .x [(cV 1),(cV 2)])])))
def _pU:Fn:=fn 10
  (jk (jx 3 (k9 .rt [(jZ .x [(cC (.E 0)),(cC (.bl false)),(k9 .rt [(k9 .rt [(jZ .x [(cC (.E 1)),(jZ .x [(cC (.E 0))])])])])])]))
  (jk (v0 qY 3 (jZ .x [(cC (.E 1)),(cC (.bl false)),(k9 .rt [(k9 .rt [(cC .ç),(jQ _pT [(cC (.E 2)),(cC (.E 0)),(cC (.E 1)),(cH (jw (vV 1) (C9 0)))])])])]))
  (jk (jx 4 (cF1 (pu1 VW) (jw (vV 1) (C9 0))))
  (jk (jx 5 (k9 .rt []))
  (jk (wJ (Wj (C9 1) (vE (cF1 (pu1 v8) (vV 1)))) (.n 6) (jk (v0 qY 5 (cV 4))
  (jk (jx 7 (jQ _pT [(cF2 kw (vE (cF1 (pu1 v8) (vV 3))) (C9 1)),(cC (.E 0)),(cC (.E 1)),(cH (jw (vV 1) (vV 6)))]))
  (jk (v0 qY 3 (jZ .x [(cC (.E 2)),(cC (.bl false)),(k9 .rt [(k9 .rt [(cV 7),(cV 7),(cV 7)])])]))
  (sIf (tEQ (jw (vV 1) (vV 6))) (jx 4 (cF2 (pu2 Q0) (C9 1) (vV 4))) vY)))))
  (jk (v0 qY 5 (cV 4))
  (jk (jx 8 (k9 .rt [(cC .ç),(cC .ç),(cC .ç)]))
  (jk (jx 9 (cV 4))
  (jk (sIf (tE (cF2 (pu2 fEq) (vV 2) (C9 1))) (jx 9 (cF2 (pu2 Q0) (C9 1) (vV 4))) vY)
  (jk (ZQ 8 (vV 9) (jZ .x [(cF2 kw (vE (cF1 (pu1 v8) (vV 3))) (C9 1)),(jZ .x [])]))
  (jk (v0 qY 3 (jZ .x [(cC (.E 2)),(cC (.bl false)),(k9 .rt [(cV 8)])]))
  (jk (v0 qY 3 (jZ .x [(cC (.E 0)),(cC (.bl true)),(k9 .rt [(k9 .rt [(cC .ç)])])]))
  (jk (sIf (tE (cF2 (pu2 fEq) (vV 2) (C9 1))) (jx 5 (cLC .rt 1 [] (itS (cV 5)) (.n 0) tYes (cF2 (pu2 Q0) (C9 1) (vV 0)))) vY)
  (kq (jZ .x [(jZ .x [(k9 .rt [(cV 0)]),(cV 3)]),(cF2 kw (vE (cF2 kw (vE (k9 .rt [(k9 .rt []),(k9 .rt [(cC (.E 0))])])) (vE (cLC .rt 1 [] (itS (cV 5)) (.n 0) tYes (k9 .rt [(cV 0)]))))) (vE (k9 .rt [(k9 .rt [])])))])))))))))))))))
def _pV:Fn:=fn 12
  (jk (jx 4 (cF1 (pu1 v8) (vV 2)))
  (jk (jx 5 (k9 .rt []))
  (jk (wJ (ww (vV 1)) (.n 6) (v0 qY 5 (jZ .x [(cV 6),(cC (.bl false)),(k9 .rt [(cF2 kw (vE (cF2 K7 (vE (k9 .rt [(cC .ç)])) (vV 6))) (vE (k9 .rt [(jZ .x [(cF2 kw (vV 6) (C9 1)),(_hj (vE (cF2 kw (vV 6) (C9 1))))])])))])])))
  (jk (jx 7 (cLC .rt 1 [] (ww (vV 1)) (.n 0) tYes (W8 (vV 0))))
  (jk (wJ (ww (vV 4)) (.n 8) (jk (jx 9 (cLC .rt 1 [2,8,1] (ww (vV 1)) (.n 0) tYes (cF2 (pu2 v6) (vE (cF2 kw (vV 0) (vE (cF1 (pu1 VW) (jw (vV 1) (vV 2)))))) (vV 3))))
  (jk (jx 10 (cLC .rt 1 [1,8,4,9] (ww (vE (cF2 kw (vV 1) (C9 1)))) (.n 0) tYes (jZ .x [(cF2 kw (vV 1) (vE (cF2 (pu2 v6) (vE (cF2 kw (vV 2) (C9 1))) (vV 3)))),(cF1 zV (vV 4))])))
  (jk (sIf (tE (cF2 (pu2 fEq) (vV 8) (vV 3))) (ZQ 10 (C9 0) (jZ .x [(cF2 kw (vV 1) (vV 4)),(jZ .x [])])) vY)
  (jk (v0 qY 5 (jZ .x [(cV 1),(cC (.bl false)),(k9 .rt [(cV 10)])]))
  (jk (jx 11 (cF1 (pu1 YZ) (vE (cLC .rt 1 [2,4] (Wj (vV 8) (vE (cF2 kw (vV 8) (vE (cF2 (pu2 v6) (vE (cF2 (pu2 Q0) (vV 3) (vV 8))) (vV 4)))))) (.n 0) tYes (cF1 (pu1 VW) (jw (vV 1) (vE (cF2 (pu2 v6) (vV 0) (vV 2)))))))))
  (sIf (tE (cF2 (pu2 fGt) (vE (cF2 (pu2 v6) (vE (cF1 (pu1 YZ) (vE (cLC .rt 1 [] (itS (cV 2)) (.n 0) tYes (cF1 (pu1 VW) (vV 0)))))) (vV 1))) (C9 0))) (v0 qY 7 (W8 (vV 1))) (v0 qY 7 (k9 .rt [(cF2 (pu2 v6) (vV 11) (vV 1))])))))))))
  (jk (v0 qY 5 (jZ .x [(cC (.E 0)),(cC (.bl true)),(k9 .rt [(k9 .rt [(cC .ç)])])]))
  (kq (jZ .x [(jZ .x [(k9 .rt [(cV 0)]),(cV 5)]),(cF2 kw (vV 7) (vE (k9 .rt [(k9 .rt [])])))]))))))))
def _pW:Fn:=fn 5
  (jk (sIf (tOr (tNot (tEQ (vE (cF1 (pu1 (JY "list")) (vV 0))))) (tE (cF2 (pu2 fNe) (vE (cF1 (pu1 v8) (vV 0))) (vE (cF1 (pu1 v8) (vV 1)))))) (kq (cC (.bl false))) vY)
  (jk (wJ (vwq (cV 0) (cV 1)) (.t [2,3]) (jk (sIf (tOr (tNot (tEQ (vE (cF1 (pu1 (JY "list")) (vV 2))))) (tE (cF2 (pu2 fNe) (vV 2) (vV 3)))) (kq (cC (.bl false))) vY)
  (wJ (itS (cV 2)) (.n 4) (sIf (tOr (tNot (tEQ (vE (cF1 (pu1 (JY "int")) (vV 4))))) (tEQ (vE (cF1 (pu1 (JY "bool")) (vV 4))))) (kq (cC (.bl false))) vY))))
  (kq (cC (.bl true)))))
def _pX:Fn:=fn 2
  (jk (jx 1 (cLC .rt 3 [] (itS (cH (jw (vV 0) (C9 1)))) (.t [0,1,2]) tYes (jZ .x [(cV 0),(cV 1),(cLC .rt 1 [] (itS (cV 2)) (.n 0) tYes (cF1 _dM (vV 0)))])))
  (kq (jZ .x [(cF1 _dM (jw (vV 0) (C9 0))),(cV 1)])))
def m_law:Fn:=fn 11
  (jk (jx 1 (k9 .rt [(cF2 (pu2 fEq) (vE (cF2 (pu2 v6) (vE (jQ m__law_cell_at [(cV 0),(cC (.E 2))])) (C9 2))) (C9 1))]))
  (jk (wJ (ww (vE (cF2 (pu2 v6) (vE (jQ m__law_cell_at [(cV 0),(cC (.E 1))])) (C9 4)))) (.n 2) (v0 qY 1 (cF2 (pu2 fEq) (vE (cF2 (pu2 v6) (vE (jQ m__law_cell_at [(cV 0),(cF2 kw (C9 3) (vV 2))])) (C9 2))) (C9 1))))
  (jk (jx 3 (jQ _pS [(jQ m__law_cell_at [(cV 0),(cC (.E 0))])]))
  (jk (_dD [4,5] (jQ _pU [(cV 3),(cV 1),(cF2 (pu2 v6) (vE (cF2 (pu2 Kv) (vE (jQ m__law_cell_at [(cV 0),(cC (.E 1))])) (C9 4))) (C9 2))]))
  (jk (sIf (tE (cF2 (pu2 fEq) (vE (cF2 (pu2 v6) (vE (cF2 (pu2 Kv) (vE (jQ m__law_cell_at [(cV 0),(cC (.E 1))])) (C9 8))) (C9 4))) (C9 1))) (jk (jx 6 (cF2 kw (C9 2) (vE (cF1 (pu1 VW) (vE (cF2 (pu2 fEq) (vE (cF2 (pu2 v6) (vE (cF2 (pu2 Kv) (vE (jQ m__law_cell_at [(cV 0),(cC (.E 1))])) (C9 32))) (C9 4))) (C9 1)))))))
  (jk (jx 7 (cF2 kw (jw (vE (k9 .rt [(cC (.E 7)),(cC (.E 2))])) (vE (cF2 (pu2 Q0) (vV 6) (C9 2)))) (vE (cF2 (pu2 v6) (vE (cF2 (pu2 Kv) (vE (jQ m__law_cell_at [(cV 0),(cC (.E 1))])) (C9 128))) (C9 3)))))
  (jk (jx 1 (cLC .rt 1 [0] (ww (vV 7)) (.n 0) tYes (cF2 (pu2 fEq) (vE (cF2 (pu2 v6) (vE (jQ m__law_cell_at [(cV 1),(cF2 kw (C9 2) (vV 0))])) (C9 2))) (C9 1))))
  (jk (ZQ 1 (C9 0) (cF2 (pu2 fNe) (jw (vV 1) (C9 0)) (vE (cF2 (pu2 fEq) (vE (cF2 (pu2 v6) (vE (cF2 (pu2 Kv) (vE (jQ m__law_cell_at [(cV 0),(cC (.E 1))])) (C9 384))) (C9 2))) (C9 1)))))
  (_dD [4,5] (jQ _pV [(cV 3),(cV 6),(cV 1),(cF2 (pu2 v6) (vE (cF2 (pu2 Kv) (vE (jQ m__law_cell_at [(cV 0),(cC (.E 1))])) (C9 768))) (vV 7))])))))) vY)
  (jk (jx 8 (jQ _pX [(cV 4)]))
  (jk (jx 9 (jQ _pR [(cV 8)]))
  (jk (sIf (tOr (tNot (tEQ (vE (YV _pW [(vV 9),(vV 5)])))) (tE (cF2 (pu2 fNe) (vV 8) (vV 4)))) (kq (cC (.bl false))) vY)
  (jk (_mv 9 10 (cC (.E 9)) (tE (cF2 (pu2 fNe) (vE (YW (cF1 (pu1 v8) (vE (cLC .rt 1 [] (itS (cV 9)) (.n 0) (tE (cF2 (pu2 Jz) (C9 9) (vV 0))) (cV 0)))))) (C9 1))) (.bl false))
  (jk (sPC 9 [])
  (kq (Wv (vE (jQ _pW [(jQ _pR [(cV 8)]),(cV 5)])) (cF2 (pu2 fEq) (vV 8) (vV 4))))))))))))))
end Nk50
namespace Q
open PySem
section
def _pY:Eo (jZ .dp cs (e::E)) P X=Eo (vK cs (e::E)) (λE xs=>xs.all qz=true/\P E (.dp,.X (xs.C (·.2)))) X:=by
 ext jZ;rw[k7]
 congr 1
 funext E xs;rw[X7 rfl]
 by_cases h:xs.all qz=true
 .rw[X7 h,QY];show propext #[λz=>#[h,z],λz=>z.2]
 .rw[Xb h,_mP];show propext #[λz=>z.ë,λz=>absurd z.1 h]
def _pZ:Eo (k9 .dp cs (e::E)) P X=Eo (vK cs (e::E)) (λE xs=>xs.all qz=true/\P E (.dp,.L (xs.C (·.2)))) X:=by
 ext k9;rw[k7]
 congr 1
 funext E xs;rw[X7 rfl]
 by_cases h:xs.all qz=true
 .rw[X7 h,QY];show propext #[λz=>#[h,z],λz=>z.2]
 .rw[Xb h,_mP];show propext #[λz=>z.ë,λz=>absurd z.1 h]
def _p0:Eo (cDW c (e::E)) P X=Eo (c (e::E)) (λE x=>Wo (_ms x) E P) X:=by
 ext cDW;rw[k7]
 congr 1
 funext E x;cases _ms x<;>ac_rfl
def _p1:Eo (_mu a b (e::E)) P X=Eo (a (e::E)) (λE x=>Eo (b E) (λE y=>Wo (if x.1=.rt then none else(_mt x.2 y.2).C λd=>(sub x.1,d)) E P) X) X:=by
 ext _mu;rw[k7];congr 1;funext E x;rw[k7];congr 1;funext E y;show J9
def _p2(h:E[i]?=some @(o,.dct ab))(hl:ab.B<=10000)(hu:unm ab=true)(k:P E (ab.C (·.1))):Eo (xjo i E) P X:=by
 ext xjo;rw[h];right
 rwa [X7 #[by ext big;lia,hu],QY]
def _p3(h:E[i]?=some @(o,.L (ds++[d])))(ho:o≠.x)(hd:d.pure=true)(k:P (E.u i @(o,.L ds)) (.dp,d)):Eo (_mr i E) P X:=by
 ext _mr;rw[h];right;rw[Xb ho,List.getLast?_append,List.getLast?_singleton];dsimp only[Option.or]
 rwa [X7 hd,QY,List.dropLast_concat]
def _p4(h0:E[i]?=some @(.dp,.dct ab))(h1:E[j]?=some @(o,k))(hk:kZ k=true)(hu:unm ab=true)(hg:x3 ab k=@(.L ds))(hl:ds.B<10000)
  (h:Eo (c (E.u i none)) (λE1 x=>x.2.pure=true/\N (E1.u i @(.dp,.dct (xY ab k (.L (ds++[x.2])))))) X):Po (sDA i j c E) N Cc R X:=by
 ext sDA;rw[h0,h1];right;rw[X7 #[hk,hu],hg];right;rw[X7 (by ext big;lia),zX];show h.mono λE1 x hz=>?_
 rw[X7 hz.1,_mQ];show hz.2
end
end Q
namespace Nk50
open Q PySem C B J U Y Tl
def Dk(K:List D)(g:D->D):List (D×D):=K.C λk=>(k,g k)
def Vz:(Dk K g).C (·.1)=K:=by ext Dk;rw[Xg];show List.map_id _
def _p5:(Dk K g).B=K.B:=X3 _
def _p6:∀{K},k>K->x3 (Dk K g) k=@(g k)
 | a::K,h=>by
  ext x3 Dk;rw[List.l]
  by_cases e:a=k
  .rw[List.find?_cons_of_pos (by simp[e]),e];rfl
  .rw[Zn (by simp[e])];show _p6 ((aD h).resolve_left λq=>e q.s)
def _p7:∀{K},K.U->xY (Dk K g) k v=Dk K λx=>if x=k then v else g x
 | [],_=>rfl
 | a::K,h=>by
  rw[Yh]at h;let e:xY (Dk (a::K) g) k v=if a=k then _::Dk K g else _::xY _ k v:=rfl
  rw[e];ext Dk;rw[List.l]
  by_cases q:a=k
  .rw[X7 q];right;rw[X7 q];show congrArg _ (Xw λx hx=>?_);rw[Xb λz=>h.1 (by rw[q,<-z];show hx)]
  .rw[Xb q];right;rw[Xb q];show congrArg _ (_p7 h.2)
def _p8(h:k∉K):Dk K g++[(k,v)]=Dk (K++[k]) λx=>if x=k then v else g x:=by
 ext Dk;rw[Xl,List.map_singleton];right;rw[X7 rfl]
 congr 1
 show Xw λx hx=>by rw[Xb (λq:x=k=>h (q▸hx))]
def _p9:∀{K},(∀k>K,kZ k=true)->prW (K.C λk=>.X [k,g k])=@(Dk K g)
 |[],_=>rfl
 |a::K,h=>by
  rw[List.l];ext prW;rw[X7 (h a X2),_p9 λk hk=>h k (_ad _ hk)];rfl
def _qa(hk:∀k>K,kZ k=true)(hl:K.B<10000)(hn:K.U):_ms (.dp,.L (K.C λk=>.X [k,g k]))=@(.dp,.dct (Dk K g)):=by
 ext _ms;right;rw[_p9 hk];right;rw[X7 #[by rw[_p5];ext big;lia,by rw[Vz];show hn]]
def in_d(h:kZ x=true)(hu:unm ab=true):XV x (.dct ab)=@(.bl (decide (x>ab.C (·.1)))):=by
 ext XV;right;rw[X7 #[h,hu]]
def _qb(h:kZ k=true)(hu:unm (Dk K g)=true)(hm:k>K):_mt (.dct (Dk K g)) k=@(g k):=by
 ext _mt;right;rw[X7 #[h,hu],_p6 hm]
def fresh:∀l:List Int,∃m,∀x>l,x<m
 |[]=>#[0,nofun]
 |a::l=>by
  let#[m,h]:=fresh l;show#[max m (a+1),λx hx=>?_];let rfl\/hx:=aD hx
  .lia
  .let:=h x hx;grind
section
def St(ss:List Str)(rs:List D)(p q:D):Prop:=∃z>ss,∃i:Int,0<=i/\i<=pO rs rs p/\q=xW ss rs rs p z i
def Sim(aa:List Int)(ss:List Str)(rs:List D)(p:D):Prop:=∃a b,Two aa aa a b/\Rl rs rs p a b/\∀w:List (Str×Int),(∀x>w,x.1>ss)->gp ss rs rs a b w
def _qc(hp:Pok aa aa p)(h:Sim aa ss rs p):gS rs p=gT rs p:=by
 let#[a,b,_,hr,hw]:=h;let#[g1,g2]:=_pk hp hr;rw[<-g1,<-g2];show hw [] nofun
#where in
def _qd(hP:Prs aa ss.B rs)(hk:Abk aa)(hp:Pok aa aa p)(h:Sim aa ss rs p)(hs:St ss rs p q):Sim aa ss rs q:=by
 let#[a,b,ht,hr,hw]:=h;let#[z,hz,i,i0,i1,rfl]:=hs;let hl:=_pg hr;obtain⟨c,hc⟩:∃c,Lk _ a b i c:=by
  by_cases hi:i<pO rs rs p
  .show#[_,.O #[i0,hi,X1 (by symm)]]
  .let#[m,hm]:=fresh _;show#[m,.Z #[.q,λhx=>by let:=hm m hx;lia]]
 show#[_,_,ht.next z c hP hk hP hk,_pi hP hk hP hk hp ht hr hc,λw h2=>hw ((z,c)::w) λx hx=>by
  let rfl\/hx:=aD hx
  .show hz
  .show h2 x hx]
def lt_ii(i j):∃k,ltD (.E i) (.E j)=@k:=#[_,by rfl]
def _qe(h1:∃k,ltD a b=@k)(h2:∃k,ltDs x y=@k):∃k,ltDs (a::x) (b::y)=@k:=by
 ext ltDs
 by_cases e:a=b
 .rw[X7 e];show h2
 .rw[Xb e];show h1
def _qf:∃k,ltDs [] []=@k:=#[_,by rfl]
def _qg(h:∃k,ltDs x y=@k):∃k,ltD (.X x) (.X y)=@k:=h
def _qh:∀l l',∃k,ltDs (prs l) (prs l')=@k
 |[],[]=>_qf|[],_::_=>#[true,by rfl]|_::_,[]=>#[false,by rfl]
 |p::l,q::l'=>by
  let:=_qh l l';show _qe (_qg (_qe (lt_ii _ _) (_qe (lt_ii _ _) _qf))) this
def _qi(ha:_pv a)(hb:_pv b):∃k,ltD a b=@k:=by
 let#[r,r',l,rfl]:=ha;let#[q,q',m,rfl]:=hb;show _qg (_qe (lt_ii _ _) (_qe (lt_ii _ _) (_qe (_qg (_qh l m)) _qf)))
def _qj:∀l,keyDs 4 (prs l)=true
 |[]=>rfl
 |p::l=>by
  let:=_qj l;unfold prs at this ⊢;rw[List.l];ext keyDs;rw[this];rfl
def key_pr(h:_pv d):jX 6 d=true/\Wq d=true:=by
 let#[r,r',l,rfl]:=h;show#[?_,rfl];change(true&&(true&&(keyDs 4 _&&true)))=true;rw[_qj];rfl
def _qk(h:∀d>ds,_pv d):okT ds=true:=by
 ext okT;rw[Bool.æ,Yb,Yb];show#[λd hd=>by rw[Bool.æ];show key_pr (h d hd),λa ha=>?_];rw[Yb];show λb hb=>Option.isSome_iff_exists.y (_qi (h a ha) (h b hb))
def _ql:∀(ds ls:List D) {d},d>ls\/d>ds->d>ds.foldl Qj ls
 |[],ls,d,h=>by symm
 |a::ds,ls,d,h=>by
  show _ql ds _ ?_;ext Qj;let h\/h:=h
  .grind
  .grind
#where in
def _qm:∀(ds ls:List D),ls.U->(ds.foldl Qj ls).U
 | [],_,h=>h
 | a::ds,ls,h=>by
  show _qm ds _ ?_;ext Qj
  split
  .show h
  .revert hn;show List.nodup_append.y #[h,by simp,λx hx y hy e=>hn (by rw[<-aC hy,<-e];show hx)]
def thd:D->D
 |.X [_,_,d]=>d|_=>.ç
def _qn:m_steps_from=U.m_steps_from:=rfl
def _qo:m_agrees=B.m_agrees:=rfl
def t2(a b d):kQ (.X [a,b,d]) (.E 2)=@d:=rfl
def _qp(hs:ss.B<=3)(hP:Prs aa ss.B rs)(hk:Abk aa)(h:Pok aa aa P):
  Oo _pK [(.x,jv ss rs),(.x,jv ss rs),(.x,P)] (λy=>∃L,y=(.rt,.L L)/\L.U/\∀q,q>L↔St ss rs P q) noX:=by
 ext _pK;show q9 ?_;simp![];show xV [] (λd y=>y.2=thd d) ?_;simp![];show(_pJ hs hP hk hP hk h).via ?_;rintro _ ⟨L,rfl,hm,ha⟩;simp![];show#[λd hd=>?_,λys hy=>?_]
 .let#[x,_,rfl]:=aE hd;simp![t2];show#[#[_,rfl],rfl]
 .let e:ys.C (·.2)=L.C λx=>x.2.2:=by
   rw[x5 (λ_ _ h=>h) hy,Xg];rfl
  rw[vj,e];let me:∀d>L.C (λx=>x.2.2),St ss rs P d:=λd hd=>by
   let#[x,hx,rfl]:=aE hd;let#[h1,h2,h3,h4]:=hm x hx;show#[x.1,h1,x.2.1,h2,h3,h4]
  generalize hD:L.C _=ds at me;let dz:∀d,d>ddT ds↔d>ds:=λd=>#[λz=>(_mc ds [] z).ë (nofun) id,λz=>_ql ds [] (.Z z)]
  let dw:=_qm ds [] Y7;let hO:=_oN hP hk hP hk h;let ai:(ddT ds).B<=59:=by
   let:(ddT ds).B<=(ss.flatMap λz=>(List.r 7).C λi:Nat=>xW ss rs rs P z i).B:=_ns dw λx hx=>by
    let#[z,hz,i,i0,i1,rfl]:=me x ((dz x).mp hx);show List.mem_flatMap.y #[z,hz,List.mem_map.y #[i.S,List.á.y .q,by rw[Int.toNat_of_nonneg i0]]]
   rw[_pm ss λz _=>by rw[X3,Xi]]at this;lia
  let ph:∀o,ZJ (o,.L ds)=@_:=λo=>by
   ext ZJ;right;rw[X7 #[ai,_qk λd hd=>by let#[z,_,i,_,_,rfl]:=me d hd;show _pw z P i]]
  simp![ph];show#[_,rfl,(Vk _).nodup_iff.y dw,λq=>?_];rw[(Vk _).è,dz];show#[me q,?_];rintro ⟨z,hz,i,i0,i1,rfl⟩;rw[<-hD];show List.mem_map.y #[_,ha z hz i i0 i1,rfl]
end
section
variable {aa:List Int}{ss:List Str}{rs:List D}
def _qq{K:List D}(h:∀k>K,Pin aa aa rs rs k/\k>AllQ):∀k>K,kZ k=true:=λk hk=>(K3 (h k hk).1).1
def QX(h:∀k>K,Pin aa aa rs rs k/\k>AllQ):unm (Dk K g)=true:=by
 cases K with
 |nil=>rfl
 |cons a K=>
  let#[p,q,sh,rfl,_]:=(h a X2).1.ok;rfl
def Q5{K:List D}(h:∀k>K,Pin aa aa rs rs k/\k>AllQ)(hn:K.U):K.B<=5746:=by
 let:=_ns hn λx hx=>(h x hx).2
 rwa [_py]at this
abbrev gL(f:D->List D):D->D:=λk=>.L (f k)
structure Ld (aa:List Int)(ss:List Str)(rs:List D)(K:List D)(f:D->List D)(b6:List D)(x:Option D):Prop where
 nd:K.U
 pin:∀k>K,Pin aa aa rs rs k/\k>AllQ
 sub:∀k>b6,k>K
 v1:∀k>K,∀p>f k,p>K/\St ss rs p k
 v2:∀p>K,x=@p\/p>b6\/∀q,St ss rs p q->q>K/\p>f q
inductive LdA (aa:List Int)(ss:List Str)(rs Ps:List D):Nat->En->Prop
 |mk {K:List D} {f:D->List D} {b6:List D} {n:Nat} {o1:Own} {l4 l5:Option Sd} (h0:Ld aa ss rs K f b6 none) (h1:b6.B+5746=n+K.B) (h2:∀k>K,(f k).B+n<=5746) (h3:∀p>Ps,p>K):LdA aa ss rs Ps n [@(.x,jv ss rs),@(o1,.L Ps),@(.dp,.dct (Dk K (gL f))),@(.rt,.L b6),l4,l5]
inductive LdB (aa:List Int)(ss:List Str)(rs Ps:List D)(p:D)(n:Nat):En->List D->Prop
 |mk {K:List D} {f:D->List D} {b6 L:List D} {o1:Own} {l5:Option Sd} (h0:Ld aa ss rs K f b6 @p) (h1:b6.B+5746=n+K.B) (h2:∀k>K,(f k).B+n<=5746/\(k>L->(f k).B+n<5746)) (h3:∀p>Ps,p>K) (h4:p>K) (h5:L.U) (h6:∀q>L,St ss rs p q) (h7:∀q,St ss rs p q->q>L\/q>K/\p>f q) (h8:n<5746):LdB aa ss rs Ps p n [@(.x,jv ss rs),@(o1,.L Ps),@(.dp,.dct (Dk K (gL f))),@(.rt,.L b6),@(.x,p),l5] L
def _qr(f:D->List D)(k:D)(v:List D):D->List D:=λx=>if x=k then v else f x
def _qs:(λx=>if x=k then .L v else gL f x)=gL (_qr f k v):=by
 funext x;change _=D.L (if x=k then v else f x)
 split<;>rfl
def VJ:_qr f k v k=v:=X7 rfl
def _qt(h:x≠k):_qr f k v x=f x:=Xb h
def _qu{g:D->D}:∀{ds ys},Each (λd y=>y=(Own.dp,g d)) ds ys->ys.all qz=true
 |[],[],_=>rfl
 |_::_,_::_,h=>by
  rw[List.all_cons,h.1,_qu h.2];rfl
#where in
def _qv{Ps}(hs:ss.B<=3)(i9:aa.B<=12)(hP:Prs aa ss.B rs)(hk:Abk aa)(hn:Ps.U)(hp:∀k>Ps,Pin aa aa rs rs k/\k>AllQ):
  Oo _pO [(.x,jv ss rs),(.x,.L Ps)] (λy=>∃K f,y=(.dp,.dct (Dk K (gL f)))/\Ld aa ss rs K f [] none/\(∀k>K,(f k).B<=5746)/\∀p>Ps,p>K) noX:=by
 let hPl:=Q5 hp hn;show q9 ?_;simp![↓_p0];show xV [] (λd y=>y=(.dp,.X [d,.L []])) ?_;simp![];show#[λd hd=>?_,λys hy=>?_]
 .simp![↓_pY,↓_pZ];let:d.pure=true:=(K3 (hp d hd).1).2;show#[rfl,by simp[qz,this],#[_,rfl],trivial]
 .let e:ys.C (·.2)=Ps.C λk=>.X [k,gL (λ_=>[]) k]:=x5 (h:=λk=>D.X [k,.L []]) (λ_ _ h=>by rw[h]) hy
  rw [_m5 (_qu (g:=λd=>.X [d,.L []]) hy),e];dsimp[back,clr,at',List.l,List.map_nil,List.ö,List.ø];let hl:∀o,_g8 (o,.dct (Dk Ps (gL λ_=>[])))=@(.rt,.L Ps):=λo=>by rw[_m7 (by rw[_p5];lia) (QX hp),Vz]
  simp![(_qa (g:=gL λ_=>[]) (_qq hp) .q hn),hl];show _mY (LdA aa ss rs Ps) ?_ 5746 _ (.mk #[hn,hp,λ_ h=>h,λ_ _ _ h=>(nomatch h),λp h=>.Z (.O h)] .q (λ_ _=>by decide) λ_ h=>h);rintro n E ⟨h0,h1,h2,h3⟩;revert K f b6 o1 l4 l5;let hKl:=Q5 h0.pin h0.nd;let rfl\/#[wt,p,rfl]:=List.eq_nil_or_concat b6
  .let ht:truthQ (.L [])=@false:=rfl;simp![ht];show#[K,f,rfl,h0,λk hk=>by let:=h2 k hk;lia,h3]
  .rw [List.concat_eq_append]at *;let ht:(wt++[p]).ô=false:=by cases wt<;>rfl
   let r6:p>K:=h0.sub p (by simp);let hpp:=h0.pin p r6;let hnle:n<=5746:=by let:=h2 p r6;lia
   rw [Xj,Xy]at h1;simp![ht];show _p3 (o:=.rt) (ds:=wt) (d:=p) rfl .q (K3 hpp.1).2 ?_;simp![];show z8 (LdB aa ss rs Ps p (n - 1)) ?_ ?_ ?_
   .simp![];show(_qp hs hP hk hpp.1.ok).via ?_;rintro _ ⟨L,rfl,hL,hLm⟩;simp![];show .mk #[h0.nd,h0.pin,λk hk=>h0.sub k (_ac _ hk),h0.v1,λx hx=>?_] .q (λk hk=>by let:=h2 k hk;show#[.q,λ_=>by lia]) h3 r6 hL (λq hq=>(hLm q).mp hq) (λq hq=>.O ((hLm q).y hq)) (by omega);let h\/h\/h:=h0.v2 x hx
    .cases h
    .let h\/h:=aA h
     .show .Z (.O h)
     .show .O (by rw[aC h])
    .show .Z (.Z h)
   .intro E d ds hh;generalize bg:d::ds=dd at hh;cases hh with
    | @mk K f b6 _ o1 l5 h0 h1 h2 h3 h4 h5 h6 h7 h8=>
    subst bg;let hKl:=Q5 h0.pin h0.nd;let#[z,hz,i,i0,i1,hd]:=h6 d X2;let htw:=hpp.1.two.next (ss:=ss) (rs:=rs) (rs':=rs) z i hP hk hP hk
    let ou:Pin aa aa rs rs d/\d>AllQ:=hd▸#[_pE hP hk hP hk htw,_pF i9 i9 hk hk htw];let t7:=(K3 ou.1).1;let uy:=(K3 hpp.1).2;rw [Yh]at h5;let kl:=_m8 t7 (QX (g:=gL f) h0.pin);rw [Vz]at kl
    by_cases hm:d>K
    .rw[X8 hm]at kl;simp![kl];let b9:=(h2 d hm).2 X2;show _p4 rfl rfl t7 (QX h0.pin) (_p6 hm) .q ?_;simp![];show#[uy,?_];rw[_p7 h0.nd,_qs];show .mk #[h0.nd,h0.pin,h0.sub,λk hk q hq=>?_,λx hx=>?_] h1 (λk hk=>?_) h3 h4 h5.2 (λq hq=>h6 q (_ad _ hq)) (λq hq=>?_) h8
     .by_cases e:k=d
      .subst e;rw[VJ]at hq;let hq\/hq:=aA hq
       .show h0.v1 _ hk q hq
       .rw[aC hq];show#[h4,h6 _ X2]
      .rw[_qt e]at hq;show h0.v1 k hk q hq
     .show(h0.v2 x hx).imp id (Or.imp id λh q hq=>?_);let#[g1,g2]:=h q hq;show#[g1,?_]
      by_cases e:q=d
      .subst e;rw[VJ];show _ac _ g2
      .rw[_qt e];show g2
     .by_cases e:k=d
      .subst e;rw[VJ,Xj,Xy];show#[.q,λhh=>absurd hh h5.1]
      .rw[_qt e];show#[(h2 k hk).1,λhh=>(h2 k hk).2 (_ad _ hh)]
     .by_cases e:q=d
      .subst e;rw[VJ];show .Z #[hm,by simp]
      .rw[_qt e];show(h7 q hq).imp (λh=>(aD h).resolve_left e) id
    .rw[Xk hm]at kl;let xr:K.B<5746:=by
      let:=Q5 (K:=K++[d]) (λk hk=>(aA hk).ë (h0.pin k) λh=>aC h▸ou) (List.nodup_append.y #[h0.nd,by simp,λx hx y hy e=>hm (by rw[<-aC hy,<-e];show hx)]);rw[Xj,Xy]at this;lia
     let jn:KK (.rt,.L [])=true:=rfl;simp![kl];show _nf ?_;simp![];show#[rfl,_,rfl,#[t7,by rw[_p5];grind,QX h0.pin,jn,by rw[Vz];show hm],?_];rw[_p8 hm,_qs];simp![];show wQ rfl ?_;simp![];show#[_,rfl,.q,?_];let ya:∀k>K++[d],Pin aa aa rs rs k/\k>AllQ:=λk hk=>(aA hk).ë (h0.pin k) λh=>aC h▸ou
     let dw:(K++[d]).U:=List.nodup_append.y #[h0.nd,by simp,λx hx y hy e=>hm (by rw[<-aC hy,<-e];show hx)];let ko:d>K++[d]:=by simp
     show _p4 (ds:=[]) rfl rfl t7 (QX ya) (by rw[_p6 ko];change @(D.L (_qr f d [] d))=_;rw[VJ]) (by simp) ?_;simp![];show#[uy,?_];rw[_p7 dw,_qs];let bc:∀k>K,k≠d:=λk hk e=>hm (e▸hk)
     let nu:∀{k},k≠d->_qr (_qr f d []) d [p] k=f k:=λh=>by rw[_qt h,_qt h]
     show .mk #[dw,ya,λk hk=>?_,λk hk q hq=>?_,λx hx=>?_] (by rw[Xj,Xj,Xy];lia) (λk hk=>?_) (λq hq=>_ac _ (h3 q hq)) (_ac _ h4) h5.2 (λq hq=>h6 q (_ad _ hq)) (λq hq=>?_) h8
     .let hk\/hk:=aA hk
      .show _ac _ (h0.sub k hk)
      .rw[aC hk];show ko
     .let hk\/hk:=aA hk
      .rw[nu (bc k hk)]at hq;let#[g1,g2]:=h0.v1 k hk q hq;show#[_ac _ g1,g2]
      .rw[aC hk,VJ]at hq;rw[aC hk,aC hq];show#[_ac _ h4,h6 _ X2]
     .let hx\/hx:=aA hx
      .show(h0.v2 x hx).imp id (Or.imp (_ac _) λh q hq=>?_);let#[g1,g2]:=h q hq;show#[_ac _ g1,by rw[nu (bc q g1)];show g2]
      .show .Z (.O (by rw[aC hx];simp))
     .by_cases e:k=d
      .subst e;rw[VJ];show#[by simp;lia,λhh=>absurd hh h5.1]
      .rw[nu e];let be:k>K:=(aA hk).ë id λh=>absurd (aC h) e
       show#[(h2 k be).1,λhh=>(h2 k be).2 (_ad _ hh)]
     .by_cases e:q=d
      .subst e;rw[VJ];show .Z #[ko,by simp]
      .rw[nu e];let h\/h:=h7 q hq
       .show .O ((aD h).resolve_left e)
       .show .Z #[_ac _ h.1,h.2]
   .intro E hh;generalize bg:([]:List D)=dd at hh;cases hh with
    |@mk K f b6 _ o1 l5 h0 h1 h2 h3 h4 h5 h6 h7 h8=>
    subst bg;show#[n - 1,.q,.mk #[h0.nd,h0.pin,h0.sub,h0.v1,λx hx=>?_] h1 (λk hk=>(h2 k hk).1) h3];let h\/h\/h:=h0.v2 x hx
    .injection h with h;subst h;show .Z (.Z λq hq=>(h7 q hq).resolve_left nofun)
    .show .Z (.O h)
    .show .Z (.Z h)
end
section
variable {aa:List Int}{ss:List Str}{rs:List D}
abbrev gT1:D->D:=λ_=>.bl true
def _qw:(λx=>if x=k then .bl true else gT1 x)=gT1:=by
 funext x;simp
structure Ul (aa:List Int)(ss:List Str)(rs:List D)(K:List D)(f:D->List D)(V b6:List D)(x:Option D):Prop where
 nd:V.U
 sub:∀k>V,k>K
 ws:∀k>b6,k>V
 bad:∀k>V,¬Sim aa ss rs k
 all:∀k>K,gS rs k≠gT rs k->k>V
 up:∀k>V,x=@k\/k>b6\/∀p>f k,p>V
inductive UlA (aa:List Int)(ss:List Str)(rs Ps K:List D)(f:D->List D):Nat->En->Prop
 |mk {V b6:List D} {n:Nat} {o1 o2:Own} {l5 l6:Option Sd} (h0:Ul aa ss rs K f V b6 none) (h1:b6.B+5746=n+V.B) (h2:o2≠.rt) (h3:n<=5746):UlA aa ss rs Ps K f n [@(.x,jv ss rs),@(o1,.L Ps),@(o2,.dct (Dk K (gL f))),@(.rt,.L b6),@(.dp,.dct (Dk V gT1)),l5,l6]
inductive UlB (aa:List Int)(ss:List Str)(rs Ps K:List D)(f:D->List D)(p:D)(n:Nat):En->List D->Prop
 |mk {V b6 L:List D} {o1 o2:Own} {l6:Option Sd} {o5:Own} (h0:Ul aa ss rs K f V b6 @p) (h1:b6.B+5746=n+V.B) (h2:o2≠.rt) (h3:p>V) (h4:∀q>L,q>f p) (h5:∀q>f p,q>L\/q>V) (h6:n<5746):UlB aa ss rs Ps K f p n [@(.x,jv ss rs),@(o1,.L Ps),@(o2,.dct (Dk K (gL f))),@(.rt,.L b6),@(.dp,.dct (Dk V gT1)),@(o5,p),l6] L
def Uns(aa:List Int)(ss:List Str)(rs Ps V:List D):Prop:=∀p>Ps,∀a b,Two aa aa a b->Rl rs rs p a b->(p>V↔∃w:List (Str×Int),(∀x>w,x.1>ss)/\¬gp ss rs rs a b w)
def _qx{K f V Ps}(hP:Prs aa ss.B rs)(hk:Abk aa)(hL:Ld aa ss rs K f [] none)(h:Ul aa ss rs K f V [] none)(hp:∀p>Ps,p>K):Uns aa ss rs Ps V:=λp hpP a b ht hr=>by
 constructor
 .intro hV
  by_cases hw:∃w,(∀x>w,x.1>ss)/\¬gp ss rs rs a b w
  .show hw
  .show absurd #[a,b,ht,hr,λw hz=>(Z3 λhn=>hw #[w,hz,hn])] (h.bad p hV)
 .rintro ⟨w,hw,hn⟩;show Z3 λhV=>hn (_pl (K:=K.filter λx=>decide (x∉V)) hP hk hP hk (λP mt=>?_) w hw (List.mem_filter.y #[hp p hpP,X8 hV]) ht hr)
  let#[mt,hPV]:=List.mem_filter.mp mt;let hPV:=Yf hPV;show#[(hL.pin P mt).1.ok,Z3 λz=>hPV (h.all P mt z),λz hz i i0 i1=>?_];let hv:=hL.v2 P mt;let hv\/hv\/hv:=hv
  .cases hv
  .cases hv
  .let#[g1,g2]:=hv _ #[z,hz,i,i0,i1,rfl];show List.mem_filter.y #[g1,X8 λhq=>hPV ?_];let u\/u\/u:=h.up _ hq
   .cases u
   .cases u
   .show u P g2
#where in
def _qy {Ps} (hs:ss.B<=3) (i9:aa.B<=12) (hP:Prs aa ss.B rs) (hk:Abk aa) (hn:Ps.U) (hp:∀k>Ps,Pin aa aa rs rs k/\k>AllQ):
  Oo _pP [(.x,jv ss rs),(.x,.L Ps)] (λy=>∃V,y=(.dp,.dct (Dk V gT1))/\unm (Dk V gT1)=true/\Uns aa ss rs Ps V) noX:=by
 let hk0:=hk;ext _pP;show q9 ?_;simp![];show (_qv hs i9 hP hk hn hp).via ?_;rintro _ ⟨K,f,rfl,hL,fu,mt⟩;let hKl:=Q5 hL.pin hL.nd;let huK:=QX (g:=gL f) hL.pin;simp![];show Jx (λE1 B ds ae=>∃(K1:List D) (l0:Option Sd),K=K1++ds/\B=[l0,@(.x,jv ss rs)]/\(∃o1,E1=[@(.x,jv ss rs),@(o1,.L Ps),@(.dp,.dct (Dk K (gL f))),none,none,none,none])/\ae.C (·.2)=K1.filter λk=>decide (gS rs k≠gT rs k)) ?_ ?_ ?_
 .show _p2 rfl (by rw[_p5];lia) huK ?_;rw [Vz];show #[[],none,rfl,rfl,#[_,rfl],rfl]
 .rintro E1 B d ds ae ⟨K1,l0,e1,rfl,e3,e4⟩;let hdK:d>K:=by rw[e1];simp
  let hag:Oo B.m_agrees [(.x,jv ss rs),(.x,jv ss rs),(.x,d)] (λy=>∃o',y=(o',.bl (gS rs d==gT rs d))/\True) noX:=by
   let#[p,q,sh,rfl,a0,a1,b0,b1,_]:=(hL.pin d hdK).1.ok;show _oa (W5 hP hk a0 a1).2.1 (W5 hP hk b0 b1).2.1
  let e5:K=(K1++[d])++ds:=by rw[e1];simp
  simp![];show hag.via ?_;rintro _ ⟨o',rfl,_⟩
  by_cases hg:gS rs d=gT rs d
  .let hb:(gS rs d==gT rs d)=true:=by simp[hg]
   simp![hb];show#[K1++[d],_,e5,rfl,e3,by rw[Yj,e4];simp[hg]]
  .let hb:(gS rs d==gT rs d)=false:=by simp[hg]
   simp![hb];show#[K1++[d],_,e5,rfl,e3,by rw[Xl,Yj,e4];simp[hg]]
 .rintro E1 B ae ⟨K1,l0,e1,rfl,⟨o1,rfl⟩,e4⟩;rw [Xz]at e1;subst e1;rw [vj,e4];generalize hV:(K.filter λk=>decide (gS rs k≠gT rs k))=V;let hVm:∀k,k>V↔k>K/\gS rs k≠gT rs k:=λk=>by rw[<-hV,List.mem_filter,decide_eq_true_iff]
  let hVn:V.U:=by rw[<-hV];show hL.nd.filter _
  let np:∀k>V,Pin aa aa rs rs k/\k>AllQ:=λk h=>hL.pin k ((hVm k).mp h).1
  let hVl:=Q5 np hVn;dsimp[JW,back,clr,at',List.drop,List.l,List.map_nil,List.ö,List.ø];simp![↓_p0];show xV [] (λd y=>y=(.dp,.X [d,.bl true])) ?_;let vt:D.pures V=true:=by rw[D.pures_all,Yb];show λd hd=>(K3 (np d hd).1).2
  show _nb rfl vt ?_;simp![];show#[λd hd=>?_,λys hy=>?_]
  .simp![↓_pY];let:d.pure=true:=(K3 (np d hd).1).2;show#[by simp[qz,this],#[_,rfl],trivial]
  .let e:ys.C (·.2)=V.C λk=>.X [k,gT1 k]:=x5 (h:=λk=>D.X [k,.bl true]) (λ_ _ h=>by rw[h]) hy
   rw [_m5 (_qu (g:=λd=>.X [d,.bl true]) hy),e];dsimp[back,clr,at',List.l,List.map_nil,List.ö,List.ø];simp![(_qa (g:=gT1) (_qq np) .q hVn)];show _mY (UlA aa ss rs Ps K f) ?_ 5746 _ (.mk #[hVn,λk h=>((hVm k).mp h).1,λ_ h=>h,λk h z=>((hVm k).mp h).2 (_qc (np k h).1.ok z),λk h g=>(hVm k).y #[h,g],λk h=>.Z (.O h)] .q .q (Xa _));rintro n E ⟨h0,h1,h2,hn7⟩;revert V b6 o1 o2 l5 l6;let rfl\/#[wt,p,rfl]:=List.eq_nil_or_concat b6
   .simp![];show#[V,rfl,QX λk h=>hL.pin k (h0.sub k h),_qx hP hk hL h0 mt]
   .rw [List.concat_eq_append]at *;let ht:(wt++[p]).ô=false:=by cases wt<;>rfl
    let hpV:p>V:=h0.ws p (by simp);let r6:=h0.sub p hpV;let hpp:=hL.pin p r6;let hVl2:=Q5 (λk h=>hL.pin k (h0.sub k h)) h0.nd;rw [Xj,Xy]at h1;simp![ht];show _p3 (o:=.rt) (ds:=wt) (d:=p) rfl .q (K3 hpp.1).2 ?_;simp![];show z8 (UlB aa ss rs Ps K f p (n - 1)) ?_ ?_ ?_
    .simp![↓_p1,(_qb (g:=gL f) (K3 hpp.1).1 huK r6)];show .mk #[h0.nd,h0.sub,λk hk=>h0.ws k (_ac _ hk),h0.bad,h0.all,λx hx=>?_] .q .q hpV (λ_ h=>h) (λ_ h=>.O h) .q;let h\/h\/h:=h0.up x hx
     .cases h
     .let h\/h:=aA h
      .show .Z (.O h)
      .show .O (by rw[aC h])
     .show .Z (.Z h)
    .intro E d ds hh;generalize bg:d::ds=dd at hh;cases hh with
     | @mk V b6 _ o1 o2 l6 o5 h0 h1 h2 h3 h4 h5 hn6=>
     subst bg;let#[hdK,b7]:=hL.v1 p r6 d (h4 d X2);let ou:=hL.pin d hdK;let t7:=(K3 ou.1).1;let np:∀k>V,Pin aa aa rs rs k/\k>AllQ:=λk h=>hL.pin k (h0.sub k h)
     let hVl:=Q5 np h0.nd;let kl:=_m8 t7 (QX (g:=gT1) np);rw [Vz]at kl
     by_cases hm:d>V
     .rw[X8 hm]at kl;simp![kl];show .mk h0 h1 h2 h3 (λq hq=>h4 q (_ad _ hq)) (λq hq=>?_) hn6;let h\/h:=h5 q hq
      .grind
      .show .Z h
     .rw[Xk hm]at kl;let dw:(V++[d]).U:=List.nodup_append.y #[h0.nd,by simp,λx hx y hy e=>hm (by rw[<-aC hy,<-e];show hx)];let xr:V.B<5746:=by
       let:=Q5 (K:=V++[d]) (λk hk=>(aA hk).ë (np k) λh=>aC h▸ou) dw;rw[Xj,Xy]at this;lia
      let jn:KK (.dp,.bl true)=true:=rfl;simp![kl];show _nf ?_;simp![];show#[rfl,_,rfl,#[t7,by rw[_p5];grind,QX np,jn,by rw[Vz];show hm],?_];rw[_p8 hm,_qw];simp![];show wQ rfl ?_;simp![];show#[_,rfl,.q,(.mk #[dw,λk hk=>?_,λk hk=>?_,λk hk=>?_,λk hk g=>_ac _ (h0.all k hk g),λk hk=>?_] (by rw[Xj,Xj,Xy];lia) h2 (_ac _ h3) (λq hq=>h4 q (_ad _ hq)) (λq hq=>?_) hn6)]
      .let h\/h:=aA hk
       .show h0.sub k h
       .rw[aC h];show hdK
      .let h\/h:=aA hk
       .show _ac _ (h0.ws k h)
       .show _ab _ h
      .let h\/h:=aA hk
       .show h0.bad k h
       .rw[aC h];show λz=>h0.bad p h3 (_qd hP hk0 ou.1.ok z b7)
      .let h\/h:=aA hk
       .show(h0.up k h).imp id (Or.imp (_ac _) λu p hp=>_ac _ (u p hp))
       .show .Z (.O (_ab _ h))
      .grind
    .intro E hh;generalize bg:([]:List D)=dd at hh;cases hh with
     |@mk V b6 _ o1 o2 l6 o5 h0 h1 h2 h3 h4 h5 hn6=>
     subst bg;show#[n - 1,.q,.mk #[h0.nd,h0.sub,h0.ws,h0.bad,h0.all,λx hx=>?_] h1 h2 .q];let h\/h\/h:=h0.up x hx
     .symm
     .show .Z (.O h)
     .show .Z (.Z h)
end
end Nk50
namespace Nk50
open Q PySem C B J U Y
def shX(n k:Nat):List (Int×Int):=((List.r n).filter λj=>decide (j≠k)).C λj:Nat=>((j:Int),(j:Int))
def ppD(r n k:Nat):D:=.X [.E r,.E r,.X (prs (shX n k))]
abbrev vq(aa:List Int)(r:Nat):Nat:=(aa.p r 0).S
def _qz(r n k:Nat)(hn:n<=100):Oo _pL [(.x,.E r),(.x,.E n),(.x,.E k)] (λy=>∃o',y=(o',ppD r n k)/\True) noX:=by
 show q9 ?_;simp![];show Jx (λE1 B ds ae=>∃(m:Nat) (l0:Option Sd),m<=n/\ds=(List.range' m (n - m)).C (λj:Nat=>D.E j)/\B=[l0,@(.x,.E k)]/\E1=[@(.x,.E r),@(.x,.E n),@(.x,.E k)]/\ae.C (·.2)=prs (((List.r m).filter λj=>decide (j≠k)).C λj:Nat=>(j,j))) ?_ ?_ ?_
 .show _m1 ?_;simp![];show#[_,rfl,.q,by simp,0,none,Y6 _,?_,rfl,rfl];change(List.r ((n:Int) - 0).S).C _=_;rw[show((n:Int) - 0).S=n by simp,List.range_eq_range'];simp
 .rintro E1 B d ds ae ⟨m,l0,hm,bm,rfl,rfl,ha⟩;obtain⟨s,hs⟩:∃s,n - m=s+1:=#[n - m - 1,by
   cases h:n - m with
   |zero=>rw[h]at bm;cases bm
   |succ=>simp]
  rw[hs,List.range'_succ]at bm;injection bm with e1 e2;subst e1 e2;let hr:∀f,(List.r (m+1)).filter f=(List.r m).filter f++if f m then[m]else[]:=λf=>by
   rw[Z7]
   grind
  by_cases rh:m=k
  .let bc:fNe (.E m) (.E k)=@(.bl false):=nei (k:=true) (by simp[rh]);simp![bc];show#[m+1,_,.q,by rw[show n - _=s by lia],rfl,?_];rw[ha,hr,Xb (by simp[rh]),Xz]
  .let bc:fNe (.E m) (.E k)=@(.bl true):=nei (Yt λh=>rh .q);simp![bc];show#[m+1,_,.q,by rw[show n - _=s by lia],rfl,?_];rw[hr,X7 (by simp[rh]),Xl,ha,Xl];change _=List.C _ _;rw[Xl];rfl
 .rintro E1 B ae ⟨m,l0,hm,bm,rfl,rfl,ha⟩;let e:n=m:=by
   let:=congrArg List.B bm;simp at this
   grind
  subst e;rw[vj,ha];dsimp[JW,back,clr,List.drop,List.ö];let ht:∀l,zV (.x,.L l)=@_:=λ_=>rfl
  simp![ht];show#[_,rfl,trivial]
def _qA(aa:List Int)(r:Nat):List D:=(List.r (vq aa r)).C (ppD r (vq aa r))
def Kw(aa:List Int):Nat->List D
 |0=>[]|r+1=>Kw aa r++_qA aa r
def all_mem:∀{m},x>Kw aa m↔∃r,r<m/\∃k,k<vq aa r/\x=ppD r (vq aa r) k
 | 0=>#[λh=>(nomatch h),λ_=>by symm]
 | m+1=>by
  ext Kw;rw[List.mem_append,all_mem];ext _qA;rw[List.mem_map];constructor
  .rintro (⟨r,h,z⟩|⟨k,h,rfl⟩)
   .show#[r,.q,z]
   .show#[m,by simp,k,List.á.mp h,rfl]
  .rintro ⟨r,h,k,hk,rfl⟩
   by_cases e:r=m
   .subst e;show .Z #[k,List.á.y hk,rfl]
   .show .O #[r,.q,k,hk,rfl]
def _qB(h:ppD r n k=ppD r' n' k'):r=r'/\prs (shX n k)=prs (shX n' k'):=by
 injection h with h
 grind
def pp_k(h1:k<n)(h:ppD r n k=ppD r n k'):k=k':=by
 show Z3 λbc=>?_
 let hm:D.X [.E k,.E k]>prs (shX n k'):=List.mem_map.y #[_,List.mem_map.y #[k,List.mem_filter.y #[List.á.y h1,X8 bc],rfl],rfl];rw[<-((_qB h).2)]at hm;let#[p,hp,e]:=aE hm;let#[j,hj,rfl]:=aE hp
 grind
def _qC:∀m,(Kw aa m).U
 | 0=>Y7
 | m+1=>by
  show List.nodup_append.y #[_qC m,?_,λx hx y hy e=>?_]
  .show List.pairwise_map.y (List.nodup_range.imp_of_mem fun {a b} ha hb bc e=>bc (pp_k (List.á.mp ha) e))
  .let#[r,hr,k,_,rfl]:=all_mem.mp hx;let#[k',_,rfl]:=aE hy;let:=(_qB e).1
   symm
def Qv(n:Nat):jV 0 n=(List.r n).C λj:Nat=>D.E j:=by
 change(List.r ((n:Int) - 0).S).C _=_;rw[show((n:Int) - 0).S=n by lia];simp
section
variable {aa:List Int}{ss:List Str}{rs:List D}
def _qD(hP:Prs aa ss.B rs)(hk:Abk aa)(h:r<rs.B):∃(gd:Bool) (st:List D),rs.drop r=.X [.E (vq aa r),.bl gd,.L st]::rs.drop (r+1)/\vq aa r<=3:=by
 let#[x,e,gd,st,rfl,_]:=hP.2 r (hP.1▸h);let hm:aa.p r 0>aa:=by rw[X6,X1 (hP.1▸h)];show Xr _
 let:=hk _ hm;show#[gd,st,?_,by symm];rw[List.drop_eq_getElem_cons h]
 congr 1
 rw[X1 h]at e;rw[_aa e]
 congr 3
 lia
def _qE:xx r (x::ys)=.X [.E r,x]::xx (r+1) ys:=rfl
inductive PpA (aa:List Int)(ss:List Str)(rs:List D):En->List D->Prop
 |mk (r:Nat) {l2 l3:Option Sd} (h:r<=rs.B):PpA aa ss rs [@(.x,jv ss rs),@(.rt,.L (Kw aa r)),l2,l3] (xx r (rs.drop r))
def _qF(hP:Prs aa ss.B rs)(hk:Abk aa):∀r,r<=rs.B->(Kw aa r).B<=3*r
 |0,_=>Xa _
 |r+1,h=>by
  let ih:=_qF hP hk r .q;obtain _:=_qD hP hk (r:=r) .q;ext Kw _qA;rw[Xj,X3,Xi];lia
def _qG(hP:Prs aa ss.B rs)(hk:Abk aa)(i9:aa.B<=12):
  Oo _pQ [(.x,jv ss rs)] (λy=>y=(.rt,.L (Kw aa aa.B))) noX:=by
 let q1:∀a b,kQ (.X [a,b]) (.E 1)=@b:=λ_ _=>rfl
 let q0:∀a b c,kQ (.X [a,b,c]) (.E 0)=@a:=λ_ _ _=>rfl
 show q9 ?_;simp![];show z8 (PpA aa ss rs) ?_ ?_ ?_
 .simp![q1];show .mk 0 (Y6 _)
 .intro E d ds hh;generalize bg:d::ds=dd at hh;cases hh with
  | @mk r l2 l3 h=>
  by_cases hr:r<rs.B
  .let#[gd,st,e,h3]:=_qD hP hk hr;rw[e,_qE]at bg;injection bg with e1 e2;subst e1 e2;let hln:=_qF hP hk r (by omega);let:=hP.1;simp![];show _nj rfl (xV [@(.x,.E r),@(.x,.X [.E (vq aa r),.bl gd,.L st])] (λd y=>y.2=(match d with|.E k=>ppD r (vq aa r) k.S|_=>.ç)) (_m1 ?_));simp![q0];show#[_,rfl,.q,.q,rfl,λd hd=>?_,λys hy=>?_]
   .let#[k,k0,k1,rfl]:=VY hd;let#[k,rfl]:=Yx k0;show(_qz r (vq aa r) k .q).use ?_;intro o _;show#[#[_,rfl],rfl]
   .let e:ys.C (·.2)=_qA aa r:=by
     rw[x5 (h:=λd=>match d with|.E k=>ppD r (vq aa r) k.S|_=>.ç) (λ_ _ h=>h) hy,Qv,Xg];rfl
    rw[vj,e];dsimp[back,clr,at',List.l,List.map_nil,List.ö,List.ø];show#[_,_,rfl,rfl,.q,?_,.mk (r+1) hr];ext _qA;rw[X3,Xi];lia
  .rw[List.drop_eq_nil_of_le (by symm)]at bg;cases bg
 .intro E hh;generalize bg:([]:List D)=dd at hh;cases hh with
  |@mk r l2 l3 h=>
  by_cases hr:r<rs.B
  .let#[gd,st,e,h3]:=_qD hP hk hr;rw[e]at bg;cases bg
  .let:r=aa.B:=by let:=hP.1;lia
   subst this;simp![]
def ksV(V:List D)(r n:Nat):List Nat:=(List.r n).filter λk=>decide (ppD r n k>V)
abbrev nL(l:List Nat):D:=.L (l.C λk:Nat=>D.E k)
def _qH(r n:Nat)(hn:n<=100)(hu:unm (Dk V gT1)=true):Oo _pM [(.x,.E r),(.x,.E n),(.x,.dct (Dk V gT1))] (λy=>y=(.dp,nL (ksV V r n))) noX:=by
 show q9 ?_;simp![];show Jx (λE1 B ds ae=>∃(m:Nat) (l0:Option Sd),m<=n/\ds=(List.range' m (n - m)).C (λj:Nat=>D.E j)/\B=[l0,@(.x,.E r),@(.x,.E n),@(.x,.dct (Dk V gT1))]/\ae.C (·.2)=((List.r m).filter λk=>decide (ppD r n k>V)).C λj:Nat=>D.E j) ?_ ?_ ?_
 .show _m1 ?_;simp![];show#[_,rfl,.q,by simp,0,none,Y6 _,?_,rfl,rfl];rw[Qv,List.range_eq_range'];rfl
 .rintro E1 B d ds ae ⟨m,l0,hm,bm,rfl,ha⟩;obtain⟨s,hs⟩:∃s,n - m=s+1:=#[n - m - 1,by
   cases h:n - m with
   |zero=>rw[h]at bm;cases bm
   |succ=>simp]
  rw[hs,List.range'_succ]at bm;injection bm with e1 e2;subst e1 e2;let hr:∀f,(List.r (m+1)).filter f=(List.r m).filter f++if f m then[m]else[]:=λf=>by
   rw[Z7]
   grind
  let hky:kZ (ppD r n m)=true:=J.key_pr _ _ _;let gw:=in_d hky hu;rw[Vz]at gw;simp![];show(_qz r n m hn).use ?_;intro o _
  by_cases hV:ppD r n m>V
  .rw[X8 hV]at gw;simp![gw];show#[m+1,_,.q,by rw[show n - _=s by lia],rfl,?_];rw[hr,X7 (X8 hV),Xl,ha,Xl];rfl
  .rw[Xk hV]at gw;simp![gw];show#[m+1,_,.q,by rw[show n - _=s by lia],rfl,?_];rw[ha,hr,Xb (by rw[Xk hV];decide),Xz]
 .rintro E1 B ae ⟨m,l0,hm,bm,rfl,ha⟩;let e:n=m:=by
   let:=congrArg List.B bm;simp at this;lia
  subst e;let hp:ae.all qz=true:=by
   rw[Yb];intro x hx;let:x.2>ae.C _:=List.mem_map.y #[x,hx,rfl];rw[ha]at this;let#[j,_,e]:=aE this;ext qz;rw[<-e];change(_||true)=true;rw[Bool.or_true]
  rw[_m5 hp,ha];rfl
end
section
variable {ss:List Str}
def sA(r n:Nat):Sn:=@((r:Int),(List.r n).C λj:Nat=>(j:Int))
def sB(r n k:Nat):Sn:=@((r:Int),((List.r n).C λj:Nat=>(j:Int)).u k n)
def Ptd(ss:List Str)(rs:List D)(r n k:Nat):Prop:=∃w:List (Str×Int),(∀x>w,x.1>ss)/\¬gp ss rs rs (sA r n) (sB r n k) w
def _qI(r):∀n k,n<=3->k<n->v7 (sA r n) (sB r n k)=ppD r n k
 |0,_,_,h=>by symm|1,0,_,_=>rfl|1,_+1,_,h=>by lia|2,0,_,_=>rfl|2,1,_,_=>rfl|2,_+2,_,h=>by lia|3,0,_,_=>rfl|3,1,_,_=>rfl|3,2,_,_=>rfl|3,_+3,_,h=>by lia|_+4,_,h,_=>by symm
def _qJ:∀{l:List Int} {k},l.U->x∉l->(l.u k x).U
 |[],_,_,_=>Y7
 |a::l,0,h,hx=>by
  rw[Yh]at h;show List.ú.y #[λz=>hx (_ad _ z),h.2]
 |a::l,k+1,h,hx=>by
  rw[Yh]at h;show List.ú.y #[λz=>?_,_qJ h.2 λz=>hx (_ad _ z)];let z\/z:=List.mem_or_eq_of_mem_set z
  .show h.1 z
  .show hx (z▸X2)
def _qK(hk:Abk aa)(hr:r<aa.B)(kh:k<vq aa r):Two aa aa (sA r (vq aa r)) (sB r (vq aa r) k):=by
 let hm:aa.p r 0>aa:=by rw[X6,X1 hr];show Xr _
 let hn:((List.r (vq aa r)).C λj:Nat=>(j:Int)).U:=List.pairwise_map.y (List.nodup_range.imp λh e=>h .q);let ok:∀l,l.B=vq aa r->qk aa (@(r,l)):=λl hl room ks e=>by
  cases e;show#[by simp,by symm,?_];rw[hl,Xs];lia
 show#[ok _ (by simp),ok _ (by simp),hn,(_qJ hn λh=>?_)];let#[j,hj,e]:=aE h;let:=List.á.mp hj;lia
open Classical in
def _qL(ss:List Str)(rs:List D)(r n:Nat):List Nat:=(List.r n).filter λk=>decide (Ptd ss rs r n k)
open Classical in
def _qM(h:∀k,k<n->(Ptd ss rs r n k↔q k=true)):_qL ss rs r n=(List.r n).filter q:=by
 show List.filter_congr λk hk=>?_
 let h:=h k (List.á.mp hk);cases hq:q k with|true=>show X8 (h.y hq)|false=>symm
def _qN(aa:List Int)(ss:List Str)(rs:List D):List D:=(List.r aa.B).C λr=>nL (_qL ss rs r (vq aa r))
def _qO(hP:Prs aa ss.B rs)(hk:Abk aa)(h:Uns aa ss rs (Kw aa aa.B) V)(hr:r<aa.B):ksV V r (vq aa r)=_qL ss rs r (vq aa r):=by
 show List.filter_congr λk kh=>?_
 let kh:=List.á.mp kh;let hm:aa.p r 0>aa:=by rw[X6,X1 hr];show Xr _
 let h3:=(hk _ hm).2;let t:=_qK hk hr kh;show decide_eq_decide.y (h _ (all_mem.y #[r,hr,k,kh,rfl]) _ _ t ?_);rw[<-(_qI r _ k (by symm) kh)];show _pa hP hk hP hk t.a t.b t.na t.nb
def _qP(hP:Prs aa ss.B rs)(hk:Abk aa)(i9:aa.B<=12):∀x>Kw aa aa.B,Pin aa aa rs rs x/\x>AllQ:=λx hx=>by
 let#[r,hr,k,kh,rfl]:=all_mem.mp hx;let hm:aa.p r 0>aa:=by rw[X6,X1 hr];show Xr _
 let h3:=(hk _ hm).2;let t:=_qK hk hr kh;rw[<-_qI r _ k (by symm) kh];show#[_pE hP hk hP hk t,_pF i9 i9 hk hk t]
def _qQ(hP:Prs aa ss.B rs)(hk:Abk aa)(hu:unm (Dk V gT1)=true):
  Oo _pN [(.x,jv ss rs),(.x,.dct (Dk V gT1))] (λy=>y=(.dp,.L ((List.r aa.B).C λr=>nL (ksV V r (vq aa r))))) noX:=by
 let q1:∀a b,kQ (.X [a,b]) (.E 1)=@b:=λ_ _=>rfl
 let q0:∀a b c,kQ (.X [a,b,c]) (.E 0)=@a:=λ_ _ _=>rfl
 show q9 ?_;simp![];show Jx (λE1 B ds ae=>∃(r:Nat) (l0 l1:Option Sd),r<=rs.B/\ds=xx r (rs.drop r)/\B=[l0,l1,@(.x,.dct (Dk V gT1))]/\ae=(List.r r).C λr=>(.dp,nL (ksV V r (vq aa r)))) ?_ ?_ ?_
 .simp![q1];show#[0,none,none,Y6 _,rfl,rfl,rfl]
 .rintro E1 B d ds ae ⟨r,l0,l1,h,bg,rfl,ha⟩
  by_cases hr:r<rs.B
  .let#[gd,st,e,h3]:=_qD hP hk hr;rw[e]at bg;injection bg with e1 e2;subst e1 e2;simp![q0,↓_ng];show(_qH r _ .q hu).via ?_;rintro _ rfl;show#[by rfl,r+1,_,_,hr,rfl,rfl,?_];rw[Z7,Xl,ha];rfl
  .rw[List.drop_eq_nil_of_le (by symm)]at bg;cases bg
 .rintro E1 B ae ⟨r,l0,l1,h,bg,rfl,ha⟩
  by_cases hr:r<rs.B
  .let#[gd,st,e,h3]:=_qD hP hk hr;rw[e]at bg;cases bg
  .let hrk:r=aa.B:=by let:=hP.1;lia
   subst hrk;let ht:ae.all qz=true:=by
    rw[Yb,ha];intro x hx;let#[j,_,rfl]:=aE hx;rfl
   rw[_m5 ht,ha,Xg];rfl
def _qR(hs:ss.B<=3)(hP:Prs aa ss.B rs)(hk:Abk aa)(i9:aa.B<=12):
  Oo _pR [(.x,jv ss rs)] (λy=>y=(.dp,.L (_qN aa ss rs))) noX:=by
 let o7:=J.small_is (d0:=sL ss) (_oU hP);rw[_oV hP hk i9]at o7;ext _pR;show q9 ?_;simp![];show o7.via ?_;rintro _ ⟨o',rfl,_⟩;simp![];show(_qG hP hk i9).via ?_;rintro _ rfl;simp![];show(_qy hs i9 hP hk (_qC _) (_qP hP hk i9)).via ?_;rintro _ ⟨V,rfl,hu,hV⟩;simp![];show(_qQ hP hk hu).via ?_;rintro _ rfl
 congr 2
 show Xw λr hr=>by rw[_qO hP hk hV (List.á.mp hr)]
end
abbrev at0(ks:List Int)(i:Nat):Int:=ks.p i 0
structure Mc (aa:List Int)(z:Str)(rs:List D)(m e spot P:Nat)(az:Bool)(nx:Nat->Nat)(fl:Nat->List Nat):Prop where
 hP:Prs aa [z].B rs
 hk:∀p>aa,0<=p/\p<=3
 len:aa.B=e+1
 k1:∀r,r<m->aa.p r 0=r
 k2:∀r,m<=r->r<e->aa.p r 0=m
 ke:aa.p e 0=0
 sp:m<=spot/\spot<e
 pm:P<m
 nxr:∀r,m<=r->r<e->r≠spot\/az=true->m<=nx r/\nx r<e
 rd0:∀h ks c,h<m->ks.B=h->c>ks->rdF [z] rs @((h:Int),ks) z c=none
 rd1:∀h ks c,h<m->ks.B=h->c∉ks->∃cf,rdF [z] rs @((h:Int),ks) z c=@(((h+1:Nat):Int),cf)
 rd2:∀r ks c,m<=r->r<e->ks.B=m->(r≠spot\/az=true/\(ks.ß λw=>w==c)≠P)->rdF [z] rs @((r:Int),ks) z c=@((nx r:Int),(fl r).C (at0 ks))
 rd3:∀ks c,ks.B=m->(ks.ß λw=>w==c)=P->rdF [z] rs @((spot:Int),ks) z c=@((e:Int),[])
 rd4:∀ks c,ks.B=m->(ks.ß λw=>w==c)≠P->az=false->rdF [z] rs @((spot:Int),ks) z c=none
 rd5:∀c,rdF [z] rs @((e:Int),[]) z c=none
 gd:∀r,r<=e->gdF rs (r:Int)=decide (r=e)
inductive Hits (m e spot P:Nat)(az:Bool)(nx:Nat->Nat)(fl:Nat->List Nat):Nat->Nat->Prop
 |spot:Hits m e spot P az nx fl spot P
 |step {r t p:Nat} (h0:m<=r) (h1:r<e) (h2:r≠spot\/az=true/\p≠P) (h3:p<m) (h4:(fl r)[t]?=@p) (h:Hits m e spot P az nx fl (nx r) t):Hits m e spot P az nx fl r p
def _qS{ks:List Int}(hn:ks.U)(h:p<ks.B):(ks.ß λw=>w==at0 ks p)=p:=by
 let hm:at0 ks p>ks:=by
  change ks.p p 0>ks;rw[X6,X1 h];show Xr _
 let h1:=_or hm;show _oq hn ((aF h1).1) h ?_;rw[X6,h1];rfl
def _qT(h:p<ks.B)(e:(ks.ß λw=>w==c)=p):at0 ks p=c:=by
 let:=List.findIdx_getElem (w:=by rw[e];show h);change ks.p p 0=c;rw[X6,X1 h];subst e
 simpa using this
def _qU:run ss rs S (x::w)=run ss rs (rdF ss rs S x.1 x.2) w:=rfl
def _qV:∀w,run ss rs none w=none
 |[]=>rfl|x::w=>_qV w
section
variable {aa:List Int}{z:Str}{rs:List D}{m e spot P:Nat}{az:Bool}{nx:Nat->Nat}{fl:Nat->List Nat}
def Mc.ok(M:Mc aa z rs m e spot P az nx fl)(h:r<=e)(hl:(ks.B:Int)=aa.p r 0):qk aa (@(r,ks)):=λroom cf h'=>by
 cases h';let:=M.len;show#[by simp,.q,by rw[Xs];show hl]
def Mc.nd(M:Mc aa z rs m e spot P az nx fl)(h:qk aa S)(hn:(nms S).U)(e:rdF [z] rs S z c=S'):qk aa S'/\(nms S').U:=by
 subst e;show#[(VX z c M.hP M.hk h).2,_o0 M.hP M.hk h hn]
def Mc.tr(M:Mc aa z rs m e spot P az nx fl)(h0:m<=r)(h1:r<e)(hl:ks.B=m)(hn:ks.U)(h:r≠spot\/az=true/\(ks.ß λw=>w==c)≠P):rdF [z] rs @(r,ks) z c=@((nx r:Int),(fl r).C (at0 ks))/\((fl r).C (at0 ks)).B=m/\((fl r).C (at0 ks)).U/\m<=nx r/\nx r<e:=by
 let hr:=M.rd2 r ks c h0 h1 hl h;let#[g1,g2]:=M.nd (M.ok .q (by rw[hl,M.k2 r h0 h1])) hn hr;let#[n0,n1]:=M.nxr r h0 h1 (h.imp id And.left);let#[_,_,g3]:=g1 _ _ rfl;rw[Xs,M.k2 _ n0 n1]at g3;show#[hr,.q,g2,n0,n1]
def _qW{l:List Nat}(h:l[t]?=@p):at0 (l.C (at0 ks)) t=at0 ks p:=by
 change(l.C _).p t 0=_;rw[X6,Xf,h];rfl
def Mc.go(M:Mc aa z rs m e spot P az nx fl){r p}(H:Hits m e spot P az nx fl r p):∀ks,ks.B=m->ks.U->∃n,run [z] rs @(r,ks) (List.h n (z,at0 ks p))=@((e:Int),[]):=by
 induction H with
 |spot=>
  intro ks hl hn;show#[1,M.rd3 ks _ hl (_qS hn (by let:=M.pm;symm))]
 |@step r t p h0 h1 h2 h3 h4 h ih=>
  intro ks hl hn;let#[g1,g2,g3,_]:=M.tr h0 h1 hl hn ((_qS hn (p:=p) (by symm))▸h2);let#[n,hn]:=ih _ g2 g3;rw[_qW h4]at hn;show#[n+1,by rw[List.replicate_succ,_qU];rw[g1];show hn]
def Out(m e:Nat)(x:Int)(b:Sn):Prop:=b=none\/∃(r:Nat) (ks:List Int),m<=r/\r<e/\b=@((r:Int),ks)/\ks.B=m/\ks.U/\x∉ks
def Mc.out(M:Mc aa z rs m e spot P az nx fl)(fu:∀r,m<=r->r<e->∀i>fl r,i<m):∀n b,Out m e x b->gdF rs (rmO (run [z] rs b (List.h n (z,x))))=false:=by
 intro n
 induction n with
 | zero=>
  rintro b (rfl|⟨r,ks,h0,h1,rfl,_⟩)
  .rfl
  .change gdF rs r=false;rw[M.gd r .q,Xk .q]
 | succ n ih=>
  rintro b (rfl|⟨r,ks,h0,h1,rfl,hl,hn,hx⟩)
  .show ih none (.O rfl)
  .show ih _ ?_;right;let hi:(ks.ß λw=>w==x)=m:=by
    rw[<-hl];show List.findIdx_eq_length.y λy hy=>Yt λe=>hx (e▸hy)
   let hP:=M.pm
   by_cases ho:r≠spot\/az=true
   .let#[g1,g2,g3,g4,g5]:=M.tr (c:=x) h0 h1 hl hn (ho.imp id λo=>#[o,.q]);show .Z #[nx r,_,g4,g5,g1,g2,g3,λhm=>?_];let#[i,hi,e]:=aE hm;let si:=fu r h0 h1 i hi;show hx ?_;rw[<-e];change ks.p i 0>ks;rw[X6,X1 (by symm)];show Xr _
   .let hs:r=spot:=Z3 λh=>ho (.O h)
    subst hs;show .O (M.rd4 ks x hl .q ?_);cases az with|false=>rfl|true=>show absurd (.Z rfl) ho
def Alk(m e spot P:Nat)(az:Bool)(nx:Nat->Nat)(fl:Nat->List Nat)(a b:Sn):Prop:=(a=none/\b=none)\/(a=@((e:Int),[])/\b=@((e:Int),[])) \/
 ∃(r:Nat) (ks cf:List Int),m<=r/\r<e/\a=@((r:Int),ks)/\b=@((r:Int),cf)/\(ks.B=m/\ks.U)/\(cf.B=m/\cf.U)/\∀p,p<m->Hits m e spot P az nx fl r p->at0 ks p=at0 cf p
def Mc.same(M:Mc aa z rs m e spot P az nx fl)(fu:∀r,m<=r->r<e->∀i>fl r,i<m):∀w a b,(∀x>w,x.1>[z])->Alk m e spot P az nx fl a b->gp [z] rs rs a b w
 | [],_,_,_,.O ⟨h1,h2⟩=>by rw[h1,h2];show rfl| [],_,_,_,.Z (.O #[h1,h2])=>by rw[h1,h2];show rfl| [],_,_,_,.Z (.Z #[r,ks,cf,_,_,h1,h2,_])=>by rw[h1,h2];show rfl
 | x :: w,a,b,hw,h=>by
  show M.same fu w _ _ (λy hy=>hw y (_ad _ hy)) ?_;change Alk m e spot P az nx fl (rdF [z] rs a x.1 x.2) (rdF [z] rs b x.1 x.2);rw [(aC (hw x X2))];generalize x.2=c;let#[rfl,rfl]\/#[rfl,rfl]\/#[r,ks,cf,h0,h1,rfl,rfl,#[l1,n1],#[l2,n2],he]:=h
  .show .O #[rfl,rfl]
  .show .O #[M.rd5 c,M.rd5 c]
  .let hPm:=M.pm
   by_cases hs:r=spot
   .subst hs;let hP:=he P hPm .spot;let yl:(ks.ß λw=>w==c)=P↔(cf.ß λw=>w==c)=P:=by
     constructor
     .intro e;rw[<-_qT .q e,hP];show _qS n2 .q
     .intro e;rw[<-_qT .q e,<-hP];show _qS n1 .q
    by_cases hc:(ks.ß λw=>w==c)=P
    .show .Z (.O #[M.rd3 ks c l1 hc,M.rd3 cf c l2 (yl.mp hc)])
    .let ji:=λh=>hc (yl.y h)
     cases ho:az with
     |false=>show .O #[M.rd4 ks c l1 hc ho,M.rd4 cf c l2 ji ho]
     |true=>
      let#[g1,g2,g3,g4,g5]:=M.tr h0 h1 l1 n1 (.Z #[ho,hc]);let#[f1,f2,f3,_]:=M.tr h0 h1 l2 n2 (.Z #[ho,ji]);show .Z (.Z #[nx r,_,_,g4,g5,g1,f1,#[g2,g3],#[f2,f3],λt ht hh=>?_]);let qt:t<(fl r).B:=by rw[X3]at g2;lia
      let h4:=X1 qt;rw[_qW h4,_qW h4];let ml:=fu r h0 h1 _ (Xr qt)
      by_cases hpP:(fl r)[t]=P
      .rw[hpP];show hP
      .show he _ ml (.step h0 h1 (.Z #[ho,hpP]) ml h4 (ho▸hh))
   .let#[g1,g2,g3,g4,g5]:=M.tr h0 h1 l1 n1 (.O hs);let#[f1,f2,f3,_]:=M.tr h0 h1 l2 n2 (.O hs);show .Z (.Z #[nx r,_,_,g4,g5,g1,f1,#[g2,g3],#[f2,f3],λt ht hh=>?_]);let qt:t<(fl r).B:=by rw[X3]at g2;lia
    let h4:=X1 qt;rw[_qW h4,_qW h4];let ml:=fu r h0 h1 _ (Xr qt);show he _ ml (.step h0 h1 (.O hs) ml h4 hh)
def Mc.on(M:Mc aa z rs m e spot P az nx fl)(hm:∃p,p<m/\Hits m e spot P az nx fl m p):∀d h (ks),h+d=m->ks.B=h->ks.U->∃w,(∀x>w,x.1>[z])/\run [z] rs @((h),ks) w=@((e:Int),[])
 | 0,h,ks,hd,hl,hn=>by
  let#[p,hp,H]:=hm;let hh:h=m:=by omega
  subst hh;let#[n,hr]:=M.go H ks hl hn;show#[_,λx hx=>by rw[List.eq_of_mem_replicate hx];show aB rfl,hr]
 | d+1,h,ks,hd,hl,hn=>by
  let#[c,hc]:=fresh ks;let#[cf,hr]:=M.rd1 h ks c .q hl λhx=>by let:=hc c hx;lia
  let cx:=M.sp;let#[g1,g2]:=M.nd (M.ok .q (by rw[hl,M.k1 h .q])) hn hr;let tq:aa.p (h+1) 0=(h+1:Nat):=by
   by_cases e:h+1<m
   .show M.k1 _ e
   .rw[M.k2 _ (by symm) .q];lia
  let#[_,_,g3]:=g1 _ _ rfl;rw[Xs,tq]at g3;let#[w,hw,e]:=M.on hm d (h+1) cf .q .q g2;show#[(z,c)::w,λx hx=>by
   let rfl\/hx:=aD hx
   .show aB rfl
   .show hw x hx,by rw[_qU];rw[hr];show e]
def _qX(h:p<n):at0 ((List.r n).C λj:Nat=>j) p=p:=by
 change List.p _ _ _=_;rw[X6,Xf,Yl h];rfl
def _qY n:((List.r n).C λj:Nat=>(j:Int)).U:=List.pairwise_map.y (List.nodup_range.imp λh e=>h .q)
def _qZ(h:p<n)(hk:p≠k):at0 (((List.r n).C λj:Nat=>(j:Int)).u k n) p=p:=by
 change List.p _ _ _=_;rw[X6,Yi .q,Xf,Yl h];rfl
def _q0(h:k<n):(k:Int)∉((List.r n).C λj:Nat=>(j:Int)).u k n:=λhm=>by
 let#[i,hi,e]:=Yu hm
 by_cases xu:i=k
 .subst xu;rw[List.getElem_set_self]at e;lia
 .rw[List.getElem_set_ne .q,List.getElem_map,List.getElem_range]at e;lia
def _q1:(((List.r n).C λj:Nat=>(j:Int)).u k n).U:=_qJ (_qY n) λh=>by
 grind
def Mc.due1(M:Mc aa z rs m e spot P az nx fl)(hm:∃p,p<m/\Hits m e spot P az nx fl m p)(h:r<m):_qL [z] rs r r=List.r r:=by
 show(_qM λk hk=>#[λ_=>rfl,λ_=>?_]).I (List.filter_eq_self.y λ_ _=>rfl);let cx:=M.sp;let h0:rdF [z] rs (sA r r) z k=none:=M.rd0 r _ k h (by simp) (List.mem_map.y #[k,List.á.y hk,rfl]);let#[cf,h1]:=M.rd1 r _ k h (by simp) (_q0 hk);let#[g1,g2]:=M.nd (M.ok .q (by rw[M.k1 r h];simp)) _q1 h1;let tq:aa.p (r+1) 0=(r+1:Nat):=by
  by_cases hh:r+1<m
  .show M.k1 _ hh
  .rw[M.k2 _ (by symm) .q];lia
 let#[_,_,g3]:=g1 _ _ rfl;rw[Xs,tq]at g3;let#[w,hw,he]:=M.on hm (m - (r+1)) (r+1) cf (by grind) .q g2;show#[(z,k)::w,λx hx=>?_,λhg=>?_]
 .let rfl\/hx:=aD hx
  .show aB rfl
  .show hw x hx
 .unfold gp at hg;rw[_qU,_qU,h0,_qV,show rdF [z] rs (sB r r k) z k=_ from h1,he]at hg;let:gdF rs e=true:=by rw[M.gd e (Xa _),X8 rfl]
  rw[show rmO @_=e from rfl,this]at hg;cases hg
def Mc.due2(M:Mc aa z rs m e spot P az nx fl)(fu:∀r,m<=r->r<e->∀i>fl r,i<m)(h0:m<=r)(h1:r<e)(hk:k<m):Ptd [z] rs r m k↔Hits m e spot P az nx fl r k:=by
 constructor
 .rintro ⟨w,hw,hn⟩;show Z3 λhh=>hn (M.same fu w _ _ hw (.Z (.Z #[r,_,_,h0,h1,rfl,rfl,#[by simp,_qY m],#[by simp,_q1],λp hp H=>?_])))
  rw[_qX hp,_qZ hp λq=>hh (by rw[<-q];show H)]
 .intro H;let#[n,hr]:=M.go H _ (by simp) (_qY m);rw[_qX hk]at hr;show#[List.h n (z,k),λx hx=>by rw[List.eq_of_mem_replicate hx];show aB rfl,λhg=>?_];unfold gp at hg;rw[show run [z] rs (sA r m) _=_ from hr,M.out fu n (sB r m k) (.Z #[r,_,h0,h1,rfl,by simp,_q1,_q0 hk]),show rmO _=e from rfl,M.gd e (Xa _)]at hg
  symm
end
def cT(to:Nat)(fs:List Nat):D:=.X [.E to,.X (fs.C λi:Nat=>D.E i)]
def cR(r:Nat)(fs:List Nat):List D:=List.h r D.ç++[cT (r+1) fs]
def cS(m e spot P:Nat)(az:Bool)(nx:Nat->Nat)(fl:Nat->List Nat)(r:Nat):List D:=
 if r=spot then(List.h (m+1) (if az then cT (nx r) (fl r)else .ç)).u P (cT e [])else List.h (m+1) (cT (nx r) (fl r))
def rm(k:Nat)(g:Bool)(cs:List D):D:=.X [.E k,.bl g,.L [.L cs]]
def gR(m e spot P:Nat)(az:Bool)(rf:Nat->List Nat)(nx:Nat->Nat)(fl:Nat->List Nat)(r:Nat):D:=
 if r<m then rm r false (cR r (rf r))else if r<e then rm m false (cS m e spot P az nx fl r)else rm 0 true [.ç]
def gK(m e r:Nat):Nat:=if r<m then r else if r<e then m else 0
def gKs(m e:Nat):List Int:=(List.r (e+1)).C λr=>(gK m e r:Int)
def Pm(m:Nat)(l:List Nat):Prop:=l.B=m/\l.U/\∀i>l,i<m
def WQ{m e r}(h:r<=e):(gKs m e).p r 0=gK m e r:=by
 ext gKs;rw[X6,Xf,Yl .q];rfl
def _q2{z rs}{r:Nat}{ks c k g cs}(h:rs[r]?=@(rm k g cs)):rdF [z] rs @(r,ks) z c=K6 (V8 ks c (cs.p (ks.ß λw=>w==c) .ç)):=by
 ext rdF;right;rw[Xs,h];change K6 _=_;ext wX;rw[X7 (by simp)];ext zw;rw[show([z].ß λw=>w==z)=0 by simp[Zv]];rfl
def _q3{ks c to fs}(h:∀i>fs,i<ks.B):K6 (V8 ks c (cT to fs))=@((to:Int),fs.C (at0 ks)):=by
 ext cT;rw[show(fs.C λi:Nat=>D.E i)=(fs.C λi:Nat=>_).C D.E by rw[Xg];rfl,caseD_is];change @(_,((((fs.C λi:Nat=>_).C (C.nameAt ks c)).C D.E).C _oB))=_
 congr 2
 rw[Xg,Xg,Xg];show Xw λi hi=>?_
 change C.nameAt ks c i=ks.p i 0;ext C.nameAt;rw[Xs,X6,Xx (h i hi),X6]
def _q4{ks c to fs}:∃cf,K6 (V8 ks c (cT to fs))=@((to:Int),cf):=by
 ext cT;show#[_,rfl]
def _q5{aa}{b:Int}{to}{fs:List Nat}(h:to<aa.B)(hb:∀i>fs,i<b)(hn:fs.U)(hl:(fs.B:Int)=aa.p to 0):Cs aa b (cT to fs):=by
 show .Z #[to,fs.C λi:Nat=>i,?_,.q,by symm,λf hf=>?_,?_,?_]
 .rw[Xg];rfl
 .let#[i,hi,rfl]:=aE hf;show#[.q,hb i hi]
 .show List.pairwise_map.y (hn.imp λh e=>h .q)
 .rw[X3,hl,Xs]
section
variable {m e spot P:Nat}{az:Bool}{rf:Nat->List Nat}{nx:Nat->Nat}{fl:Nat->List Nat}
abbrev gRs(m e spot P:Nat)(az:Bool)(rf:Nat->List Nat)(nx:Nat->Nat)(fl:Nat->List Nat):List D:=(List.r (e+1)).C (gR m e spot P az rf nx fl)
def Vx{r}(h:r<=e):(gRs m e spot P az rf nx fl)[r]?=@(gR m e spot P az rf nx fl r):=by
 rw[Xf,Yl .q];rfl
#where in
def _q6(z)(h3:m<=3)(cx:m<=spot/\spot<e)(ml:P<m)(md:∀r,m<=r->r<e->r≠spot\/az=true->m<=nx r/\nx r<e)(nw:∀r,r<m->Pm (r+1) (rf r))(fu:∀r,m<=r->r<e->Pm m (fl r)):
  Mc (gKs m e) z (gRs m e spot P az rf nx fl) m e spot P az nx fl:=by
 let r1:∀r,r<m->gR m e spot P az rf nx fl r=rm r false (cR r (rf r)):=λr h=>X7 h
 let r2:∀r,m<=r->r<e->gR m e spot P az rf nx fl r=rm m false (cS m e spot P az nx fl r):=λr h0 h1=>by
  ext gR;rw [Xb .q,X7 h1]
 let r3:gR m e spot P az rf nx fl e=rm 0 true [.ç]:=by
  ext gR;rw [Xb .q,Xb .q]
 let k1:∀r,r<m->gK m e r=r:=λr h=>X7 h
 let k2:∀r,m<=r->r<e->gK m e r=m:=λr h0 h1=>by
  ext gK;rw [Xb .q,X7 h1]
 let k3:gK m e e=0:=by
  ext gK;rw [Xb .q,Xb .q]
 let ai:(gKs m e).B=e+1:=by ext gKs;rw[X3,Xi]
 let kn:∀r,m<=r->r<e->r≠spot\/az=true->Cs (gKs m e) m (cT (nx r) (fl r)):=λr h0 h1 h=>by
  let#[n0,n1]:=md r h0 h1 h;let#[f1,f2,f3]:=fu r h0 h1;show _q5 .q (λi hi=>by let:=f3 i hi;symm) f2 (by rw[WQ .q,k2 _ n0 n1,f1])
 let uv:∀{b b' d},b<=b'->Cs (gKs m e) b d->Cs (gKs m e) b' d:=λhb h=>by
  let rfl\/#[to,fs,rfl,a,b,c,d]:=h
  .show .O rfl
  .show .Z #[to,fs,rfl,a,b,λf hf=>#[(c f hf).1,by let:=(c f hf).2;lia],d]
 let ce:∀b,Cs (gKs m e) b (cT e []):=λb=>_q5 (by symm) (nofun) Y7 (by rw[WQ (Xa _),k3];rfl)
 let csl:∀r,(cS m e spot P az nx fl r).B=m+1:=λr=>by ext cS;split<;>simp
 let csc:∀r,m<=r->r<e->∀k,k<m+1->∃d,(cS m e spot P az nx fl r)[k]?=@d/\Cs (gKs m e) m d:=λr h0 h1 k hk=>by
  ext cS
  split
  .revert hs
   by_cases hkP:k=P
   .subst hkP;show#[_,by rw[Z0 (by rw[Y0];lia)],ce _]
   .show#[_,by rw[Yi .q,Yk hk],?_];cases az with|false=>show .O rfl|true=>show kn r h0 h1 (.Z rfl)
  .revert hs;show#[_,Yk hk,kn r h0 h1 (.O hs)]
 let hfi:∀(ks:List Int) c,(ks.ß λw=>w==c)<=ks.B:=λks c=>List.findIdx_le_length
 let csp:∀(ks:List Int) c,ks.B=m->∀r,m<=r->r<e->(r≠spot\/az=true/\(ks.ß λw=>w==c)≠P)->(cS m e spot P az nx fl r).p (ks.ß λw=>w==c) .ç=cT (nx r) (fl r):=λks c hl r h0 h1 h=>by
  let:=hfi ks c;ext cS;rw [X6]
  split
  .revert hs;let h\/#[rfl,h]:=h
   .show absurd hs h
   .rw[Yi .q,Yk .q];rfl
  .rw[Yk .q];rfl
 show#[#[?_,λr hr=>?_],λp hp=>?_,ai,λr h=>?_,λr h0 h1=>?_,?_,cx,ml,md,λh ks c hh hl hc=>?_,λh ks c hh hl hc=>?_,λr ks c h0 h1 hl h=>?_,λks c hl h=>?_,λks c hl h ho=>?_,λc=>?_,λr hr=>?_]
 .rw [ai,X3,Xi]
 .rw [ai]at hr;show#[_,Vx .q,?_];rw [WQ .q]
  by_cases h0:r<m
  .rw[r1 r h0,k1 r h0];show#[_,_,rfl,rfl,λc hc=>#[_,aC hc,by ext cR;simp,λk hk=>?_]];unfold cR at hk ⊢;rw[Xj,Y0,Xy]at hk
   by_cases hkr:k<r
   .show#[.ç,by rw[Xx (by rw[Y0];lia),Yk hkr],.O rfl]
   .let hkr:k=r:=.q
    subst hkr;let#[f1,f2,f3]:=nw k h0;show#[cT (k+1) (rf k),by rw[Y9 (by rw[Y0];lia),Y0,Nat.sub_self];rfl,_q5 .q (λi hi=>?_) f2 ?_]
    .let:=f3 i hi;ext V4;rw[X7 rfl];lia
    .rw[f1,WQ .q]
     by_cases ma:k+1<m
     .rw[k1 _ ma]
     .rw[k2 (k+1) .q .q];congr 1;lia
  .by_cases h1:r<e
   .rw[r2 r .q h1,k2 r .q h1];show#[_,_,rfl,rfl,λc hc=>#[_,aC hc,by rw[csl];rfl,λk hk=>?_]];rw[csl]at hk;let#[d,e1,e2]:=csc r .q h1 k hk;show#[d,e1,uv (by ext V4;split<;>lia) e2]
   .let vn:r=e:=.q
    subst vn;rw[r3,k3];show#[_,_,rfl,rfl,λc hc=>#[_,aC hc,rfl,λk hk=>?_]];let:k=0:=by rw[Xy]at hk;lia
    subst this;show#[.ç,rfl,.O rfl]
 .let#[r,_,rfl]:=aE hp;ext gK
  split
  .lia
  .split<;>lia
 .rw[WQ .q,k1 r h]
 .rw[WQ .q,k2 r h0 h1]
 .rw[WQ (Xa _),k3];rfl
 .rw[_q2 ((Vx .q).I (congrArg some (r1 h hh)))];let b9:(ks.ß λw=>w==c)<ks.B:=Yv #[c,hc,by simp];ext cR;rw[X6,Xx (by rw[Y0];lia),Yk .q];rfl
 .rw[_q2 ((Vx .q).I (congrArg some (r1 h hh)))];let hi:(ks.ß λw=>w==c)=h:=by
   rw[<-hl];show List.findIdx_eq_length.y λy hy=>Yt λe=>hc (e▸hy)
  ext cR;rw[hi,X6,Y9 (by rw[Y0];lia),Y0,Nat.sub_self];show _q4
 .rw[_q2 ((Vx .q).I (congrArg some (r2 r h0 h1))),csp ks c hl r h0 h1 h];show _q3 λi hi=>by let:=(fu r h0 h1).2.2 i hi;lia
 .rw[_q2 ((Vx .q).I (congrArg some (r2 spot cx.1 cx.2))),h];ext cS;rw[X7 rfl,X6,Z0 (by rw[Y0];lia)];show _q3 nofun
 .rw[_q2 ((Vx .q).I (congrArg some (r2 spot cx.1 cx.2)))];let:=hfi ks c;ext cS;rw[X7 rfl,X6,Yi .q,Yk .q,ho];rfl
 .rw[_q2 ((Vx (Xa _)).I (congrArg some r3))];rfl
 .ext gdF;rw[Xb .q,Xs,Vx hr]
  by_cases h0:r<m
  .rw[r1 r h0,Xk .q];rfl
  .by_cases h1:r<e
   .rw[r2 r .q h1,Xk .q];rfl
   .let vn:r=e:=.q
    subst vn;rw[r3,X8 rfl];rfl
def _q7(z)(h3:m<=3)(cx:m<=spot/\spot<e)(ml:P<m)(md:∀r,m<=r->r<e->r≠spot\/az=true->m<=nx r/\nx r<e)(nw:∀r,r<m->Pm (r+1) (rf r))(fu:∀r,m<=r->r<e->Pm m (fl r))
  {du:Nat->List Nat} (hm:∃p,p<m/\Hits m e spot P az nx fl m p) (hd:∀r,m<=r->r<e->∃q,du r=(List.r m).filter q/\∀k,k<m->(Hits m e spot P az nx fl r k↔q k=true)):
  _qN (gKs m e) [z] (gRs m e spot P az rf nx fl)=(List.r (e+1)).C λr=>nL (if r<m then List.r r else if r<e then du r else[]):=by
 let M:=_q6 z h3 cx ml md nw fu;ext _qN;rw[M.len];show Xw λr hr=>?_
 let hr:=List.á.mp hr;ext vq
 by_cases h0:r<m
 .rw[X7 h0,M.k1 r h0,Xs,M.due1 hm h0]
 .rw[Xb h0]
  by_cases h1:r<e
  .rw[X7 h1,M.k2 r .q h1,Xs];let#[q,e1,e2]:=hd r .q h1;rw[e1,_qM λk hk=>(M.due2 (λr h0 h1=>(fu r h0 h1).2.2) .q h1 hk).I (e2 k hk)]
  .let vn:r=e:=.q
   subst vn;rw[Xb .q,M.ke];rfl
end
abbrev tn(tu:List Bool)(k:Nat):Bool:=tu.p k false
abbrev bN(b:Bool):Nat:=if b then 1 else 0
def fiN(tu:List Bool):Nat->Nat
 |0=>bN (tn tu 0)|k+1=>if tn tu (k+1)then 1 - fiN tu k else fiN tu k
def gA(a x:Nat):Nat:=if a=1 then 1 - x else x
def pm2(b:Bool):List Nat:=if b then[1,0]else[0,1]
def rfC(tu:List Bool)(r:Nat):List Nat:=if r=0 then[0]else pm2 (tn tu 0)
def flC(tu:List Bool)(r:Nat):List Nat:=pm2 (tn tu (r - 1))
def zY(tu):∀k,fiN tu k<=1
 |0=>by ext fiN bN;split<;>lia
 |k+1=>by
  let:=zY tu k;ext fiN
  split<;>omega
def XZ(h:x<=1):gA a x<=1:=by ext gA;split<;>omega
def _q8(b):Pm 2 (pm2 b):=by
 cases b
 .show#[rfl,.q,.q]
 .show#[rfl,.q,.q]
def _q9{b:Bool}(h:x<=1):gA a (if b then 1 - x else x)=if b then 1 - gA a x else gA a x:=by
 ext gA;cases b
 .rfl
 .split<;>simp
def _ra(h:t<=1):(pm2 b)[t]?=@(if b then 1 - t else t):=by
 let:t=0\/t=1:=.q
 let rfl\/rfl:=this<;>cases b<;>rfl
abbrev HC(tu:List Bool)(a n:Nat):Nat->Nat->Prop:=Hits 2 (n+2) (n+1) (gA a (fiN tu (n - 1))) false (λr=>r+1) (flC tu)
def _rb:∀d r,2<=r->r+d=n+1->HC tu a n r (gA a (fiN tu (r - 2)))
 |0,r,h2,h=>by
  let e:r=n+1:=by omega
  subst e;show .spot
 |d+1,r,h2,h=>by
  let ih:=_rb d (r+1) (tu:=tu) (a:=a) (n:=n) .q .q;let e:r+1 - 2=(r - 2)+1:=by grind
  rw[e]at ih;let hf:=zY tu (r - 2);let hg:=XZ (a:=a) hf;show .step h2 .q (.O .q) .q ?_ ih;rw[show fiN tu _=if tn tu _ then 1 - fiN tu _ else fiN tu _ from rfl,_q9 hf,show r - 2+1=r - 1 by lia];ext flC;rw[_ra (by split<;>grind)];cases tn tu _
  .rfl
  .grind
def _rc:∀{r p},HC tu a n r p->2<=r->p=gA a (fiN tu (r - 2)):=by
 intro r p H
 induction H with
 |spot=>intro _;rfl
 |@step r t p h0 h1 h2 h3 h4 h ih=>
  intro _;let ih:=ih .q;let hf:=zY tu (r - 2);let hg:=XZ (a:=a) hf;rw[show r+1 - 2=(r - 2)+1 by lia,show fiN tu _=if tn tu _ then 1 - fiN tu _ else fiN tu _ from rfl,_q9 hf,show r - 2+1=r - 1 by lia]at ih;unfold flC at h4;rw[_ra (by rw[ih];split<;>grind),ih]at h4;rw[<-(_aa h4)];cases tn tu _
  .rfl
  .lia
abbrev rsC(tu:List Bool)(a:Nat):List D:=gRs 2 (tu.B+2) (tu.B+1) (gA a (fiN tu (tu.B - 1))) false (rfC tu) (λr=>r+1) (flC tu)
abbrev grC(tu:List Bool)(a:Nat):Nat->D:=gR 2 (tu.B+2) (tu.B+1) (gA a (fiN tu (tu.B - 1))) false (rfC tu) (λr=>r+1) (flC tu)
abbrev duF(m e:Nat)(du:Nat->List Nat)(r:Nat):D:=nL (if r<m then List.r r else if r<e then du r else[])
abbrev W9(tu:List Bool)(a:Nat):List D:=(List.r (tu.B+2+1)).C (duF 2 (tu.B+2) λr=>[gA a (fiN tu (r - 2))])
structure Mk (z:Str)(rs u4:List D):Prop where
 ex:∃aa,Prs aa [z].B rs/\(∀p>aa,0<=p/\p<=3)/\aa.B<=12/\u4=_qN aa [z] rs
 nl:∃L:List (List Nat),u4=L.C nL/\L.B<=12/\∀l>L,l.B<=3/\∀k>l,k<3
def ks_le(m e)(h:m<=3):∀p>gKs m e,0<=p/\p<=3:=λp hp=>by
 let#[r,_,rfl]:=aE hp;ext gK
 split
 .lia
 .split<;>lia
def _rd z (h1:1<=tu.B)(h9:tu.B<=9):Mk z (rsC tu a) (W9 tu a):=by
 let hg:=XZ (a:=a) (zY tu (tu.B - 1));let cx:2<=tu.B+1/\tu.B+1<tu.B+2:=by symm
 let md:∀r,2<=r->r<tu.B+2->r≠tu.B+1\/false=true->2<=r+1/\r+1<tu.B+2:=λr h0 h1 h=>by
  let h\/h:=h
  .lia
  .symm
 let nw:∀r,r<2->Pm (r+1) (rfC tu r):=λr hr=>by
  ext rfC
  by_cases e:r=0
  .subst e;change Pm 1 [0];show#[rfl,.q,.q]
  .rw[show r=1 by lia];show _q8 _
 let fu:∀r,2<=r->r<tu.B+2->Pm 2 (flC tu r):=λr _ _=>_q8 _
 let M:=_q6 z .q cx (show gA a (fiN tu (tu.B - 1))<2 by lia) md nw fu;show#[#[_,M.hP,M.hk,by rw[M.len];lia,?_],(List.r _).C λr=>if r<2 then List.r r else if r<tu.B+2 then[gA a _]else[],by rw[Xg];rfl,by rw[X3,Xi];lia,λl hl=>?_]
 .show(_q7 z .q cx .q md nw fu #[_,?_,_rb (tu.B - 1) 2 .q .q] λr h0 h1=>#[λk=>k==gA a (fiN tu (r - 2)),?_,λk hk=>?_]).s
  .let:=XZ (a:=a) (zY tu 0);lia
  .let h2:=XZ (a:=a) (zY tu (r - 2));let:gA a (fiN tu (r - 2))=0\/gA a (fiN tu (r - 2))=1:=.q
   let e\/e:=this<;>rw[e]<;>rfl
  .constructor
   .intro H;rw[_rc H h0];simp
   .intro e;rw[eq_of_beq e];show _rb (tu.B+1 - r) r h0 (by grind)
 .let#[r,hr,rfl]:=aE hl
  by_cases h0:r<2
  .rw[X7 h0];show#[by rw[Xi];lia,λk hk=>by let:=List.á.mp hk;lia]
  .rw[Xb h0]
   split
   .show#[by simp,λk hk=>by rw[aC hk];let:=XZ (a:=a) (zY tu (r - 2));lia]
   .show#[by simp,nofun]
def _re{k:Nat}(h:k<tu.B):kQ (.L (tu.C D.bl)) (.E k)=@(.bl (tn tu k)):=by
 show WJ .q ?_;rw[Xs,Xf,X1 h];change @_=@(D.bl (tu.p k false));rw[X6,X1 h];rfl
def _rf b:VW (.bl b)=@(.E (bN b)):=by cases b<;>rfl
def _rg(to:Nat) b:Oo _pT [(.x,.E to),(.x,.E 0),(.x,.E 1),(.x,.bl b)] (λy=>y=(.x,cT to (pm2 b))) noX:=by
 show q9 ?_;cases b
 .simp![];rfl
 .simp![];rfl
def _rh:v8 (.L ds)=@(.E ds.B):=rfl
section
variable {tu:List Bool}{a:Nat}
abbrev K2(tu:List Bool)(a n:Nat):List D:=(List.r n).C (grC tu a)
def _ri n:K2 tu a (n+1)=K2 tu a n++[grC tu a n]:=by
 ext K2;rw[Z7,Xl];rfl
def gr0:grC tu a 0=.X [.E 0,.bl false,.L [.L [cT 1 [0]]]]:=rfl
def gr1:grC tu a 1=.X [.E 1,.bl false,.L [.L [.ç,cT 2 (pm2 (tn tu 0))]]]:=rfl
def _rj(h0:2<=r)(h1:r<tu.B+1):grC tu a r=.X [.E 2,.bl false,.L [.L [cT (r+1) (pm2 (tn tu (r - 1))),cT (r+1) (pm2 (tn tu (r - 1))),cT (r+1) (pm2 (tn tu (r - 1)))]]]:=by
 ext grC gR;rw[Xb .q,X7 .q];ext cS;rw[Xb .q];rfl
def _rk(h:1<=tu.B):grC tu a (tu.B+1)=.X [.E 2,.bl false,.L [.L ([D.ç,.ç,.ç].u (gA a (fiN tu (tu.B - 1))) (cT (tu.B+2) []))]]:=by
 ext grC gR;rw[Xb .q,X7 .q];ext cS;rw[X7 rfl];rfl
def _rl:grC tu a (tu.B+2)=.X [.E 0,.bl true,.L [.L [.ç]]]:=by
 ext grC gR;rw[Xb .q,Xb .q];rfl
abbrev plL(tu:List Bool)(n:Nat):List D:=(List.r n).C λk=>D.E (fiN tu k:Nat)
def _rm n:plL tu (n+1)=plL tu n++[D.E (fiN tu n)]:=by
 ext plL;rw[Z7,Xl];rfl
inductive ChA (z:Str)(tu:List Bool)(a:Nat):En->List D->Prop
 |mk (k:Nat) {o4:Own} {l6 l7:Option Sd} {af:List D} (h0:1<=k) (h1:k<=tu.B) (h2:af=jV k tu.B):ChA z tu a [@(.x,.ã z),@(.x,.L (tu.C D.bl)),@(.x,.E a),@(.rt,.L (K2 tu a (k+1))),@(o4,.E (fiN tu (k - 1):Nat)),@(.rt,.L (plL tu (k - 1))),l6,l7,none,none] af
def _rn(z)(h1:1<=tu.B)(h9:tu.B<=9)(ha:a<=1):
  Oo _pU [(.x,.ã z),(.x,.L (tu.C D.bl)),(.x,.E a)] (λy=>y=(.x,.X [jv [z] (rsC tu a),.L (W9 tu a)])) noX:=by
 let hl:v8 (.L (tu.C D.bl))=@(.E tu.B):=by rw[_rh,X3]
 let i0:kQ (.L (tu.C D.bl)) (.E 0)=@(.bl (tn tu 0)):=_re (k:=0) .q;let c2:Oo _pT [(.x,.E 2),(.x,.E 0),(.x,.E 1),(.x,.bl (tn tu 0))] (λy=>y=(.x,cT 2 (pm2 (tn tu 0)))) noX:=_rg 2 (tn tu 0);ext _pU;show q9 ?_;simp![i0];show wQ rfl ?_;simp![i0];show c2.via ?_;rintro _ rfl;simp![];show⟨_,rfl,.q,?_⟩;simp![i0,(_rf (tn tu 0))];show z8 (ChA z tu a) ?_ ?_ ?_
 .show _m2 ?_;simp![hl];show⟨_,_,rfl,rfl,.q,.q,.q,.q,(.mk 1 (Xa _) h1 rfl)⟩
 .intro E d ds hh;generalize bg:d::ds=dd at hh;cases hh with
  | @mk k o4 l6 l7 _ h0 hk h2=>
  rw [h2]at bg;let#[b9,rfl,rfl]:=_nm .q bg;let ik:=_re (tu:=tu) (k:=k) .q;let bk:((List.r (k+1)).B:Int)+1=((k+2:Nat):Int):=by
   rw [Xi];lia
  let hs:Q0 (.E 1) (.E (fiN tu (k - 1):Nat))=@(.E ((1 - fiN tu (k - 1):Nat):Int)):=by
   let:=zY tu (k - 1);change @(D.E _)=_
   grind
  let bu:(plL tu (k - 1)).B<10000:=by rw[X3,Xi];lia
  let jl:(K2 tu a (k+1)).B<10000:=by rw[X3,Xi];lia
  let e1:=_rm (tu:=tu) (k - 1);let e2:=_ri (tu:=tu) (a:=a) (k+1);rw [_rj .q .q,show k+1 - 1=k by lia]at e2;let e3:fiN tu k=if tn tu k then 1 - fiN tu (k - 1)else fiN tu (k - 1):=by
   obtain⟨j,rfl⟩:∃j,k=j+1:=#[k - 1,.q];rfl
  simp![];show wQ rfl ?_;simp![];show#[_,rfl,bu,?_];rw [<-e1];simp![_rh,ik,bk];show(_rg (k+2) (tn tu k)).via ?_;rintro _ rfl;simp![];show wQ rfl ?_;simp![];show#[_,rfl,jl,?_];rw [<-e2,show k - 1+1=k by lia];cases hb:tn tu k with
  | true=>
   rw [hb]at ik e3;rw [X7 rfl]at e3;simp![ik,hs];rw [<-e3];show .mk (k+1) .q .q rfl
  | false=>
   rw [hb]at ik e3;rw [Xb .q]at e3;simp![ik];rw [<-e3];show .mk (k+1) .q .q rfl
 .intro E hh;obtain⟨dd,bg,hh⟩:∃dd,([]:List D)=dd/\ChA z tu a E dd:=#[_,rfl,hh];cases hh with
  | @mk k o4 l6 l7 _ h0 hk h2=>
  rw [h2]at bg;let kh:k=tu.B:=by let:=_nn .q bg;lia
  subst kh;let hf:=zY tu (tu.B - 1);let bu:(plL tu (tu.B - 1)).B<10000:=by rw[X3,Xi];lia
  let jl:∀n,n<=20->(K2 tu a n).B<10000:=λn h=>by rw[X3,Xi];lia
  let e1:=_rm (tu:=tu) (tu.B - 1);rw [show tu.B - 1+1=tu.B by lia]at e1;let e2:=_ri (tu:=tu) (a:=a) (tu.B+1);rw [_rk h1]at e2;let e3:=_ri (tu:=tu) (a:=a) (tu.B+2);rw [_rl]at e3;let hs:Q0 (.E 1) (.E (fiN tu (tu.B - 1):Nat))=@(.E ((1 - fiN tu (tu.B - 1):Nat):Int)):=by
   change @(D.E _)=_
   grind
  let bk:((List.r (tu.B+1)).B:Int)+1=((tu.B+2:Nat):Int):=by
   rw [Xi];lia
  let n8:∀{x:Nat},x<=1->ixN ([D.ç,.ç,.ç]:List D).B (x)=@x:=fun {x} hx=>by
   let:x=0\/x=1:=.q
   let rfl\/rfl:=this<;>rfl
  simp![];show wQ rfl ?_;simp![];show#[_,rfl,bu,?_];rw [<-e1];let hfin:([D.L [],.L [.E 0]]++((List.r tu.B).C (λk=>D.E (gA a (fiN tu k):Nat))).C (λd=>D.L [d]))++[.L []]=W9 tu a:=by
   change _=(List.r (tu.B+2+1)).C _;rw [Z7,Xl,show tu.B+2=2+tu.B by lia,List.range_add,Xl,Xg,Xg]
   congr 1
   .congr 1
    show Xw λk hk=>?_
    grind
   .grind
  let jp:∀l,l.B<=9->kw (.x,.L [.L [],.L [.E 0]]) (.x,.L l)=@(.rt,.L ([.L [],.L [.E 0]]++l)):=λl h=>_mN .q .q (by simp;lia)
  let xg:∀l,l.B<=11->kw (.x,.L l) (.x,.L [.L []])=@(.rt,.L (l++[.L []])):=λl h=>_mN .q .q (by simp;lia)
  let q0:fEq (.E (a:Int)) (.E 1)=@(.bl (a==1)):=by let rfl\/rfl:=(show a=0\/a=1 by lia)<;>rfl
  let ga:gA a (fiN tu (tu.B - 1))<=1:=by ext gA;split<;>lia
  generalize hR:jk (ZQ _ _ _) _=R;let key:∀o4 o9,Po (R [@(.x,.ã z),@(.x,.L (tu.C D.bl)),@(.x,.E a),@(.rt,.L (K2 tu a (tu.B+1))),@(o4,.E (fiN tu (tu.B - 1):Nat)),@(.rt,.L (plL tu tu.B)),l6,l7,@(.rt,.L [.ç,.ç,.ç]),@(o9,.E (gA a (fiN tu (tu.B - 1)):Nat))]) (λ_=>(Own.dp,D.ç)=(Own.x,D.X [jv [z] (rsC tu a),.L (W9 tu a)])) (λ_=>False) (λy=>y=(.x,.X [jv [z] (rsC tu a),.L (W9 tu a)])) noX:=λo4 o9=>by
   subst hR;generalize gA a (fiN tu (tu.B - 1))=g at ga e2;generalize hR:jk (sIf _ _ _) _=R;simp![_rh];show _lq ?_;simp![bk];show#[rfl,.rt,_,_,_,rfl,.q,rfl,n8 ga,?_];simp![];show wQ rfl ?_;simp![];show#[_,rfl,jl _ .q,?_];rw [<-show K2 tu a (tu.B+2)=K2 tu a (tu.B+1)++[.X [.E 2,.bl false,.L [.L ([D.ç,.ç,.ç].u g (.X [.E (tu.B+2:Nat),.X []]))]]]from e2];simp![];show wQ rfl ?_;simp![];show#[_,rfl,jl _ .q,?_];rw [<-e3];subst hR;generalize hR:kq _=R;let key:∀l8 l9,Po (R [@(.x,.ã z),@(.x,.L (tu.C D.bl)),@(.x,.E a),@(.rt,.L (K2 tu a (tu.B+3))),@(o4,.E (fiN tu (tu.B - 1):Nat)),@(.rt,.L ((List.r tu.B).C λk=>D.E (gA a (fiN tu k):Nat))),l6,l7,l8,l9]) (λ_=>(Own.dp,D.ç)=(Own.x,D.X [jv [z] (rsC tu a),.L (W9 tu a)])) (λ_=>False) (λy=>y=(.x,.X [jv [z] (rsC tu a),.L (W9 tu a)])) noX:=λl8 l9=>by
    subst hR;let hm:∀f:Nat->D,((List.r tu.B).C f).B<=9:=λf=>by rw[X3,Xi];show h9
    rw[<-hfin];let h1:=hm λk=>D.E (gA a (fiN tu k):Nat)
    generalize (List.r tu.B).C (λk=>D.E (gA a (fiN tu k):Nat))=l at h1;simp![];show xV [] (λd y=>y=(.rt,.L [d])) ?_;simp![];show#[λd hd=>?_,λys hy=>?_]
    .simp![];show#[#[_,rfl],trivial]
    .let e:ys.C (·.2)=l.C λd=>D.L [d]:=x5 (h:=λd=>D.L [d]) (λ_ _ h=>by rw[h]) hy
     rw[vj,e];dsimp[back,clr,at',List.l,List.map_nil,List.ö,List.ø];simp![jp (l.C λd=>D.L [d]) (by rw[X3];show h1),xg (.L []:: .L [.E 0]::l.C λd=>D.L [d]) (by rw[Xn,Xn,X3];lia)];rfl
   let rfl\/rfl:=(show a=0\/a=1 by lia)
   .simp![q0];show key _ _
   .simp![q0];show xV [] (λd y=>y.2=(match d with|.E i=>.E (1 - i)|_=>.ç)) ?_;simp![];show#[λd hd=>?_,λys hy=>?_]
    .let#[k,_,rfl]:=aE hd;simp![];show#[#[_,rfl],trivial]
    .let e:ys.C (·.2)=(List.r tu.B).C λk=>D.E (gA 1 (fiN tu k):Nat):=by
      rw[x5 (h:=λd=>match d with|.E i=>.E (1 - i)|_=>.ç) (λ_ _ h=>h) hy,Xg];show Xw λk _=>?_
      let:=zY tu k;change D.E (1 - (fiN tu k))=D.E ((1 - fiN tu k:Nat):Int)
      congr 1
      lia
     rw[vj,e];dsimp[back,clr,at',List.l,List.map_nil,List.ö,List.ø];show key _ _
  let rfl\/rfl:=(show a=0\/a=1 by lia)
  .simp![q0];show key _ _
  .simp![q0,hs];show key _ _
end
def sS(tu:List Bool)(n:Nat):Nat->Nat->Nat
 |_,0=>0|k,d+1=>bN (tn tu (k % n))+sS tu n (k+1) d
def _ro:∀d k,sS tu n (k % n) d=sS tu n k d
 |0,_=>rfl
 |d+1,k=>by
  ext sS;rw[Nat.mod_mod,<-_ro d _,Nat.mod_add_mod,_ro d _]
def _rp:∀d k,sS tu n k (d+1)=sS tu n k d+bN (tn tu ((k+d) % n))
 |0,k=>by
  ext sS;rw[show sS tu n _ 0=0 from rfl]
  grind
 |d+1,k=>by
  let:=_rp (tu:=tu) (n:=n) d (k+1);rw[show sS tu n k _=bN _+sS tu n _ _ from rfl,this,show sS tu n k _=bN _+sS tu n _ d from rfl];lia
def _rq(hn:0<n):∀k,sS tu n k n=sS tu n 0 n
 |0=>rfl
 |k+1=>by
  let h1:=_rp (tu:=tu) (n:=n) n k;let h2:sS tu n k (n+1)=bN _+sS tu n _ n:=rfl;rw[Nat.add_mod_right]at h1;let:=_rq (tu:=tu) hn k;lia
def dst(n sp k:Nat):Nat:=if k<=sp then sp - k else sp+n - k
def _rr(h:sp<n)(hk:k<n):(k+dst n sp k) % n=sp:=by
 ext dst
 split
 .rw[show k+_=sp by grind,Z2 h]
 .rw[show k+_=sp+n by lia,Nat.add_mod_right,Z2 h]
def _rs(h:sp<n)(hk:k<n)(bc:k≠sp):dst n sp k=dst n sp ((k+1) % n)+1:=by
 ext dst
 by_cases hl:k+1<n
 .rw[Z2 hl];lia
 .rw[show k+1=n by lia,Nat.mod_self];lia
def _rt(h:sp<n):dst n sp ((sp+1) % n)+1=n:=by
 ext dst
 by_cases hl:sp+1<n
 .rw[Z2 hl]
  grind
 .rw[show sp+1=n by lia,Nat.mod_self]
  grind
def nxR(m n r:Nat):Nat:=m+(r - m+1) % n
def flR(m:Nat)(tu:List Bool)(r:Nat):List Nat:=(List.r m).C λt=>(t+bN (tn tu (r - m))) % m
def _ru(h:t<m):(flR m tu r)[t]?=@((t+bN (tn tu (r - m))) % m):=by
 ext flR;rw[Xf,Yl h];rfl
abbrev HR(tu:List Bool)(m n sp:Nat):Nat->Nat->Prop:=Hits m (m+n) (m+sp) 0 true (nxR m n) (flR m tu)
section
def _rv(hm:0<m)(hk:k<n)(ht:t<m)(h:HR tu m n sp (m+(k+1) % n) t):HR tu m n sp (m+k) ((t+bN (tn tu k)) % m):=by
 by_cases hs:k=sp/\(t+bN (tn tu k)) % m=0
 .let#[rfl,h0]:=hs;rw[h0];show .spot
 .show .step (t:=t) (by simp) (by symm) ?_ (Yo _ hm) ?_ ?_
  .by_cases e:k=sp
   .show .Z #[rfl,λz=>hs #[e,z]]
   .show .O (by symm)
  .rw[_ru ht,show m+k - m=k by lia]
  .ext nxR
   rwa [show m+k - m+1=k+1 by lia]
def _rw(hm:0<m)(hn:0<n)(ht:t<m):∀d k,k<n->HR tu m n sp (m+(k+d) % n) t->HR tu m n sp (m+k) ((t+sS tu n k d) % m)
 |0,k,hk,h=>by
  rw[Nat.add_zero,Z2 hk]at h
  rwa [show t+sS tu n k 0=t from rfl,Z2 ht]
 |d+1,k,hk,h=>by
  let:=_rv hm hk (Yo _ hm) (_rw hm hn ht d _ (Yo (k+1) hn) (by rw[Nat.mod_add_mod,show k+1+d=k+(d+1)by lia];show h));rw[Nat.mod_add_mod,_ro]at this
  rwa [show sS tu n k _=bN _+sS tu n _ d from rfl,Z2 hk,show t+_=t+sS tu n (k+1) d+bN (tn tu k)by lia]
def _rx(hm:0<m)(cx:sp<n)(hk:k<n):HR tu m n sp (m+k) (sS tu n k (dst n sp k) % m):=by
 let:=_rw (tu:=tu) hm .q hm _ k hk (by rw[_rr cx hk];show .spot)
 rwa [Nat.zero_add]at this
def _ry(hm:m=2\/m=3)(cx:sp<n)(hT:sS tu n 0 n % m≠0)(hk:k<n)(ht:t<m):HR tu m n sp (m+k) t:=by
 let iz:0<m:=.q
 let h0:=_rx (tu:=tu) iz cx hk;let up:∀{q},q<m->HR tu m n sp _ q->HR tu m n sp _ _:=fun {q} hq h=>by
  let:=_rw iz .q hq n k hk (by rw[Nat.add_mod_right,Z2 hk];show h)
  rwa [_rq .q]at this
 generalize hq:sS tu n k _ % m=q at h0;let h1:=up (hq▸Yo _ iz) h0;generalize sS tu n 0 n=T at *
 by_cases e0:t=q
 .rw[e0];show h0
 by_cases e1:t=(q+T) % m
 .rw[e1];show h1
 let e2:t=((q+T) % m+T) % m:=by
  let hq:=hq▸Yo _ iz;let e:∀x,(x+T) % m=(x+T % m) % m:=λx=>by simp
  rw[e q]at e1;rw[e,e q];let hs:=Yo T iz;generalize T % m=s at *;let rfl\/rfl:=hm
  .show(by decide:∀s q t:Fin 2,s.1≠0->t.1≠q.1->t.1≠(q.1+s.1) % 2->t.1=((q.1+s.1) % 2+s.1) % 2) #[s,hs] #[q,hq] #[t,ht] hT e0 e1
  .show(by decide:∀s q t:Fin 3,s.1≠0->t.1≠q.1->t.1≠(q.1+s.1) % 3->t.1=((q.1+s.1) % 3+s.1) % 3) #[s,hs] #[q,hq] #[t,ht] hT e0 e1
 rw[e2];show(up (Yo _ iz) h1)
def _rz(hm:0<m)(cx:sp<n)(hT:sS tu n 0 n % m=0)(H:HR tu m n sp r p):∀k,r=m+k->k<n->p=sS tu n k (dst n sp k) % m:=by
 induction H with
 | spot=>
  intro k e hk;let:k=sp:=by symm
  subst this;ext dst;rw[X7 (Xa _),Nat.sub_self];rfl
 | @step r t p h0 h1 h2 h3 h4 h ih=>
  intro k e hk;subst e;let htm:t<m:=by
   let:=(aF h4).1;unfold flR at this
   rwa [X3,Xi]at this
  rw[_ru htm,show m+k - m=k by lia]at h4;let h4:=_aa h4;rw[(ih _ (by ext nxR;rw[show m+k - m+1=k+1 by lia]) (Yo (k+1) (show 0<n by lia))),Nat.mod_add_mod,_ro]at h4;let b7:∀d,sS tu n (k+1) d+bN (tn tu k)=sS tu n k _:=λd=>by
   rw[show sS tu n k (d+1)=bN _+sS tu n _ d from rfl,Z2 hk];lia
  rw[b7]at h4
  by_cases hs:k=sp
  .subst hs;rw[_rt cx,_rq .q,hT]at h4;let h2\/h2:=h2
   .show absurd rfl h2
   .show absurd h4.s h2.2
  .rw[_rs cx hk hs];show h4.s
abbrev rsR(tu:List Bool)(m sp:Nat):List D:=gRs m (m+tu.B) (m+sp) 0 true (λr=>List.r (r+1)) (nxR m tu.B) (flR m tu)
abbrev grR(tu:List Bool)(m sp:Nat):Nat->D:=gR m (m+tu.B) (m+sp) 0 true (λr=>List.r (r+1)) (nxR m tu.B) (flR m tu)
def duR(tu:List Bool)(m sp r:Nat):List Nat:=if 0<sS tu tu.B 0 tu.B % m then List.r m else[sS tu tu.B (r - m) (dst tu.B sp (r - m)) % m]
abbrev xxl(tu:List Bool)(m sp:Nat):List D:=(List.r (m+tu.B+1)).C (duF m (m+tu.B) (duR tu m sp))
def _rA(hm:m=2\/m=3)(h:v<m):[v]=(List.r m).filter λk=>k==v:=by
 let rfl\/rfl:=hm
 .let rfl\/rfl:=(show v=0\/v=1 by lia)<;>rfl
 .let rfl\/rfl\/rfl:=(show v=0\/v=1\/v=2 by lia)<;>rfl
def _rB z (hm:m=2\/m=3)(i9:m+tu.B<=11)(cx:sp<tu.B):Mk z (rsR tu m sp) (xxl tu m sp):=by
 let iz:0<m:=.q
 let jd:m<=m+sp/\m+sp<m+tu.B:=by symm
 let md:∀r,m<=r->r<m+tu.B->r≠m+sp\/true=true->m<=nxR m tu.B r/\nxR m tu.B r<m+tu.B:=λr _ _ _=>by
  let:=Yo (r - m+1) (show 0<tu.B by lia);ext nxR
  symm
 let nw:∀r,r<m->Pm _ (List.r (r+1)):=λr _=>#[Xi,List.nodup_range,λi hi=>List.á.mp hi]
 let fu:∀r,m<=r->r<m+tu.B->Pm m (flR m tu r):=λr _ _=>by
  ext flR;generalize bN _=b;show#[by rw[X3,Xi],?_,λi hi=>?_]
  .show List.pairwise_map.y (List.nodup_range.imp_of_mem fun {x y} hx hy bc e=>bc ?_);let hx:=List.á.mp hx;let hy:=List.á.mp hy;let rfl\/rfl:=hm<;>lia
  .let#[t,_,rfl]:=aE hi;show Yo _ iz
 let M:=_q6 z .q jd iz md nw fu;let h1:∀r,m<=r->r<m+tu.B->∃k,r=m+k/\k<tu.B/\r - m=k:=λr h0 h1=>#[r - m,by grind,by grind,rfl]
 show#[#[_,M.hP,M.hk,by rw[M.len];lia,?_],(List.r _).C λr=>if r<m then List.r r else if r<m+tu.B then duR tu m sp r else[],by rw[Xg];rfl,by rw[X3,Xi];lia,λl hl=>?_]
 .show(_q7 z .q jd iz md nw fu #[_,Yo _ iz,_rx iz cx (k:=0) .q] λr h0 h2=>?_).s;let#[k,rfl,hk,hrk]:=h1 r h0 h2;ext duR;rw[hrk]
  by_cases hT:0<sS tu tu.B 0 tu.B % m
  .rw[X7 hT];show#[λ_=>true,(List.filter_eq_self.y λ_ _=>rfl).s,λt ht=>#[λ_=>rfl,λ_=>_ry hm cx .q hk ht]]
  .rw[Xb hT];show#[λt=>t==sS tu tu.B k _ % m,_rA hm (Yo _ iz),λt ht=>#[λH=>?_,λe=>?_]]
   .rw[_rz iz cx (by symm) H k rfl hk];simp
   .rw[eq_of_beq e];show _rx iz cx hk
 .let#[r,hr,rfl]:=aE hl
  by_cases h0:r<m
  .rw[X7 h0];show#[by rw[Xi];lia,λk hk=>by let:=List.á.mp hk;lia]
  .rw[Xb h0]
   split
   .ext duR
    split
    .show#[by rw[Xi];lia,λk hk=>by let:=List.á.mp hk;lia]
    .show#[by simp,λk hk=>by rw[aC hk];let:=Yo (sS tu tu.B (r - m) (dst tu.B sp (r - m))) iz;lia]
   .show#[by simp,nofun]
end
def _rC:Eo (_hj c (e::E)) P X=Eo (c (e::E)) (λE x=>Ie x.2 E λE n=>(kY n=true/\n.S<=big)/\P E (.x,.X (jV 0 n))) X:=by
 ext _hj;rw[k7];congr 1;funext E x;cases x.2 with|int n=>exists _m4|_=>ac_rfl
def _rD:∀l:List Nat,Q9 (l.C λk:Nat=>D.E k)=@(l.C λk:Nat=>(k:Int))
 |[]=>rfl|k::r=>by rw[List.l,Q9,_rD r];rfl
def _rE:∀l:List Nat,(l.C λk:Nat=>(k:Int)).sum=(l.sum:Nat)
 |[]=>rfl|k::r=>by rw[List.l,List.sum_cons,_rE r,List.sum_cons];simp
def _rF(h:∀k>l,k<=1)(hl:l.B<=1000):YZ (nL l)=@(.E (l.sum:Nat)):=by
 ext YZ;right;rw[_rD];right;let hs:_g9 (l.C λk:Nat=>k)=true:=by
  ext _g9;rw[Yb];intro i hi;let#[k,hk,rfl]:=aE hi;let:=h k hk;rw[X8 (by simp),X8 .q];rfl
 rw[X7 #[hs,by rw[X3];lia],_rE]
def _rG(b):bN b<=1:=by cases b<;>decide
section
variable {tu:List Bool}{m sp:Nat}
def _rH:∀d,((List.r d).C λi=>bN (tn tu ((k+i) % n))).sum=sS tu n k d
 |0=>rfl|d+1=>by rw[Z7,Xl,List.sum_append,_rH d,_rp];rfl
def _rI:tu.C bN=(List.r tu.B).C λi=>bN (tn tu ((0+i) % tu.B)):=by
 show List.ext_getElem (by simp) λi h1 h2=>?_
 rw[X3]at h1;rw[List.getElem_map,List.getElem_map,List.getElem_range,Nat.zero_add,Z2 h1];ext tn;rw[X6,X1 h1];rfl
abbrev zK(tu:List Bool)(m sp n:Nat):List D:=(List.r n).C (grR tu m sp)
def _rJ n:zK tu m sp (n+1)=zK tu m sp n++[grR tu m sp n]:=by
 ext zK;rw[Z7,Xl];rfl
abbrev JV(tu:List Bool)(m sp n:Nat):List D:=(List.r n).C (duF m (m+tu.B) (duR tu m sp))
def _rK n:JV tu m sp (n+1)=JV tu m sp n++[duF m (m+tu.B) (duR tu m sp) n]:=by
 ext JV;rw[Z7,Xl];rfl
def _rL(hh:h<m):grR tu m sp h=.X [.E h,.bl false,.L [.L (List.h h D.ç++[.X [.E (h+1:Nat),.X ((List.r (h+1)).C λj:Nat=>D.E j)]])]]:=by
 ext grR gR;rw[X7 hh];rfl
def _rM(hk:k<tu.B)(hs:k≠sp):grR tu m sp (m+k)=.X [.E m,.bl false,.L [.L (List.h (m+1) (cT (nxR m tu.B (m+k)) (flR m tu (m+k))))]]:=by
 ext grR gR;rw[Xb (by simp),X7 (by symm)];ext cS;rw[Xb (by symm)];rfl
def _rN(hk:sp<tu.B):grR tu m sp (m+sp)=.X [.E m,.bl false,.L [.L ((List.h (m+1) (cT (nxR m tu.B (m+sp)) (flR m tu (m+sp)))).u 0 (.X [.E (m+tu.B:Nat),.X []]))]]:=by
 ext grR gR;rw[Xb (by simp),X7 (by symm)];ext cS;rw[X7 rfl];rfl
def _rO:grR tu m sp (m+tu.B)=.X [.E 0,.bl true,.L [.L [.ç]]]:=by
 ext grR gR;rw[Xb (by simp),Xb (by simp)];rfl
inductive RnA (z:Str)(tu:List Bool)(m sp:Nat):En->List D->Prop
 |mk (h:Nat) {o4:Own} {l6:Option Sd} {af:List D} (h1:h<=m) (h2:af=jV h m):RnA z tu m sp [@(.x,.ã z),@(.x,.E m),@(.x,.L (tu.C D.bl)),@(.x,.E sp),@(o4,.E tu.B),@(.rt,.L (zK tu m sp h)),l6,none,none,none,none,none] af
inductive RnB (z:Str)(tu:List Bool)(m sp:Nat):En->List D->Prop
 |mk (k:Nat) {o4:Own} {l6 l8 l9 uf l11:Option Sd} {af:List D} (h1:k<=tu.B) (h2:af=jV k tu.B):RnB z tu m sp [@(.x,.ã z),@(.x,.E m),@(.x,.L (tu.C D.bl)),@(.x,.E sp),@(o4,.E tu.B),@(.rt,.L (zK tu m sp (m+k))),l6,@(.rt,.L (JV tu m sp (m+k))),l8,l9,uf,l11] af
def _rP (z) (hm:m=2\/m=3) (i9:m+tu.B<=11) (cx:sp<tu.B):
  Oo _pV [(.x,.ã z),(.x,.E m),(.x,.L (tu.C D.bl)),(.x,.E sp)] (λy=>y=(.x,.X [jv [z] (rsR tu m sp),.L (xxl tu m sp)])) noX:=by
 let hl:v8 (.L (tu.C D.bl))=@(.E tu.B):=by rw[_rh,X3]
 let iz:0<m:=.q
 let hn0:0<tu.B:=.q
 let jl:∀n,n<=20->(zK tu m sp n).B<10000:=λn h=>by rw[X3,Xi];lia
 let qg:∀n,n<=20->(JV tu m sp n).B<10000:=λn h=>by rw[X3,Xi];lia
 ext _pV;show q9 ?_;simp![hl];show z8 (RnA z tu m sp) ?_ ?_ ?_
 .simp![];show .mk 0 (Y6 _) rfl
 .intro E d ds hh;generalize bg:d::ds=dd at hh;cases hh with
  | @mk h o4 l6 _ h1 h2=>
  rw [h2]at bg;let#[b9,rfl,rfl]:=_nm .q bg;let hmu:∀o,KQ (.x,.L [.ç]) (o,.E h)=@(.rt,.L (List.h h D.ç)):=λo=>by
   rw [_mO .q .q .q rfl,Xs,List.flatten_replicate_singleton]
  let had:∀x,kw (.x,.L (List.h h D.ç)) (.x,.L [x])=@(.rt,.L (List.h h D.ç++[x])):=λx=>_mN .q .q (by rw[Y0,Xy];lia)
  let e2:=_rJ (tu:=tu) (m:=m) (sp:=sp) h;rw [_rL .q,<-Qv]at e2;simp![];show wQ rfl ?_;simp![hmu,had,↓_rC];show#[_,rfl,jl _ .q,?_];rw [<-show zK tu m sp (h+1)=zK tu m sp h++[.X [.E h,.bl false,.L [.L (List.h h D.ç++[.X [.E ((h)+1),.X (jV 0 ((h)+1))]])]]]from e2];show .mk (h+1) .q rfl
 .intro E hh;obtain⟨dd,bg,hh⟩:∃dd,([]:List D)=dd/\RnA z tu m sp E dd:=#[_,rfl,hh];cases hh with
  | @mk h o4 l6 _ h1 h2=>
  rw [h2]at bg;let kh:h=m:=by let:=_nn .q bg;lia
  subst kh;simp![];show xV [] (λd y=>y=(.rt,.L (jV 0 (match d with|.E i=>i|_=>0)))) ?_;simp![];show#[λd hd=>?_,λys hy=>?_]
  .let#[j,j0,j1,rfl]:=VY hd;simp![];show#[#[_,rfl],trivial]
  .let e:ys.C (·.2)=JV tu h sp h:=by
    rw [x5 (h:=λd=>D.L (jV 0 (match d with|.E i=>i|_=>0))) (λ_ _ h=>by rw[h]) hy,Qv,Xg];show Xw λj hj=>?_
    let:=List.á.mp hj;change D.L (jV 0 (j))=nL (if j<h then _ else _);rw [X7 this,Qv]
   rw [vj,e];dsimp[back,clr,at',List.l,List.map_nil,List.ö,List.ø];simp![];show z8 (RnB z tu h sp) ?_ ?_ ?_
   .simp![];show .mk 0 (Y6 _) rfl
   .intro E d ds hh;generalize bg:d::ds=dd at hh;cases hh with
    | @mk k o4 l6 l8 l9 uf l11 _ h1 h2=>
    rw [h2]at bg;let#[b9,rfl,rfl]:=_nm .q bg;let mw:k<tu.B:=.q
    let ik:=_re (tu:=tu) (k:=k) .q;let oq:=_rJ (tu:=tu) (m:=h) (sp:=sp) (h+k);let ko:=_rK (tu:=tu) (m:=h) (sp:=sp) (h+k);generalize hR2:jk (jx 11 _) _=R2;let key:∀l9 uf,Po (R2 [@(.x,.ã z),@(.x,.E h),@(.x,.L (tu.C D.bl)),@(.x,.E sp),@(o4,.E tu.B),@(.rt,.L (zK tu h sp (h+k+1))),l6,@(.rt,.L (JV tu h sp (h+k))),@(.x,.E k),l9,uf,l11]) (λE2=>RnB z tu h sp E2 (jV ((k)+1) tu.B)) (λE2=>RnB z tu h sp E2 (jV ((k)+1) tu.B)) (λy=>y=(.x,.X [jv [z] (rsR tu h sp),.L (xxl tu h sp)])) noX:=λl9 uf=>by
     subst hR2;let hd:((sp:Int) - k) % (tu.B:Nat)=(dst tu.B sp k:Nat):=by
      ext dst
      split
      .rw[Int.emod_eq_of_lt .q .q];lia
      .rw[<-Int.add_emod_right,Int.emod_eq_of_lt .q .q];lia
     let hdn:dst tu.B sp k<=tu.B:=by ext dst;split<;>lia
     simp![hd];show xV [@(.x,.L (tu.C D.bl)),@(o4,.E tu.B)] (λd y=>y.2=(match d with|.E i=>D.E (bN (tn tu (i.S % tu.B)):Nat)|_=>.ç)) ?_;simp![hd];show#[rfl,λd hd=>?_,λys hy=>?_]
     .let#[j,j0,j1,rfl]:=VY hd;let#[j,rfl]:=Yx (show 0<=j by lia);let ij:=_re (tu:=tu) (k:=j % tu.B) (Yo _ hn0);let hj:(j) % (tu.B:Nat)=((j % tu.B:Nat):Int):=.q
      simp![hj,ij,_rf];show#[#[_,rfl],rfl]
     .let e:ys.C (·.2)=((List.r (dst tu.B sp k)).C λi=>bN (tn tu ((k+i) % tu.B))).C λj:Nat=>D.E j:=by
       rw[x5 (h:=λd=>match d with|.E i=>D.E (bN (tn tu (i.S % tu.B)):Nat)|_=>.ç) (λ_ _ h=>h) hy];ext jV;rw[Xg,Xg,show((k:Int)+(dst tu.B sp k:Nat) - k).S=dst tu.B sp k by lia];show Xw λi _=>?_
       change D.E (bN (tn tu (((k:Int)+(i)).S % tu.B)):Nat)=_;rw[show((k:Int)+(i)).S=k+i by lia];rfl
      let hs:=_rF (l:=(List.r (dst tu.B sp k)).C λi=>bN (tn tu ((k+i) % tu.B))) (λx hx=>by let#[i,_,rfl]:=aE hx;show _rG _) (by rw[X3,Xi];lia);rw[_rH]at hs;rw[vj,e];dsimp[back,clr,at',List.l,List.map_nil,List.ö,List.ø];simp![hs];show xV [] (λd y=>y.2=(match d with|.bl b=>D.E (bN b:Nat)|_=>.ç)) ?_;simp![];show#[λd hd=>?_,λys hy=>?_]
      .let#[b,_,rfl]:=aE hd;simp![_rf];show#[#[_,rfl],trivial]
      .let e:ys.C (·.2)=(tu.C bN).C λj:Nat=>D.E j:=by
        rw[x5 (h:=λd=>match d with|.bl b=>D.E (bN b:Nat)|_=>.ç) (λ_ _ h=>h) hy,Xg,Xg];rfl
       let hs:=_rF (l:=tu.C bN) (λx hx=>by let#[i,_,rfl]:=aE hx;show _rG _) (by rw[X3];lia);rw[show(tu.C bN).sum=sS tu tu.B 0 tu.B by rw[_rI,_rH]]at hs;rw[vj,e];dsimp[back,clr,at',List.l,List.map_nil,List.ö,List.ø];let hT:((sS tu tu.B 0 tu.B:Nat):Int) % (h:Nat)=((sS tu tu.B 0 tu.B % h:Nat):Int):=.q
       let hA:((sS tu tu.B k (dst tu.B sp k):Nat):Int) % (h:Nat)=((sS tu tu.B k (dst tu.B sp k) % h:Nat):Int):=.q
       let uq:duF h (h+tu.B) (duR tu h sp) (h+k)=nL (duR tu h sp (h+k)):=by
        change nL (if h+k<h then _ else if h+k<h+tu.B then _ else _)=_;rw[Xb .q,X7 .q]
       rw[uq]at ko;unfold duR at ko;rw[show h+k - h=k by lia]at ko
       by_cases hz:0<sS tu tu.B 0 tu.B % h
       .rw[X7 hz]at ko;let hg:decide ((0:Int)<((sS tu tu.B 0 tu.B % h:Nat):Int))=true:=X8 .q;simp![hs,hT,hg];show wQ rfl ?_;simp![Qv];show#[_,rfl,qg _ .q,?_];rw[<-ko];show .mk (k+1) .q rfl
       .rw[Xb hz]at ko;let hg:decide ((0:Int)<((sS tu tu.B 0 tu.B % h:Nat):Int))=false:=Xk .q;simp![hs,hT,hg];show wQ rfl ?_;simp![hA];show#[_,rfl,qg _ .q,?_];rw[<-show JV tu h sp (h+k+1)=JV tu h sp (h+k)++[.L [.E (sS tu tu.B k (dst tu.B sp k) % h:Nat)]]from ko];show .mk (k+1) .q rfl
    generalize hR:jk (jx 10 _) _=R;simp![];show xV [@(.x,.L (tu.C D.bl)),@(.x,.E k),@(.x,.E h)] (λd y=>y.2=(match d with|.E i=>D.E ((i+(bN (tn tu k):Nat)) % h)|_=>.ç)) ?_;simp![];show#[rfl,λd hd=>?_,λys hy=>?_]
    .let#[j,j0,j1,rfl]:=VY hd;simp![ik,_rf];show#[#[_,rfl],trivial]
    .let e:ys.C (·.2)=(flR h tu (h+k)).C λj:Nat=>D.E j:=by
      rw[x5 (h:=λd=>match d with|.E i=>D.E ((i+(bN (tn tu k):Nat)) % h)|_=>.ç) (λ_ _ h=>h) hy,Qv,Xg];ext flR;rw[Xg];show Xw λj hj=>?_
      change D.E (((j:Int)+(bN (tn tu k):Nat)) % (h:Nat))=D.E (((j+bN (tn tu (h+k - h))) % h:Nat):Int);rw[show h+k - h=k by lia]
      congr 1
     rw [vj,e];dsimp[back,clr,at',List.l,List.map_nil,List.ö,List.ø];subst hR;simp![];show xV [@(.x,.E h),@(.x,.E k),@(o4,.E tu.B),@(.rt,nL (flR h tu (h+k)))] (λd y=>y.2=cT (nxR h tu.B (h+k)) (flR h tu (h+k))) ?_;let md:(h:Int)+((k:Int)+1) % (tu.B:Nat)=((nxR h tu.B (h+k):Nat):Int):=by
      ext nxR;rw[show h+k - h+1=k+1 by lia];lia
     let htu:∀l:List D,zV (.rt,.L l)=@(.x,.X l):=λ_=>rfl
     simp![];show#[rfl,λd hd=>?_,λys hy=>?_]
     .let#[j,j0,j1,rfl]:=VY hd;simp![htu,md];show#[#[_,rfl],rfl]
     .let e:ys.C (·.2)=List.h (h+1) (cT (nxR h tu.B (h+k)) (flR h tu (h+k))):=by
       rw[x5 (h:=λ_=>cT (nxR h tu.B (h+k)) (flR h tu (h+k))) (λ_ _ h=>h) hy,show((h:Int)+1)=((h+1:Nat):Int)by lia,Qv,Xg];show List.eq_replicate_iff.y #[by simp,λb hb=>?_];let#[_,_,rfl]:=aE hb;rfl
      rw[vj,e];dsimp[back,clr,at',List.l,List.map_nil,List.ö,List.ø]
      by_cases u6:k=sp
      .subst u6;rw[_rN mw]at oq;let q0:fEq (.E k) (.E k)=@(.bl true):=by rw[Q2];simp
       simp![q0];show _lq ?_;simp![];show#[rfl,.rt,_,_,0,rfl,.q,rfl,?_,?_]
       .ext Q.ixN;rw[X7 .q,X7 (by rw[Xn];lia)];rfl
       .simp![];show wQ rfl ?_;simp![];show#[_,rfl,jl _ .q,?_];rw[<-show zK tu h k (h+k+1)=zK tu h k (h+k)++[.X [.E h,.bl false,.L [.L (.X [.E ((h:Int)+(tu.B:Nat)),.X []]::List.h h (cT (nxR h tu.B (h+k)) (flR h tu (h+k))))]]]from oq];show key _ _
      .rw[_rM mw u6]at oq;let q0:fEq (.E k) (.E sp)=@(.bl false):=by rw[Q2,Yt .q]
       simp![q0];show wQ rfl ?_;simp![];show#[_,rfl,jl _ .q,?_];rw[<-show zK tu h sp (h+k+1)=zK tu h sp (h+k)++[.X [.E h,.bl false,.L [.L (cT (nxR h tu.B (h+k)) (flR h tu (h+k))::List.h h (cT (nxR h tu.B (h+k)) (flR h tu (h+k))))]]]from oq];show key _ _
   .intro E hh;obtain⟨dd,bg,hh⟩:∃dd,([]:List D)=dd/\RnB z tu h sp E dd:=#[_,rfl,hh];cases hh with
    |@mk k o4 l6 l8 l9 uf l11 _ h1 h2=>
    rw[h2]at bg;let kh:k=tu.B:=by let:=_nn .q bg;lia
    subst kh;let oq:=_rJ (tu:=tu) (m:=h) (sp:=sp) (h+tu.B);rw[_rO]at oq;let ko:=_rK (tu:=tu) (m:=h) (sp:=sp) (h+tu.B);let uq:duF h (h+tu.B) (duR tu h sp) (h+tu.B)=.L []:=by
     change nL (if h+tu.B<h then _ else if h+tu.B<h+tu.B then _ else _)=_;rw[Xb .q,Xb .q];rfl
    rw[uq]at ko;let jp:kw (.rt,.L (JV tu h sp (h+tu.B))) (.x,.L [.L []])=@(.rt,.L (JV tu h sp (h+tu.B)++[.L []])):=_mN .q .q (by let:=qg (h+tu.B) .q;rw[X3,Xi,Xy];lia);simp![];show wQ rfl ?_;simp![];show#[_,rfl,jl _ .q,?_];rw[<-oq];simp![jp];rw[<-ko];rfl
end
def _rQ:m__law_cell_at=B.m__law_cell_at:=rfl
def _rR(hr:∀r>rs,Ps r):Oo _pX [(.x,jv ss rs)] (λy=>y=(.x,jv ss rs)) noX:=by
 let q0:∀a b,kQ (.X [a,b]) (.E 0)=@a:=λ_ _=>rfl
 let q1:∀a b,kQ (.X [a,b]) (.E 1)=@b:=λ_ _=>rfl
 let hl:∀xs,_dM (.x,.L xs)=@_:=λ_=>rfl
 show q9 ?_;simp![];show Jx (λE1 B ds ae=>∃(done:List D) (l0 l1 l2:Option Sd),rs=done++ds/\B=[l0,l1,l2]/\E1=[@(.x,jv ss rs),none]/\ae.C (·.2)=done) ?_ ?_ ?_
 .simp![q1];show#[[],none,none,none,rfl,rfl,rfl]
 .rintro E1 B d ds ae ⟨done,l0,l1,l2,e1,rfl,rfl,ha⟩;let#[own,gd,st,rfl,b7]:=hr d (by rw[e1];simp);simp![];show xV [] (λd y=>y.2=d) ?_;simp![];show#[λc hc=>?_,λys hy=>?_]
  .let#[cs,rfl,_]:=b7 c hc;simp![hl];show#[#[_,rfl],trivial]
  .rw[vj,_nt (λd y h=>h) hy];dsimp[back,clr];simp![];show#[done++[.X [.E own,.bl gd,.L st]],_,_,_,by rw[e1];simp,rfl,by rw[Xl,ha];rfl]
 .rintro E1 B ae ⟨done,l0,l1,l2,e1,rfl,rfl,ha⟩;rw[Xz]at e1;subst e1;rw[vj,ha];dsimp[JW,back,clr];simp![q0,hl]
def _rS c:Oo _pS [(.x,.E c)] (λy=>∃p:Own×Str,y=(p.1,.ã p.2)/\True) noX:=by
 show q9 ?_;simp![];generalize c*982451653 % 1000000000039=t;let q1:=Z9 t (show 0<8 by lia);show z8 (λE af=>∃(j:Int) (v:Int) (w:Str) (o0 o1 o2 o3:Own) (l4:Option Sd),E=[@(o0,.E c),@(o1,.ã "abcdefghijklmnopqrstuvwxyz"),@(o2,.E v),@(o3,.ã w),l4]/\0<=j/\j<=1+t % 8/\af=jV j (1+t % 8)/\(w.cps.M:Int)<=j) ?_ ?_ ?_
 .simp![];show#[0,t,"",_,_,_,_,_,rfl,.q,.q,rfl,.q]
 .rintro E d ds ⟨j,v,w,o0,o1,o2,o3,l4,rfl,j0,j1,hr,hw⟩;let#[hj,rfl,rfl]:=_nm j1 hr;let#[ch,hc]:=_bO "abcdefghijklmnopqrstuvwxyz" (v / 8 % 26) (Int.emod_nonneg _ (show 26≠0 by decide)) (Z9 _ (show 0<26 by lia));let ha:∀o,kw (o3,.ã w) (o,.ã _)=@(.dp,.ã (w++#[%[ch|0]])):=λo=>_no (by change w.cps.M+1<=10000;lia)
  simp![hc,ha];show#[j+1,v / 8,_,_,_,_,_,_,rfl,.q,.q,rfl,?_];change(((w.cps++%[ch|0]).M:Nat):Int)<=_;rw[Array.size_append];change((w.cps.M+1:Nat):Int)<=j+1
  symm
 .rintro E ⟨j,v,w,o0,o1,o2,o3,l4,rfl,j0,j1,hr,hw⟩;simp![];show#[(_,_),rfl,trivial]
def _rT l n:(nL l).flat (n+1)=true:=by
 show xK λd hd=>?_
 let#[k,_,rfl]:=aE hd;cases n<;>rfl
def _rU{L:List _}(hl:L.B<=12)(h3:∀l>L,l.B<=3):Oo _pW [(.x,.L (L.C nL)),(.x,.L (L.C nL))] (λy=>∃o',y=(o',.bl true)/\True) noX:=by
 let kl:∀n,fNe (.E n) (.E n)=@(.bl false):=λn=>nei (k:=true) (by simp)
 let si:∀ds,JY "list" (.L ds)=@(.bl true):=λds=>rfl
 let hii:∀i,JY "int" (.E i)=@(.bl true):=λds=>rfl
 let hib:∀i,JY "bool" (.E i)=@(.bl false):=λds=>rfl
 show q9 ?_;simp![si,kl];show z8 (λE af=>∃(M:List _) (l2 l3 l4:Option Sd),E=[@(.x,.L (L.C nL)),@(.x,.L (L.C nL)),l2,l3,l4]/\af=Kj (M.C nL) (M.C nL)/\∀l>M,l.B<=3) ?_ ?_ ?_
 .simp![];rw [Option.bind_some,Option.bind_some,X7 (by rw[X3];ext big;lia)];simp![];show#[L,none,none,none,rfl,rfl,h3]
 .rintro E d ds ⟨M,l2,l3,l4,rfl,hr,hM⟩;cases M with
  | nil=>cases hr
  | cons l M=>
   injection hr with e1 e2;subst e1 e2;simp![si,(λl=>_nr (_rT l 39))];show z8 (λE af=>∃(p:List Nat) (o2:Own) (l4:Option Sd),E=[@(.x,.L (L.C nL)),@(.x,.L (L.C nL)),@(o2,nL l),@(.x,nL l),l4]/\af=p.C λk:Nat=>D.E k) ?_ ?_ ?_
   .simp![];show#[l,_,_,rfl,rfl]
   .rintro E d ds ⟨p,o2,l4,rfl,hr⟩;cases p with
    |nil=>cases hr
    |cons k p=>
     injection hr with e1 e2;subst e1 e2;simp![hii,hib];show#[p,_,_,rfl,rfl]
   .rintro E ⟨p,o2,l4,rfl,hr⟩;show#[M,_,_,_,rfl,rfl,λl hl=>hM l (_ad _ hl)]
 .rintro E ⟨M,l2,l3,l4,rfl,hr,hM⟩;simp![];show#[_,rfl,trivial]
def N9(d:D):Prop:=∃l:List Int,d=iL l/\¬(l.any λw=>w==9)=true
def _rV l:nL l=iL (l.C λk:Nat=>k):=by
 change D.L _=D.L _;rw[Xg];rfl
def _rW(h:∀k>l,k<3):N9 (nL l):=#[_,_rV l,λz=>by
 let#[x,hx,e]:=List.any_eq_true.mp z;let#[k,hk,rfl]:=aE hx;let:=h k hk;lia]
def _rX:(A++x::M).u A.B y=A++y::M:=by
 induction A with|nil=>rfl|cons a A ih=>show congrArg _ ih
def _rY:(A++x::M)[A.B]?=@x:=by
 rw[Y9 (Xa _),Nat.sub_self];rfl
def _rZ(hi:i<Es.B)(hc:Es.u s none=Es)(h0:Es.u i none=Es)(hE:E.u s none=Es)
  (hT:∀A X B,(∀d>A,N9 d)->(∀d>B,N9 d)->T (Es.u i @(.dp,.L (A++iL (X++[9])::B)))=@(.ok (Es.u i @(.dp,.L (A++iL (X++[9])::B))) false)):
  ∀(M:List (List Nat)) (A),(∀d>A,N9 d)->(∀l>M,l.B<=3/\∀k>l,k<3)->∃E' ds',(E'=E\/E'=Es)/\K9 i s (cC (.E 9)) T d0 M.B A.B (A++M.C nL) E=@(.nx (E'.u i @(.dp,.L ds')))
 | [],A,_,_=>#[E,_,.O rfl,rfl]
 | l::M,A,hA,hM=>by
  let hl:=hM l X2;let hM':=λx hx=>hM x (_ad _ hx)
  let hB:∀d>M.C nL,N9 d:=λd hd=>by
   let#[x,hx,rfl]:=aE hd;show _rW (hM' x hx).2
  let hTT:=hT;let he:(l.C λk:Nat=>D.E k)++[D.E 9]=((l.C λk:Nat=>(k:Int))++[9]).C D.E:=by
   rw[Xl,Xg];rfl
  let#[E',ds',h1,h2]:=_rZ hi hc h0 hc hTT M _ (λd hd=>by
   let hd\/hd:=aA hd
   .show hA d hd
   .show#[[],aC hd,.q]) hM'
  show#[E',ds',.Z (h1.ë id id),?_];rw[Xj,Y3]at h2;rw[Xn,List.l];ext K9;rw[_rY];right;rw[X7 (by rw[X3];ext big;omega)];change(match (@(.ok (E.u s none) (Own.dp,D.E 9)):Option (Res Sd))with|_=>_)=_;right;rw[_rX,he,hE,(hT A (l.C λk:Nat=>k) _ hA hB)];right;rw[Z0 hi];right
  rwa [_rY,_rX,List.set_set,h0]
def _r0(h:Eo m (λE a=>E=E0/\a=a0) noX):m=@(.ok E0 a0):=by
 unfold Eo at h;cases m with
 |none=>show h.ë
 |some r=>cases r with|exc=>show h.ë|ok E a=>rw[h.1,h.2]
abbrev T9:Ts:=tE (cF2 (pu2 fNe) (vE (YW (cF1 (pu1 v8) (vE (cLC .rt 1 [] (itS (cV 9)) (.n 0) (tE (cF2 (pu2 Jz) (C9 9) (vV 0))) (cV 0)))))) (C9 1))
def _r1(hA:∀d>A,N9 d)(hB:∀d>B,N9 d):T9 [a0,a1,a2,a3,a4,a5,a6,a7,a8,@(.dp,.L (A++iL (X++[9])::B)),a10]=@(.ok [a0,a1,a2,a3,a4,a5,a6,a7,a8,@(.dp,.L (A++iL (X++[9])::B)),a10] false):=by
 let hx:((X++[9]).any λw=>w==9)=true:=by simp
 let bc:fNe (.E 1) (.E 1)=@(.bl false):=nei rfl;show _r0 ?_;simp![↓_nh];show Jx (λE1 C ds ae=>∃l0,C=[l0]/\((ae.B=0/\∃A',ds=A'++iL (X++[9])::B/\∀d>A',N9 d)\/(ae.B=1/\∀d>ds,N9 d))) ?_ ?_ ?_
 .simp![];show#[none,rfl,.O #[A,rfl,hA]]
 .rintro E1 C d ds ae ⟨l0,rfl,⟨ha,A',e,hA'⟩|⟨ha,hd⟩⟩
  .cases A' with
   |nil=>
    injection e with e1 e2;subst e1 e2;simp![_nv,hx];show#[_,rfl,.Z #[by rw[Xj,ha];rfl,hB]]
   |cons a A'=>
    injection e with e1 e2;subst e1 e2;let#[l,rfl,hl]:=hA' _ X2;let hl:=Bool.eq_false_iff.y hl;simp![_nv,hl];show#[_,rfl,.O #[ha,A',rfl,λd hd=>hA' d (_ad _ hd)]]
  .let#[l,rfl,hl]:=hd _ X2;let hl:=Bool.eq_false_iff.y hl;simp![_nv,hl];show#[_,rfl,.Z #[ha,λd h=>hd d (_ad _ h)]]
 .rintro E1 C ae ⟨l0,rfl,⟨ha,A',e,hA'⟩|_⟩
  .cases A' with|nil=>cases e|cons=>cases e
  .rw[vj];let gz:(ae.B:Int)=1:=by symm
   simp![gz,bc]
inductive LwA (ns:List Int)(n:Int):En->List D->Prop
 |mk (tu:List Bool) (k:Nat) {l2:Option Sd} {af:List D} (h1:tu.B=k+1) (h2:(k:Int)<=n) (h3:af=jV k n):LwA ns n [@(.x,iL ns),@(.rt,.L (tu.C D.bl)),l2,none,none,none,none,none,none,none,none] af
def neb(a b):fNe (.bl a) (.bl b)=@(.bl (!(a==b))):=by cases a<;>cases b<;>rfl
def _r2(ns)(hn:ns.B<=63):Oo m_law [(.x,iL ns)] (λy=>y.2=.bl true) noX:=by
 ext m_law;rw [_rQ];generalize hR:jk (jx 8 _) _=R;let key:∀z (rs u4) (l1 l2 l3 l6 l7),Mk z rs u4->Po (R [@(.x,iL ns),l1,l2,l3,@(.x,jv [z] rs),@(.x,.L u4),l6,l7,none,none,none]) (λ_=>False) (λ_=>False) (λy=>y.2=.bl true) noX:=λz rs u4 l1 l2 l3 l6 l7 h=>by
  let#[#[aa,hP,hk,i9,uq],L,rfl,hL,h3]:=h;let mj:=_rU hL λl hl=>(h3 l hl).1
  let hma:=_qR (show[z].B<=3 by simp) hP hk i9;rw [<-uq]at hma;let bc:fNe (jv [z] rs) (jv [z] rs)=@_:=_nr (_oA hP 32);let o8:fEq (jv [z] rs) (jv [z] rs)=@_:=_nq (_oA hP 32);subst hR;simp![];show(_rR hP.ps).via ?_;rintro _ rfl;simp![];show hma.via ?_;rintro _ rfl;simp![];show mj.via ?_;rintro _ ⟨o',rfl,_⟩;simp![bc];let#[E',ds',hE',hgo]:=_rZ (i:=9) (s:=10) (T:=T9) (d0:=.bl false) (E:=[@(.x,iL ns),l1,l2,l3,@(.x,jv [z] rs),@(.x,.L (L.C nL)),l6,l7,@(.x,jv [z] rs),none,none]) (Es:=[@(.x,iL ns),l1,l2,l3,@(.x,jv [z] rs),@(.x,.L (L.C nL)),l6,l7,@(.x,jv [z] rs),none,none]) (show 9<11 by decide) rfl rfl rfl (λA X B hA hB=>_r1 hA hB) L [] (nofun) h3;let hE':=hE'.ë id id;subst hE';ext _mv;change Po (if 10<11 then K9 9 10 (cC (.E 9)) T9 (.bl false) (L.C nL).B 0 (L.C nL) _ else none) _ _ _ _;rw [X7 .q,X3];let hgo:K9 9 10 (cC (.E 9)) T9 (.bl false) L.B 0 (L.C nL) [@(.x,iL ns),l1,l2,l3,@(.x,jv [z] rs),@(.x,.L (L.C nL)),l6,l7,@(.x,jv [z] rs),none,none]=_:=hgo;dsimp[List.ø,List.ö];rw [hgo,_mQ];simp![];show _ni rfl rfl ?_;simp![];show hma.via ?_;rintro _ rfl;simp![];show mj.via ?_;rintro _ ⟨o',rfl,_⟩;simp![o8]
 show q9 ?_;simp![];show(B.cell_ok ns 2 .q).use ?_;intro _ _;simp![Q2];show z8 (LwA ns (qQ ns 1 % 4)) ?_ ?_ ?_
 .simp![];show(B.cell_ok ns 1 .q).use ?_;intro _ _;let:=Int.emod_nonneg (qQ ns 1) (show(4:Int)≠0 by decide);let:=Z9 (qQ ns 1) (show(0:Int)<4 by decide);simp![];show .mk [_] 0 rfl (by omega) rfl
 .intro E d ds hh;generalize bg:d::ds=dd at hh;cases hh with
  | @mk tu k l2 _ h1 h2 h3=>
  rw [h3]at bg;let#[b9,rfl,rfl]:=_nm h2 bg;let:=Z9 (qQ ns 1) (show(0:Int)<4 by decide);simp![];show wQ rfl ?_;simp![];rw [show(3:Int)+(k)=((3+k:Nat):Int)by lia];show(B.cell_ok ns (3+k) .q).use ?_;intro _ _;simp![Q2];show#[_,rfl,by rw[X3];lia,?_];rw [show tu.C D.bl++[.bl _]=(tu++[_]).C D.bl from(Xl (l₂:=[_])).s];show .mk _ (k+1) (by rw[Xj,h1];rfl) .q rfl
 .intro E hh;obtain⟨dd,bg,hh⟩:∃dd,([]:List D)=dd/\LwA ns (qQ ns 1 % 4) E dd:=#[_,rfl,hh];cases hh with
  | @mk tu k l2 _ h1 h2 h3=>
  let:=Z9 (qQ ns 1) (show(0:Int)<4 by decide);let ma:1<=tu.B:=.q
  let hk9:tu.B<=9:=.q
  simp![];show(B.cell_ok ns 0 .q).use ?_;intro _ _;simp![];show(_rS (qQ ns 0)).use ?_;rintro ⟨o3,z⟩ _;simp![];show(B.cell_ok ns 1 .q).use ?_;intro _ _;let a0:=Int.emod_nonneg (qQ ns 1 / 4) (show(2:Int)≠0 by decide);let a1:=Z9 (qQ ns 1 / 4) (show(0:Int)<2 by decide);simp![];let#[a,ha]:=Yx a0;rw [ha]at a1 ⊢;show(_rn z (tu:=tu) (a:=a) ma hk9 .q).via ?_;rintro _ rfl;simp![];show(B.cell_ok ns 1 .q).use ?_;intro _ _
  by_cases h8:qQ ns 1 / 8 % 4=1
  .let hq:(qQ ns 1 / 8 % 4==1)=true:=by rw[h8];rfl
   simp![Q2,hq];show(B.cell_ok ns 1 .q).use ?_;intro _ _;simp![Q2];generalize (qQ ns 1 / 32 % 4==1)=b;obtain⟨c7,h7,n8⟩:∃c7,(2+bN b)+(c7+2)<=11/\kQ (.L [.E 7,.E 2]) (.E (2+(bN b) - 2))=@(.E c7)/\2<=c7:=by
    cases b
    .show#[7,.q,rfl,.q]
    .show#[2,.q,rfl,.q]
   let hm:2+bN b=2\/2+bN b=3:=by cases b<;>decide
   let t1:=Z9 (qQ ns 1 / 128) (show(0:Int)<3 by decide);simp![_rf,n8.1];show(B.cell_ok ns 1 .q).use ?_;intro _ _;simp![];let#[t,ht]:=Yx (Int.emod_nonneg (qQ ns 1 / 128) (show(3:Int)≠0 by decide));rw[ht]at t1 ⊢;rw[show(c7)+(t)=((c7+t:Nat):Int)by lia];show xV [@(.x,iL ns)] (λd y=>y.2=(match d with|.E k=>.bl (qQ ns (2+k).S % 2==1)|_=>.ç)) ?_;simp![];show#[rfl,λd hd=>?_,λys hy=>?_]
   .let#[j,j0,j1,rfl]:=VY hd;let#[j,rfl]:=Yx j0;simp![];rw[show(2:Int)+(j)=((2+j:Nat):Int)by lia];show(B.cell_ok ns (2+j) .q).use ?_;intro _ _;simp![Q2];show#[#[_,rfl],rfl]
   .obtain⟨tv,e,qt⟩:∃tv:List Bool,ys.C (·.2)=tv.C D.bl/\tv.B=c7+t:=by
     show#[(List.r (c7+t)).C λk:Nat=>qQ ns (2+(k:Int)).S % 2==1,?_,by simp];rw[x5 (h:=λd=>match d with|.E k=>.bl (qQ ns (2+k).S % 2==1)|_=>.ç) (λ_ _ h=>h) hy,Qv,Xg,Xg];rfl
    rw[vj,e];dsimp[back,clr,at',List.l,List.map_nil,List.ö,List.ø];simp![];let i0:kQ (.L (tv.C D.bl)) (.E 0)=@(.bl (tn tv 0)):=_re (k:=0) .q;show _lq ?_;simp![i0];show(B.cell_ok ns 1 .q).use ?_;intro _ _;simp![Q2,neb];show#[rfl,.rt,_,_,0,rfl,.q,rfl,?_,?_]
    .ext Q.ixN;rw[X7 .q,X7 (by rw[X3];lia)];rfl
    .rw[show ∀x,(tv.C D.bl).u 0 (.bl x)=(tv.u 0 x).C D.bl from λx=>List.map_set.s];generalize hw:tv.u 0 _=tw;let hwl:tw.B=c7+t:=by rw[<-hw,Z6,qt]
     let s1:=Z9 (qQ ns 1 / 768) (show(0:Int)<(c7+t:Nat)by lia);simp![];show(B.cell_ok ns 1 .q).use ?_;intro _ _;simp![];let#[sp,cx]:=Yx (Int.emod_nonneg (qQ ns 1 / 768) (show((c7+t:Nat):Int)≠0 by lia));rw[cx]at s1 ⊢;rw[show(2:Int)+(bN b)=((2+bN b:Nat):Int)by lia];show(_rP z (tu:=tw) hm .q (show sp<tw.B by lia)).via ?_;rintro _ rfl;simp![];show key z _ _ _ _ _ _ _ (_rB z hm .q .q)
  .let hq:(qQ ns 1 / 8 % 4==1)=false:=Yt h8;simp![Q2,hq];show key z _ _ _ _ _ _ _ (_rd z ma hk9)
def law_true(ns:List Int)(hl:ns.B<=63)(hb:∀i>ns,Builtin.Int.intBits i<=1048576):∃E o,m_law [(.x,.L (ns.C D.E))]=@(.ok E (o,.bl true)):=by
 obtain _:=(_r2 ns hl).out
 symm
end Nk50
namespace Nk50
open PySem L2 L3 Q
def top(i:Nat):Stmt:=PySem.Challenge.pw_freshrooms_k50_keepers_of_a_chain.main.body.p i (.Pass #[0,0,0,0])
abbrev jz7:Stmt:=top 6
abbrev kjs:Stmt:=top 7
abbrev jvz:Stmt:=top 20
abbrev jvf:Stmt:=top 17
abbrev jkm:Stmt:=top 13
abbrev jz6:Stmt:=top 19
abbrev jqu:Stmt:=top 16
abbrev kjr:Stmt:=top 18
abbrev kjt:Stmt:=top 15
abbrev jqr:Stmt:=top 14
abbrev jvx:Stmt:=top 12
abbrev jqt:Stmt:=top 10
abbrev jw0:Stmt:=top 21
abbrev kv9:Stmt:=top 11
abbrev jkz:Stmt:=top 27
abbrev jq0:Stmt:=top 26
abbrev jx3:Stmt:=top 25
abbrev jvy:Stmt:=top 29
abbrev jqq:Stmt:=top 28
abbrev jqs:Stmt:=top 24
abbrev kju:Stmt:=top 23
abbrev jqv:Stmt:=top 31
abbrev jx4:Stmt:=top 32
abbrev jx6:Stmt:=top 33
abbrev jw2:Stmt:=top 34
abbrev jw1:Stmt:=top 35
abbrev jw3:Stmt:=top 36
abbrev jx5:Stmt:=top 37
abbrev wk4:Stmt:=top 38
def _r3:FnScope ["plain"] ["plain"] (k6 jz7):=mkS
#where in
def sc_read_by:FnScope ["plain","standing","sign","name","names","cases","case","held"] ["plain","standing","sign","name"] (k6 kjs):=mkS
def _r4:FnScope ["plain","room"] ["plain","room"] (k6 jvz):=mkS
def _r5:FnScope ["room","names"] ["room","names"] (k6 jvf):=mkS
def sc_first_standings:FnScope ["one","other","pair","own","shared","names","j"] ["one","other","pair"] (k6 jkm):=mkS
def _r6:FnScope ["standing"] ["standing"] (k6 jz6):=mkS
def sc_held_by_both:FnScope ["standings","ours"] ["standings"] (k6 jqu):=mkS
def _r7:FnScope ["standing"] ["standing"] (k6 kjr):=mkS
def sc_pair_of:FnScope ["standings","ours","theirs","shared"] ["standings"] (k6 kjt):=mkS
def _r8:FnScope ["one","other","standings","sign","name"] ["one","other","standings","sign","name"] (k6 jqr):=mkS
def sc_steps_from:FnScope ["one","other","pair","standings","names","steps","sign","name"] ["one","other","pair"] (k6 jvx):=mkS
def _r9:FnScope ["one","other","pair"] ["one","other","pair"] (k6 jqt):=mkS
def _sa:FnScope ["plain","room"] ["plain","room"] (k6 jw0):=mkS
def _sb:FnScope ["one","other","pair"] ["one","other","pair"] (k6 kv9):=mkS
def _sc:FnScope ["room","many","keeper"] ["room","many","keeper"] (k6 jkz):=mkS
def _sd:FnScope ["room","many","unlike"] ["room","many","unlike"] (k6 jq0):=mkS
def _se:FnScope ["plain","unlike"] ["plain","unlike"] (k6 jx3):=mkS
def sc_leading_to:FnScope ["plain","pairs","leading","waiting","pair","later"] ["plain","pairs"] (k6 jvy):=mkS
def sc_unlike_among:FnScope ["plain","pairs","leading","waiting","unlike","pair","ahead"] ["plain","pairs"] (k6 jqq):=mkS
def sc_parted_pairs:FnScope ["plain","pairs","room","told"] ["plain"] (k6 jqs):=mkS
def _sf:FnScope ["plain"] ["plain"] (k6 kju):=mkS
def _sg:FnScope ["_law_script","_law_k"] ["_law_script","_law_k"] (k6 jqv):=mkS
def sc__law_word:FnScope ["_law_cell","_law_letters","_law_rest","_law_word_here","_law_k"] ["_law_cell"] (k6 jx4):=mkS
def _sh:FnScope ["_law_to","_law_one","_law_other","_law_bent"] ["_law_to","_law_one","_law_other","_law_bent"] (k6 jx6):=mkS
def sc__law_chain:FnScope ["_law_sign","_law_turns","_law_asked","_law_rooms","_law_first","_law_places","_law_k","_law_case_here","_law_cases","_law_place"] ["_law_sign","_law_turns","_law_asked"] (k6 jw2):=mkS
def sc__law_round:FnScope ["_law_sign","_law_most","_law_turns","_law_spot","_law_many","_law_rooms","_law_held","_law_due","_law_k","_law_fills","_law_cases","_law_ahead"] ["_law_sign","_law_most","_law_turns","_law_spot"] (k6 jw1):=mkS
def sc__law_alike:FnScope ["_law_found","_law_due","_law_one","_law_other","_law_number"] ["_law_found","_law_due"] (k6 jw3):=mkS
def sc__law_copy:FnScope ["_law_plain","_law_rooms"] ["_law_plain"] (k6 jx5):=mkS
def sc_law:FnScope ["_law_script","_law_turns","_law_k","_law_word_here","_law_plain","_law_due","_law_most","_law_many","_law_handed","_law_found","_law_one"] ["_law_script"] (k6 wk4):=mkS
structure Txt (K:Frag)(mg:Str->Option Value):Prop where
 b_all:mg "all"=none
 b_bool:mg "bool"=none
 b_dict:mg "dict"=none
 b_enumerate:mg "enumerate"=none
 b_int:mg "int"=none
 b_isinstance:mg "isinstance"=none
 b_len:mg "len"=none
 b_list:mg "list"=none
 b_range:mg "range"=none
 b_set:mg "set"=none
 b_sorted:mg "sorted"=none
 b_sum:mg "sum"=none
 b_tuple:mg "tuple"=none
 b_zip:mg "zip"=none
 c_SMALL_ROOMS:Cst mg "SMALL_ROOMS" (V.E (12))
 c_SMALL_KEEPERS:Cst mg "SMALL_KEEPERS" (V.E (3))
 c_NOWHERE:Cst mg "NOWHERE" (V.E (-1))
section
variable (P:Program)(w:PySem.World)(K:Frag)(mg:Str->Option Value)(base:Heap)
abbrev kqw:=kW P w K mg base 1 "is_small" ["plain"] (spF K mg 1 m_is_small)
abbrev kzp:=kW P w K mg base 1 "read_by" ["plain","standing","sign","name"] (spF K mg 4 m_read_by)
abbrev kj2:=kW P w K mg base 1 "keepers_in" ["plain","room"] (spF K mg 2 m_keepers_in)
abbrev jz0:=kW P w K mg base 1 "standing_in" ["room","names"] (spF K mg 2 m_standing_in)
abbrev jzv:=kW P w K mg base 2 "first_standings" ["one","other","pair"] (spF K mg 3 m_first_standings)
abbrev jzu:=kW P w K mg base 1 "names_of" ["standing"] (spF K mg 1 m_names_of)
abbrev kq9:=kW P w K mg base 2 "held_by_both" ["standings"] (spF K mg 1 m_held_by_both)
abbrev kzo:=kW P w K mg base 1 "room_of" ["standing"] (spF K mg 1 m_room_of)
abbrev vv0:=kW P w K mg base 2 "pair_of" ["standings"] (spF K mg 1 m_pair_of)
abbrev kq6:=kW P w K mg base 2 "read_by_both" ["one","other","standings","sign","name"] (spF K mg 5 m_read_by_both)
abbrev kzn:=kW P w K mg base 3 "steps_from" ["one","other","pair"] (spF K mg 3 m_steps_from)
abbrev kq8:=kW P w K mg base 4 "pairs_behind" ["one","other","pair"] (spF K mg 3 _pK)
abbrev kj3:=kW P w K mg base 1 "is_good_in" ["plain","room"] (spF K mg 2 m_is_good_in)
abbrev vxs:=kW P w K mg base 2 "agrees" ["one","other","pair"] (spF K mg 3 m_agrees)
abbrev jq1:=kW P w K mg base 1 "pair_parted_at" ["room","many","keeper"] (spF K mg 3 _pL)
abbrev kjb:=kW P w K mg base 2 "keepers_parted" ["room","many","unlike"] (spF K mg 3 _pM)
abbrev qk3:=kW P w K mg base 3 "mattering" ["plain","unlike"] (spF K mg 2 _pN)
abbrev kzq:=kW P w K mg base 5 "leading_to" ["plain","pairs"] (spF K mg 2 _pO)
abbrev kq5:=kW P w K mg base 6 "unlike_among" ["plain","pairs"] (spF K mg 2 _pP)
abbrev kq7:=kW P w K mg base 2 "parted_pairs" ["plain"] (spF K mg 1 _pQ)
abbrev vv1:=kW P w K mg base 7 "matters" ["plain"] (spF K mg 1 _pR)
abbrev jx0:=kW P w K mg base 1 "_law_cell_at" ["_law_script","_law_k"] (spF K mg 2 m__law_cell_at)
abbrev kkp:=kW P w K mg base 1 "_law_word" ["_law_cell"] (spF K mg 1 _pS)
abbrev kkr:=kW P w K mg base 1 "_law_case" ["_law_to","_law_one","_law_other","_law_bent"] (spF K mg 4 _pT)
abbrev kzr:=kW P w K mg base 2 "_law_chain" ["_law_sign","_law_turns","_law_asked"] (spF K mg 3 _pU)
abbrev kj4:=kW P w K mg base 1 "_law_round" ["_law_sign","_law_most","_law_turns","_law_spot"] (spF K mg 4 _pV)
abbrev kj5:=kW P w K mg base 1 "_law_alike" ["_law_found","_law_due"] (spF K mg 2 _pW)
abbrev kkq:=kW P w K mg base 1 "_law_copy" ["_law_plain"] (spF K mg 1 _pX)
end
section
variable {P:Program}{w:PySem.World}{K:Frag}{mg:Str->Option Value}{base:Heap}{f:Addr}{fd:FuncData}
def _si(T:Txt K mg):OkF P w K mg base 1 "is_small" jz7 ["plain"] 1 m_is_small:=
 okF _r3 λhr=>(kz (_gf (j8 (_mp (j8 (qL (kx (vv 0) ki) T.b_len)) (j8 (q_C (_c7 T.c_SMALL_ROOMS) (λ_=>xz))))) (_ge (_gG (_cX K) _gS (j8 (qM .rt 1 [] 1 ["room"] (wq (kJ (kx (vv 0) ki))) (λ_ _ _ _ _=>(_mp (kx (vv 0) ki) (j8 (q_C (_c7 T.c_SMALL_KEEPERS) (λ_=>xz))))))) T.b_all _c1))))
def _sj(T:Txt K mg):OkF P w K mg base 1 "read_by" kjs ["plain","standing","sign","name"] 4 m_read_by:=
 okF sc_read_by λhr=>have nd:=sc_read_by.nd;(jq (xk (QW.pt (_eD (_mo (vv 1) kn) (_eC (xw (_f6 hr.â) _f9 (vv 2) (kx (vv 0) ki) (by rfl) _gY)))) (kz kN)) (jq (qA nd (kJ (kx (vv 1) ki))) (jq (qA nd (kJ (kx (kx (kx (kx (vv 0) ki) (kx (vv 1) ki)) ki) (j8 (_hN hr.â (kx (vv 0) ki) (vv 2)))))) (jq (qA nd (kJ (kx (vv 5) (j8 (YX (xw (_f5 hr.â) _f8 (vv 3) (vv 4) (by rfl) _gX) (_hN hr.â (vv 4) (vv 3)) (qL (vv 4) T.b_len)))))) (jq (xk (_mo (vv 6) kn) (kz kN)) (jq (qA nd (oA (vv 4) (j8 (kK (o:=.x) (j6 (cv 3) j9))))) (kz (kK (o:=.x) (j6 (kJ (kx (vv 6) ki)) (j6 (qT (j8 (qM .rt 1 [7] 8 ["fill","held"] (wq (kJ (kx (vv 6) ki))) (λ_ _ _ _ _=>(kJ (kx (vv 1) (vv 0)))))) T.b_tuple) j9))))))))))
def _sk(T:Txt K mg):OkF P w K mg base 1 "keepers_in" jvz ["plain","room"] 2 m_keepers_in:=
 okF _r4 λhr=>(kz (YX (_mm hr (vv 1) (j8 (q_C (_c7 T.c_NOWHERE) (λ_=>xz)))) kI (kJ (kx (kx (kx (vv 0) ki) (vv 1)) ki))))
def _sl(T:Txt K mg):OkF P w K mg base 1 "standing_in" jvf ["room","names"] 2 m_standing_in:=
 okF _r5 λhr=>(kz (YX (_mm hr (vv 0) (j8 (q_C (_c7 T.c_NOWHERE) (λ_=>xz)))) kN (kK (o:=.x) (j6 (cv 0) (j6 (qT (vv 1) T.b_tuple) j9)))))
def _sm(T:Txt K mg)(bj:kj2 P w K mg base)(bd:jz0 P w K mg base):OkF P w K mg base 2 "first_standings" jkm ["one","other","pair"] 3 m_first_standings:=
 okF sc_first_standings λhr=>have nd:=sc_first_standings.nd;(jq (qA nd (qC bj hr (j6 (cv 0) (j6 (kJ (kx (vv 2) ki)) j9)))) (jq (qA nd (K8 (_i9 K) _i8 (j8 (qm .rt 2 [] 7 ["i","j"] (wq (kJ (kx (vv 2) ki))) (λhN _ _ _ _ _=>(Vq (is:=[0,1]) (V2 K (t:=gNs [0,1]) (n:=2) (wW (gn hN) (wW (gn hN) Vv))))) (λ_ _ _ _ _=>KY) (λ_ _ _ _ _=>(kK (o:=.x) (j6 (cv 1) (j6 (cv 0) j9)))))) T.b_dict _c5)) (jq (qA nd Q7) (jq (qF (zW (j8 (qC bj hr (j6 (cv 1) (j6 (kJ (kx (vv 2) ki)) j9)))) rfl T.b_range) (gN nd) (qJ (qP (YX (xw (_iR hr.â) _iS (vv 6) (vv 4) (by rfl) _iT) (kJ (_iU hr.â (vv 4) (vv 6) (λ_ _=>rfl))) (oA (vv 3) (j8 (qL (j8 (_gE (o:=.rt) (k:=1) (R:=[3]) ["name","own"] (_jh (pv 5)) (λ_ _ _ _ _=>(zq (gn (show(["name","own"]:List Str).U by decide +kernel)))) (λ_ _ _ _ _=>(WX (xw _bc (_eq (g:=λa b=>decide (b<=a))) (vv 0) (vv 1) (K5 _) _gT))) (λ_ _ _ _ _=>(cv 0)) z7 #[_,_,rfl,rfl] .q (show ∀j>([3]:List Nat) ,j<7 by decide))) T.b_len))))))) (kz (kK (o:=.x) (j6 (qC bd hr (j6 (kJ (kx (vv 2) ki)) (j6 (_g4 (vv 3) T.b_range T.b_list) j9))) (j6 (_hD bd (hr.mono .q) z7 (_hC (kx (vv 2) ki) (_hC (vv 5) _hB))) j9))))))))
def _sn(T:Txt K mg):OkF P w K mg base 1 "names_of" jz6 ["standing"] 1 m_names_of:=
 okF _r6 λhr=>(kz (YX (_mo (vv 0) kn) (kK (o:=.x) j9) (kJ (kx (vv 0) ki))))
def _so(T:Txt K mg)(ax:jzu P w K mg base):OkF P w K mg base 2 "held_by_both" jqu ["standings"] 1 m_held_by_both:=
 okF sc_held_by_both λhr=>have nd:=sc_held_by_both.nd;(jq (qA nd (qC ax hr (j6 (kJ (kx (vv 0) ki)) j9))) (kz (oA (vv 1) (j8 (qT (j8 (qm .rt 1 [1] 2 ["name","ours"] (wq (qC ax hr (j6 (kJ (kx (vv 0) ki)) j9))) (λhN _ _ _ _ _=>(zq (gn hN))) (λ_ _ _ _ _=>(WX (xw (_f6 hr.â) _f9 (vv 0) (vv 1) (by rfl) _gY))) (λ_ _ _ _ _=>(cv 0)))) T.b_tuple)))))
def _sp(T:Txt K mg):OkF P w K mg base 1 "room_of" kjr ["standing"] 1 m_room_of:=
 okF _r7 λhr=>(kz (YX (_mo (vv 0) kn) (q_C (_c7 T.c_NOWHERE) (λ_=>xz)) (kJ (kx (vv 0) ki))))
def _sq(T:Txt K mg)(ax:jzu P w K mg base)(df:kzo P w K mg base):OkF P w K mg base 2 "pair_of" kjt ["standings"] 1 m_pair_of:=
 okF sc_pair_of λhr=>have nd:=sc_pair_of.nd;(jq (qA nd (qC ax hr (j6 (kJ (kx (vv 0) ki)) j9))) (jq (qA nd (qC ax hr (j6 (kJ (kx (vv 0) ki)) j9))) (jq (ZX (i:=3) (o:=.rt) (k:=2) (R:=[2]) ["i","name","theirs"] nd rfl (by trivial) (_jf (cv 1) rfl T.b_enumerate) (λ_ _ _ _ _=>(Vq (is:=[0,1]) (V2 K (t:=gNs [0,1]) (n:=2) (wW (gn (show(["i","name","theirs"]:List Str).U by decide +kernel)) (wW (gn (show(["i","name","theirs"]:List Str).U by decide +kernel)) Vv))))) (λ_ _ _ _ _=>(WX (xw (_f5 hr.â) _f8 (vv 1) (vv 2) (by rfl) _gX))) (λ_ _ _ _ _=>(kK (o:=.x) (j6 (cv 0) (j6 (_hN hr.â (vv 2) (vv 1)) j9)))) z7 #[_,_,rfl,rfl] .q (show ∀j>([2]:List Nat) ,j<4 by decide)) (kz (kK (o:=.x) (j6 (qC df hr (j6 (kJ (kx (vv 0) ki)) j9)) (j6 (qC df hr (j6 (kJ (kx (vv 0) ki)) j9)) (j6 (qT (vv 3) T.b_tuple) j9))))))))
def _sr(T:Txt K mg)(de:kzp P w K mg base):OkF P w K mg base 2 "read_by_both" jqr ["one","other","standings","sign","name"] 5 m_read_by_both:=
 okF _r8 λhr=>(kz (kK (o:=.x) (j6 (qC de hr (j6 (cv 0) (j6 (kJ (kx (vv 2) ki)) (j6 (cv 3) (j6 (cv 4) j9))))) (j6 (qC de hr (j6 (cv 1) (j6 (kJ (kx (vv 2) ki)) (j6 (cv 3) (j6 (cv 4) j9))))) j9))))
def _ss(T:Txt K mg)(b8:jzv P w K mg base)(bq:kq9 P w K mg base)(fc:vv0 P w K mg base)(br:kq6 P w K mg base):OkF P w K mg base 3 "steps_from" jvx ["one","other","pair"] 3 m_steps_from:=
 okF sc_steps_from λhr=>have nd:=sc_steps_from.nd;(jq (qA nd (qC b8 hr (j6 (cv 0) (j6 (cv 1) (j6 (cv 2) j9))))) (jq (qA nd (_g4 (j8 (oA (j8 (qL (j8 (qC bq hr (j6 (cv 3) j9))) T.b_len)) ki)) T.b_range T.b_list)) (jq (qA nd Q7) (jq (qF (wq (_kV rfl rfl (j8 (oA (kx (vv 0) ki) (kx (vv 1) ki))) T.b_sorted T.b_set)) (gN nd) (qJ (qF (wq (cv 4)) (gN nd) (qJ (qP (kK (o:=.x) (j6 (cv 6) (j6 (cv 7) (j6 (qC fc hr (j6 (qC br hr (j6 (cv 0) (j6 (cv 1) (j6 (cv 3) (j6 (cv 6) (j6 (cv 7) j9)))))) j9)) j9))))))))) (kz (_eb (pv 5)))))))
def _st(T:Txt K mg)(ci:kzn P w K mg base):OkF P w K mg base 4 "pairs_behind" jqt ["one","other","pair"] 3 _pK:=
 okF _r9 λhr=>(kz (_mi rfl rfl hr.â (j8 (qM .rt 1 [] 3 ["step"] (wq (qC ci hr (j6 (cv 0) (j6 (cv 1) (j6 (cv 2) j9))))) (λ_ _ _ _ _=>(kJ (kx (vv 0) ki))))) T.b_sorted T.b_set))
def _su(T:Txt K mg):OkF P w K mg base 1 "is_good_in" jw0 ["plain","room"] 2 m_is_good_in:=
 okF _sa λhr=>(kz (_gf (j8 (_eh (_fl hr.â) _fn (vv 1) (j8 (q_C (_c7 T.c_NOWHERE) (λ_=>xz))) (K5 _))) (_ge (kJ (kx (kx (kx (vv 0) ki) (vv 1)) ki)))))
def _sv(T:Txt K mg)(bi:kj3 P w K mg base):OkF P w K mg base 2 "agrees" kv9 ["one","other","pair"] 3 m_agrees:=
 okF _sb λhr=>(kz (Ww hr (j8 (qC bi hr (j6 (cv 0) (j6 (kJ (kx (vv 2) ki)) j9)))) (j8 (qC bi hr (j6 (cv 1) (j6 (kJ (kx (vv 2) ki)) j9))))))
def _sw(T:Txt K mg):OkF P w K mg base 1 "pair_parted_at" jkz ["room","many","keeper"] 3 _pL:=
 okF _sc λhr=>(kz (kK (o:=.x) (j6 (cv 0) (j6 (cv 0) (j6 (qT (j8 (qm .rt 1 [2] 3 ["other","keeper"] (zW (vv 1) rfl T.b_range) (λhN _ _ _ _ _=>(zq (gn hN))) (λ_ _ _ _ _=>(WX (_mn hr (vv 0) (vv 1)))) (λ_ _ _ _ _=>(kK (o:=.x) (j6 (cv 0) (j6 (cv 0) j9)))))) T.b_tuple) j9)))))
def _sx(T:Txt K mg)(ao:jq1 P w K mg base):OkF P w K mg base 2 "keepers_parted" jq0 ["room","many","unlike"] 3 _pM:=
 okF _sd λhr=>(kz (qm .dp 1 [0,1,2] 3 ["keeper","room","many","unlike"] (zW (vv 1) rfl T.b_range) (λhN _ _ _ _ _=>(zq (gn hN))) (λ_ _ _ _ _=>(WX (xw (_h7 hr.â) _ib (j8 (qC ao hr (j6 (cv 1) (j6 (cv 2) (j6 (cv 0) j9))))) (vv 3) (by rfl) _id))) (λ_ _ _ _ _=>(cv 0))))
def _sy(T:Txt K mg)(ba:kjb P w K mg base):OkF P w K mg base 3 "mattering" jx3 ["plain","unlike"] 2 _pN:=
 okF _se λhr=>(kz (qm .dp 2 [1] 2 ["room","told","unlike"] (_hY (kJ (kx (vv 0) ki)) rfl T.b_enumerate) (λhN _ _ _ _ _=>(Vq (is:=[0,1]) (V2 K (t:=gNs [0,1]) (n:=2) (wW (gn hN) (wW (gn hN) Vv))))) (λ_ _ _ _ _=>KY) (λ_ _ _ _ _=>(_jr (qC ba hr (j6 (cv 0) (j6 (kJ (kx (vv 1) ki)) (j6 (cv 2) j9))))))))
def _sz(T:Txt K mg)(bo:kq8 P w K mg base):OkF P w K mg base 5 "leading_to" jvy ["plain","pairs"] 2 _pO:=
 okF sc_leading_to λhr=>have nd:=sc_leading_to.nd;(jq (qA nd (_mD hr.â (qM .dp 1 [] 6 ["pair"] (wq (cv 1)) (λ_ _ _ _ _=>(kK (o:=.dp) (j6 (cv 0) (j6 (wK (o:=.dp) j9) j9))))) T.b_dict _c5)) (jq (qA nd (K8 (_iu rfl) _iw (vv 2) T.b_list ZV)) (jq (_eM (_dr #[_,_,rfl,rfl]) (Jq (vv 3)) (jq (qA nd (_mw (i:=3) (pv 3) rfl _b7)) (qJ (qF (wq (qC bo hr (j6 (cv 0) (j6 (cv 0) (j6 (cv 4) j9))))) (gN nd) (jq (xk (xw (_h8 hr.â) _ic (vv 5) (vv 2) (by rfl) _ie) (jq (_jk (i:=2) hr.â rfl (pv 2) (vv 5) Q7) (qJ (qP (cv 5))))) (qJ (_my (i:=2) (j:=5) (_kZ hr.â (pv 2) (pv 5) (λ_ _=>rfl)) (cv 4) rfl _b3))))))) (kz (_eb (pv 2))))))
def _sA(T:Txt K mg)(cj:kzq P w K mg base)(gb:vxs P w K mg base):OkF P w K mg base 6 "unlike_among" jqq ["plain","pairs"] 2 _pP:=
 okF sc_unlike_among λhr=>have nd:=sc_unlike_among.nd;(jq (qA nd (qC cj hr (j6 (cv 0) (j6 (cv 1) j9)))) (jq (_k0 (i:=3) (o:=.rt) (k:=1) (R:=[0]) ["pair","plain"] nd rfl (by trivial) (_mL (pv 2)) (λ_ _ _ _ _=>(zq (gn (show(["pair","plain"]:List Str).U by decide +kernel)))) (λ_ _ _ _ _=>(WX (_eE (Jq (j8 (qC gb hr (j6 (cv 1) (j6 (cv 1) (j6 (cv 0) j9))))))))) (λ_ _ _ _ _=>(cv 0)) z7 #[_,_,rfl,rfl] .q (show ∀j>([0]:List Nat) ,j<7 by decide)) (jq (qA nd (_mD hr.â (_gE (o:=.dp) (k:=1) (R:=[]) ["pair"] (_jh (pv 3)) (λ_ _ _ _ _=>(zq (gn (show(["pair"]:List Str).U by decide +kernel)))) (λ_ _ _ _ _=>KY) (λ_ _ _ _ _=>(kK (o:=.dp) (j6 (cv 0) (j6 xj j9)))) z7 #[_,_,rfl,rfl] .q (show ∀j>([]:List Nat) ,j<7 by decide)) T.b_dict _c5)) (jq (_eM (_dr #[_,_,rfl,rfl]) (Jq (vv 3)) (jq (qA nd (_mw (i:=3) (pv 3) rfl _b7)) (qJ (qF (wq (kJ (_mG hr.â (j8 (cv 2)) (vv 5) (λ_ _=>rfl)))) (gN nd) (qJ (xk (xw (_h8 hr.â) _ic (vv 6) (vv 4) (by rfl) _ie) (jq (_jk (i:=4) hr.â rfl (pv 4) (vv 6) xj) (qJ (qP (cv 6)))))))))) (kz (_eb (pv 4)))))))
def _sB(T:Txt K mg)(ao:jq1 P w K mg base):OkF P w K mg base 2 "parted_pairs" jqs ["plain"] 1 _pQ:=
 okF sc_parted_pairs λhr=>have nd:=sc_parted_pairs.nd;(jq (qA nd Q7) (jq (qF (_hY (kJ (kx (vv 0) ki)) rfl T.b_enumerate) (Vq (is:=[2,3]) (V2 K (t:=gNs [2,3]) (n:=2) (wW (gn nd) (wW (gn nd) Vv)))) (qJ (_kY (i:=1) (qM .rt 1 [2,3] 4 ["keeper","room","told"] (zW (kx (vv 3) ki) rfl T.b_range) (λ_ _ _ _ _=>(qC ao hr (j6 (cv 1) (j6 (kJ (kx (vv 2) ki)) (j6 (cv 0) j9))))))))) (kz (_eb (pv 1)))))
def _sC(T:Txt K mg)(db:qk3 P w K mg base)(dy:kqw P w K mg base)(bp:kq5 P w K mg base)(bn:kq7 P w K mg base):OkF P w K mg base 7 "matters" kju ["plain"] 1 _pR:=
 okF _sf λhr=>(jq (xk (_eE (Jq (j8 (qC dy hr (j6 (cv 0) j9))))) (qJ _hk)) (kz (qC db hr (j6 (cv 0) (j6 (qC bp hr (j6 (cv 0) (j6 (qC bn hr (j6 (cv 0) j9)) j9))) j9)))))
def _sD(T:Txt K mg):OkF P w K mg base 1 "_law_cell_at" jqv ["_law_script","_law_k"] 2 m__law_cell_at:=
 okF _sg λhr=>(jq (xk (tLss (vv 1) (j8 (qL (vv 0) T.b_len))) (kz (kJ (kx (vv 0) (vv 1))))) (kz kI))
def _sE(T:Txt K mg):OkF P w K mg base 1 "_law_word" jx4 ["_law_cell"] 1 _pS:=
 okF sc__law_word λhr=>have nd:=sc__law_word.nd;(jq (qA nd kS) (jq (qA nd (oM (j8 (oX (vv 0) ki)) ki)) (jq (qA nd kS) (jq (qF (zW (j8 (oA ki (j8 (oM (vv 2) ki)))) rfl T.b_range) (gN nd) (jq (qA nd (WZ (vv 2) ki)) (qJ (qA nd (oA (vv 3) (kx (vv 1) (j8 (oM (vv 2) ki)))))))) (kz (_eb (pv 3)))))))
def _sF(T:Txt K mg):OkF P w K mg base 1 "_law_case" jx6 ["_law_to","_law_one","_law_other","_law_bent"] 4 _pT:=
 okF _sh λhr=>(jq (xk (Jq (vv 3)) (kz (kK (o:=.x) (j6 (cv 0) (j6 (kK (o:=.x) (j6 (cv 2) (j6 (cv 1) j9))) j9))))) (kz (kK (o:=.x) (j6 (cv 0) (j6 (kK (o:=.x) (j6 (cv 1) (j6 (cv 2) j9))) j9)))))
def _sG(T:Txt K mg)(bz:kkr P w K mg base):OkF P w K mg base 2 "_law_chain" jw2 ["_law_sign","_law_turns","_law_asked"] 3 _pU:=
 okS sc__law_chain λhr=>have nd:=sc__law_chain.nd;(zj (_k2 nd (zx (qw (WY (qw (vZ kI) (qw (vZ xj) (qw (zx (qw (zx (qw (WY (qw (vZ kI) (qw (WY (qw (vZ kI) vW)) vW))) vW)) vW)) vW)))) vW))) (zj (JQ (qP (kK (o:=.x) (j6 kI (j6 xj (j6 (wK (o:=.rt) (j6 (wK (o:=.rt) (j6 kN (j6 (qC bz hr (j6 kI (j6 kI (j6 kI (j6 (kJ (kx (vv 1) ki)) j9))))) j9))) j9)) j9)))))) (zj (JQ (qA nd (K8 _dh _gM (kx (vv 1) ki) T.b_int XX))) (zj (JQ (qA nd Q7)) (zj (JQ (qF (_gw ki (j8 (qL (vv 1) T.b_len)) rfl T.b_range) (gN nd) (jq (qP (cv 4)) (jq (qA nd (qC bz hr (j6 (oA (j8 (qL (vv 3) T.b_len)) ki) (j6 kI (j6 kI (j6 (kJ (kx (vv 1) (vv 6))) j9)))))) (jq (qP (kK (o:=.x) (j6 kI (j6 xj (j6 (wK (o:=.rt) (j6 (wK (o:=.rt) (j6 (cv 7) (j6 (cv 7) (j6 (cv 7) j9)))) j9)) j9))))) (qJ (xk (Jq (kx (vv 1) (vv 6))) (qJ (qA nd (QK _a6 _er ki (vv 4))))))))))) (zj (JQ (qP (cv 4))) (zj (_k2 nd (zx (qw (vZ kN) (qw (vZ kN) (qw (vZ kN) vW))))) (zj (JQ (qA nd (cv 4))) (zj (JQ (xk (_mm hr (vv 2) ki) (qJ (qA nd (QK _a6 _er ki (vv 4)))))) (zj (JQ (_iD (i:=8) (pv 8) (vv 9) (kK (o:=.x) (j6 (oA (j8 (qL (vv 3) T.b_len)) ki) (j6 (V6 (WY vW)) j9))))) (zj (JQ (qP (kK (o:=.x) (j6 kI (j6 xj (j6 (wK (o:=.rt) (j6 (cv 8) j9)) j9)))))) (zj (JQ (qP (V6 (WY (qw (vZ kI) (qw (vZ xj) (qw (zx (qw (zx (qw (vZ kN) vW)) vW)) vW))))))) (zj (JQ (xk (_mm hr (vv 2) ki) (qJ (ZX (i:=5) (o:=.rt) (k:=1) (R:=[]) ["_law_one"] nd rfl (by trivial) (wq (cv 5)) (λ_ _ _ _ _=>(zq (gn (show(["_law_one"]:List Str).U by decide +kernel)))) (λ_ _ _ _ _=>KY) (λ_ _ _ _ _=>(QK _a6 _er ki (vv 0))) z7 #[_,_,rfl,rfl] .q (show ∀j>([]:List Nat) ,j<10 by decide))))) (_mq (kz (kK (o:=.x) (j6 (kK (o:=.x) (j6 (wK (o:=.rt) (j6 (cv 0) j9)) (j6 (cv 3) j9))) (j6 (oA (j8 (oA (j8 (V6 (zx (qw (vZ Q7) (qw (zx (qw (vZ kI) vW)) vW))))) (j8 (qM .rt 1 [] 10 ["_law_one"] (wq (cv 5)) (λ_ _ _ _ _=>(wK (o:=.rt) (j6 (cv 0) j9))))))) (j8 (V6 (zx (qw (vZ Q7) vW))))) j9))))))))))))))))))
def _sH(T:Txt K mg):OkF P w K mg base 1 "_law_round" jw1 ["_law_sign","_law_most","_law_turns","_law_spot"] 4 _pV:=
 okF sc__law_round λhr=>have nd:=sc__law_round.nd;(jq (qA nd (qL (vv 2) T.b_len)) (jq (qA nd Q7) (jq (qF (zW (vv 1) rfl T.b_range) (gN nd) (qJ (qP (kK (o:=.x) (j6 (cv 6) (j6 xj (j6 (wK (o:=.rt) (j6 (oA (j8 (oX (j8 (V6 (zx (qw (vZ kN) vW)))) (vv 6))) (j8 (wK (o:=.rt) (j6 (kK (o:=.x) (j6 (oA (vv 6) ki) (j6 (_jx (j8 (oA (vv 6) ki)) T.b_range T.b_tuple) j9))) j9)))) j9)) j9))))))) (jq (ZX (i:=7) (o:=.rt) (k:=1) (R:=[]) ["_law_held"] nd rfl (by trivial) (zW (vv 1) rfl T.b_range) (λ_ _ _ _ _=>(zq (gn (show(["_law_held"]:List Str).U by decide +kernel)))) (λ_ _ _ _ _=>KY) (λ_ _ _ _ _=>(_g4 (vv 0) T.b_range T.b_list)) z7 #[_,_,rfl,rfl] .q (show ∀j>([]:List Nat) ,j<12 by decide)) (jq (qF (zW (vv 4) rfl T.b_range) (gN nd) (jq (qA nd (qM .rt 1 [2,8,1] 12 ["_law_t","_law_turns","_law_k","_law_most"] (zW (vv 1) rfl T.b_range) (λ_ _ _ _ _=>(oM (j8 (oA (vv 0) (j8 (K8 _dh _gM (kx (vv 1) (vv 2)) T.b_int XX)))) (vv 3))))) (jq (ZX (i:=10) (o:=.rt) (k:=1) (R:=[1,8,4,9]) ["_law_c","_law_most","_law_k","_law_many","_law_fills"] nd rfl (by trivial) (zW (j8 (oA (vv 1) ki)) rfl T.b_range) (λ_ _ _ _ _=>(zq (gn (show(["_law_c","_law_most","_law_k","_law_many","_law_fills"]:List Str).U by decide +kernel)))) (λ_ _ _ _ _=>KY) (λ_ _ _ _ _=>(kK (o:=.x) (j6 (oA (vv 1) (j8 (oM (j8 (oA (vv 2) ki)) (vv 3)))) (j6 (qT (vv 4) T.b_tuple) j9)))) z7 #[_,_,rfl,rfl] .q (show ∀j>([1,8,4,9]:List Nat) ,j<12 by decide)) (jq (xk (_mm hr (vv 8) (vv 3)) (qJ (_iD (i:=10) (pv 10) ki (kK (o:=.x) (j6 (oA (vv 1) (vv 4)) (j6 (V6 (WY vW)) j9)))))) (jq (qP (kK (o:=.x) (j6 (cv 1) (j6 xj (j6 (wK (o:=.rt) (j6 (cv 10) j9)) j9))))) (jq (qA nd (_gG (_iB K) _iC (j8 (qM .rt 1 [2,4] 12 ["_law_j","_law_turns","_law_many"] (_gw (vv 8) (j8 (oA (vv 8) (j8 (oM (j8 (QK _a6 _er (vv 3) (vv 8))) (vv 4))))) rfl T.b_range) (λ_ _ _ _ _=>(K8 _dh _gM (kx (vv 1) (j8 (oM (vv 0) (vv 2)))) T.b_int XX)))) T.b_sum _c2)) (qJ (_eJ (tGtr (j8 (oM (j8 (_gG (_iB K) _iC (j8 (qM .rt 1 [] 12 ["_law_turn"] (wq (cv 2)) (λ_ _ _ _ _=>(K8 _dh _gM (vv 0) T.b_int XX)))) T.b_sum _c2)) (vv 1))) ki) (qJ (qP (_g4 (vv 1) T.b_range T.b_list))) (qJ (qP (wK (o:=.rt) (j6 (oM (vv 11) (vv 1)) j9)))))))))))) (jq (qP (V6 (WY (qw (vZ kI) (qw (vZ xj) (qw (zx (qw (zx (qw (vZ kN) vW)) vW)) vW)))))) (kz (kK (o:=.x) (j6 (kK (o:=.x) (j6 (wK (o:=.rt) (j6 (cv 0) j9)) (j6 (cv 5) j9))) (j6 (oA (vv 7) (j8 (V6 (zx (qw (vZ Q7) vW))))) j9))))))))))
def _sI(T:Txt K mg):OkF P w K mg base 1 "_law_alike" jw3 ["_law_found","_law_due"] 2 _pW:=
 okF sc__law_alike λhr=>have nd:=sc__law_alike.nd;(jq (xk (QW.pt (_eD (_eE (Jq (j8 (_gL (vv 0) T.b_isinstance T.b_list ZV rfl)))) (_eC (_mn hr (j8 (qL (vv 0) T.b_len)) (j8 (qL (vv 1) T.b_len)))))) (kz xj)) (jq (qF (_hZ (cv 0) (cv 1) rfl T.b_zip) (Vq (is:=[2,3]) (V2 K (t:=gNs [2,3]) (n:=2) (wW (gn nd) (wW (gn nd) Vv)))) (jq (xk (QW.pt (_eD (_eE (Jq (j8 (_gL (vv 2) T.b_isinstance T.b_list ZV rfl)))) (_eC (_mn hr (vv 2) (vv 3))))) (kz xj)) (qJ (qF (wq (cv 2)) (gN nd) (qJ (xk (QW.pt (_eD (_eE (Jq (j8 (_gL (vv 4) T.b_isinstance T.b_int XX rfl)))) (_eC (Jq (j8 (_gL (vv 4) T.b_isinstance T.b_bool _c3 rfl)))))) (kz xj))))))) (kz xj)))
def _sJ(T:Txt K mg):OkF P w K mg base 1 "_law_copy" jx5 ["_law_plain"] 1 _pX:=
 okF sc__law_copy λhr=>have nd:=sc__law_copy.nd;(jq (ZX (i:=1) (o:=.rt) (k:=3) (R:=[]) ["_law_many","_law_good","_law_steps"] nd rfl (by trivial) (wq (kJ (kx (vv 0) ki))) (λ_ _ _ _ _=>(Vq (is:=[0,1,2]) (V2 K (t:=gNs [0,1,2]) (n:=3) (wW (gn (show(["_law_many","_law_good","_law_steps"]:List Str).U by decide +kernel)) (wW (gn (show(["_law_many","_law_good","_law_steps"]:List Str).U by decide +kernel)) (wW (gn (show(["_law_many","_law_good","_law_steps"]:List Str).U by decide +kernel)) Vv)))))) (λ_ _ _ _ _=>KY) (λ_ _ _ _ _=>(kK (o:=.x) (j6 (cv 0) (j6 (cv 1) (j6 (qM .rt 1 [] 3 ["_law_cases"] (wq (cv 2)) (λ_ _ _ _ _=>(K8 (_db K) _gN (vv 0) T.b_list ZV))) j9))))) z7 #[_,_,rfl,rfl] .q (show ∀j>([]:List Nat) ,j<2 by decide)) (kz (kK (o:=.x) (j6 (K8 (_db K) _gN (kx (vv 0) ki) T.b_list ZV) (j6 (cv 1) j9)))))
def _sK(T:Txt K mg)(cy:kkp P w K mg base)(cp:kzr P w K mg base)(da:kkq P w K mg base)(dg:vv1 P w K mg base)(ah:jx0 P w K mg base)(cg:kj4 P w K mg base)(bh:kj5 P w K mg base)(F:Fun K "law" "law" wk4 f fd):FnOk P w K mg base (CXE P w) 8 f fd ["_law_script"] (spF K mg 1 m_law):=
 _dv F sc_law (_fK rfl) λd8 A outer s H vs Q E hr h=>have nd:=sc_law.nd;_fM rfl
  (jq (qA nd (wK (o:=.rt) (j6 (Ww hr (j8 (oM (j8 (qC ah hr (j6 (cv 0) (j6 kI j9)))) ki)) ki) j9))) (jq (qF (zW (j8 (oM (j8 (qC ah hr (j6 (cv 0) (j6 kI j9)))) ki)) rfl T.b_range) (gN nd) (qJ (qP (Ww hr (j8 (oM (j8 (qC ah hr (j6 (cv 0) (j6 (oA ki (vv 2)) j9)))) ki)) ki)))) (jq (qA nd (qC cy hr (j6 (qC ah hr (j6 (cv 0) (j6 kI j9))) j9))) (jq (_eX (qC cp hr (j6 (cv 3) (j6 (cv 1) (j6 (oM (j8 (WZ (j8 (qC ah hr (j6 (cv 0) (j6 kI j9)))) ki)) ki) j9)))) (Vq (is:=[4,5]) (V2 K (t:=gNs [4,5]) (n:=2) (wW (gn nd) (wW (gn nd) Vv))))) (jq (xk (_mm hr (j8 (oM (j8 (WZ (j8 (qC ah hr (j6 (cv 0) (j6 kI j9)))) ki)) ki)) ki) (jq (qA nd (oA ki (j8 (K8 _dh _gM (j8 (Ww hr (j8 (oM (j8 (WZ (j8 (qC ah hr (j6 (cv 0) (j6 kI j9)))) ki)) ki)) ki)) T.b_int XX)))) (jq (qA nd (oA (kx (j8 (wK (o:=.rt) (j6 kI (j6 kI j9)))) (j8 (QK _a6 _er (vv 6) ki))) (j8 (oM (j8 (WZ (j8 (qC ah hr (j6 (cv 0) (j6 kI j9)))) ki)) ki)))) (jq (ZX (i:=1) (o:=.rt) (k:=1) (R:=[0]) ["_law_k","_law_script"] nd rfl (by trivial) (zW (vv 7) rfl T.b_range) (λ_ _ _ _ _=>(zq (gn (show(["_law_k","_law_script"]:List Str).U by decide +kernel)))) (λ_ _ _ _ _=>KY) (λ_ _ _ _ _=>(Ww hr (j8 (oM (j8 (qC ah hr (j6 (cv 1) (j6 (oA ki (vv 0)) j9)))) ki)) ki)) z7 #[_,_,rfl,rfl] .q (show ∀j>([0]:List Nat) ,j<11 by decide)) (jq (_iD (i:=1) (pv 1) ki (_eh (_fl hr.â) _fn (kx (vv 1) ki) (j8 (Ww hr (j8 (oM (j8 (WZ (j8 (qC ah hr (j6 (cv 0) (j6 kI j9)))) ki)) ki)) ki)) (K5 _))) (qJ (_eX (qC cg hr (j6 (cv 3) (j6 (cv 6) (j6 (cv 1) (j6 (oM (j8 (WZ (j8 (qC ah hr (j6 (cv 0) (j6 kI j9)))) ki)) (vv 7)) j9))))) (Vq (is:=[4,5]) (V2 K (t:=gNs [4,5]) (n:=2) (wW (gn nd) (wW (gn nd) Vv))))))))))) (jq (qA nd (qC da hr (j6 (cv 4) j9))) (jq (qA nd (qC dg hr (j6 (cv 8) j9))) (jq (xk (QW.pt (_eD (_eE (Jq (j8 (_hD bh (hr.mono .q) z7 (_hC (vv 9) (_hC (vv 5) _hB)))))) (_eC (_mn hr (vv 8) (vv 4))))) (kz xj)) (jq (_mK (i:=9) (r:=10) (_dr #[_,_,rfl,rfl]) rfl (pv 9) (gn nd) (pv 10) kI (_mn hr (j8 (_js (qL (j8 (qm .rt 1 [] 11 ["_law_other"] (wq (cv 9)) (λhN _ _ _ _ _=>(zq (gn hN))) (λ_ _ _ _ _=>(WX (xw (_f5 hr.â) _f8 ki (vv 0) (by rfl) _gX))) (λ_ _ _ _ _=>(cv 0)))) T.b_len))) ki) xj (pv 10) rfl _b3 _b9) (jq (q_pc (i:=9) (p:=[]) (_jl K (pv 9)) rfl _b9) (kz (_gf (j8 (qC bh hr (j6 (qC dg hr (j6 (cv 8) j9)) (j6 (cv 5) j9)))) (_ge (Ww hr (vv 8) (vv 4))))))))))))))) h
end
def all_mk{l:PySem.W.OpenLaw}{w:PySem.World}{K:Frag}{h:Heap}{mg:Str->Option Value}{fa:Addr}(X:K.In h)(G:h.Ns mainGlobals mg)(hfa:mg "law"=@(.J fa)){dm cu ia:Value}
  (g0:Gf K "is_small" jz7)
  (g1:Gf K "read_by" kjs)
  (g2:Gf K "keepers_in" jvz)
  (g3:Gf K "standing_in" jvf)
  (g4:Gf K "first_standings" jkm)
  (g5:Gf K "names_of" jz6)
  (g6:Gf K "held_by_both" jqu)
  (g7:Gf K "room_of" kjr)
  (g8:Gf K "pair_of" kjt)
  (g9:Gf K "read_by_both" jqr)
  (g10:Gf K "steps_from" jvx)
  (g11:Gf K "pairs_behind" jqt)
  (g12:Gf K "is_good_in" jw0)
  (g13:Gf K "agrees" kv9)
  (g14:Gf K "pair_parted_at" jkz)
  (g15:Gf K "keepers_parted" jq0)
  (g16:Gf K "mattering" jx3)
  (g17:Gf K "leading_to" jvy)
  (g18:Gf K "unlike_among" jqq)
  (g19:Gf K "parted_pairs" jqs)
  (g20:Gf K "matters" kju)
  (g21:Gf K "_law_cell_at" jqv)
  (g22:Gf K "_law_word" jx4)
  (g23:Gf K "_law_case" jx6)
  (g24:Gf K "_law_chain" jw2)
  (g25:Gf K "_law_round" jw1)
  (g26:Gf K "_law_alike" jw3)
  (g27:Gf K "_law_copy" jx5)
  (g28:Gf K "law" wk4)
  (gu:nsIn K mainGlobals "SMALL_ROOMS"=some @dm) (gy:RelV (V.E (12)) dm)
  (fq:nsIn K mainGlobals "SMALL_KEEPERS"=some @cu) (fj:RelV (V.E (3)) cu)
  (ly:nsIn K mainGlobals "NOWHERE"=some @ia) (lz:RelV (V.E (-1)) ia)
  (yf:nsIn K mainGlobals "all"=@none)
  (sk:nsIn K mainGlobals "bool"=@none)
  (sy:nsIn K mainGlobals "dict"=@none)
  (ja:nsIn K mainGlobals "enumerate"=@none)
  (vp:nsIn K mainGlobals "int"=@none)
  (ic:nsIn K mainGlobals "isinstance"=@none)
  (yg:nsIn K mainGlobals "len"=@none)
  (r9:nsIn K mainGlobals "list"=@none)
  (nv:nsIn K mainGlobals "range"=@none)
  (wb:nsIn K mainGlobals "set"=@none)
  (nh:nsIn K mainGlobals "sorted"=@none)
  (we:nsIn K mainGlobals "sum"=@none)
  (oj:nsIn K mainGlobals "tuple"=@none)
  (um:nsIn K mainGlobals "zip"=@none)
  : ∃fd:FuncData,(∀(s:Shared) (v:Value),BindsTo s fd #[[v],[]] [("_law_script",v)])/\∀base:Heap,K.In base->base.Ns mainGlobals mg->FnOk l.î w K mg base (CXE l.î w) 8 fa fd ["_law_script"] (spF K mg 1 m_law):=by
 let T:Txt K mg:=#[Yg X G yf,Yg X G sk,Yg X G sy,Yg X G ja,Yg X G vp,Yg X G ic,Yg X G yg,Yg X G r9,Yg X G nv,Yg X G wb,Yg X G nh,Yg X G we,Yg X G oj,Yg X G um,#[_,PySem.W.mg_of X G gu,gy],#[_,PySem.W.mg_of X G fq,fj],#[_,PySem.W.mg_of X G ly,lz]];show g28.law X G hfa fun {base _ _} F=>?_
 let dy:kqw l.î w K mg base:=g0.d X G (_si T  _ _);let de:kzp l.î w K mg base:=g1.d X G (_sj T  _ _);let bj:kj2 l.î w K mg base:=g2.d X G (_sk T  _ _);let bd:jz0 l.î w K mg base:=g3.d X G (_sl T  _ _);let b8:=g4.d X G (_sm T bj bd _ _);let ax:jzu l.î w K mg base:=g5.d X G (_sn T  _ _);let bq:=g6.d X G (_so T ax _ _);let df:kzo l.î w K mg base:=g7.d X G (_sp T  _ _);let fc:=g8.d X G (_sq T ax df _ _);let br:=g9.d X G (_sr T de _ _);let ci:=g10.d X G (_ss T b8 bq fc br _ _);let bo:=g11.d X G (_st T ci _ _);let bi:kj3 l.î w K mg base:=g12.d X G (_su T  _ _);let gb:=g13.d X G (_sv T bi _ _);let ao:jq1 l.î w K mg base:=g14.d X G (_sw T  _ _);let ba:=g15.d X G (_sx T ao _ _);let db:=g16.d X G (_sy T ba _ _);let cj:=g17.d X G (_sz T bo _ _);let bp:=g18.d X G (_sA T cj gb _ _);let bn:=g19.d X G (_sB T ao _ _);let dg:=g20.d X G (_sC T db dy bp bn _ _);let ah:jx0 l.î w K mg base:=g21.d X G (_sD T  _ _);let cy:kkp l.î w K mg base:=g22.d X G (_sE T  _ _);let bz:kkr l.î w K mg base:=g23.d X G (_sF T  _ _);let cp:=g24.d X G (_sG T bz _ _);let cg:kj4 l.î w K mg base:=g25.d X G (_sH T  _ _);let bh:kj5 l.î w K mg base:=g26.d X G (_sI T  _ _);let da:kkq l.î w K mg base:=g27.d X G (_sJ T  _ _);show _sK T cy cp da dg ah cg bh F
end Nk50
namespace PySem.W.Fast
def tw10437707015727431808:True:=#[]
def tw10802817039512481009:True:=#[]
def tw11175292715840564067:True:=#[]
def tw11218028025515918722:True:=#[]
def tw11274488550057350292:True:=#[]
def tw11349604342701213232:True:=#[]
def tw11509929214838574774:True:=#[]
def tw11590960983433077097:True:=#[]
def tw11612664706552850359:True:=#[]
def tw11662227816092090561:True:=#[]
def tw11740991630662036152:True:=#[]
def tw12028595706987710081:True:=#[]
def tw12033195854078454626:True:=#[]
def tw12189201997806618026:True:=#[]
def tw12235325305445388167:True:=#[]
def tw12282474011603785529:True:=#[]
def tw12321846835506733635:True:=#[]
def tw12582389464193390372:True:=#[]
def tw1266318205771650629:True:=#[]
def tw12813756857322825928:True:=#[]
def tw12934297312374260991:True:=#[]
def tw12974557850310840883:True:=#[]
def tw13101850222359499709:True:=#[]
def tw13218631675082988306:True:=#[]
def tw13642189396028807266:True:=#[]
def tw13692761577668798079:True:=#[]
def tw13770130782802533479:True:=#[]
def tw13858438542520738542:True:=#[]
def tw14082104109871050464:True:=#[]
def tw14126676389352005961:True:=#[]
def tw14201491924733465379:True:=#[]
def tw14267469390037634317:True:=#[]
def tw14315346506627165463:True:=#[]
def tw14389737613548426970:True:=#[]
def tw14551344908100497433:True:=#[]
def tw14873243396858461849:True:=#[]
def tw14906289477741068431:True:=#[]
def tw14920463501442362673:True:=#[]
def tw14927718120020072024:True:=#[]
def tw15000525719324346765:True:=#[]
def tw15262510992828364916:True:=#[]
def tw1543578433063104602:True:=#[]
def tw1547163172788235989:True:=#[]
def tw15651902117812956315:True:=#[]
def tw15672109849729238649:True:=#[]
def tw15852544011064280809:True:=#[]
def tw15869237395470668404:True:=#[]
def tw15957286775025275046:True:=#[]
def tw16118980364717720089:True:=#[]
def tw16119919567747723844:True:=#[]
def tw16198691727630799098:True:=#[]
def tw16322281432883197775:True:=#[]
def tw16464078109581943192:True:=#[]
def tw16709535900344688265:True:=#[]
def tw16765709136045579964:True:=#[]
def tw1676920291109898404:True:=#[]
def tw17107163834185680948:True:=#[]
def tw17176432669712999710:True:=#[]
def tw17303856571868674470:True:=#[]
def tw17310143123349050773:True:=#[]
def tw17374622615590298739:True:=#[]
def tw176465811220611664:True:=#[]
def tw17780091263964029001:True:=#[]
def tw17862636208551153945:True:=#[]
def tw17921456756322546277:True:=#[]
def tw18022766264086161076:True:=#[]
def tw18086883326432615461:True:=#[]
def tw18212797897446860085:True:=#[]
def tw18374815476362094544:True:=#[]
def tw18410768945402795810:True:=#[]
def tw1892592657229197840:True:=#[]
def tw1930018030945348411:True:=#[]
def tw2064066236247350586:True:=#[]
def tw21576616882772185:True:=#[]
def tw2246743234188221265:True:=#[]
def tw2493274226884477785:True:=#[]
def tw251405801099033924:True:=#[]
def tw2640835206448084870:True:=#[]
def tw3072450593796217249:True:=#[]
def tw3079529326382345120:True:=#[]
def tw343466087310408806:True:=#[]
def tw3570646334658052636:True:=#[]
def tw3682934669858908986:True:=#[]
def tw3724872275578085552:True:=#[]
def tw3788654497905199181:True:=#[]
def tw3832197936551926409:True:=#[]
def tw4038620376839297068:True:=#[]
def tw4065359766778916627:True:=#[]
def tw4320811624397586497:True:=#[]
def tw4352486029037819439:True:=#[]
def tw4593622878963927092:True:=#[]
def tw472128617098490818:True:=#[]
def tw5108772427591693199:True:=#[]
def tw5148462126598614123:True:=#[]
def tw5311712207627975089:True:=#[]
def tw5497659225674368395:True:=#[]
def tw5551104780881359948:True:=#[]
def tw5682959928132609698:True:=#[]
def tw5747876165297252776:True:=#[]
def tw5759191365471257469:True:=#[]
def tw5840909837859622610:True:=#[]
def tw5899971260197147611:True:=#[]
def tw6050522224119595153:True:=#[]
def tw6147860129963103944:True:=#[]
def tw6198300013683851077:True:=#[]
def tw6220102725900603627:True:=#[]
def tw6261861968055479554:True:=#[]
def tw6298532698164394159:True:=#[]
def tw6321046558618193267:True:=#[]
def tw6326459422504988042:True:=#[]
def tw6513918342542662831:True:=#[]
def tw676066750684878847:True:=#[]
def tw6883508558959994212:True:=#[]
def tw6890944397466710341:True:=#[]
def tw7018693097870893434:True:=#[]
def tw7744681275197287624:True:=#[]
def tw7997292107740787319:True:=#[]
def tw8165057163055752868:True:=#[]
def tw8522093112889766726:True:=#[]
def tw8527379211503995884:True:=#[]
def tw8615009238687436404:True:=#[]
def tw8660218969681579111:True:=#[]
def tw8695802038514341050:True:=#[]
def tw8786754704854921400:True:=#[]
def tw8798506092032016347:True:=#[]
def tw8971895777004582923:True:=#[]
def tw9152230853965589311:True:=#[]
def tw9181914226083662398:True:=#[]
def tw9279813640063372219:True:=#[]
def tw9400630740760082010:True:=#[]
def tw9404839600155533783:True:=#[]
def tw9523701987575605883:True:=#[]
def tw9528596004347973566:True:=#[]
def tw956588495529296188:True:=#[]
def tw9600271813765259873:True:=#[]
def tw9832988723758604334:True:=#[]
def tw9855736807749943525:True:=#[]
def tw986777402959231223:True:=#[]
def tw9962388354214559024:True:=#[]
end PySem.W.Fast
open PySem PySem.W PyProof.Rows
set_option maxRecDepth 100000 in
set_option maxHeartbeats 0 in
#where in
theorem PySem.Challenge.cw_freshrooms_k50_keepers_of_a_chain_holds : PySem.Challenge.rw_freshrooms_k50_keepers_of_a_chain.Holds := by
 w_on;o_law;k_head;(case hw=>w_witness2)
 k_fill
 refine Q.walkQ (l:=PySem.Challenge.rw_freshrooms_k50_keepers_of_a_chain) (n:=63) (k:=8) (x:="_law_script") (f:=Nk50.m_law) rfl ⋯ rfl #[rfl,⋯,⋯,rfl] (fun w h Y=>PySem.W.kIn_of Y) ?F Nk50.law_true
 case F =>
  intro w mg fa h KX G hmg
  refine' Nk50.all_mk KX G hmg ?_ ?_ ?_ ?_ ?_ ?_ ?_ ?_ ?_ ?_ ?_ ?_ ?_ ?_ ?_ ?_ ?_ ?_ ?_ ?_ ?_ ?_ ?_ ?_ ?_ ?_ ?_ ?_ ?_ ?y0 ?y1 ?y2 ?y3 ?y4 ?y5 ?y6 ?y7 ?y8 ?y9 ?y10 ?y11 ?y12 ?y13 ?y14 ?y15 ?y16 ?y17 ?y18 ?y19
  all_goals try (refine' Q.Gf.mk ?a ?b ?c ?d;(case a=>k_is);(case b=>k_is);(case c=>k_is);(case d=>k_is))
  case y0 | y2 | y4 | y6 | y7 | y8 | y9 | y10 | y11 | y12 | y13 | y14 | y15 | y16 | y17 | y18 | y19=>k_is
  case y1 | y3 | y5=>exact #[_,rfl]
