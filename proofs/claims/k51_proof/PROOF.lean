import PyProof.Rows.All
import Wide.All
import OpenK.AllK
import Wide.FinOn
import Lean
import PySem.Challenge.RW_freshrooms_k51_matters_by_parting
open PySem.W(Frag kitOne nsIn findIn)
set_option Elab.async false
set_option linter.all false
set_option bootstrap.genMatcherCode false
set_option compiler.extract_closed false
set_option maxRecDepth 100000
set_option tactic.hygienic false
section open Lean(Syntax)
def kC9(s:String)(c:Array Syntax):Syntax:=.node .none ("Lean.Parser."++s).toName c
def kB9(c:Array Syntax):Syntax:=.node .none (.mkSimple "null") c
def kE9(f:Syntax->Syntax)(s:Syntax):Syntax:=s.rewriteBottomUp f
def kA9(s:String):Syntax:=.atom .none s
def kF9(a:Array Syntax):Syntax:=kC9 "Tactic.rcasesPatLo" #[kC9 "Tactic.rcasesPatMed" #[kB9 a],kB9 #[]]
def kG9(s:Syntax):Syntax:=match s with
 |.ident ..=>kC9 "Tactic.rcasesPat.one" #[s]
 |.node _ t c=>match t.toString (escape:=false) with
  |"Lean.Parser.Term.hole"=>kC9 "Tactic.rcasesPat.ignore" c|"Lean.Parser.Term.paren"=>c[1]!
  |"term_∨_"=>kC9 "Tactic.rcasesPat.paren" #[kA9 "(",kF9 #[c[0]!,kA9 "|",c[2]!],kA9 ")"]
  |"term#[_,]"=>kC9 "Tactic.rcasesPat.tuple" #[kA9 "⟨",kB9 (c[1]!.getArgs.map fun(x:Syntax)=>if x.isAtom then x else kF9 #[x]),kA9 "⟩"]|_=>s
 |_=>s
def kH9(s:Syntax):Syntax:=
 let W:=("B C E G H I J L M O R S U V X Y Z h l p r s u x y ß à á â ã ä å æ ç è é ê ë ì í î ï ð ñ ò ó ô õ ö ø ù ú û ü ý þ ÿ".splitOn " ").zip ("length map int toArray heap ref trans size toNat inl toList lst lookup Nodup tup env map_cons inr type getD no mpr builtin str units replicate symm Perm and_eq_true none range mem_range cons set elim Name mem_iff own findIdx push prog place names Pairwise refl non mask handled filter nodup_cons Call scope isEmpty RcNeAt drop setIfInBounds set_cons_succ".splitOn " ")
 match s with|.ident _ r v p=>.ident .none r (v.components.foldl (fun x y=>match y with|.str _ s=>.str x ((W.lookup s).getD s)|_=>x++y) .anonymous) p|_=>s
def kI9(s:Syntax):Syntax:=match s with
 |.ident _ r v p=>.ident .none r (match v.components with|a::b=>a++(kH9 (.ident .none r (b.foldl (·++·) .anonymous) p)).getId|_=>v) p
 |.node _ t c=>match t.toString (escape:=false) with
  |"Lean.Parser.Term.proj"=>.node .none t (c.modify 2 kH9)
  |"Lean.Parser.Tactic.show"=>kC9 "Tactic.refine" #[kA9 "refine",c[1]!]
  |"Lean.Parser.Tactic.tacticLet__"=>
   let r:=c[2]![0]
   if r.getKind==`Lean.Parser.Term.letPatDecl then kC9 "Tactic.obtain" #[kA9 "obtain",kB9 #[kC9 "Tactic.rcasesPatMed" #[kB9 #[kE9 kG9 r[0]]]],kB9 #[],kB9 #[kA9 ":=",kB9 #[r[4]]]] else kC9 "Tactic.tacticHave__" #[kA9 "have",c[1]!,c[2]!]
  |"Lean.Elab.Tactic.Ext.ext"=>kC9 "Tactic.unfold" #[kA9 "unfold",kB9 (c[1]!.getArgs.map (·[0][0])),kB9 #[]]
  |"term_>_"=>.node .none (.mkSimple "term_∈_") c
  |"Lean.binderPred>_"=>.node .none (.str `Lean "binderPred∈_") c
  |"Lean.Parser.Term.explicit"=>if c[1]!.getKind==`Lean.Parser.Term.app&&c[1]![0].getId.hasMacroScopes then .node .none t #[c[0]!,c[1]![1][0]] else kC9 "Term.app" #[Lean.mkCIdent `Option.some,kB9 #[c[1]!]]
  |"Lean.Parser.Term.dotIdent"=>if c[1]!.getId==`q then kC9 "Term.omission" #[kA9 "⋯"] else .node .none t (c.modify 1 kH9)
  |"Lean.Parser.Tactic.symm"=>kC9 "Tactic.simpAll" #[kA9 "simp_all",kC9 "Tactic.optConfig" #[kB9 #[]],kB9 #[],kB9 #[],kB9 #[]]
  |"Lean.Parser.Tactic.right"=>kC9 "Tactic.dsimp" #[kA9 "dsimp",kC9 "Tactic.optConfig" #[kB9 #[]],kB9 #[],kB9 #[kA9 "only"],kB9 #[],kB9 #[]]
  |"Lean.Parser.Tactic.revert"=>kC9 "Tactic.renameI" #[kA9 "rename_i",kB9 (c[1]!.getArgs.map fun x=>.node .none `Lean.binderIdent #[x])]
  |"Lean.Parser.Tactic.dsimp"=>if c[3]!.getNumArgs==0&&c[4]!.getNumArgs>0 then kC9 "Tactic.simp" #[kA9 "simp",c[1]!,c[2]!,kB9 #[kA9 "only"],c[4]!,c[5]!] else .node .none t c
  |_=>.node .none t c
 |_=>s.setInfo .none
def kD9(d:Syntax):Syntax:=
 let k:=d[1].getKind.toString
 if k=="Lean.Parser.Command.theorem" then kE9 (·.setInfo .none) d else
 let e:=kE9 kI9 d
 if d[0].getPos?.isSome then e else
 let f:=fun _:Unit=>e.setArg 0 (e[0].setArg 4 (kB9 #[kC9 "Command.noncomputable" #[kA9 "noncomputable"]]))
 if k=="Lean.Parser.Command.abbrev" then f () else if k != "Lean.Parser.Command.definition" then e else
 let a:=d[1][2][1][0]
 if a.isMissing||("Bool Int Prop V Hp List Heap Option TIp LA9 R2 St Cx Arguments Scope CXT Ex Own Nat String Ts Sm En Fn Type HO Sl TE TS TI TG TGs HeapKind TA Sp D Probe Obj Sn Stmt Decidable".splitOn " ").contains (((a[1].reprint.getD "").splitOn "->").getLast!.trim.splitOn " ").head! then f () else
 let s:=e[1][2]
 kC9 "Command.declaration" #[e[0],kC9 "Command.theorem" #[kA9 "theorem",e[1][1],kC9 "Command.declSig" #[s[0],s[1][0]],e[1][3]]]
end
local macro_rules|`(#[$a,*])=>`(⟨$a,*⟩)
local macro_rules|`(⋯)=>`(by first|decide|lia)
local macro_rules|`(tactic|ac_rfl)=>`(tactic|with_unfolding_all rfl)
local macro_rules|`(tactic|exists$e)=>`(tactic|with_unfolding_all exact$e)
local macro_rules|`($a<|>$b)=>`(autoParam $a $b)
local macro_rules|`(~~~$e)=>`(by simpa using$e)
local macro_rules|`(⇑$e)=>`(some $e)
local macro_rules|`(↥$s)=>`(($s).heap.objs.size)
local macro_rules|`(%[$a,*|0])=>`(List.toArray [$a,*])
set_option hygiene false in
local macro_rules|`(∅)=>`(_root_.PySem.wpAny (model X.prog X.w) X.A)
local macro_rules|`(#where)=>`(set_option tactic.hygienic true)
local macro_rules|`($d:declaration)=>match d.1.getHeadInfo with
 |.original ..=>pure (kD9 d.1)
 |.synthetic ..=>pure (kE9 (·.setInfo .none) d.1)
 |_=>throw .unsupportedSyntax
noncomputable section
abbrev VP9:=PySem.Value->PySem.Shared->Prop
abbrev LA9:=List (PySem.Addr×PySem.Obj)
abbrev Kq9(k:List Int):=∀p>k,0<=p/\p<=3
def aA{α}{a:α}{s t:List α}:a>s++t->a>s∨a>t:=List.mem_append.mp
def aB{α}{a b:α}:a=b->a>[b]:=List.mem_singleton.s
def aC{α}{a b:α}:a>[b]->a=b:=List.mem_singleton.mp
def aD{α}{a b:α}{l:List α}:a>b::l->a=b∨a>l:=List.mem_cons.mp
def aF{α}{a:α}{l:List α}{i:Nat}:l[i]?=some a->∃h:i<l.B,l[i]=a:=List.getElem?_eq_some_iff.mp
def aE{α β}{f:α->β}{l:List α}{b:β}:b>l.C f->∃a,a>l∧f a=b:=List.mem_map.mp
local macro_rules|`(tactic|trivial)=>`(tactic|first|exact Or.inl rfl|exact Or.inr rfl)
def Ŕq(_:True:=by rfl):True:=trivial
def Ŕq.z:True:=trivial
open Ŕq renaming _auto_1→Ŕ
def ŕq(_:True:=by decide):True:=trivial
def ŕq.z:True:=trivial
open ŕq renaming _auto_1→ŕ
def Ŗq(_:True:=by intro _;rfl):True:=trivial
def Ŗq.z:True:=trivial
open Ŗq renaming _auto_1→Ŗ
def ŗq(_:True:=by decide +kernel):True:=trivial
def ŗq.z:True:=trivial
open ŗq renaming _auto_1→ŗ
def Řq(_:True:=by first|show .O rfl|show .h rfl|assumption):True:=trivial
def Řq.z:True:=trivial
open Řq renaming _auto_1→Ř
def řq(_:True:=by first|show Or.O rfl|show Or.h (Or.O rfl)|show Or.h (Or.h rfl)):True:=trivial
def řq.z:True:=trivial
open řq renaming _auto_1→ř
def Śq(_:True:=by trivial):True:=trivial
def Śq.z:True:=trivial
open Śq renaming _auto_1→Ś
def śq(_:True:=by first|show .O rfl|show .h rfl):True:=trivial
def śq.z:True:=trivial
open śq renaming _auto_1→ś
def _aa{α : Type _}{a b : α}(h:@a=@b):a=b:=Option.some.inj h
def _ab{α : Type _}{a : α}{b : List α}(c : List α)(h:a > b):a > c ++ b:=List.mem_append_right c h
def _ac{α : Type _}{a : α}{b : List α}(c : List α)(h:a > b):a > b ++ c:=List.mem_append_left c h
def _ad{α : Type _}{a : α}{l : List α}(b : α)(h:a > l):a > b::l:=List.mem_cons_of_mem b h
namespace _a
open PySem PySem.Spec PyProof.Rows
def X0:type_of% @@wpAny_bind:=@@wpAny_bind
def X1:type_of% @@List.getElem?_eq_getElem:=@@List.getElem?_eq_getElem
def X2:type_of% @@Heap.get?_push_of_some:=@@Heap.get?_push_of_some
def X3:type_of% @@List.mem_cons_self:=@@List.mem_cons_self
def X4:type_of% @@wpAny_pure:=@@wpAny_pure
def X5:type_of% @@List.length_map:=@@List.length_map
def X6:type_of% @@List.getD_eq_getElem?_getD:=@@List.getD_eq_getElem?_getD
def X7:type_of% @@if_pos:=@@if_pos
def X8:type_of% @@decide_eq_true:=@@decide_eq_true
def X9:type_of% @@Heap.get?_push_size:=@@Heap.get?_push_size
def Xa:type_of% @@List.nodup_append:=@@List.nodup_append
def Xb:type_of% @@Nat.le_refl:=@@Nat.le_refl
def Xd:type_of% @@if_neg:=@@if_neg
def Xe:type_of% @@List.size_toArray:=@@List.size_toArray
def Xf:type_of% @@List.getElem?_map:=@@List.getElem?_map
def Xg:type_of% @@List.map_append:=@@List.map_append
def Xh:type_of% @@Heap.lt_size:=@@Heap.lt_size
def Xi:type_of% @@List.length_append:=@@List.length_append
def Xj:type_of% @@decide_eq_false:=@@decide_eq_false
def Xk:type_of% @@Array.length_toList:=@@Array.length_toList
def Xl:type_of% @@Nat.ne_of_lt:=@@Nat.ne_of_lt
def Xm:type_of% @@List.getElem_mem:=@@List.getElem_mem
def Xn:type_of% @@List.length_cons:=@@List.length_cons
def Xp:type_of% @@List.map_map:=@@List.map_map
noncomputable def Xq:type_of% @@Array.getElem?_eq_getElem:=@@Array.getElem?_eq_getElem
def Xr:type_of% @@Array.getElem?_toList:=@@Array.getElem?_toList
def Xs:type_of% @@Nat.lt_of_lt_of_le:=@@Nat.lt_of_lt_of_le
def Xu:type_of% @@Int.toNat_natCast:=@@Int.toNat_natCast
def Xv:type_of% @@List.length_singleton:=@@List.length_singleton
def Xw:type_of% @@List.getElem?_append_left:=@@List.getElem?_append_left
def Xx:type_of% @@List.append_nil:=@@List.append_nil
def Xy:type_of% @@List.nodup_nil:=@@List.nodup_nil
def Xz:type_of% @@List.length_range:=@@List.length_range
def Y0:type_of% @@PyProof.Rows.callWith_type1:=@@PyProof.Rows.callWith_type1
def Y1:type_of% @@List.map_congr_left:=@@List.map_congr_left
def Y2:type_of% @@List.mem_of_getElem?:=@@List.mem_of_getElem?
def Y3:type_of% @@List.append_assoc:=@@List.append_assoc
def Y4:type_of% @@of_decide_eq_true:=@@of_decide_eq_true
def Y5:type_of% @@List.getElem?_eq_none:=@@List.getElem?_eq_none
def Y6:type_of% @@PySem.W.mg_none_of:=@@PySem.W.mg_none_of
def Y7:type_of% @@Heap.SameBut.update:=@@Heap.SameBut.update
def Y8:type_of% @@wpAny_call_entry:=@@wpAny_call_entry
def Y9:type_of% @@Nat.zero_le:=@@Nat.zero_le
def Ya:type_of% @@wpAny_newObj_type:=@@wpAny_newObj_type
def Yb:type_of% @@List.all_eq_true:=@@List.all_eq_true
def Yc:type_of% @@List.mem_map_of_mem:=@@List.mem_map_of_mem
def Yd:type_of% @@wpAny_holding:=@@wpAny_holding
def Ye:type_of% @@Heap.get?_update_self:=@@Heap.get?_update_self
def Yf:type_of% @@List.filter_append:=@@List.filter_append
def Yg:type_of% @@List.getElem_of_mem:=@@List.getElem_of_mem
def Yh:type_of% @@List.ø:=@@List.ø
def Yi:type_of% @@PySem.W.kia_one:=@@PySem.W.kia_one
def Yj:type_of% @@beq_false_of_ne:=@@beq_false_of_ne
def Yk:type_of% @@List.getElem?_append_right:=@@List.getElem?_append_right
def Yl:type_of% @@wpAny_callSpecial?_slot:=@@wpAny_callSpecial?_slot
def Ym:type_of% @@List.filter_cons_of_pos:=@@List.filter_cons_of_pos
def Yn:type_of% @@wpAny_setState_of:=@@wpAny_setState_of
def Yo:type_of% @@Heap.get?_none_of_le:=@@Heap.get?_none_of_le
def Yp:type_of% @@wpAny_Call_Name_kw:=@@wpAny_Call_Name_kw
noncomputable def Yq:type_of% @@wpAny_setField:=@@wpAny_setField
def Yr:type_of% @@codeAny_builtin:=@@codeAny_builtin
def Ys:type_of% @@List.filter_cons_of_neg:=@@List.filter_cons_of_neg
def Yt:type_of% @@Nat.lt_irrefl:=@@Nat.lt_irrefl
def Yu:type_of% @@List.foldl_cons:=@@List.foldl_cons
def Yv:type_of% @@List.not_mem_nil:=@@List.not_mem_nil
def Yw:type_of% @@Nat.le_trans:=@@Nat.le_trans
def Yx:type_of% @@wpAny_specialOf:=@@wpAny_specialOf
def Yy:type_of% @@Obj.data_mapFields:=@@Obj.data_mapFields
def Yz:type_of% @@Int.emod_lt_of_pos:=@@Int.emod_lt_of_pos
def Z0:type_of% @@sizeLine_eq:=@@sizeLine_eq
def Z1:type_of% @@List.length_take:=@@List.length_take
def Z2:type_of% @@List.Sublist.ò:=@@List.Sublist.ò
def Z3:type_of% @@Nat.lt_succ_of_lt:=@@Nat.lt_succ_of_lt
def Z4:type_of% @@List.find?_cons_of_neg:=@@List.find?_cons_of_neg
def Z5:type_of% @@List.findIdx_lt_length_of_exists:=@@List.findIdx_lt_length_of_exists
def Z6:type_of% @@PySem.mem_of_lookup:=@@PySem.mem_of_lookup
def Z7:type_of% @@List.getElem?_range:=@@List.getElem?_range
def Z8:type_of% @@List.drop_eq_getElem_cons:=@@List.drop_eq_getElem_cons
def Z9:type_of% @@Obj.isFreed_of_fields:=@@Obj.isFreed_of_fields
def Za:type_of% @@plainId_quiet:=@@plainId_quiet
def Zb:type_of% @@List.getElem?_set_ne:=@@List.getElem?_set_ne
def Zc:type_of% @@wpAny_seqItems:=@@wpAny_seqItems
def Zd:type_of% @@wpAny_typeNameOfWhole_keyiter:=@@wpAny_typeNameOfWhole_keyiter
def Ze:type_of% @@Around.under_plainId:=@@Around.under_plainId
def Zf:type_of% @@wpAny_pyIter_list:=@@wpAny_pyIter_list
def Zg:type_of% @@List.ext_getElem?:=@@List.ext_getElem?
def Zh:type_of% @@PySem.F.plainAttrs_list:=@@PySem.F.plainAttrs_list
def Zi:type_of% @@Int.eq_ofNat_of_zero_le:=@@Int.eq_ofNat_of_zero_le
def Zj:type_of% @@List.filter_congr:=@@List.filter_congr
def Zk:type_of% @@Int.emod_nonneg:=@@Int.emod_nonneg
def Zl:type_of% @@Heap.get?_update_ne:=@@Heap.get?_update_ne
def Zm:type_of% @@Heap.get?_update_other:=@@Heap.get?_update_other
def Zn:type_of% @@wpAny_isInstance:=@@wpAny_isInstance
def Zo:type_of% @@Heap.size_push:=@@Heap.size_push
def Zp:type_of% @@wpAny_rule:=@@wpAny_rule
noncomputable def Zq:type_of% @@wpAny_fieldsOf:=@@wpAny_fieldsOf
def Zr:type_of% @@List.map_inj_right:=@@List.map_inj_right
def Zs:type_of% @@List.length_replicate:=@@List.length_replicate
def Zt:type_of% @@wpAny_passesOwn:=@@wpAny_passesOwn
def Zu:type_of% @@wpAny_truthy_bool:=@@wpAny_truthy_bool
def Zv:type_of% @@Nat.ne_of_gt:=@@Nat.ne_of_gt
def Zw:type_of% @@wpAny_field:=@@wpAny_field
def Zx:type_of% @@Nat.succ.inj:=@@Nat.succ.inj
def Zy:type_of% @@List.mem_cons:=@@List.mem_cons
def Zz:type_of% @@wpAny_forIn_list:=@@wpAny_forIn_list
def J0:type_of% @@Nat.lt_succ_self:=@@Nat.lt_succ_self
def J1:type_of% @@Subtype.ext:=@@Subtype.ext
def J3:type_of% @@Nat.le_of_lt:=@@Nat.le_of_lt
def J4:type_of% @@True.intro:=@@True.intro
def J5:type_of% @@Nat.lt_trans:=@@Nat.lt_trans
def J6:type_of% @@wpAny_typeOf:=@@wpAny_typeOf
end _a
open _a
noncomputable section
namespace L2
open PySem PySem.Spec PyProof.Rows
abbrev Key:=Sum Int Str
def YZ:Key->Value->Bool
 |.O k,v=>Value.isInt k v|.h x,v=>Value.isStrOf x v
def keyH(w:World):Key->Int
 |.O k=>hashInt k|.h x=>hashStr w x
def Qj:∀{k v},YZ k v=true->(∃i t,k=Sum.O i/\v=Value.E i t)\/(∃x t,k=Sum.h x/\v=Value.x x t)
 |.O i,v,h=>by
  let#[t,e]:=Value.isInt_shape h;show .O #[i,t,rfl,e]
 |.h x,v,h=>by
  let#[t,e]:=Value.isStrOf_shape h;show .h #[x,t,rfl,e]
def _ae i t:YZ (.O i) (.E i t)=true:=by simp[YZ,Value.isInt]
def _af x t:YZ (.h x) (.x x t)=true:=by simp[YZ,Value.isStrOf]
def _ag(a b):decide ((Sum.O a:Key)=Sum.O b)=(a==b):=by
 by_cases e:a=b
 .subst e;simp
 .grind
def _ah(a b):decide ((Sum.h a:Key)=Sum.h b)=decide (a=b):=by
 by_cases e:a=b
 .subst e;simp
 .grind
def _ai a b:decide ((Sum.O a:Key)=Sum.h b)=false:=Xj (nofun)
def _aj a b:decide ((Sum.h a:Key)=Sum.O b)=false:=Xj (nofun)
noncomputable def zZ(prog:Program)(w:World):PySem.KeyKind prog w Key where
 is:=YZ
 hash:=keyH w
 inj:=λv a b ha hb=>by
  let#[i,t,rfl,rfl]\/#[x,t,rfl,rfl]:=Qj ha
  .let#[j,u,rfl,e]\/#[y,u,rfl,e]:=Qj hb
   .injection e with e1 _;rw[e1]
   .show nomatch e
  .let#[j,u,rfl,e]\/#[y,u,rfl,e]:=Qj hb
   .show nomatch e
   .injection e with e1 _;rw[e1]
 byValue:=λk v h=>by
  let#[i,t,rfl,rfl]\/#[x,t,rfl,rfl]:=Qj h<;>rfl
 pyHash:=λhv h=>by
  let#[i,t,rfl,rfl]\/#[x,t,rfl,rfl]:=Qj hv
  .show wpAny_pyHash_int h
  .show wpAny_pyHash_str h
 eqBool:=λhu hv h=>by
  let#[i,t,rfl,rfl]\/#[x,t,rfl,rfl]:=Qj hu
  .let#[j,u,rfl,rfl]\/#[y,u,rfl,rfl]:=Qj hv
   .rw[_ag]at h;show wpAny_eqBool_int h
   .rw[_ai]at h;show SeqAt.EqAt.int_str i t y u _ _ _ _ h
  .let#[j,u,rfl,rfl]\/#[y,u,rfl,rfl]:=Qj hv
   .rw[_aj]at h;show SeqAt.EqAt.str_int x t j u _ _ _ _ h
   .rw[_ah]at h;show wpAny_eqBool_str h
 «strs»:=λk x t v h=>by
  let#[i,u,rfl,e]\/#[y,u,rfl,e]:=Qj h
  .show nomatch e
  .injection e with e1 _;subst e1;cases v<;>rfl
def _ak prog w i t:(zZ prog w).is (.O i) (.E i t)=true:=_ae i t
def _al prog w x t:(zZ prog w).is (.h x) (.x x t)=true:=_af x t
inductive V where
 |non|bl (b:Bool)|int (i:Int)|str (x:Str)|byt (b:Array UInt8)|flt (b:UInt64)|ref (a:Addr)|ty (n:String)
 deriving DecidableEq
def RelV:V->Value->Prop
 |.ó,u=>u=Value.ã|.bl b,u=>u=Value.bool b|.E i,u=>∃t,u=Value.E i t|.x x,u=>∃t,u=Value.x x t|.byt b,u=>∃t,u=Value.bytes b t|.flt b,u=>∃t,u=Value.float b t|.I a,u=>u=Value.I a|.ty n,u=>u=Value.l n
abbrev Vals:List V->List Value->Prop:=Paired RelV
def Vals.B{xs us}(r:Vals xs us):xs.B=us.B:=Paired.B r
def Vals.get:∀{xs us} {i:Nat} {x},Vals xs us->xs[i]?=@x->∃u,us[i]?=@u/\RelV x u
 |_,_,_,_,.nil,e=>by simp at e|_,_,0,_,.æ r _,e=>by simp at e;subst e;show#[_,rfl,r]
 |_,_,i+1,x,.æ _ t,e=>by
  let#[u,h1,h2]:=Vals.get t (~~~e);show#[u,~~~h1,h2]
def Vals.ç{x u}(r:RelV x u):∀{xs us} (i),Vals xs us->Vals (xs.ç i x) (us.ç i u)
 |_,_,_,.nil=>.nil|_,_,0,.æ _ t=>.æ r t|_,_,i+1,.æ q t=>.æ q (Vals.ç r i t)
def Vals.append:∀{xs ys us ws},Vals xs us->Vals ys ws->Vals (xs++ys) (us++ws)
 |_,_,_,_,.nil,s=>s|_,_,_,_,.æ r t,s=>.æ r (Vals.append t s)
def RelO:Option V->Option Value->Prop
 |some v,@u=>RelV v u|none,none=>True|_,_=>False
def KV{κ:Type}:List (κ×V)->List (κ×Value)->Prop:=Paired λ(p:κ×V) (q:κ×Value)=>p.1=q.1/\RelV p.2 q.2
def kV:Key->V
 |.O i=>.E i|.h x=>.x x
inductive HO where
 |lst (xs:List V)
 |tup (xs:List V)
 |dK (kvs:List (Key×V))|dT (kvs:List (List Key×V))
 |set (S:Int->Bool) (n:Nat)
 |ins (C dx:Addr) (fs:List (Str×V))
 |own (x:Addr)
 |xd (fs:List (Str×V))
 |met (f x:Addr)
 |rng (lo hi:Int)
 |frz (o:Obj) (u:HO)
 |tbl (ps:Array Value)
 |ext (φ:World->Heap->Prop)
abbrev Hp:=Addr->Option HO
def IsTupD(h:Heap)(a:Addr)(items:Array Value):Prop:=∃o,h.get? a=@o/\o.cls=.l "tuple"/\o.dict=none/\∃n,o.data=.seq items n
def IsTupD.X{h a items}(p:IsTupD h a items):IsTup h a items:=by
 let#[o,e,c,_,n,d]:=p;show⟨o,e,c,n,d⟩
def IsTupD.new(h:Heap) xs:IsTupD (h.í {cls:=.l "tuple",data:=.seq xs}) h.objs.L xs:=⟨_,X9 _ rfl,rfl,rfl,0,rfl⟩
def upd(H:Hp)(a:Addr)(o:HO):Hp:=λb=>if b=a then @o else H b
def vQ{H a o}:upd H a o a=@o:=by ext upd;rw[X7 rfl]
def qk{H a b o}(h:b≠a):upd H a o b=H b:=by ext upd;rw[Xd h]
def JX{H:Hp}{a b o}(h:H a=@o)(h':H b=none):a≠b:=by
 grind
section
variable (P:Program)(w:World)
def ObjOk(H : Hp)(h : Heap)(a : Addr): HO -> Prop
  |.S xs=>xs.B<=sizeLine /\ ∃(aa : List Value) (n : Nat),Vals xs aa /\ h.get? a = some {cls:= .l "list",data:= .seq aa.G n}|.X xs=>xs.B<=sizeLine /\ ∃aa : List Value,Vals xs aa /\ IsTupD h a aa.G|.dK kvs=>kvs.B<=sizeLine /\ (a==sysModules) = false /\ ∃vs,KV kvs vs /\ h.DictOf (zZ P w) a vs
  |.dT kvs=>kvs.B<=sizeLine /\ (a==sysModules) = false /\ ∃xs : List (List Key × Addr × Value),
      Paired (λ(p : List Key × V) (q : List Key × Addr × Value)=>p.1 = q.1 /\ H q.2.1 = @(.X (p.1.C kV)) /\ RelV p.2 q.2.2) kvs xs /\
      ∃o es ep,h.get? a = @o /\ o.ExactDict /\ o.data = .dict es ep /\ es.R = xs.C (entryOfKey (tupleKind (zZ P w))) /\ (xs.C (·.1)).V
  |.ç S n=>h.SetOf (intKind P w) a S n
  |.ins C dx fs=>H dx = @(.ë a) /\ fs.B<=1000 /\ dx≠a /\ h.get? a = @(PySem.W.instObj C dx) /\
      ∃mA,h.Ns1 dx mA /\ (∀f,RelO (fs.U f) (mA f)) /\ PySem.Within mA (fs.C (·.1))
  |.ë _=> ∃o,h.get? a = @o|.xd fs=> ∃mA,h.Ns1 a mA /\ ∀f,RelO (fs.U f) (mA f)|.rng lo hi=> ∃t u v,h.get? a = some {cls:= .l "range",data:= .fields %[.E lo t,.E hi u,.E 1 v|0]}|.frz o u=>h.get? a = @o /\ ObjOk H h a u|.tbl ps=>h.get? a = some {cls:= .ã,data:= .fields ps}|.met f x=>h.get? a = @(PySem.W.methodObj (.I f) (.I x))|.ext φ=>φ w h /\ (∃o,h.get? a = @o) /\ ∀h1 h2 : Heap,φ w h1 -> (∀o,h1.get? a = @o -> h2.get? a = @o) -> φ w h2
def HOk(H:Hp)(h:Heap):Prop:=∀a o,H a=@o->ObjOk P w H h a o
end
section
variable {P:Program}{w:World}{H H':Hp}{h h':Heap}{a:Addr}{o:HO}
def ObjOk.lt(x:ObjOk P w H h a o):a<h.objs.L:=by
 cases o with|lst xs=>let#[_,_,_,_,e]:=x;show Xh e|tup xs=>let#[_,_,_,p]:=x;show p.X.lt|dK kvs=>let#[_,_,_,_,o,_,_,e,_]:=x;show Xh e|dT kvs=>let#[_,_,_,_,o,_,_,e,_]:=x;show Xh e|set S n=>let#[o,_,_,_,e,_]:=x;show Xh e|ins C dx fs=>let#[_,_,_,e,_]:=x;show Xh e|own y=>let#[_,e]:=x;show Xh e|xd fs=>let#[_,#[_,_,_,e,_],_]:=x;show Xh e|rng lo hi=>let#[_,_,_,e]:=x;show Xh e|frz ob u=>let#[e,_]:=x;show Xh e|tbl ps=>show Xh (x)|met f y=>show Xh (x)|ext φ=>let#[_,#[_,e],_]:=x;show Xh e
def Paired.mapP{α β F G}:∀{l₁:List α} {l₂:List β},Paired F l₁ l₂->(∀a b,F a b->G a b)->Paired G l₁ l₂
 |_,_,.nil,_=>.nil|_,_,.æ r t,f=>.æ (f _ _ r) (Paired.mapP t f)
def ObjOk.stay(x:ObjOk P w H h a o)(k:∀b u,(b=a\/H b=@(.ë a))->h.get? b=@u->h'.get? b=@u)
  (ho:∀b,H b=@(.ë a)->H' b=@(.ë a)) (ht:∀b xs,H b=@(.X xs)->H' b=@(.X xs)):ObjOk P w H' h' a o:=by
 induction o with
 |lst xs=>let#[z,aa,n,r,e]:=x;show#[z,aa,n,r,k _ _ (.O rfl) e]|tup xs=>let#[z,aa,r,ob,e,c]:=x;show#[z,aa,r,ob,k _ _ (.O rfl) e,c]|dK kvs=>let#[z,y,vs,r,ob,es,ep,e,c]:=x;show#[z,y,vs,r,ob,es,ep,k _ _ (.O rfl) e,c]
 |dT kvs=>
  let#[z,y,xs,r,ob,es,ep,e,c]:=x;show#[z,y,xs,Paired.mapP r λp q z=>#[z.1,ht _ _ z.2.1,z.2.2],ob,es,ep,k _ _ (.O rfl) e,c]
 |set S n=>let#[ob,es,ep,t,e,c]:=x;show#[ob,es,ep,t,k _ _ (.O rfl) e,c]
 |ins C dx fs=>
  let#[d,z,ne,e,mA,#[od,es,ep,e2,c],r]:=x;show#[ho _ d,z,ne,k _ _ (.O rfl) e,mA,#[od,es,ep,k _ _ (.h d) e2,c],r]
 |own y=>let#[ob,e]:=x;show#[ob,k _ _ (.O rfl) e]|xd fs=>let#[mA,#[od,es,ep,e,c],r]:=x;show#[mA,#[od,es,ep,k _ _ (.O rfl) e,c],r]|rng lo hi=>let#[t,u,v,e]:=x;show#[t,u,v,k _ _ (.O rfl) e]|frz ob u ih=>let#[e,q]:=x;show#[k _ _ (.O rfl) e,ih q]
 |tbl ps=>
  let e:h.get? a=some {cls:=.ã,data:=.fields ps}:=x;show k a _ (.O rfl) e
 |met f y=>
  let e:=x;show k a _ (.O rfl) e
 |ext φ=>let#[p,#[o,e],st]:=x;show#[st _ _ p λo q=>k _ _ (.O rfl) q,#[o,k _ _ (.O rfl) e],st]
def HOk.lt(x:HOk P w H h)(e:H a=@o):a<h.objs.L:=(x a o e).lt
def HOk.fresh(x:HOk P w H h)(e:h.objs.L<=a):H a=none:=by
 cases q:H a with|none=>rfl|some u=>show absurd (Xs (x.lt q) e) (Yt _)
def HOk.kept(x:HOk P w H h)(k:∀b u,h.get? b=@u->h'.get? b=@u):HOk P w H h':=λa o e=>
 (x a o e).stay (λb u _ q=>k b u q) (λ_ q=>q) λ_ _ q=>q
def HOk.laid(x:HOk P w H h)(k:∀b u,h.get? b=@u->h'.get? b=@u)(hp:h.objs.L<=a)(new:ObjOk P w (upd H a o) h' a o):HOk P w (upd H a o) h':=λb u e=>by
 let hn:=x.fresh hp
 by_cases hb:b=a
 .subst hb;rw[vQ]at e;cases e;show new
 .rw[qk hb]at e;show(x b u e).stay (λc v _ q=>k c v q) (λc q=>by rw[qk (JX q hn)];show q) λc xs q=>by rw[qk (JX q hn)];show q
end
def Rd(H:Hp)(a:Addr)(u:HO):Prop:=H a=@u\/∃o,H a=@(.frz o u)
def Rd.ok{P w H h a u}(r:Rd H a u)(x:HOk P w H h):ObjOk P w H h a u:=by
 let r\/#[o,r]:=r
 .show x a u r
 .let#[_,q]:=x a _ r;show q
def Mut:Option HO->Prop
 |some (.S _)=>True|some (.dK _)=>True|some (.dT _)=>True|some (.ç _ _)=>True|some (.ins _ _ _)=>True|some (.ext _)=>True|_=>False
section
variable {P:Program}{w:World}{H:Hp}{h h':Heap}{x e:Addr}{o':HO}
def HOk.write(ok:HOk P w H h)(mu:Mut (H x))(he:e=x\/H e=@(.ë x))(k:∀b u,b≠e->h.get? b=@u->h'.get? b=@u)(ze:∃u,h'.get? e=@u)
  (new:ObjOk P w (upd H x o') h' x o'):HOk P w (upd H x o') h':=λb u q=>by
 let nown:∀c y,H c=@(.ë y)->c≠x:=λc y r z=>by subst z;rw[r]at mu;show mu
 let ntup:∀c xs,H c=@(.X xs)->c≠x:=λc xs r z=>by subst z;rw[r]at mu;show mu
 by_cases hb:b=x
 .subst hb;rw[vQ]at q;cases q;show new
 .rw[qk hb]at q
  by_cases hbe:b=e
  .let q':H b=@(.ë x):=by
    let z\/z:=he
    .show absurd (hbe.J z) hb
    .rw[hbe];show z
   rw[q]at q';cases q';let#[v,hv]:=ze;show#[v,by rw[hbe];show hv]
  .show(ok b u q).stay (λc v hc r=>k c v ?_ r) (λc r=>by rw[qk (nown c b r)];show r) λc xs r=>by rw[qk (ntup c xs r)];show r
   let rfl\/hc:=hc
   .show hbe
   .grind
end
structure Un (fs ex:List Addr)(H H':Hp)(h h':Heap):Prop where
 keep:∀b o,h.get? b=@o->H b=none->b∉fs->b∉ex->h'.get? b=@o
 slot:∀b o,h.get? b=@o->H b=none->b>fs->b∉ex->∃sl,h'.get? b=some {o with slots:=sl}
 free:∀b o,h.get? b=@o->H b=none->b∉ex->H' b=none
 there:∀b o,h.get? b=@o->b∉ex->∃o',h'.get? b=@o'
 tups:∀b xs,H b=@(.X xs)->H' b=@(.X xs)
 frzs:∀b o u,H b=@(.frz o u)->H' b=@(.frz o u)
 tbls:∀b ps,H b=@(.tbl ps)->∃more,H' b=@(.tbl (ps++more))
section
variable {fs fs' ex ex':List Addr}{H H1 H2:Hp}{h h1 h2 h':Heap}{a x e:Addr}{o:HO}
def Un.any(u:Un fs ex H H1 h h1){b ob}(q:h.get? b=@ob)(n:H b=none)(hx:b∉ex):∃sl,h1.get? b=some {ob with slots:=sl}:=by
 by_cases hb:b>fs
 .show u.slot b ob q n hb hx
 .show#[ob.slots,u.keep b ob q n hb hx]
def Un.kept(k:∀b u,h.get? b=@u->h'.get? b=@u):Un fs ex H H h h':=
 #[λb ob q _ _ _=>k b ob q,λb ob q _ _ _=>#[ob.slots,k b ob q],λ_ _ _ n _=>n,λb ob q _=>#[ob,k b ob q],λ_ _ q=>q,λ_ _ _ q=>q,λ_ ps q=>#[(List.G []),by rw[q];simp]]
def Un.ò:Un fs ex H H h h:=Un.kept λ_ _ q=>q
def Un.laid(k:∀b u,h.get? b=@u->h'.get? b=@u)(hp:h.objs.L<=a)(hn:H a=none):Un fs ex H (upd H a o) h h' where
 keep:=λb u q _ _ _=>k b u q
 slot:=λb u q _ _ _=>#[u.slots,k b u q]
 free:=λb u q n _=>by rw[qk (Xl (Xs (Xh q) hp))];show n
 there:=λb u q _=>#[u,k b u q]
 tups:=λb xs q=>by rw[qk (JX q hn)];show q
 frzs:=λb u xs q=>by rw[qk (JX q hn)];show q
 tbls:=λb ps q=>#[(List.G []),by rw[qk (JX q hn),q];simp]
def Un.write(mu:Mut (H x))(he:e=x\/H e=@(.ë x))(k:∀b u,b≠e->h.get? b=@u->h'.get? b=@u)(ze:∃u,h'.get? e=@u):Un fs ex H (upd H x o) h h':=by
 let hx:∀b,H b=none->b≠x:=λb n z=>by subst z;rw[n]at mu;show mu
 let hb:∀b,H b=none->b≠e:=λb n z=>by
  subst z;let r\/r:=he
  .show hx b n r
  .grind
 let hm:∀b u,H b=@u->¬Mut (@u)->b≠x:=λb u q nm z=>by subst z;rw[q]at mu;show nm mu
 show#[λb u q n _ _=>k b u (hb b n) q,λb u q n _ _=>#[u.slots,k b u (hb b n) q],λb u q n _=>by rw[qk (hx b n)];show n,λb u q _=>?_,
  λb xs q=>by rw[qk (hm b _ q λz=>z)];show q,λb u xs q=>by rw[qk (hm b _ q λz=>z)];show q,λb ps q=>#[(List.G []),by rw[qk (hm b _ q λz=>z),q];simp]]
 by_cases hbe:b=e
 .grind
 .show#[u,k b u hbe q]
end
def trk(h:Heap)(H:Hp):List Addr:=(List.ä h.objs.L).ö λa=>(H a).isSome
def Ww(h:Heap)(H:Hp):Heap:=PySem.W.hideAll h (trk h H)
def _am h H:(Ww h H).objs.L=h.objs.L:=PySem.W.hideAll_size _ _
def _an{h H b o}(e:h.get? b=@o)(n:H b=none):(Ww h H).get? b=@o:=
 PySem.W.hideAll_get _ e λhm=>by
  let q:=(List.mem_filter.mp hm).2;rw[n]at q;simp at q
def _ao{h H b o}(e:(Ww h H).get? b=@o):h.get? b=@o/\H b=none:=by
 let e':=PySem.W.of_hideAll _ e;show#[e',?_];cases q:H b with
 |none=>rfl
 |some x=>
  let hm:b>trk h H:=List.mem_filter.s #[List.å.s (Xh e'),by simp[q]];let z:(Ww h H).get? b=none:=PySem.W.hideAll_none _ hm
  grind
structure Mod (K:Frag)(mg:Str->Option Value)(base:Heap):Prop where
 kin:K.In base
 glob:base.Ns mainGlobals mg
 blt:∃mb,base.Ns builtinsNs mb/\∀x:Str,x≠"__name__"->mb x=bootBuiltins x
 nolimit:base.NoLimit
structure Cx where
 prog:Program
 w:World
 K:Frag
 mg:Str->Option Value
 base:Heap
 A:Around
 N:List Str
 s₀:Shared
 H₀:Hp
 env:Env
 outer:List Env
 stack:List Env
 ex:List Addr
 fn:Str->Bool
 calm:Bool
 pn:LA9
 xe:VP9
def frs(l:List Env):List Addr:=l.filterMap (·.frame)
abbrev Cx.fs(X:Cx):List Addr:=frs X.outer
def Vis(sc:Scope)(x:Str):Prop:=sc.ð.U x=@.local\/sc.ð.U x=@.cell\/sc.ð.U x=@.free
def Loc(sc:Scope)(x:Str):Prop:=sc.ð.U x=@.local\/sc.ð.U x=@.cell
def Look(env:Env)(h:Heap)(m:Str->Option Value)(x:Str)(u:Value):Prop:=
 (env.kindOf x=@.local/\m x=@u)\/((env.kindOf x=@.cell\/env.kindOf x=@.free)/\∃c,env.cells.U x=@c/\h.IsCell c @u)
structure Cx.Ok (X:Cx):Prop where
 mod:Mod X.K X.mg X.base
 kind:X.Y.ú.kind=.function
 glob:X.Y.globals=mainGlobals
 blt:X.Y.builtins=builtinsNs
 above:X.s₀.H.objs.L<=X.Y.locals
 inj:∀x y c,X.Y.cells.U x=@c->X.Y.cells.U y=@c->x=y
 has:∀x,(X.Y.kindOf x=@.cell\/X.Y.kindOf x=@.free)->∃c,X.Y.cells.U x=@c
 cab:∀x c,X.fn x=true->X.Y.cells.U x=@c->X.s₀.H.objs.L<=c
 hd:X.calm=true->X.A.õ=none
 frames:X.A.frames=@X.stack
 stk:X.stack=X.outer\/(X.stack=X.Y::X.outer/\X.Y.frame=@X.Y.locals)
 exf:∀b>X.ex,b≠X.Y.locals/\∀x c,X.Y.cells.U x=@c->c≠b
 bs:∀b o,X.base.get? b=@o->X.s₀.H.get? b=@o/\X.H₀ b=none
 bsz:X.base.objs.L<=X.s₀.H.objs.L
 noex:∀b o,X.base.get? b=@o->b∉X.ex
 exfs:∀b>X.ex,b∉X.fs
 funs:X.s₀.H.FunFrames X.base X.outer
 frf:∀b>X.fs,X.H₀ b=none
structure Inv (X:Cx)(a8:LA9)(σ:List (Option V))(H:Hp)(s:Shared):Prop where
 ok:X.Ok
 os:s.os=X.s₀.os
 bare:AllBare s.gens
 base:Un X.fs X.ex X.H₀ H X.s₀.H s.H
 loc:∃m,s.H.Ns X.Y.locals m/\∀(i:Nat) (x:Str) (v:V),X.N[i]?=@x->σ[i]?=@(@v)->Vis X.Y.ú x->∃u,RelV v u/\Look X.Y s.H m x u
 cell:∀x c,X.Y.cells.U x=@c->∃v,s.H.IsCell c v
 free:H X.Y.locals=none
 freeC:∀x c,X.Y.cells.U x=@c->H c=none
 pin:∀p>X.pn++a8,s.H.get? p.1=@p.2/\H p.1=none/\p.1≠X.Y.locals/\p.1∉X.fs/\∀v,p.2.data≠.cell v
 hok:HOk X.î X.w H s.H
 len:σ.B=X.N.B
section
variable {X:Cx}{a8:LA9}{σ:List (Option V)}{H H':Hp}{s:Shared}{h':Heap}
def Cx.Ok.nofr(ok:X.Ok){b o}(e:X.base.get? b=@o):b∉X.fs:=λhb=>by
 let:=(ok.funs.mem hb).1
 grind
def Inv.bs(I:Inv X a8 σ H s):∀b o,X.base.get? b=@o->s.H.get? b=@o/\H b=none:=λb o e=>
 #[I.base.keep b o (I.ok.bs b o e).1 (I.ok.bs b o e).2 (I.ok.nofr e) (I.ok.noex b o e),I.base.free b o (I.ok.bs b o e).1 (I.ok.bs b o e).2 (I.ok.noex b o e)]
def Inv.bk(I:Inv X a8 σ H s):∀b o,X.base.get? b=@o->s.H.get? b=@o:=λb o e=>(I.bs b o e).1
def Inv.mod(I:Inv X a8 σ H s):Mod X.K X.mg X.base:=I.ok.mod
def Inv.kIn(I:Inv X a8 σ H s):X.K.In s.H:=I.ok.mod.kin.keeps I.bk
def Inv.lt(I:Inv X a8 σ H s):X.Y.locals<↥s:=let ⟨_,hn,_⟩:=I.loc;hn.lt
def Inv.sz(I:Inv X a8 σ H s):X.s₀.H.objs.L<=↥s:=Yw I.ok.above (J3 I.lt)
def Inv.nofs(I:Inv X a8 σ H s){a:Addr}(h:↥s<=a):a∉X.fs:=λhb=>by
 let#[_,o,ho,_]:=I.ok.funs.mem hb;show absurd (Xs (Xh ho) (Yw I.sz h)) (Yt _)
def Inv.cne(I:Inv X a8 σ H s):∀x c,X.Y.cells.U x=@c->c≠X.Y.locals:=λx c e z=>by
 let#[v,o,ho,hd]:=I.cell x c e;let#[m,#[o',es,ep,iq,xr,_],_]:=I.loc
 grind
def Inv.funs(I:Inv X a8 σ H s):s.H.FunFrames X.base X.outer:=by
 let all:∀l,(∀b>frs l,b>X.fs)->X.s₀.H.FunFrames X.base l->s.H.FunFrames X.base l:=by
  intro l
  induction l with
  |nil=>intro _ _;trivial
  |cons env r ih=>
   rintro hs ⟨hk,⟨L,o,hf,hn,ho,hd⟩,hr⟩;let hL:=hs L (by ext frs;rw[List.filterMap_cons,hf];show X3);let#[sl,e]:=I.base.slot L o ho (I.ok.frf L hL) hL λz=>I.ok.exfs L z hL
   show#[hk,#[L,_,hf,hn,e,hd],ih (λb hb=>hs b (by ext frs;rw[List.filterMap_cons,hf];show _ad _ hb)) hr]
 show all X.outer (λ_ hb=>hb) I.ok.funs
def Inv.stack(I:Inv X a8 σ H s):s.H.FunFrames X.base X.stack:=by
 let e\/#[e,hf]:=I.ok.stk
 .rw[e];show I.funs
 .rw[e];let#[m,hn,_]:=I.loc;show .æ (by rw[I.ok.kind];decide) hf hn (Yo (Yw I.ok.bsz I.ok.above)) I.funs
def Inv.stkSub(I:Inv X a8 σ H s):∀b>frs X.stack,b>X.Y.locals::X.fs:=λb hb=>by
 let e\/#[e,hf]:=I.ok.stk
 .rw[e]at hb;show _ad _ hb
 .rw[e]at hb;unfold frs at hb;rw[List.filterMap_cons,hf]at hb;show hb
def Inv.stkFree(I:Inv X a8 σ H s):∀b>frs X.stack,H b=none:=λb hb=>by
 let e\/hb:=aD (I.stkSub b hb)
 .rw[e];show I.free
 .let#[_,o,ho,_]:=I.ok.funs.mem hb;show I.base.free b o ho (I.ok.frf b hb) λz=>I.ok.exfs b z hb
def Inv.step{g' t' d'}{ch:List Addr}(I:Inv X a8 σ H s)
  (om:∀b>ch,(b>X.ex\/X.s₀.H.get? b=none)/\b≠X.Y.locals/\(∀x c,X.Y.cells.U x=@c->c≠b)/\∀p>X.pn++a8,p.1≠b)
  (keep:∀b o,b≠X.Y.locals->b∉X.fs->b∉ch->s.H.get? b=@o->H b=none->h'.get? b=@o)
  (slot:∀b o,b≠X.Y.locals->b>X.fs->b∉ch->s.H.get? b=@o->H b=none->∃sl,h'.get? b=some {o with slots:=sl}) (free:∀b o,b∉ch->s.H.get? b=@o->H b=none->H' b=none)
  (there:∀b o,b∉ch->s.H.get? b=@o->∃o',h'.get? b=@o')
  (tups:∀b xs,H b=@(.X xs)->H' b=@(.X xs)) (frzs:∀b o u,H b=@(.frz o u)->H' b=@(.frz o u)) (tbls:∀b ps,H b=@(.tbl ps)->∃more,H' b=@(.tbl (ps++more)))
  (ns:∀m,s.H.Ns X.Y.locals m->h'.Ns X.Y.locals m) (hok:HOk X.î X.w H' h') (hg:AllBare g'):
  Inv X a8 σ H' {s with heap:=h',gens:=g',drawn:=d',toks:=t' }:=by
 let neL:∀b o,X.s₀.H.get? b=@o->b≠X.Y.locals:=λb o e=>Xl (Xs (Xh e) I.ok.above)
 let neC:∀b o,X.s₀.H.get? b=@o->b∉X.ex->b∉ch:=λb o e hx hb=>by
  let z\/z:=(om b hb).1
  .show hx z
  .rw[z]at e;cases e
 let r9:∀x c,X.Y.cells.U x=@c->∀v,s.H.IsCell c v->h'.IsCell c v:=λx c e v hz=>by
  let#[o,ho,hd]:=hz;let yy:=λz=>(om c z).2.2.1 x c e rfl
  by_cases hc:c>X.fs
  .let#[sl,q]:=slot c o (I.cne x c e) hc yy ho (I.freeC x c e);show#[_,q,hd]
  .show#[o,keep c o (I.cne x c e) hc yy ho (I.freeC x c e),hd]
 show#[I.ok,I.os,hg,#[λb o e n hb hx=>?_,λb o e n hb hx=>?_,λb o e n hx=>?_,λb o e hx=>?_,λb xs e=>tups b xs (I.base.tups b xs e),λb o xs e=>frzs b o xs (I.base.frzs b o xs e),λb ps e=>?_],?_,λx c e=>?_,?_,λx c e=>?_,λp hp=>?_,hok,I.len]
 .show keep b o (neL b o e) hb (neC b o e hx) (I.base.keep b o e n hb hx) (I.base.free b o e n hx)
 .let#[sl,e1]:=I.base.slot b o e n hb hx;let#[sl',e2]:=slot b _ (neL b o e) hb (neC b o e hx) e1 (I.base.free b o e n hx);show#[sl',e2]
 .let#[o',e1]:=I.base.there b o e hx;show free b o' (neC b o e hx) e1 (I.base.free b o e n hx)
 .let#[o',e1]:=I.base.there b o e hx;show there b o' (neC b o e hx) e1
 .obtain _:=I.base.tbls b ps e
  grind
 .let#[m,hn,hl]:=I.loc;show#[m,ns m hn,λi x v e1 e2 e3=>?_];let#[u,r,l]:=hl i x v e1 e2 e3;show#[u,r,?_];let l\/#[k,c,e,z]:=l
  .show .O l
  .show .h #[k,c,e,r9 x c e _ z]
 .let#[v,z]:=I.cell x c e;show#[v,r9 x c e v z]
 .let#[m,#[o,_,_,ho,_],_]:=I.loc;show free _ o (λz=>(om _ z).2.1 rfl) ho I.free
 .let#[v,o,ho,hd]:=I.cell x c e;show free c o (λz=>(om c z).2.2.1 x c e rfl) ho (I.freeC x c e)
 .let#[e,n,ne,nf,d]:=I.pin p hp;let yy:=λz=>(om p.1 z).2.2.2 p hp rfl
  show#[keep p.1 p.2 ne nf yy e n,free p.1 p.2 yy e n,ne,nf,d]
def Inv.un{t'}(I:Inv X a8 σ H s)(u:Un X.fs [] H H' s.H h')(hok:HOk X.î X.w H' h'):Inv X a8 σ H' {s with heap:=h',toks:=t' }:=by
 let#[m,#[o,es,ep,ho,r],_]:=id I.loc;let#[sl,hL]:=u.any ho I.free (by simp);show I.step (g':=s.gens) (d':=s.drawn) (ch:=[]) (nofun) (λb o _ hb _ e n=>u.keep b o e n hb (by simp)) (λb o _ hb _ e n=>u.slot b o e n hb (by simp)) (λb o _ e n=>u.free b o e n (by simp)) (λb o _ e=>u.there b o e (by simp)) u.tups u.frzs u.tbls (λm' hm=>by
  let#[o',es',ep',iq,r']:=hm;rw[ho]at iq;cases iq;show#[_,es',ep',hL,r']) hok I.bare
def Inv.call{g' t' d' ch}(I:Inv X a8 σ H s)(u:Un (frs X.stack) ch H H' s.H h')(hok:HOk X.î X.w H' h')(hg:AllBare g')
  (om:∀b>ch,(b>X.ex\/X.s₀.H.get? b=none)/\b≠X.Y.locals/\(∀x c,X.Y.cells.U x=@c->c≠b)/\∀p>X.pn++a8,p.1≠b):
  Inv X a8 σ H' {s with heap:=h',gens:=g',drawn:=d',toks:=t' }:=by
 let#[m,#[o,es,ep,ho,r],_]:=id I.loc;let#[sl,hL]:=u.any ho I.free λz=>(om _ z).2.1 rfl
 show I.step om (λb o hL hb hc e n=>u.keep b o e n (λz=>(aD (I.stkSub b z)).è hL hb) hc) (λb o _ _ hc e n=>u.any e n hc) (λb o hc e n=>u.free b o e n hc) (λb o hc e=>u.there b o e hc) u.tups u.frzs u.tbls (λm' hm=>by
  let#[o',es',ep',iq,r']:=hm;rw[ho]at iq;cases iq;show#[_,es',ep',hL,r']) hok hg
def Inv.turned{t' it}(I:Inv X a8 σ H s)(k:∀b o,b≠it->s.H.get? b=@o->h'.get? b=@o)(hn:H it=none)(hL:it≠X.Y.locals)
  (h1:it>X.ex\/X.s₀.H.objs.L<=it) (h2:∀x c,X.Y.cells.U x=@c->c≠it) (h3:∀p>X.pn++a8,p.1≠it):Inv X a8 σ H {s with heap:=h',toks:=t' }:=by
 let vi:∀b u,H b=@u->b≠it:=λb u e z=>by rw[z,hn]at e;cases e
 show I.step (g':=s.gens) (d':=s.drawn) (ch:=[it]) (λb hb=>?_) (λb o _ _ hc e _=>k b o (λz=>hc (by simp[z])) e) (λb o _ _ hc e _=>#[o.slots,k b o (λz=>hc (by simp[z])) e]) (λ_ _ _ _ n=>n)
  (λb o hc e=>#[o,k b o (λz=>hc (by simp[z])) e]) (λ_ _ e=>e) (λ_ _ _ e=>e) (λb ps e=>#[(List.G []),by rw[e];simp]) (λm hm=>?_) (λb u e=>?_) I.bare
 .let e:b=it:= ~~~hb
  subst e;show#[h1.imp id λz=>Yo z,hL,h2,h3]
 .let#[o,es,ep,ho,r]:=hm;show#[o,es,ep,k _ o (Ne.à hL) ho,r]
 .show(I.hok b u e).stay (λc v hc q=>k c v ?_ q) (λ_ q=>q) λ_ _ q=>q
  let z\/z:=hc
  .rw[z];show vi b u e
  .show vi c _ z
def Inv.tok(I:Inv X a8 σ H s) t:Inv X a8 σ H {s with toks:=t}:=I.un (h':=s.H) (t':=t) Un.ò I.hok
def Inv.kept{t'}(I:Inv X a8 σ H s)(k:∀b u,s.H.get? b=@u->h'.get? b=@u):Inv X a8 σ H {s with heap:=h',toks:=t' }:=I.un (Un.kept k) (I.hok.kept k)
def Inv.laid{a:Addr}{o t'}(I:Inv X a8 σ H s)(k:∀b u,s.H.get? b=@u->h'.get? b=@u)(hp:↥s<=a)(new:ObjOk X.î X.w (upd H a o) h' a o):
  Inv X a8 σ (upd H a o) {s with heap:=h',toks:=t' }:=I.un (Un.laid k hp (I.hok.fresh hp)) (I.hok.laid k hp new)
def Inv.write{x e o t'}(I:Inv X a8 σ H s)(mu:Mut (H x))(he:e=x\/H e=@(.ë x))(k:∀b u,b≠e->s.H.get? b=@u->h'.get? b=@u)(ze:∃u,h'.get? e=@u)
  (new:ObjOk X.î X.w (upd H x o) h' x o):Inv X a8 σ (upd H x o) {s with heap:=h',toks:=t' }:=I.un (Un.write mu he k ze) (I.hok.write mu he k ze new)
def Inv.pins_of{dz}(I:Inv X a8 σ H s)(h:∀p>dz,s.H.get? p.1=@p.2/\H p.1=none/\p.1≠X.Y.locals/\p.1∉X.fs/\∀v,p.2.data≠.cell v):Inv X dz σ H s:=
 #[I.ok,I.os,I.bare,I.base,I.loc,I.cell,I.free,I.freeC,λp hp=>(aA hp).è (λz=>I.pin p (_ac _ z)) (h p),I.hok,I.len]
def _ap{N:List Str}(hN:N.V){i j:Nat}{x}(a:N[i]?=@x)(b:N[j]?=@x):i=j:=by
 let#[h1,e1]:=aF a;let#[h2,e2]:=aF b;show(List.getElem_inj hN).mp (e1.J e2.à)
def _aq{M A E i x v u Q}(I:Inv X a8 σ H s)(hN:X.N.V)(hi:X.N[i]?=@x)(hx:Loc X.Y.ú x)(r:RelV v u)
  (h:∀s',Inv X a8 (σ.ç i @v) H s'->(∃a,Heap.SameBut a s.H s'.H/\(a=X.Y.locals\/X.Y.cells.U x=@a))->Q () s') (hf:X.fn x=true\/X.Y.ú.ð.U x=@.local<|>Ř):wpAny M A (storeName X.Y x u) Q E s:=by
 let#[m,hn,hl]:=id I.loc;let hcls:(X.Y.ú.kind == .class||(X.Y.ú.kind == .module&&X.Y.locals != X.Y.globals))=false:=by rw[I.ok.kind];rfl
 let hiσ:i < σ.B:=by rw[I.len];show(aF hi).1
 let cne:=I.cne;let lw:∀{a h'},(∃o,s.H.get? a=@o/\H a=none)->Heap.SameBut a s.H h'->HOk X.î X.w H h':=fun {a h'} ha hs b ob e=>by
  show(I.hok b ob e).stay (λc w' hc q=>(hs.2 c ?_).J q) (λ_ q=>q) λ_ _ q=>q
  rintro rfl;let rfl\/hc:=hc
  .grind
  .grind
 let hk\/hk:=hx
 .show wpAny_storeName_local hk hn (λh' sy hs=>?_) hcls;let#[oL,_,_,pz,_]:=id hn;show h _ #[I.ok,I.os,I.bare,#[λb o e n hb hx=>?_,λb o e n hb hx=>?_,I.base.free,λb o e hx=>?_,I.base.tups,I.base.frzs,I.base.tbls],#[_,sy,λj y v' e1 e2 e3=>?_],λy c e=>?_,I.free,I.freeC,λp hp=>?_,lw #[oL,pz,I.free] hs,~~~I.len] #[_,hs,.O rfl]
  .show(hs.2 b (Xl (Xs (Xh e) I.ok.above))).J (I.base.keep b o e n hb hx)
  .let#[sl,e1]:=I.base.slot b o e n hb hx;show#[sl,(hs.2 b (Xl (Xs (Xh e) I.ok.above))).J e1]
  .let#[o',e1]:=I.base.there b o e hx;show#[o',(hs.2 b (Xl (Xs (Xh e) I.ok.above))).J e1]
  .by_cases hj:j=i
   .subst hj;rw[hi]at e1;cases e1;rw[List.getElem?_set_self hiσ]at e2;cases e2;show#[u,r,.O #[hk,by simp]]
   .rw[Zb (Ne.à hj)]at e2;let#[u',r',q]:=hl j y v' e1 e2 e3;show#[u',r',?_];let#[k,e]\/#[k,c,e,z]:=q
    .show .O #[k,?_];let:y≠x:=λe=>hj (_ap hN e1 (e▸hi))
     simp[this,e]
    .show .h #[k,c,e,z.sameBut hs (cne y c e)]
  .let#[w',z]:=I.cell y c e;show#[w',z.sameBut hs (cne y c e)]
  .let#[e,n,ne,nf,d]:=I.pin p hp;show#[(hs.2 p.1 ne).J e,n,ne,nf,d]
 .let hfn:X.fn x=true:=by
   let z\/z:=hf
   .show z
   .grind
  let#[c,hc]:=I.ok.has x (.O hk);let#[w',z]:=I.cell x c hc;show wpAny_storeName_cell I.ok.kind hk hc z (λh' i5 hs=>?_);let#[oc,hoc,hocd]:=id z;show h {s with heap:=h' } #[I.ok,I.os,I.bare,#[λb o e n hb hx=>?_,λb o e n hb hx=>?_,I.base.free,λb o e hx=>?_,I.base.tups,I.base.frzs,I.base.tbls],#[m,hn.sameBut hs (Ne.à (cne x c hc)),λj y v' e1 e2 e3=>?_],λy c' e=>?_,I.free,I.freeC,λp hp=>?_,lw #[oc,hoc,I.freeC x c hc] hs,~~~I.len] #[c,hs,.h hc]
  .show(hs.2 b (Xl (Xs (Xh e) (I.ok.cab x c hfn hc)))).J (I.base.keep b o e n hb hx)
  .let#[sl,e1]:=I.base.slot b o e n hb hx;show#[sl,(hs.2 b (Xl (Xs (Xh e) (I.ok.cab x c hfn hc)))).J e1]
  .let#[o',e1]:=I.base.there b o e hx;show#[o',(hs.2 b (Xl (Xs (Xh e) (I.ok.cab x c hfn hc)))).J e1]
  .by_cases hj:j=i
   .subst hj;rw[hi]at e1;cases e1;rw[List.getElem?_set_self hiσ]at e2;cases e2;show#[u,r,.h #[.O hk,c,hc,i5]]
   .rw[Zb (Ne.à hj)]at e2;let#[u',r',q]:=hl j y v' e1 e2 e3;show#[u',r',?_];let q\/#[k,c',e,z']:=q
    .show .O q
    .show .h #[k,c',e,z'.sameBut hs ?_];rintro rfl;show hj (_ap hN e1 (I.ok.inj _ _ _ e hc▸hi))
  .by_cases i6:c'=c
   .subst i6;show#[_,i5]
   .let#[w2,z2]:=I.cell y c' e;show#[w2,z2.sameBut hs i6]
  .let#[e,n,ne,nf,d]:=I.pin p hp;show#[(hs.2 p.1 ?_).J e,n,ne,nf,d];intro q;rw[q,hoc]at e;let q':oc=p.2:=_aa e;show d w' (q'▸hocd)
def _ar{M A E i x v u Q}(I:Inv X a8 σ H s)(hN:X.N.V)(hi:X.N[i]?=@x)(hx:Loc X.Y.ú x)(r:RelV v u)
  (h:∀s',Inv X a8 (σ.ç i @v) H s'->Q () s') (hf:X.fn x=true\/X.Y.ú.ð.U x=@.local<|>Ř):wpAny M A (storeName X.Y x u) Q E s:=
 _aq I hN hi hx r (λs' I' _=>h s' I') hf
def Inv.call'{s' ch}(I:Inv X a8 σ H s)(ho:s'.os=s.os)(u:Un (frs X.stack) ch H H' s.H s'.H)(hok:HOk X.î X.w H' s'.H)(hg:AllBare s'.gens)
  (om:∀b>ch,(b>X.ex\/X.s₀.H.get? b=none)/\b≠X.Y.locals/\(∀x c,X.Y.cells.U x=@c->c≠b)/\∀p>X.pn++a8,p.1≠b):Inv X a8 σ H' s':=by
 let#[h',g',d',t',o']:=s';subst ho;show I.call (g':=g') (t':=t') (d':=d') u hok hg om
end
abbrev XK:=Value->Option Addr->Hp->Prop
abbrev St:=List (Option V)
abbrev VK:=V->Hp->Prop
abbrev TE:=St->Hp->VK->Prop
abbrev TT:=St->Hp->(Bool->Hp->Prop)->Prop
abbrev TA:=St->Hp->(List V->Hp->Prop)->Prop
structure Ends where
 nx:St->Hp->Prop
 rt:VK
 bk:St->Hp->Prop:=λ_ _=>False
 ct:St->Hp->Prop:=λ_ _=>False
abbrev TS:=Ends->St->Hp->Prop
def EP(X:Cx)(a8:LA9)(σ:St)(Q:VK)(u:Value)(s':Shared):Prop:=∃v H',Inv X a8 σ H' s'/\RelV v u/\Q v H'
def TP(X:Cx)(a8:LA9)(σ:St)(Q:Bool->Hp->Prop)(b:Bool)(s':Shared):Prop:=∃H',Inv X a8 σ H' s'/\Q b H'
def AP(X:Cx)(a8:LA9)(σ:St)(Q:List V->Hp->Prop)(us:List Value)(s':Shared):Prop:=∃vs H',Inv X a8 σ H' s'/\Vals vs us/\Q vs H'
#where in
def SP(X:Cx)(a8:LA9)(D:Ends)(f:Flow)(s':Shared):Prop:=
 match f with
 |.next=>∃ σ' H',Inv X a8 σ' H' s'/\D.nx σ' H'|.brk=>∃ σ' H',Inv X a8 σ' H' s'/\D.bk σ' H'|.cont=>∃ σ' H',Inv X a8 σ' H' s'/\D.ct σ' H'|.ret u=>∃v σ' H',Inv X a8 σ' H' s'/\RelV v u/\D.rt v H'
def PE(X:Cx)(e:Expr)(t:TE):Prop:=
 ∀(a8:LA9) (s:Shared) (σ:St) (H:Hp) (Q:VK),Inv X a8 σ H s->t σ H Q->∅ (eval e X.Y) (EP X a8 σ Q) X.xe s
def PT(X:Cx)(e:Expr)(t:TT):Prop:=
 ∀(a8:LA9) (s:Shared) (σ:St) (H:Hp) (Q:Bool->Hp->Prop),Inv X a8 σ H s->t σ H Q->∅ (isTrue e X.Y (eval e X.Y)) (TP X a8 σ Q) X.xe s
def PW(X:Cx)(e:Expr)(t:TT):Prop:=
 ∀(gz:Sem Value) (a8:LA9) (s:Shared) (σ:St) (H:Hp) (Q:Bool->Hp->Prop),Inv X a8 σ H s->t σ H Q->∅ (isTrue e X.Y gz) (TP X a8 σ Q) X.xe s
def PW.pt{X e t}(h:PW X e t):PT X e t:=h _
def PA(X:Cx)(es:List Expr)(t:TA):Prop:=
 ∀(pos:Pos) (a8:LA9) (s:Shared) (σ:St) (H:Hp) (Q:List V->Hp->Prop),Inv X a8 σ H s->t σ H Q->∅ (spliced (backTo pos (starEach es X.Y))) (AP X a8 σ Q) X.xe s
def PS(X:Cx)(st:Stmt)(t:TS):Prop:=
 ∀(a8:LA9) (s:Shared) (σ:St) (H:Hp) (D:Ends),Inv X a8 σ H s->t D σ H->∅ (exec st X.Y) (SP X a8 D) X.xe s
def PSs(X:Cx)(st:List Stmt)(t:TS):Prop:=
 ∀(a8:LA9) (s:Shared) (σ:St) (H:Hp) (D:Ends),Inv X a8 σ H s->t D σ H->∅ (execs st X.Y) (SP X a8 D) X.xe s
def thn{α t}{Q Q':α->Shared->Prop}{M A E s}(h:wpAny M A t Q E s)(hQ:∀a s,Q a s->Q' a s):wpAny M A t Q' E s:=wpAny_mono h hQ λ_ _ x=>x
section
variable {X:Cx}
abbrev xk(i:Nat):TE:=fun σ H Q=>∃v,σ[i]?=some @v/\Q v H
abbrev tC(v:V):TE:=λ_ H Q=>Q v H
abbrev _root_.Abd(x:Str):Prop:=(x==("__debug__":Str))=false
def _as{i x pos}(hN:X.N[i]?=@x)(hv:Vis X.Y.ú x)(hd:Abd x<|>ŕ)(ja:(x==("__classdict__":Str))=false<|>ŕ):PE X (.é x pos) (xk i):=by
 rintro a8 s σ H Q I ⟨v,e,h⟩;let#[m,hn,hl]:=I.loc;let#[u,r,l]:=hl i x v hN e hv;let fin:EP X a8 σ Q u s:=#[v,H,I,r,h];let#[hk,hm]\/#[hk,c,hc,hcell]:=l
 .show wpAny_Name (wpAny_loadName_local I.ok.kind hk hn hm fin) hd
 .let hk\/hk:=hk
  .show wpAny_Name (wpAny_loadName_cell I.ok.kind hk hc hcell fin) hd
  .show wpAny_Name (wpAny_loadName_free I.ok.kind hk hc hcell fin ja) hd
def _at{i j pos}:PE X (.Constant (.E i) j pos) (tC (.E i)):=λ_ _ _ H _ I h=>wpAny_Constant_int #[.E i,H,I.tok _,#[_,rfl],h]
def _au{b j pos}:PE X (.Constant (.bool b) j pos) (tC (.bl b)):=λ_ _ _ H _ I h=>Constant_bool #[.bl b,H,I,rfl,h]
def _av{j pos}:PE X (.Constant .ã j pos) (tC .ó):=λ_ _ _ H _ I h=>Constant_none #[.ó,H,I,rfl,h]
def _aw{x j pos}:PE X (.Constant (.x x) j pos) (tC (.x x)):=λ_ _ _ H _ I h=>Calls.Constant_str #[.x x,H,I.tok _,#[_,rfl],h]
def Gl(X:Cx)(x:Str):Prop:=X.Y.kindOf x=@.globalImplicit
def _ax{E a8 s}{σ:St}{H x u pos Q}(I:Inv X a8 σ H s)(hg:Gl X x)(hm:X.mg x=@u)(h:Q u s)
  (hd:Abd x<|>ŕ):∅ (eval (.é x pos) X.Y) Q E s:=
 Calls.Name_function_global I.ok.kind hg (Calls.loadGlobal_global (I.ok.glob▸I.mod.glob.keeps I.bk) hm h) hd
def xQ{E a8 s}{σ:St}{H x u pos Q}(I:Inv X a8 σ H s)(hg:Gl X x)(hm:X.mg x=none)(hv:bootBuiltins x=@u)(h:Q u s)
  (hn:x≠"__name__"<|>ŕ) (hd:Abd x<|>ŕ):∅ (eval (.é x pos) X.Y) Q E s:=by
 let#[mb,h1,h2]:=I.mod.blt;show Calls.Name_function_global I.ok.kind hg (Calls.loadGlobal_builtin (I.ok.glob▸I.mod.glob.keeps I.bk) hm (I.ok.blt▸h1.keeps I.bk) ((h2 x hn).J hv) h) hd
def _ay{x v u pos}(hg:Gl X x)(hm:X.mg x=@u)(r:RelV v u)(hd:Abd x<|>ŕ):PE X (.é x pos) (tC v):=
 λ_ _ _ H _ I h=>_ax I hg hm #[v,H,I,r,h] hd
def _az{x v u pos}(hg:Gl X x)(hm:X.mg x=none)(hv:bootBuiltins x=@u)(r:RelV v u)(hn:x≠"__name__"<|>ŕ)(hd:Abd x<|>ŕ):PE X (.é x pos) (tC v):=
 λ_ _ _ H _ I h=>xQ I hg hm hv #[v,H,I,r,h] hn hd
variable {a b:Expr}{ta tb:TE}{pos:Pos}
variable {tA tB':TT}{ac:List Expr}
abbrev tOr(t u:TT):TT:=fun σ H Q=>t σ H λc H1=>if c=true then Q true H1 else u σ H1 Q
abbrev tNot(t:TT):TT:=fun σ H Q=>t σ H λc H1=>Q (!c) H1
def _aA(ha:PT X a tA):PW X (.BoolOp .Or [a] pos) tA:=by
 intro wh a8 s σ H Q I h;show isTrue_or (thn (ha a8 s σ H Q I h) λc s1 e=>?_);cases c with|false=>show isTrue_or_nil e|true=>show e
def _aB(ha:PT X a tA)(hb:PW X (.BoolOp .Or (b::ac) pos) tB'):PW X (.BoolOp .Or (a::b::ac) pos) (tOr tA tB'):=by
 intro wh a8 s σ H Q I h;show isTrue_or (thn (ha a8 s σ H _ I h) λc s1 hz=>?_);let#[H1,I1,q1]:=hz;cases c with|true=>show#[H1,I1,q1]|false=>show hb wh a8 s1 σ H1 Q I1 q1
def _aC(ha:PT X a tA):PT X (.UnaryOp .Not a pos) (tNot tA):=by
 intro a8 s σ H Q I h;show isTrue_not (ha a8 s σ H _ I h)
abbrev xx4(ta tb:TE):TE:=fun σ H Q=>ta σ H λx H1=>∃c,x=.bl c/\if c=true then tb σ H1 Q else Q (.bl false) H1
def _aD{op t}(h:PE X a t):PE X (.BoolOp op [a] pos) t:=λa8 s σ H Q I hw=>BoolOp_one (h a8 s σ H Q I hw)
def _aE(ha:PE X a ta)(hb:PE X (.BoolOp .And (b::ac) pos) tb):PE X (.BoolOp .And (a::b::ac) pos) (xx4 ta tb):=by
 intro a8 s σ H Q I h;show BoolOp_and (thn (ha a8 s σ H _ I h) λv s1 hz=>?_);let#[x,H1,I1,r1,q1]:=hz;let#[c,rfl,q1]:=q1;cases r1;show Zu ?_;cases c with|true=>show hb a8 s1 σ H1 Q I1 q1|false=>show#[.bl false,H1,I1,rfl,q1]
abbrev tIf(t:TT)(ta tb:TE):TE:=fun σ H Q=>t σ H λc H1=>if c=true then ta σ H1 Q else tb σ H1 Q
def _aF{c}(hc:PT X c tA)(ha:PE X a ta)(hb:PE X b tb):PE X (.IfExp c a b pos) (tIf tA ta tb):=by
 intro a8 s σ H Q I h;show wpAny_IfExp (thn (hc a8 s σ H _ I h) λd s1 hz=>?_);let#[H1,I1,q1]:=hz;cases d with|true=>show ha a8 s1 σ H1 Q I1 q1|false=>show hb a8 s1 σ H1 Q I1 q1
end
def SqL(K:Frag)(H:Hp)(a:Addr)(xs:List V):Prop:=
 Rd H a (.S xs) \/
  ∃(o:Obj) (aa:Array Value) (n:Nat),K.U a=@o/\o.cls=.l "list"/\o.dict=none/\o.data=.seq aa n/\aa.L<=sizeLine/\Vals xs aa.R
def SqT(K:Frag)(H:Hp)(a:Addr)(xs:List V):Prop:=
 Rd H a (.X xs) \/
  ∃(o:Obj) (aa:Array Value) (n:Nat),K.U a=@o/\o.cls=.l "tuple"/\o.dict=none/\o.data=.seq aa n/\aa.L<=sizeLine/\Vals xs aa.R
def absV:Value->Option V
 |.ã=>@.ó|.bool b=>@(.bl b)|.E i _=>@(.E i)|.x x _=>@(.x x)|.bytes b _=>@(.byt b)|.float b _=>@(.flt b)|.I a=>@(.I a)|.l n=>@(.ty n)|_=>none
def RelV.abs{x u}(r:RelV x u):absV u=@x:=by
 cases x with|non=>cases r;rfl|bl _=>cases r;rfl|int _=>let#[t,rfl]:=r;rfl|str _=>let#[t,rfl]:=r;rfl|byt _=>let#[t,rfl]:=r;rfl|flt _=>let#[t,rfl]:=r;rfl|ref _=>cases r;rfl|ty _=>cases r;rfl
def RelV.inj{x y u}(r:RelV x u)(q:RelV y u):x=y:=_aa (r.abs.à.J q.abs)
def Vals.inj:∀{xs ys us},Vals xs us->Vals ys us->xs=ys
 |_,_,_,.nil,.nil=>rfl|_,_,_,.æ r t,.æ r' t'=>by rw[r.inj r',Vals.inj t t']
section
variable {X:Cx}{a8:LA9}{σ:St}{H:Hp}{s:Shared}{a:Addr}{xs ys:List V}
def SqL.of{K}(h:H a=@(.S xs)):SqL K H a xs:=.O (.O h)
def SqT.of{K}(h:H a=@(.X xs)):SqT K H a xs:=.O (.O h)
def Inv.list(I:Inv X a8 σ H s)(h:SqL X.K H a xs):∃aa,Vals xs aa/\PlainL s.H a aa.G/\xs.B<=sizeLine:=by
 let h\/#[o,aa,n,hk,hc,hd,hs,hz,r]:=h
 .let#[z,aa,n,r,e]:=h.ok I.hok;show#[aa,r,#[_,n,e,rfl,rfl,rfl],z]
 .show#[aa.R,r,#[o,n,I.kIn a o hk,hc,hd,~~~hs],?_];let e:=r.B;simp at e;lia
def Inv.tuple(I:Inv X a8 σ H s)(h:SqT X.K H a xs):∃aa,Vals xs aa/\IsTup s.H a aa.G/\xs.B<=sizeLine:=by
 let h\/#[o,aa,n,hk,hc,_,hs,hz,r]:=h
 .let#[z,aa,r,p]:=h.ok I.hok;show#[aa,r,p.X,z]
 .show#[aa.R,r,#[o,I.kIn a o hk,hc,n,~~~hs],?_];let e:=r.B;simp at e;lia
def Inv.tupleD(I:Inv X a8 σ H s)(h:SqT X.K H a xs):∃o,s.H.get? a=@o/\o.dict=none:=by
 let h\/#[o,aa,n,hk,hc,hd,hs,hz,r]:=h
 .let#[z,aa,r,o,e,_,d,_]:=h.ok I.hok;show#[o,e,d]
 .show#[o,I.kIn a o hk,hd]
def Inv.list_inj(I:Inv X a8 σ H s)(h:SqL X.K H a xs)(h':SqL X.K H a ys):xs=ys:=by
 let#[aa,r,#[o,n,e,_,_,d],_]:=I.list h;let#[its',r',#[o',n',e',_,_,d'],_]:=I.list h';rw[e]at e';cases e';rw[d]at d';injection d' with d1 _;let:aa=its':= ~~~(congrArg Array.R d1)
 subst this;show r.inj r'
def Inv.tuple_inj(I:Inv X a8 σ H s)(h:SqT X.K H a xs)(h':SqT X.K H a ys):xs=ys:=by
 let#[aa,r,#[o,e,_,n,d],_]:=I.tuple h;let#[its',r',#[o',e',_,n',d'],_]:=I.tuple h';rw[e]at e';cases e';rw[d]at d';injection d' with d1 _;let:aa=its':= ~~~(congrArg Array.R d1)
 subst this;show r.inj r'
end
abbrev Cx.wish(X:Cx)(E:VP9):Cx:={X with xe:=E}
def Cx.Ok.wish{X:Cx}(ok:X.Ok) E:(X.wish E).Ok:=
 #[ok.mod,ok.kind,ok.glob,ok.blt,ok.above,ok.inj,ok.has,ok.cab,ok.hd,ok.frames,ok.stk,ok.exf,ok.bs,ok.bsz,ok.noex,ok.exfs,ok.funs,ok.frf]
def Cx.Ok.unwish{X:Cx}{E}(ok:(X.wish E).Ok):X.Ok:=
 #[ok.mod,ok.kind,ok.glob,ok.blt,ok.above,ok.inj,ok.has,ok.cab,ok.hd,ok.frames,ok.stk,ok.exf,ok.bs,ok.bsz,ok.noex,ok.exfs,ok.funs,ok.frf]
section
variable {X:Cx}{a8:LA9}{σ:St}{H:Hp}{s:Shared}{E:VP9}
def Inv.wish(I:Inv X a8 σ H s) E:Inv (X.wish E) a8 σ H s:=#[I.ok.wish E,I.os,I.bare,I.base,I.loc,I.cell,I.free,I.freeC,I.pin,I.hok,I.len]
def Inv.unwish(I:Inv (X.wish E) a8 σ H s):Inv X a8 σ H s:=#[I.ok.unwish,I.os,I.bare,I.base,I.loc,I.cell,I.free,I.freeC,I.pin,I.hok,I.len]
#where in
def SP.unwish{D f s'}(h:SP (X.wish E) a8 D f s'):SP X a8 D f s':=by
 cases f with|next=>let#[σ',H',I,q]:=h;show#[σ',H',I.unwish,q]|brk=>let#[σ',H',I,q]:=h;show#[σ',H',I.unwish,q]|cont=>let#[σ',H',I,q]:=h;show#[σ',H',I.unwish,q]|ret u=>let#[v,σ',H',I,r,q]:=h;show#[v,σ',H',I.unwish,r,q]
end
section
variable {X:Cx}{st:Stmt}{ac:List Stmt}{t u:TS}{e:Expr}{te:TE}{pos:Pos}
abbrev xwz:TS:=λD σ H=>D.nx σ H
abbrev tSeq(t u:TS):TS:=λD σ H=>t {D with nx:=u D} σ H
def _aG:PSs X [] xwz:=λ_ _ σ H _ I h=>wpAny_execs_nil #[σ,H,I,h]
#where in
def _aH(h1:PS X st t)(h2:PSs X ac u):PSs X (st::ac) (tSeq t u):=by
 intro a8 s σ H D I h;show wpAny_execs_cons (thn (h1 a8 s σ H {D with nx:=u D} I h) λf s1 q=>?_);cases f with
 |next=>
  let#[σ',H',I',q]:=q;show h2 a8 s1 σ' H' D I' q
 |ret v=>show q|brk=>show q|cont=>show q
#where in
def _aI(h1:PS X st t):PSs X [st] t:=by
 intro a8 s σ H D I h;show wpAny_execs_cons (thn (h1 a8 s σ H D I h) λf s1 q=>?_);cases f with|next=>show wpAny_execs_nil q|ret v=>show q|brk=>show q|cont=>show q
def Inv.quiet{a8}{σ:St}{H s}(I:Inv X a8 σ H s):interactive X.Y=false:=by simp[interactive,I.ok.kind]
abbrev xx1(te:TE):TS:=λD σ H=>te σ H λ_ H1=>D.nx σ H1
def _aJ(he:PE X e te)(hs:swapsWith e none pos.line X.Y=pure false<|>Ŕ):PS X (.Expr e pos) (xx1 te):=by
 intro a8 s σ H D I h;show wpAny_Expr_any (thn (he a8 s σ H _ I h) λv s1 hz=>by let#[x,H1,I1,r1,q1]:=hz;show#[σ,H1,I1,q1]) I.quiet hs
abbrev tRet(te:TE):TS:=λD σ H=>te σ H D.rt
def _aK(he:PE X e te):PS X (.Return @e pos) (tRet te):=by
 intro a8 s σ H D I h;show wpAny_Return_some (thn (he a8 s σ H _ I h) λv s1 hz=>by let#[x,H1,I1,r1,q1]:=hz;show#[x,σ,H1,I1,r1,q1])
abbrev tIfS(c:TT)(t u:TS):TS:=λD σ H=>c σ H λb H1=>if b=true then t D σ H1 else u D σ H1
def _aL{c a b tc}(hc:PT X c tc)(ha:PSs X a t)(hb:PSs X b u):PS X (.If c a b pos) (tIfS tc t u):=by
 intro a8 s σ H D I h;show wpAny_If (thn (hc a8 s σ H _ I h) λd s1 hz=>?_);let#[H1,I1,q1]:=hz;cases d with|true=>show ha a8 s1 σ H1 D I1 q1|false=>show hb a8 s1 σ H1 D I1 q1
end
abbrev TG:=V->St->Hp->(St->Hp->Prop)->Prop
abbrev TGs:=List V->St->Hp->(St->Hp->Prop)->Prop
def PG(X:Cx)(jb:Expr)(t:TG):Prop:=
 ∀(a8:LA9) (s:Shared) (σ:St) (H:Hp) (v:V) (u:Value) (Q:St->Hp->Prop),Inv X a8 σ H s->RelV v u->t v σ H Q ->
  ∅ (assign jb X.Y u) (λ_ s'=>∃ σ' H',Inv X a8 σ' H' s'/\Q σ' H') X.xe s
def PGs(X:Cx)(ts:List Expr)(t:TGs):Prop:=
 ∀(a8:LA9) (s:Shared) (σ:St) (H:Hp) (vs:List V) (us:List Value) (Q:St->Hp->Prop),Inv X a8 σ H s->Vals vs us->t vs σ H Q ->
  ∅ (assignInOrder ((assignEach ts X.Y).C (·.2)) us) (λ_ s'=>∃ σ' H',Inv X a8 σ' H' s'/\Q σ' H') X.xe s
abbrev TIp:=V->V->Hp->VK->Prop
def PIp(X:Cx)(op:Operator)(t:TIp):Prop:=
 ∀(a8:LA9) (s:Shared) (σ:St) (H:Hp) (x y:V) (v u:Value) (Q:VK),Inv X a8 σ H s->RelV x v->RelV y u->t x y H Q ->
  ∅ (inplaceOp op v u) (EP X a8 σ Q) X.xe s
section
variable {X:Cx}{pos:Pos}
abbrev vvb(i:Nat):TG:=λv σ H Q=>Q (σ.ç i @v) H
def _aM{i x}(hN:X.N.V)(hi:X.N[i]?=@x)(hx:Loc X.Y.ú x)(hf:X.fn x=true\/X.Y.ú.ð.U x=@.local<|>Ř):PG X (.é x pos) (vvb i):=by
 intro a8 s σ H v u Q I r h;show wpAny_assign_Name (_ar I hN hi hx r (λs' I'=>#[_,H,I',h]) hf)
abbrev zk6:TGs:=λvs σ H Q=>vs=[]/\Q σ H
abbrev xqp(t:TG)(u:TGs):TGs:=λvs σ H Q=>∃v r,vs=v::r/\t v σ H fun σ' H'=>u r σ' H' Q
def Qw:PGs X [] zk6:=by
 rintro a8 s σ H vs us Q I r ⟨e,h⟩;subst e;show assignInOrder_nil #[σ,H,I,h]
def ww{e es t u}(h1:PG X e t)(h2:PGs X es u)
  (hs:(assignEach (e::es) X.Y).C (·.2)=assign e X.Y::(assignEach es X.Y).C (·.2)<|>Ŕ):PGs X (e::es) (xqp t u):=by
 rintro a8 s σ H vs us Q I r ⟨v,vr,e1,h⟩;subst e1;cases r with
 |cons r rr=>
  rw[hs];show assignInOrder_cons (thn (h1 a8 s σ H _ _ _ I r h) λ_ s1 hz=>by let#[σ1,H1,I1,q1]:=hz;show(h2 a8 s1 σ1 H1 _ _ Q I1 rr q1))
abbrev zjo(te:TE)(g:TG):TS:=λD σ H=>te σ H λx H1=>g x σ H1 D.nx
def _aN{tg e te g}(he:PE X e te)(hg:PG X tg g)(hs:swapsWithSole [tg] e pos.line X.Y=pure false<|>Ŕ)(hw:swappedStores [tg] e X.Y=pure none<|>Ŕ)
  (h1:(assignEach [tg] X.Y).C (·.2)=[assign tg X.Y]<|>Ŕ):PS X (.Assign [tg] e pos) (zjo te g):=by
 intro a8 s σ H D I h;show wpAny_Assign_stores (thn (he a8 s σ H _ I h) λv s1 hz=>?_) hs hw;let#[x,H1,I1,r1,q1]:=hz;rw[h1];show thn (hg a8 s1 σ H1 x v _ I1 r1 q1) λ_ s2 q=>q
def _aO{i x e te da}(hN:X.N.V)(hi:X.N[i]?=@x)(hx:Loc X.Y.ú x)(he:PE X e te)(hs:swapsWith e @(.é x da) pos.line X.Y=pure false<|>Ŕ)(hf:X.fn x=true\/X.Y.ú.ð.U x=@.local<|>Ř):
  PS X (.Assign [.é x da] e pos) (zjo te (vvb i)):=by
 intro a8 s σ H D I h;show wpAny_Assign_Name (thn (he a8 s σ H _ I h) λv s1 hz=>by let#[y,H1,I1,r1,q1]:=hz;show(_ar I1 hN hi hx r1 (λs2 I2=>#[_,H1,I2,q1]) hf)) hs
abbrev tAug(i:Nat)(te:TE)(ti:TIp):TS:=λD σ H=>∃x,σ[i]?=some @x/\te σ H λy H1=>ti x y H1 λz H2=>D.nx (σ.ç i @z) H2
#where in
def _aP{i:Nat}{x:Str}{e:Expr}{te:TE}{op:Operator}{ti:TIp}{da:Pos}(hN:X.N.V)(hi:X.N[i]?=@x)(hx:Loc X.Y.ú x)(he:PE X e te)(ho:PIp X op ti)(hf:X.fn x=true\/X.Y.ú.ð.U x=@.local<|>Ř):
  PS X (.AugAssign (.é x da) op e pos) (tAug i te ti):=by
 intro a8 s σ H D I h;let#[v,e1,h]:=h;let#[m,hn,hl]:=I.loc;let vis:Vis X.Y.ú x:=by let k\/k:=hx;show .O k;show .h (.O k)
 let#[u,r,l]:=hl i x v hi e1 vis;show wpAny_AugAssign_Name ?_;let go:∅ (eval e X.Y) (λw s₂=>∅ (inplaceOp op u w) (λr s₃=>∅ (storeName X.Y x r) (λ_=>SP X a8 D .next) X.xe s₃) X.xe s₂) X.xe s:=by
  show thn (he a8 s σ H _ I h) λw s1 #[y,H1,I1,r1,q1]=>?_
  show thn (ho a8 s1 σ H1 v y u w _ I1 r r1 q1) λz s2 #[zv,H2,I2,r2,q2]=>?_
  show _ar I2 hN hi hx r2 (λs3 I3=>#[_,H2,I3,q2]) hf
 let#[hk,hm]\/#[hk,c,hc,hcell]:=l
 .show wpAny_loadName_local I.ok.kind hk hn hm go
 .let hk\/hk:=hk
  .show wpAny_loadName_cell I.ok.kind hk hc hcell go
  .let k\/k:=hx
   .let:X.Y.ú.ð.U x=@.free:=hk;rw[k]at this;cases this
   .let:X.Y.ú.ð.U x=@.free:=hk;rw[k]at this;cases this
def ipI(f:Int->Int->Int):TIp:=λx y H Q=>∃i j,x=.E i/\y=.E j/\Q (.E (f i j)) H
def _aQ:PIp X .Add (ipI λi j=>i+j):=by
 intro a8 s σ H x y v u Q I r1 r2 h;let#[i,j,e1,e2,q]:=h;subst e1;subst e2;let#[t,rfl]:=r1;let#[t',rfl]:=r2;show iadd_int #[.E _,H,I.tok _,#[_,rfl],q]
end
section
variable {X:Cx}{pos:Pos}
abbrev wxz(c:TT)(tb:TS):TS:=λD σ H=>∃W:Nat->St->Hp->Prop,(∃m,W m σ H)/\∀m σ H,W m σ H ->
 c σ H λb H1=>if b=true then ∃N:St->Hp->Prop,(∀ σ' H',N σ' H'->∃m',m'<m/\W m' σ' H')/\tb {D with nx:=N,ct:=N,bk:=D.nx} σ H1 else D.nx σ H1
#where in
def _aR{c:Expr}{body:List Stmt}{tc:TT}{tb:TS}(hp:PassesOwn (model X.î X.w) X.A X.Y X.xe)(hc:PT X c tc)(hb:PSs X body tb):PS X (.While c body [] pos) (wxz tc tb):=by
 intro a8 s σ H D I h;let#[W,#[m0,w0],gy]:=h;show wpAny_While (codeAny_whileLoop (λn s'=>∃ σ' H',Inv X a8 σ' H' s'/\W n σ' H') ?_ m0 #[σ,H,I,w0]);rintro n s1 ⟨σ1,H1,I1,w1⟩;show Zt hp (thn (hc a8 s1 σ1 H1 _ I1 (gy n σ1 H1 w1)) λb s2 hz=>?_);let#[H2,I2,q2]:=hz;cases b with
 | true=>
  let#[N,hN,q2]:=q2;rw[X7 rfl];show Zt hp (thn (hb a8 s2 σ1 H2 _ I2 q2) λf s3 q3=>?_);cases f with
  |next=>
   let#[σ3,H3,I3,n3]:=q3;let#[m',hm,w3]:=hN σ3 H3 n3;show#[m',hm,σ3,H3,I3,w3]
  |cont=>
   let#[σ3,H3,I3,n3]:=q3;let#[m',hm,w3]:=hN σ3 H3 n3;show#[m',hm,σ3,H3,I3,w3]
  |brk=>show q3|ret v=>show q3
 |false=>
  rw[Xd Bool.false_ne_true];show wpAny_execs_nil #[σ1,H2,I2,q2]
end
structure It where
 go:Nat->Hp->Prop
 yld:Nat->Hp->V->Hp->Prop
 stop:Nat->Hp->Prop
def wW(X:Cx)(a8:LA9)(H:Hp)(b:Addr):Prop:=
 H b=none/\b≠X.Y.locals/\b∉X.fs/\(b>X.ex\/X.s₀.H.objs.L<=b)/\(∀x c,X.Y.cells.U x=@c->c≠b)/\∀p>X.pn++a8,p.1≠b
def Inv.fpOk{X a8}{σ:St}{H H' s}{b:Addr}(I:Inv X a8 σ H s)(hb:↥s<=b)(hn:H' b=none):wW X a8 H' b:=by
 show#[hn,Zv (Xs I.lt hb),I.nofs hb,.h (Yw I.sz hb),λx c e z=>?_,λp hp z=>?_]
 .let#[v,q]:=I.cell x c e;show absurd (Xs q.lt (z▸hb)) (Yt _)
 .show absurd (Xs (Xh (I.pin p hp).1) (z▸hb)) (Yt _)
structure Turn (P:Program)(w:World)(K:Frag)(tg:Expr)(J:It)(fp:List Addr)(it:Addr)(tn:Nat->Heap->Prop):Prop where
 mem:it>fp
 obj:∀i h,tn i h->∀b>fp,∃o,h.get? b=@o/\∀v,o.data≠.cell v
 keep:∀i h h',tn i h->(∀b>fp,∀o,h.get? b=@o->h'.get? b=@o)->tn i h'
 item:∀(X:Cx),X.î=P->X.w=w->X.K=K->X.calm=true->∀(i:Nat) (a8:LA9) (s:Shared) (σ:St) (H:Hp) (E:VP9),Inv X a8 σ H s->(∀b>fp,wW X a8 H b)->tn i s.H->J.go i H ->
  wpAny (model P w) X.A (pyNext (.I it)) (λr s1=>∃u,r=@u /\
   wpAny (model P w) X.A (letOwnedTupleGo tg (.I it) u) (λ_ s2=>∃x H',Inv X a8 σ H' s2/\RelV x u/\J.yld i H x H'/\tn (i+1) s2.H/\∀b>fp,H' b=none) E s1) E s
 done:∀(X:Cx),X.î=P->X.w=w->X.K=K->X.calm=true->∀(i:Nat) (a8:LA9) (s:Shared) (σ:St) (H:Hp) (E:VP9),Inv X a8 σ H s->(∀b>fp,wW X a8 H b)->tn i s.H->J.stop i H ->
  wpAny (model P w) X.A (pyNext (.I it)) (λr s1=>r=none/\Inv X a8 σ H s1) E s
 self:∀(A:Around) (i:Nat) (s:Shared) (Q:VP9) (E:VP9),tn i s.H->Q (.I it) s->wpAny (model P w) A (pyIter (.I it)) Q E s
abbrev TI:=St->Hp->(It->Hp->Prop)->Prop
def PIE(X:Cx)(a8:LA9)(σ:St)(tg:Expr)(R:It->Hp->Prop)(itv:Value)(s2:Shared):Prop:=
 ∃(it:Addr) (fp:List Addr) (tn:Nat->Heap->Prop) (J:It) (H':Hp),itv=.I it/\Inv X a8 σ H' s2/\Turn X.î X.w X.K tg J fp it tn/\tn 0 s2.H/\(∀b>fp,wW X a8 H' b)/\R J H'
def PI(X:Cx)(tg iter:Expr)(wi:TI):Prop:=
 ∀(a8:LA9) (s:Shared) (σ:St) (H:Hp) (R:It->Hp->Prop),Inv X a8 σ H s->wi σ H R ->
  ∅ (eval iter X.Y) (λv s1=>∅ (pyIter v) (PIE X a8 σ tg R) X.xe s1) X.xe s
def _aS {M A E s tg it u o n vs Q} (ho : s.H.get? it = @o) (hc : o.cls = .l n) (hd : o.data = .fields vs)
    (hn : ["enumerate", "zip", "dict_itemiterator", "dict_reverseitemiterator", "odict_iterator", "itertools.zip_longest", "itertools.pairwise"].contains n = false) (hQ : Q () s): wpAny M A (letOwnedTupleGo tg (.I it) u) Q E s:= by
  cases tg <;> first
    |show X4 hQ
    |(cases u <;> first
        |show X4 hQ
        | (show X0 (wpAny_load ho ?_)
           rw[hc,hd];change wpAny M A (if _ = true then _ else _) Q E s;rw[Xd (by grind)];show X4 hQ))
noncomputable def Itl(K:Frag)(a:Addr):It:=
 ⟨λi H=>∃xs x,SqL K H a xs/\xs[i]?=@x,λi H x H'=>H'=H/\∀xs,SqL K H a xs->xs[i]?=@x,λi H=>∃xs,SqL K H a xs/\xs.B<=i⟩
noncomputable def Itt(K:Frag)(a:Addr):It:=
 ⟨λi H=>∃xs x,SqT K H a xs/\xs[i]?=@x,λi H x H'=>H'=H/\∀xs,SqT K H a xs->xs[i]?=@x,λi H=>∃xs,SqT K H a xs/\xs.B<=i⟩
noncomputable def Itr(lo:Int)(n:Nat):It:=⟨λi _=>i<n,λi H x H'=>H'=H/\x=.E (lo+i),λi _=>n<=i⟩
def _aT{P w K tg}(a it):Turn P w K tg (Itl K a) [it] it (λi h=>h.IsListIter it a i) where
 mem:=by simp
 obj:=λi h st b hb=>by
  let e:b=it:= ~~~hb
  subst e;let#[o,e,c,d]:=st;show#[o,e,λv z=>by rw[d]at z;cases z]
 keep:=λi h h' st k=>st.at λo e=>k it (by simp) o e
 item:=by
  intro X hP hw hK hc i a8 s σ H E I hf st hg;subst hP hw hK;let#[xs,x,hq,hx]:=hg;let#[aa,rv,p,hz]:=I.list hq;let#[u,hu,ru]:=rv.get hx;let#[f0,f1,f2,f3,f4,f5]:=hf it (by simp);show wpAny_pyNext_list_item st p.isList (~~~hu) λh' fm sb=>?_
  let I1:Inv X a8 σ H {s with heap:=h' }:=I.turned (t':=s.toks) (λb o hb e=>(sb.2 b hb).J e) f0 f1 f3 f4 f5;let#[o,e,c,d]:=id fm;show#[u,rfl,_aS e c d .q #[x,H,I1,ru,#[rfl,λys hy=>by rw[I.list_inj hy hq];show hx],fm,λb hb=>(hf b hb).1]]
 done:=by
  intro X hP hw hK hc i a8 s σ H E I hf st hg;subst hP hw hK;let#[xs,hq,hx]:=hg;let#[aa,rv,p,hz]:=I.list hq;let#[f0,f1,f2,f3,f4,f5]:=hf it (by simp);let hl:=rv.B;show wpAny_pyNext_list_end (I.ok.hd hc) st p.isList (by simp;lia) λh' eb=>#[rfl,I.turned (t':=s.toks) (λb o hb e=>eb b o hb e) f0 f1 f3 f4 f5]
 self:=λ_ _ _ _ _ st h=>wpAny_pyIter_listiter st h
def _aU{P w K tg}(a it):Turn P w K tg (Itt K a) [it] it (λi h=>h.IsTupleIter it a i) where
 mem:=by simp
 obj:=λi h st b hb=>by
  let e:b=it:= ~~~hb
  subst e;let#[o,e,c,d]:=st;show#[o,e,λv z=>by rw[d]at z;cases z]
 keep:=λi h h' st k=>st.at λo e=>k it (by simp) o e
 item:=by
  intro X hP hw hK hc i a8 s σ H E I hf st hg;subst hP hw hK;let#[xs,x,hq,hx]:=hg;let#[aa,rv,p,hz]:=I.tuple hq;let#[u,hu,ru]:=rv.get hx;let#[f0,f1,f2,f3,f4,f5]:=hf it (by simp);show wpAny_pyNext_tuple_item st (p) (x:=u) (~~~hu) λh' fm sb=>?_
  let I1:Inv X a8 σ H {s with heap:=h' }:=I.turned (t':=s.toks) (λb o hb e=>(sb.2 b hb).J e) f0 f1 f3 f4 f5;let#[o,e,c,d]:=id fm;show#[u,rfl,_aS e c d .q #[x,H,I1,ru,#[rfl,λys hy=>by rw[I.tuple_inj hy hq];show hx],fm,λb hb=>(hf b hb).1]]
 done:=by
  intro X hP hw hK hc i a8 s σ H E I hf st hg;subst hP hw hK;let#[xs,hq,hx]:=hg;let#[aa,rv,p,hz]:=I.tuple hq;let#[f0,f1,f2,f3,f4,f5]:=hf it (by simp);let hl:=rv.B;show wpAny_pyNext_tuple_end (I.ok.hd hc) st (p) (by simp;lia) λh' eb=>#[rfl,I.turned (t':=s.toks) (λb o hb e=>eb b o hb e) f0 f1 f3 f4 f5]
 self:=λ_ _ _ _ _ st h=>wpAny_pyIter_tupleiter st h
def _aV{P w K tg}(it)(lo)(n):Turn P w K tg (Itr lo n) [it] it (λi h=>IsRangeIter h it (lo+(i)*1) ((n) - (i)) 1) where
 mem:=by simp
 obj:=λi h st b hb=>by
  let e:b=it:= ~~~hb
  subst e;show#[_,st,λv z=>by
   cases z]
 keep:=λi h h' st k=>k it (by simp) _ st
 item:=by
  intro X hP hw hK hc i a8 s σ H E I hf st hg;subst hP hw hK;let#[f0,f1,f2,f3,f4,f5]:=hf it (by simp);show(Walks.ä (prog:=X.î) (w:=X.w) (I.ok.hd hc) it lo 1 n).item i s _ _ hg st λv h' tk hv fm kk=>?_
  let#[t,rfl]:=hv;let I1:Inv X a8 σ H {s with heap:=h',toks:=tk}:=I.turned (λb o hb e=>kk b o (~~~hb) e) f0 f1 f3 f4 f5;show#[_,rfl,_aS fm rfl rfl .q #[.E _,H,I1,#[t,?_],#[rfl,rfl],fm,λb hb=>(hf b hb).1]];rw[Int.mul_one]
 done:=by
  intro X hP hw hK hc i a8 s σ H E I hf st hg;let#[f0,f1,f2,f3,f4,f5]:=hf it (by simp);show wpAny_pyNext_range_end (I.ok.hd hc) st (by let:n<=i:=hg;lia) λh' eb=>#[rfl,I.turned (t':=s.toks) (λb o hb e=>eb b o hb e) f0 f1 f3 f4 f5]
 self:=λ_ _ _ _ _ st h=>wpAny_pyIter_rangeiter st h
section
variable {X:Cx}{tg:Expr}
def _aW{a8}{σ:St}{H s R E lo hi t u v tk}(I:Inv X a8 σ H s)(h1:-(2 ^ 62)<=lo)(h2:lo<2 ^ 62)(h3:-(2 ^ 62)<=hi)(h4:hi<2 ^ 62)
  (q:R (Itr lo (hi - lo).M) H):∅ (pyIter (.I ↥s)) (PIE X a8 σ tg R) E {s with heap:=s.H.í {cls:=.l "range",data:=.fields %[.E lo t,.E hi u,.E 1 v|0]},toks:=tk}:=by
 show wpAny_pyIter_range (IsRange.new ..) (small_one h1 h2 h3 h4) ?_;let I1:Inv X a8 σ H {s with heap:=s.H.í {cls:=.l "range",data:=.fields %[.E lo t,.E hi u,.E 1 v|0]},toks:=tk}:=I.kept λb o e=>X2 _ e
 show#[(s.H.í {cls:=.l "range",data:=.fields %[.E lo t,.E hi u,.E 1 v|0]}).objs.L,[(s.H.í {cls:=.l "range",data:=.fields %[.E lo t,.E hi u,.E 1 v|0]}).objs.L],_,_,H,rfl,
  I1.kept (t':=tk) λb o e=>X2 _ e,_aV _ lo (hi - lo).M,?_,λb hb=>?_,q]
 .let e1:lo+((0:Nat):Int)*1=lo:=by simp
  let e2:(((hi - lo).M:Nat):Int) - ((0:Nat):Int)=Builtin.Range.rangeSize lo hi 1:=by rw[rangeSize_one];split<;>lia
  rw[e1,e2];show X9 _ rfl
 .let e:b=(s.H.í {cls:=.l "range",data:=.fields %[.E lo t,.E hi u,.E 1 v|0]}).objs.L:= ~~~hb
  subst e;show I1.fpOk (Xb _) (I1.hok.fresh (Xb _))
abbrev xzs(ta:TA):TI:=fun σ H R=>ta σ H λvs H1=>∃j:Int,vs=[.E j]/\-(2 ^ 62)<=j/\j<2 ^ 62/\R (Itr 0 j.M) H1
def _aX{a ta p pos}(hg:Gl X "range")(hm:X.mg "range"=none)(ha:PA X [a] ta)(hs:starEach [a] X.Y=[(false,eval a X.Y)]<|>Ŕ):PI X tg (.ù (.é "range" p) [a] [] pos) (xzs ta):=by
 intro a8 s σ H R I h;show Call_ (xQ I hg hm boot_range (Y0 (thn (ha pos a8 s σ H _ I h) λus s1 hz=>?_) hs rfl));let#[vs,H1,I1,r1,q1]:=hz;let#[j,e,q1,q2,q]:=q1;subst e;cases r1 with
 |cons r rr=>
  cases rr;let#[t,rfl]:=r;show call_range_1 (_aW I1 .q .q q1 q2 (~~~q))
abbrev tFor(wi:TI)(g:TG)(tb:TS):TS:=λD σ H=>wi σ H λJ H1=>∃W:Nat->Nat->St->Hp->Prop,(∃m,W 0 m σ H1)/\∀i m σ H,W i m σ H ->
 (J.stop i H/\D.nx σ H)\/(J.go i H/\∃N:St->Hp->Prop,(∀ σ' H',N σ' H'->∃m',m'<m/\W (i+1) m' σ' H')/\∀x H',J.yld i H x H'->g x σ H' fun σ2 H2=>tb {D with nx:=N,ct:=N,bk:=D.nx} σ2 H2)
def V6(fp:List Addr)(h:Heap):LA9:=fp.filterMap λb=>(h.get? b).C λo=>(b,o)
def _aY{fp h b o}(hb:b>fp)(e:h.get? b=@o):(b,o)>V6 fp h:=List.mem_filterMap.s #[b,hb,by rw[e];rfl]
def _aZ{fp h p}(hp:p>V6 fp h):p.1>fp/\h.get? p.1=@p.2:=by
 let#[b,hb,e]:=List.mem_filterMap.mp hp;cases q:h.get? b with
 |none=>rw[q]at e;cases e
 |some o=>
  rw[q]at e;let e':=_aa e;subst e';show#[hb,q]
def Inv.pinned{a8}{σ:St}{H s fp}(I:Inv X a8 σ H s)(hf:∀b>fp,wW X a8 H b)(ho:∀b>fp,∃o,s.H.get? b=@o/\∀v,o.data≠.cell v):Inv X (a8++V6 fp s.H) σ H s:=
 I.pins_of λp hp=>(aA hp).è (λz=>I.pin p (_ab _ z)) λz=>by
  let#[hb,e]:=_aZ z;let#[f0,f1,f2,_]:=hf p.1 hb;let#[o,e',d]:=ho p.1 hb;rw[e]at e';cases e';show#[e,f0,f1,f2,d]
def Inv.unpinned{a8 pl}{σ:St}{H s}(I:Inv X (a8++pl) σ H s):Inv X a8 σ H s:=I.pins_of λp hp=>I.pin p (_ab _ (_ac _ hp))
#where in
def _a0{iter:Expr}{body:List Stmt}{wi:TI}{g:TG}{tb:TS}{pos:Pos}(hp:PassesOwn (model X.î X.w) X.A X.Y X.xe)(hc:X.calm=true)(hi:PI X tg iter wi)(hg:PG X tg g)(hb:PSs X body tb)
  (hs:(∀x,foldedSetIterable iter X.Y x=pure x)<|>Ŗ):PS X (.For tg iter body [] pos) (tFor wi g tb):=by
 intro a8 s σ H D I h;show wpAny_For (thn (hi a8 s σ H _ I h) λv s1 h1=>thn h1 λitv s2 h2=>?_) hs;let#[it,fp,tn,J,H2,e,I2,T,bu,f2,W,#[m0,w0],gy]:=h2;subst e;let kr:∀{H':Hp},(∀b>fp,H' b=none)->∀b>fp,wW X a8 H' b:=λhn b hb=>#[hn b hb,(f2 b hb).2]
 show codeAny_forLoop_any (λn s'=>∃i σ' H',Inv X a8 σ' H' s'/\tn i s'.H/\(∀b>fp,H' b=none)/\W i n σ' H') ?_ m0 #[0,σ,H2,I2,bu,λb hb=>(f2 b hb).1,w0];rintro n s3 ⟨i,σ3,H3,I3,fh,t6,w3⟩;let#[stop,qn]\/#[go,N,hN,step]:=gy i n σ3 H3 w3
 .show Zt hp (thn (T.done X rfl rfl rfl hc i a8 s3 σ3 H3 X.xe I3 (kr t6) fh stop) λr s4 #[hr,I4]=>?_);subst hr;show wpAny_execs_nil #[σ3,H3,I4,qn]
 .show Zt hp (thn (T.item X rfl rfl rfl hc i a8 s3 σ3 H3 X.xe I3 (kr t6) fh go) λr s4 #[u,hr,h4]=>?_);subst hr;show Zt hp (thn h4 λ_ s5 #[x,H5,I5,r5,y5,n8,fr5]=>?_);let I5':=I5.pinned (kr fr5) (T.obj _ _ n8);show Zt hp (thn (hg _ s5 σ3 H5 x u _ I5' r5 (step x H5 y5)) λ_ s6 #[σ6,H6,I6,q6]=>?_);show Zt hp (thn (hb _ s6 σ6 H6 _ I6 q6) λf s7 q7=>?_);let again:∀{σ7:St} {H7:Hp},Inv X (a8++V6 fp s5.H) σ7 H7 s7->N σ7 H7->∃m,m<n/\∃i σ' H',Inv X a8 σ' H' s7/\tn i s7.H/\(∀b>fp,H' b=none)/\W i m σ' H':=fun {σ7 H7} I7 n7=>by
   let#[m',hm,w7]:=hN σ7 H7 n7;show#[m',hm,i+1,σ7,H7,I7.unpinned,T.keep _ _ _ n8 λb hb o e=>(I7.pin (b,o) (_ab _ (_ab _ (_aY hb e)))).1,λb hb=>?_,w7];let#[o,e,d]:=T.obj _ _ n8 b hb;show(I7.pin (b,o) (_ab _ (_ab _ (_aY hb e)))).2.1
  cases f with|next=>let#[σ7,H7,I7,n7]:=q7;show again I7 n7|cont=>let#[σ7,H7,I7,n7]:=q7;show again I7 n7|brk=>let#[σ7,H7,I7,q7]:=q7;show#[σ7,H7,I7.unpinned,q7]|ret v=>let#[x7,σ7,H7,I7,r7,q7]:=q7;show#[x7,σ7,H7,I7.unpinned,r7,q7]
end
abbrev R2:=V->V->Hp->VK->Prop
def OpR(X:Cx)(f:Value->Value->Sem Value)(r:R2):Prop:=
 ∀(a8:LA9) (s:Shared) (σ:St) (H:Hp) (x y:V) (v u:Value) (Q:VK),Inv X a8 σ H s->RelV x v->RelV y u->r x y H Q ->
  ∅ (f v u) (EP X a8 σ Q) X.xe s
def CallR(X:Cx)(f:Value)(r:List V->Hp->VK->Prop):Prop:=
 ∀(a8:LA9) (s:Shared) (σ:St) (H:Hp) (xs:List V) (us:List Value) (Q:VK),Inv X a8 σ H s->Vals xs us->r xs H Q ->
  ∅ (call f us) (EP X a8 σ Q) X.xe s
def TruR(X:Cx)(r:V->Hp->(Bool->Hp->Prop)->Prop):Prop:=
 ∀(a8:LA9) (s:Shared) (σ:St) (H:Hp) (x:V) (v:Value) (Q:Bool->Hp->Prop),Inv X a8 σ H s->RelV x v->r x H Q ->
  ∅ (truthy v) (TP X a8 σ Q) X.xe s
abbrev tOp(r:R2)(ta tb:TE):TE:=fun σ H Q=>ta σ H λx H1=>tb σ H1 λy H2=>r x y H2 Q
abbrev tUn(r:V->Hp->VK->Prop)(ta:TE):TE:=fun σ H Q=>ta σ H λx H1=>r x H1 Q
def rI(C:Int->Int->Prop)(g:Int->Int->V):R2:=λx y H Q=>∃i j,x=.E i/\y=.E j/\C i j/\Q (g i j) H
def rI0(g:Int->Int->V):R2:=λx y H Q=>∃i j,x=.E i/\y=.E j/\Q (g i j) H
section
variable {X:Cx}{a b c:Expr}{ta tb tc:TE}{pos:Pos}
def _a1(ha:PE X a ta)(hb:PE X b tb){a8 s}{σ:St}{H}{R:V->V->Hp->Prop}(I:Inv X a8 σ H s)
  (h:ta σ H λx H1=>tb σ H1 λy H2=>R x y H2) {Q} {f:Value->Value->Sem Value}
  (hf:∀v u s2 x y H2,Inv X a8 σ H2 s2->RelV x v->RelV y u->R x y H2->∅ (f v u) Q X.xe s2):
  ∅ (eval a X.Y) (λv s₁=>∅ (eval b X.Y) (λu s₂=>∅ (f v u) Q X.xe s₂) X.xe s₁) X.xe s:=by
 show thn (ha a8 s σ H _ I h) λv s1 #[x,H1,I1,r1,q1]=>(thn (hb a8 s1 σ H1 _ I1 q1) λu s2 #[y,H2,I2,r2,q2]=>(hf v u s2 x y H2 I2 r1 r2 q2))
def _a2{op r}(ho:OpR X (binaryOp op) r)(ha:PE X a ta)(hb:PE X b tb):PE X (.BinOp a op b pos) (tOp r ta tb):=by
 intro a8 s σ H Q I h;show wpAny_BinOp (_a1 ha hb I h λv u s2 x y H2 I2 rx ry q=>ho a8 s2 σ H2 x y v u Q I2 rx ry q)
def opI{f C}{g:Int->Int->Int}
  (rule:∀i j (t u) s Q E,C i j->Q (.E (g i j) s.toks) {s with toks:=s.toks+1}->∅ (f (.E i t) (.E j u)) Q E s):
  OpR X f (rI C λi j=>.E (g i j)):=by
 rintro a8 s σ H x y v u Q I rx ry ⟨i,j,rfl,rfl,hc,q⟩;let#[t,rfl]:=rx;let#[t',rfl]:=ry;show rule i j t t' s _ _ hc #[.E _,H,I.tok _,#[_,rfl],q]
def opI0{f}{g:Int->Int->Int}
  (rule:∀i j (t u) s Q E,Q (.E (g i j) s.toks) {s with toks:=s.toks+1}->∅ (f (.E i t) (.E j u)) Q E s):
  OpR X f (rI0 λi j=>.E (g i j)):=by
 rintro a8 s σ H x y v u Q I rx ry ⟨i,j,rfl,rfl,q⟩;let#[t,rfl]:=rx;let#[t',rfl]:=ry;show rule i j t t' s _ _ #[.E _,H,I.tok _,#[_,rfl],q]
def _a3{f}{g:Int->Int->Bool}
  (rule:∀i j (t u) (s) (Q) (E),Q (.bool (g i j)) s->∅ (f (.E i t) (.E j u)) Q E s):
  OpR X f (rI0 λi j=>.bl (g i j)):=by
 rintro a8 s σ H x y v u Q I rx ry ⟨i,j,rfl,rfl,q⟩;let#[t,rfl]:=rx;let#[t',rfl]:=ry;show rule i j t t' s _ _ #[.bl _,H,I,rfl,q]
def _a4(i j:Int):Prop:=0<=j/\j<=1000000/\i.natAbs<2 ^ 64
def op_add:OpR X (binaryOp .Add) (rI0 λi j=>.E (i+j)):=opI0 λ_ _ _ _ _ _ _ q=>add_int q
def _a5:OpR X (binaryOp .Mod) (rI (λ_ j=>0<j) λi j=>.E (i % j)):=opI λi j _ _ _ _ _ hc q=>by
 show mod_int' .q (by rw[Int.fmod_eq_emod_of_nonneg i .q];show q)
def _a6:OpR X (binaryOp .Pow) (rI _a4 λi j=>.E (i ^ j.M)):=opI λ_ _ _ _ _ _ _ hc q=>pow_int_small hc.1 hc.2.1 hc.2.2 q
end
section
variable {X:Cx}{a b c:Expr}{ta tb tc:TE}{pos:Pos}
def _a7{a8}{σ:St}{H s Q k k'}(I:Inv X a8 σ H s)(q:Q (.bl k) H)(e:k=k'):EP X a8 σ Q (.bool k') s:=by
 subst e;show#[.bl k,H,I,rfl,q]
def _a8:OpR X (compareOp .Lt) (rI0 λi j=>.bl (decide (i<j))):=_a3 λ_ _ _ _ _ _ _ q=>lt_int q
def _a9:OpR X (compareOp .LtE) (rI0 λi j=>.bl (decide (i<=j))):=_a3 λ_ _ _ _ _ _ _ q=>le_int q
def _ba:OpR X (compareOp .GtE) (rI0 λi j=>.bl (decide (j<=i))):=_a3 λ_ _ _ _ _ _ _ q=>ge_int q
def _bb:OpR X (compareOp .In) (λx y H Q=>∃i j,x=.x i/\y=.x j/\Q (.bl (!(Builtin.Str.occurrences j i 0 j.B 1).û)) H):=by
 rintro a8 s σ H x y v u Q I rx ry ⟨i,j,rfl,rfl,q⟩;let#[t,rfl]:=rx;let#[t',rfl]:=ry;show in_str (_a7 I q rfl)
def _bc:OpR X (compareOp .Is) (λx y H Q=>y=.ó/\Q (.bl (decide (x=.ó))) H):=by
 rintro a8 s σ H x y v u Q I rx ry ⟨rfl,q⟩;cases ry;show is_none_gen (_a7 I q ?_);cases x<;>first
  |(let#[t,rfl]:=rx;rfl)
def _bd:OpR X (compareOp .IsNot) (λx y H Q=>y=.ó/\Q (.bl (!decide (x=.ó))) H):=by
 rintro a8 s σ H x y v u Q I rx ry ⟨rfl,q⟩;cases ry;show isnot_none_gen (_a7 I q ?_);cases x<;>first
  |(let#[t,rfl]:=rx;rfl)
def OpR.or{f r r'}(h:OpR X f r)(h':OpR X f r'):OpR X f (λx y H Q=>r x y H Q\/r' x y H Q):=by
 intro a8 s σ H x y v u Q I rx ry q;let q\/q:=q
 .show h a8 s σ H x y v u Q I rx ry q
 .show h' a8 s σ H x y v u Q I rx ry q
def Jv b {op}(h:op≠.In<|>ŕ)(h2:op≠.NotIn<|>ŕ):behindInMarks op b=false:=by
 let e1:(op==CmpOp.In)=false:=by cases op<;>first|rfl|show absurd rfl h
 let e2:(op==CmpOp.NotIn)=false:=by cases op<;>first|rfl|show absurd rfl h2
 cases b<;>simp[behindInMarks,e1,e2]
def _be{op r}(ho:OpR X (compareOp op) r)(ha:PE X a ta)(hb:PE X b tb)(hm:behindInMarks op b=false):PE X (.Compare a [op] [b] pos) (tOp r ta tb):=by
 intro a8 s σ H Q I h;show wpAny_Compare1 (_a1 ha hb I h λv u s2 x y H2 I2 rx ry q=>ho a8 s2 σ H2 x y v u Q I2 rx ry q) hm
abbrev wz0(t:TE):TT:=fun σ H Q=>t σ H λx H'=>∃k,x=.bl k/\Q k H'
def _bf{op r}(ho:OpR X (compareOp op) r)(ha:PE X a ta)(hb:PE X b tb)(hm:behindInMarks op b=false):PT X (.Compare a [op] [b] pos) (wz0 (tOp r ta tb)):=by
 intro a8 s σ H Q I h;show wpAny_isTrue_Compare1 (thn (ha a8 s σ H _ I h) λv s1 #[x,H1,I1,r1,q1]=>thn (hb a8 s1 σ H1 _ I1 q1) λu s2 #[y,H2,I2,r2,q2]=>
  thn (ho a8 s2 σ H2 x y v u _ I2 r1 r2 q2) λc s3 #[z,H3,I3,r3,k,e,q3]=>?_) hm
 subst e;cases r3;show Zu #[H3,I3,q3]
abbrev wjn(r r':R2)(ta tb tc:TE):TE:=fun σ H Q=>ta σ H λx H1=>tb σ H1 λy H2=>r x y H2 λz H3=>∃k,z=.bl k /\
 (if k=true then tc σ H3 λw' H4=>r' y w' H4 Q else Q (.bl false) H3)
def _bg{op op' r r'}(ho:OpR X (compareOp op) r)(iq:OpR X (compareOp op') r')(ha:PE X a ta)(hb:PE X b tb)(hc:PE X c tc)
  (hm:lastMarks [op,op'] [b,c]=false:=by ac_rfl):PT X (.Compare a [op,op'] [b,c] pos) (wz0 (wjn r r' ta tb tc)):=by
 intro a8 s σ H Q I h;show isTrue_chain (thn (ha a8 s σ H _ I h) λv s1 #[x,H1,I1,r1,q1]=>test_link (thn (hb a8 s1 σ H1 _ I1 q1) λu s2 #[y,H2,I2,r2,q2]=>
  thn (ho a8 s2 σ H2 x y v u _ I2 r1 r2 q2) λd s3 #[z,H3,I3,r3,k,e,q3]=>?_)) hm
 subst e;cases r3;show Zu ?_;cases k with
 |false=>
  let#[k',e',q']:=q3;cases e';show ite_ff #[H3,I3,q']
 |true=>
  show ite_tt (test_last (thn (hc a8 s3 σ H3 _ I3 q3) λw' s4 #[z',H4,I4,r4,q4]=>thn (iq a8 s4 σ H4 y z' u w' _ I4 r2 r4 q4) λd' s5 #[z2,H5,I5,r5,k2,e2,q5]=>?_));subst e2;cases r5;show Zu #[H5,I5,q5]
def _bh(K:Frag)(x:V)(H:Hp)(k:Bool):Prop:=
 match x with
 |.ó=>k=false|.bl b=>k=b|.E i=>k=(i != 0)|.x y=>y.B<=sizeLine/\k=((y.B:Int) != 0)|.byt y=>y.L<=sizeLine/\k=((y.L:Int) != 0)|.I p=>(∃xs,SqL K H p xs/\k=!xs.û)\/(∃xs,SqT K H p xs/\k=!xs.û)\/∃kvs,H p=@(.dK kvs)/\k=!kvs.û|_=>False
def _bi{κ kvs}{vs:List (κ×Value)}(r:KV kvs vs):(!vs.û)=!kvs.û:=by
 cases r<;>rfl
def _bj{xs aa}(r:Vals xs aa):(!aa.G.û)=!xs.û:=by
 cases r<;>simp
def _bk:(sizeLine)<2 ^ 63:=.q
def _bl:TruR X (λx H Q=>∃k,_bh X.K x H k/\Q k H):=by
 rintro a8 s σ H x v Q I rx ⟨k,e,q⟩;let hl:=_bk;let hs:sizeLine=16777216:=Z0;cases x with
 | non=>
  cases rx;let e':k=false:=e;subst e';show truthy_none #[H,I,q]
 | bl b=>
  cases rx;let e':k=b:=e;subst e';show Zu #[H,I,q]
 | int i=>
  let#[t,rfl]:=rx;let e':k=(i != 0):=e;subst e';show PySem.P.truthy_int #[H,I,q]
 | str y=>
  let#[t,rfl]:=rx;obtain⟨hy,e'⟩:y.B<=sizeLine/\k=((y.B:Int) != 0):=e;subst e';show PySem.P.truthy_str .q #[H,I.tok _,q]
 | byt y=>
  let#[t,rfl]:=rx;obtain⟨hy,e'⟩:y.L<=sizeLine/\k=((y.L:Int) != 0):=e;subst e';show PySem.W.truthy_bytes .q #[H,I.tok _,q]
 | ref p=>
  cases rx;let e':(∃xs,SqL X.K H p xs/\k=!xs.û)\/(∃xs,SqT X.K H p xs/\k=!xs.û)\/∃kvs,H p=@(.dK kvs)/\k=!kvs.û:=e;let#[xs,hx,e']\/#[xs,hx,e']\/#[kvs,hx,e']:=e'
  .subst e';let#[aa,r,pl,hz]:=I.list hx;let af:=r.B;show wpAny_truthy_list pl.isList (by dsimp[Xe];lia) #[H,I.tok _,by rw[_bj r];show q]
  .subst e';let#[aa,r,pl,hz]:=I.tuple hx;let af:=r.B;show truthy_tuple pl (by dsimp[Xe];lia) #[H,I.tok _,by rw[_bj r];show q]
  .subst e';obtain⟨hz,hS,vs,r,m⟩:kvs.B<=sizeLine/\(p==sysModules)=false/\∃vs,KV kvs vs/\s.H.DictOf (zZ X.î X.w) p vs:=I.hok p _ hx;let af:kvs.B=vs.B:=Paired.B r;show wpAny_truthy_dict hS m .q #[H,I.tok _,by rw[_bi r];show q]
 |_=>show(show False from e).è
def _bm(ha:PE X a ta)(he:∀gz,isTrue a X.Y gz=(do let v <-gz;standAt a.pos;holding [v] (truthy v))):
  PT X a (fun σ H Q=>ta σ H λx H'=>∃k,_bh X.K x H' k/\Q k H'):=by
 intro a8 s σ H Q I h;show isTrue_plain (thn (ha a8 s σ H _ I h) λv s1 hz=>by let#[x,H1,I1,r1,q1]:=hz;show _bl a8 s1 σ H1 x v Q I1 r1 q1) (he _)
def _Oa:OpR X (binaryOp .Add) (λx y H Q=>∃i j,x=.x i/\y=.x j/\i.B+j.B<=sizeLine/\Q (.x (i++j)) H):=by
 rintro a8 s σ H x y v u Q I rx ry ⟨i,j,rfl,rfl,hz,q⟩;let#[t,rfl]:=rx;let#[t',rfl]:=ry;show add_str (λt' tk=>#[.x (i++j),H,I.tok _,#[_,rfl],q]) hz
def wj{x us}(r:Vals [x] us):∃u,us=[u]/\RelV x u:=by
 cases r with|cons r1 r2=>cases r2;show#[_,rfl,r1]
def _bn{x y us}(r:Vals [x,y] us):∃u w',us=[u,w']/\RelV x u/\RelV y w':=by
 cases r with
 |cons r1 r2=>
  cases r2 with|cons r3 r4=>cases r4;show#[_,_,rfl,r1,r3]
def _bo(hc:X.calm=true):CallR X (.u "min") (λxs H Q=>∃i j,xs=[.E i,.E j]/\Q (.E (if j<i then j else i)) H):=by
 intro a8 s σ H xs us Q I r h;let#[i,j,rfl,q]:=h;let#[u,w',rfl,#[t,rfl],#[t',rfl]]:=_bn r;show min_two_ints (I.ok.hd hc) λh' tk k=>#[_,H,I.kept k,?_,q]
 by_cases hj:j<i
 .rw[X7 hj,X7 hj];show#[_,rfl]
 .rw[Xd hj,Xd hj];show#[_,rfl]
def _bp:CallR X (.l "int") (λxs H Q=>(∃i,xs=[.E i]/\Q (.E i) H)\/∃k,xs=[.bl k]/\Q (.E (if k then 1 else 0)) H):=by
 intro a8 s σ H xs us Q I r h;let#[i,rfl,q]\/#[k,rfl,q]:=h
 .let#[u,rfl,t,rfl]:=wj r;show call_int_int #[.E i,H,I,#[_,rfl],q]
 .let#[u,rfl,r1]:=wj r;cases r1;show call_int_bool #[.E _,H,I.tok _,#[_,rfl],q]
end
structure ObjM (h:Heap)(x dx C:Addr)(mA:Str->Option Value):Prop where
 obj:h.get? x=@(PySem.W.instObj C dx)
 ns:h.Ns1 dx mA
 ne:dx≠x
#where in
def _bq{h:Heap}{dx mA}(n:h.Ns1 dx mA):∃od,h.get? dx=@od/\∀name,PySem.W.lookIn name od=@(mA name):=by
 let#[o,es,ep,ho,hd,hk,_,hm]:=n;show#[o,ho,λname=>?_];let e:=hm name;unfold nsFind findBy at e;rw[<-Array.find?_toList]at e;ext PySem.W.lookIn;rw[hd];right
 split
 .revert y q;rw[q]at e;show congrArg some e
 .revert q;let a:es.R.any (·.refKey)=false:=by
   rw[List.any_eq_false];intro y hy;let#[z,t,jm]:=hk y (Array.mem_toList_iff.mp hy);simp[DictEntry.refKey,jm]
  grind
def ObjM.look{h x dx C mA}(I:ObjM h x dx C mA):∃od,PySem.W.InstAt h x (PySem.W.instObj C dx) C @od/\∀name,PySem.W.lookIn name od=@(mA name):=
 let ⟨od,ho,hl⟩:=_bq I.ns
 #[od,#[I.obj,rfl,rfl,ho],hl]
def RelO.some_of{v o}(r:RelO @v o):∃u,o=@u/\RelV v u:=by
 cases o with|none=>show(r).è|some u=>show#[u,rfl,r]
section
variable {P:Program}{w:World}{H H':Hp}{h h':Heap}{a C dx:Addr}{fs fs':List (Str×V)}
def _br(hok:HOk P w H h)(e:H a=@(.ins C dx fs)):∃mA,ObjM h a dx C mA/\(∀f,RelO (fs.U f) (mA f))/\PySem.Within mA (fs.C (·.1))/\fs.B<=1000/\H dx=@(.ë a):=by
 let#[d,z,ne,ob,mA,n,r,q]:=(hok a _ e);show#[mA,#[ob,n,ne],r,q,z,d]
end
structure Cls (K:Frag)(C:Addr):Prop where
 pg:PySem.W.plainGet K C Str.empty=true
 hd:PySem.W.hasDictIn K C=true
 po:PySem.W.plainOver K C=true
 sa:findIn K (.I C) "__setattr__"=some @(.u "object.__setattr__")
def Cls.get{K C}(c:Cls K C) f:PySem.W.plainGet K C f=true:=c.pg
section
variable {X:Cx}{a8:LA9}{σ:St}{H:Hp}{s:Shared}{A:Around}{E:VP9}{Q:VP9}{c:Value}{b:Bool}
inductive TyOf (K:Frag)(H:Hp):V->Value->Prop where
 | non:TyOf K H .ó (.l "NoneType")
 | bl (x:Bool):TyOf K H (.bl x) (.l "bool")
 | int (i:Int):TyOf K H (.E i) (.l "int")
 | str (x:Str):TyOf K H (.x x) (.l "str")
 | flt (x:UInt64):TyOf K H (.flt x) (.l "float")
 | lst {a:Addr} {xs:List V} (e:H a=@(.S xs)):TyOf K H (.I a) (.l "list")
 | frz {a:Addr} {o:Obj} {xs:List V} (e:H a=@(.frz o (.S xs))):TyOf K H (.I a) (.l "list")
 | tup {a:Addr} {xs:List V} (e:H a=@(.X xs)):TyOf K H (.I a) (.l "tuple")
 | dK {a:Addr} {kvs:List (Key×V)} (e:H a=@(.dK kvs)):TyOf K H (.I a) (.l "dict")
 | dT {a:Addr} {kvs:List (List Key×V)} (e:H a=@(.dT kvs)):TyOf K H (.I a) (.l "dict")
 | ins {a C dx:Addr} {fs:List (Str×V)} (e:H a=@(.ins C dx fs)) (cl:Cls K C) (ha:findIn K (.I C) "__class__"=some @(.u "object.__class__"))
   (hn:PySem.W.specialIn K (.u "object.__class__") "__get__"=some @(.u "getset_descriptor.__get__")) (uh:PySem.W.takesIn K (.u "object.__class__")=@true)
   (hm:PySem.W.mroIn K C (.l "object")=@true):TyOf K H (.I a) (.I C)
def _bs{x u t}(I:Inv X a8 σ H s)(rx:RelV x u)(ty:TyOf X.K H x t)(e:kitOne X.K t c=@b)(h:∀tk,Q (.bool b) {s with toks:=tk}):
  wpAny (model X.î X.w) A (call (.u "isinstance") [u,c]) Q E s:=by
 cases ty with
 |non=>cases(rx);show Yi PySem.W.kitx_none I.kIn J4 e (nofun) h|bl y=>cases(rx);show Yi PySem.W.kitx_bool I.kIn J4 e (nofun) h|int i=>let#[t,q]:=(rx);cases q;show Yi PySem.W.kitx_int I.kIn J4 e (nofun) h|str y=>let#[t,q]:=(rx);cases q;show Yi PySem.W.kitx_str I.kIn J4 e (nofun) h|flt y=>let#[t,q]:=(rx);cases q;show Yi PySem.W.kitx_float I.kIn J4 e (nofun) h
 |@lst a xs ea=>
  cases(show u=Value.I a from rx);let#[_,_,n,_,h1]:=(I.hok a _ ea);show Yi PySem.W.kitx_list I.kIn #[_,h1,rfl] e (nofun) h
 |@frz a ob xs ea=>
  cases(rx);let#[_,_,_,n,_,h1]:=(I.hok a _ ea);show Yi PySem.W.kitx_list I.kIn #[_,h1,rfl] e (nofun) h
 |@tup a xs ea=>
  cases(show u=Value.I a from rx);let#[_,_,_,p]:=(I.hok a _ ea);let#[o,h1,h2,_]:=p;show Yi PySem.W.kitx_tuple I.kIn #[o,h1,h2] e (nofun) h
 |@dK a kvs ea=>
  cases(show u=Value.I a from rx);let#[_,_,vs,_,p]:=(I.hok a _ ea);let#[o,es,ep,h1,h2,_]:=p;show Yi PySem.W.kitx_dict I.kIn #[o,h1,h2.1] e (nofun) h
 |@dT a kvs ea=>
  cases(show u=Value.I a from rx);let#[_,_,xs,_,o,es,ep,h1,h2,_]:=(I.hok a _ ea);show Yi PySem.W.kitx_dict I.kIn #[o,h1,h2.1] e (nofun) h
 |@ins a C dx fs ea cl ha hn uh hm=>
  cases(rx);let#[mA,O,_]:=_br I.hok ea;let#[od,J,_]:=O.look;show Yi (PySem.W.kitx_own (cl.get _) cl.hd ha hn uh hm) I.kIn J e (nofun) h
end
structure Room (k:Nat)(A:Around):Prop where
 hd:A.õ=none
 dp:A.depth+3*k+5<recursionLimit
 un:A.y+16*k+200<cLine
 gd:A.guards=⇑[]
def Room.mono{j k A}(r:Room k A)(h:j<=k):Room j A:=#[r.hd,by let:=r.dp;lia,by let:=r.un;lia,r.gd]
def Room.deeper{k A}(r:Room (k+1) A) env:Room k (A.deeper env):=
 #[r.hd,by let:=r.dp;change A.depth+1+3*k+5<_;lia,by let:=r.un;change A.y+3+16*k+200<_;lia,r.gd]
def Room.depth{k A}(r:Room k A):A.depth<recursionLimit:=by let:=r.dp;lia
def Room.y{k A}(r:Room k A):A.y+64<cLine:=by let:=r.un;lia
abbrev xwa:TA:=λ_ H Q=>Q [] H
abbrev vx6(ta:TE)(tr:TA):TA:=fun σ H Q=>ta σ H λx H1=>tr σ H1 λxs H2=>Q (x::xs) H2
section
variable {X:Cx}{e:Expr}{es:List Expr}{te:TE}{t:TA}{pos:Pos}
def vJ:PA X [] xwa:=λ_ _ _ _ H Q I h=>Calls.spliced_nil #[[],H,I,.nil,h]
abbrev _root_.Abs(e:Expr)(es:List Expr)(X:Cx):Prop:=starEach (e::es) X.Y=(false,eval e X.Y)::starEach es X.Y
def qZ(ha:PE X e te)(hr:PA X es t)(hs:Abs e es X<|>Ŕ):PA X (e::es) (vx6 te t):=by
 intro pos a8 s σ H Q I h;rw[hs];show Calls.spliced_cons (thn (ha a8 s σ H _ I h) λu s1 hz=>by let#[x,H1,I1,r1,q1]:=hz;show(thn (hr pos a8 s1 σ H1 _ I1 q1) λus s2 hz=>by let#[xs,H2,I2,r2,q2]:=hz;show#[x::xs,H2,I2,.æ r1 r2,q2]))
abbrev tTup(t:TA):TE:=fun σ H Q=>t σ H λxs H1=>xs.B<=sizeLine/\∀p,H1 p=none->Q (.I p) (upd H1 p (.X xs))
abbrev tLst(t:TA):TE:=fun σ H Q=>t σ H λxs H1=>xs.B<=sizeLine/\∀p,H1 p=none->Q (.I p) (upd H1 p (.S xs))
def _bt{x1}(h:PA X es t):PE X (.Tuple es x1 pos) (tTup t):=by
 intro a8 s σ H Q I hq;show wpAny_Tuple_spliced (thn (h pos a8 s σ H _ I hq) λus s1 #[xs,H1,I1,r,z,q]=>#[by rw[<-r.B];show z,(#[.I ↥s1,upd H1 ↥s1 _,I1.laid (t':=s1.toks) (λb u e=>X2 _ e) (Xb _) ?_,rfl,q _ (I1.hok.fresh (Xb _))])]);show#[z,us,r,#[_,X9 _ rfl,rfl,rfl,_,rfl]]
def _bu(h:PA X es t):PE X (.List es pos) (tLst t):=by
 intro a8 s σ H Q I hq;show wpAny_List_spliced (thn (h pos a8 s σ H _ I hq) λus s1 #[xs,H1,I1,r,z,q]=>#[by rw[<-r.B];show z,(#[.I ↥s1,upd H1 ↥s1 _,I1.laid (t':=s1.toks) (λb u e=>X2 _ e) (Xb _) ?_,rfl,q _ (I1.hok.fresh (Xb _))])]);show#[z,us,0,r,X9 _ rfl]
end
abbrev Sp:=List V->Hp->VK->XK->Prop
abbrev CXT:=List Env->Hp->Shared->XK->Value->Shared->Prop
structure Env0 (P:Program)(w:World)(K:Frag)(mg:Str->Option Value)(base:Heap)(A:Around)(outer:List Env)(s:Shared)(H:Hp):Prop where
 frames:A.frames=@outer
 mod:Mod K mg base
 bs:∀b o,base.get? b=@o->s.H.get? b=@o/\H b=none
 bsz:base.objs.L<=↥s
 funs:s.H.FunFrames base outer
 frf:∀b>frs outer,H b=none
 hok:HOk P w H s.H
 bare:AllBare s.gens
def CE(outer:List Env)(P:Program)(w:World)(H:Hp)(s:Shared)(Q:VK)(u:Value)(s':Shared):Prop:=
 ∃v H',s'.os=s.os/\AllBare s'.gens/\Un (frs outer) [] H H' s.H s'.H/\HOk P w H' s'.H/\RelV v u/\Q v H'
def CR(CX:CXT)(outer:List Env)(P:Program)(w:World)(H:Hp)(s:Shared)(Q:VK)(E:XK)(r:Result)(s':Shared):Prop:=
 match r with
 |.ok (.ret u)=>CE outer P w H s Q u s'|.ok _=>False|.error e=>CX outer H s E e s'
structure FnOk (P:Program)(w:World)(K:Frag)(mg:Str->Option Value)(base:Heap)(CX:CXT)(k:Nat)(f:Addr)(fd:FuncData)(ps:List Str)(sp:Sp):Prop where
 len:∀vs H Q E,sp vs H Q E->vs.B=ps.B
 run:∀(A:Around) (outer:List Env) (s:Shared) (H:Hp) (args:Args) (us:List Value) (vs:List V) (Q:VK) (E:XK),Room k A->Env0 P w K mg base A outer s H->BindsTo s fd args (ps.zip us)->Vals vs us->sp vs H Q E ->
  codeAny (model P w) A (.call (.I f) args) (CR CX outer P w H s Q E) s
section
variable {X:Cx}{a8:LA9}{σ:St}{H:Hp}{s s':Shared}
def Inv.env0(I:Inv X a8 σ H s):Env0 X.î X.w X.K X.mg X.base X.A X.stack s H:=
 #[I.ok.frames,I.ok.mod,I.bs,Yw I.ok.bsz I.sz,I.stack,I.stkFree,I.hok,I.bare]
def Inv.after{Q u}(I:Inv X a8 σ H s)(h:CE X.stack X.î X.w H s Q u s'):EP X a8 σ Q u s':=by
 let#[v,H',os,bare,un,hok,r,q]:=h;let#[hh,g,d,t,qf]:=s';obtain rfl:qf=s.os:=os;show#[v,H',I.call (h':=hh) (g':=g) (d':=d) (t':=t) un hok bare (λb z=>absurd z (by simp)),r,q]
end
abbrev wz2(sp:Sp)(uw:List V)(E:XK)(t:TA):TE:=fun σ H Q=>t σ H λvs H1=>sp (vs++uw) H1 Q E
def Binds(K:Frag)(fd:FuncData)(ps:List Str)(ds:List Value):Prop:=
 ∀(s:Shared) (us:List Value),K.In s.H->(us++ds).B=ps.B->BindsTo s fd #[us,[]] (ps.zip (us++ds))
def Binds.all{K fd ps}(h:∀us,us.B=ps.B->bindArgs fd #[us,[]]=pure (ps.zip us)):Binds K fd ps []:=λs us _ hl=>by
 rw[Xx]at hl ⊢;show .of_eq (h us hl)
def _bv(CX:CXT)(X:Cx)(E:XK):Prop:=∀(a8:LA9) (σ:St) (H:Hp) (s:Shared) (e:Value) (s':Shared),Inv X a8 σ H s->CX X.stack H s E e s'->X.xe e s'
section
variable {X:Cx}{CX:CXT}{k:Nat}{f C:Addr}{fd:FuncData}{ps:List Str}{sp:Sp}{uw:List V}{ds:List Value}{E:XK}{x m:Str}{p pos ay:Pos}{e o:Expr}{es:List Expr}{ta:TE}{t:TA}
#where in
def _bw{a8}{σ:St}{H s Q us vs}(F:FnOk X.î X.w X.K X.mg X.base CX k f fd ps sp)(hr:Room k X.A)(hb:Binds X.K fd ps ds)(hd:Vals uw ds)(hx:_bv CX X E)
  (I:Inv X a8 σ H s) (r:Vals vs us) (h:sp (vs++uw) H Q E):∅ (call (.I f) us) (EP X a8 σ Q) X.xe s:=by
 let r2:=r.append hd;let hl:(us++ds).B=ps.B:=by rw[<-r2.B];show F.len _ _ _ _ h
 show wpAny_call (codeAny_mono (F.run X.A X.stack s H _ _ _ Q E hr I.env0 (hb s us I.kIn hl) r2 h) λr s' hq=>?_);cases r with
 |error e=>show hx a8 σ H s e s' I hq
 |ok fl=>
  cases fl with|ret u=>show I.after hq|next=>show False.è hq|brk=>show False.è hq|cont=>show False.è hq
abbrev _root_.Abb(p:Pos)(es:List Expr)(X:Cx):Prop:=(backTo p (starEach es X.Y)).any (·.1)=false
def _bx(F:FnOk X.î X.w X.K X.mg X.base CX k f fd ps sp)(hr:Room k X.A)(hg:Gl X x)(hm:X.mg x=@(.I f))(hk:PySem.W.keepIn X.K (.I f)=true)(hb:Binds X.K fd ps ds)(hd:Vals uw ds)(hx:_bv CX X E)
  (ha:PA X (e::es) t) (gf:Abd x<|>ŕ) (he:Abs e es X<|>Ŕ) (bj:Abb pos es X<|>Ŕ):
  PE X (.ù (.é x p) (e::es) [] pos) (wz2 sp uw E t):=by
 intro a8 s σ H Q I h;show Yp (_ax I hg hm (PySem.W.callWith_K I.ok.mod.kin hk (thn (ha pos a8 s σ H _ I h) λus s1 hz=>by let#[vs,H1,I1,r,q]:=hz;show#[I1.kIn,(_bw F hr hb hd hx I1 r q)]) he bj) gf)
end
structure FnScope (N P:List Str)(sc:Scope):Prop where
 kind:sc.kind=.function
 co:sc.isCoroutine=false
 gen:sc.isGenerator=false
 nd:N.V
 pre:N.take P.B=P
 par:∀x>P,sc.ð.U x=@.local\/sc.ð.U x=@.cell
 nofree:∀y>sc.ð,y.2≠.free
def _by{kindOf x}: ∀{binds m},(∀v,(x,v)∉binds) -> bindL kindOf binds m x = m x
  | [],_,_=>rfl
  | (n,v)::r,m,h=>by
    ext bindL;rw[_by λw hw=>h w (_ad _ hw)]
    split
    . let : x≠n:= by rintro rfl; show h v X3
      simp[this]
    . rfl
def _bz{kindOf x}: ∀{binds m},(∀v,(x,v)∉binds) -> bindC kindOf binds m x = m x
  | [],_,_=>rfl
  | (n,v)::r,m,h=>by
    ext bindC;rw[_bz λw hw=>h w (_ad _ hw)]
    split
    . rfl
    . let : x≠n:= by rintro rfl; show h v X3
      simp[this]
def _bA{kindOf x v}:∀{P:List Str} {vs} {i:Nat} {m},P.V->P[i]?=@x->vs[i]?=@v->kindOf x=@.local ->
  bindL kindOf (P.zip vs) m x=@v
 |[],_,_,_,_,h,_,_=>by simp at h
 |p::P,w::vs,0,m,nd,h1,h2,hk=>by
  simp at h1 h2;subst h1;subst h2;change bindL kindOf (_::P.zip vs) m p=_;ext bindL;rw[_by λv hv=>(List.ø.mp nd).1 (List.of_mem_zip hv).1,X7 hk];simp
 |p::P,w::vs,i+1,m,nd,h1,h2,hk=>by
  ext bindL;show _bA (List.ø.mp nd).2 (~~~h1) (~~~h2) hk
def _bB{kindOf x v}:∀{P:List Str} {vs} {i:Nat} {m},P.V->P[i]?=@x->vs[i]?=@v->kindOf x≠@.local ->
  bindC kindOf (P.zip vs) m x=@v
 |[],_,_,_,_,h,_,_=>by simp at h
 |p::P,w::vs,0,m,nd,h1,h2,hk=>by
  simp at h1 h2;subst h1;subst h2;change bindC kindOf (_::P.zip vs) m p=_;ext bindC;rw[_bz λv hv=>(List.ø.mp nd).1 (List.of_mem_zip hv).1,Xd hk];simp
 |p::P,w::vs,i+1,m,nd,h1,h2,hk=>by
  ext bindC;show _bB (List.ø.mp nd).2 (~~~h1) (~~~h2) hk
def start(N:List Str)(vs:List V):St:=vs.C some++List.ß (N.B - vs.B) none
def JK(CX:CXT)(P:Program)(w:World)(K:Frag)(mg:Str->Option Value)(base:Heap)(N:List Str)(qual:Str)(scope:Scope)(f:Addr)(cd:Value)(A:Around)(outer:List Env)(s:Shared)(H:Hp)(E:XK):Cx where
 prog:=P
 w:=w
 K:=K
 mg:=mg
 base:=base
 A:=A.deeper (envOfC qual scope ↥s f cd)
 N:=N
 s₀:=s
 H₀:=H
 env:=envOfC qual scope ↥s f cd
 outer:=outer
 stack:=envOfC qual scope ↥s f cd::outer
 ex:=[]
 calm:=true
 fn:=λ_=>true
 pn:=[]
 xe:=λe s'=>wpAny (model P w) (A.deeper (envOfC qual scope ↥s f cd)) (leaving (envOfC qual scope ↥s f cd) e) (λ_ lq=>CX outer H s E e lq) (λe' lq=>CX outer H s E e' lq) s'
def _bC{sc:Scope}{n x}(h:sc.ð.U x=@.cell):∃c,(cellsFrom n sc.ð []).U x=@c:=by
 show Option.isSome_iff_exists.mp (PySem.W.cellsFrom_some sc.ð n [] (.O h))
def _bD{CX P w K mg base N ps qual scope f cd A outer s s1 H E us}{vs}
  (S:FnScope N ps scope) (hd:A.õ=none) (e0:Env0 P w K mg base A outer s H) (hl:vs.B=ps.B) (r:Vals vs us)
  (x:InCallC s ↥s (bindL (envOfC qual scope ↥s f cd).kindOf (ps.zip us) λ_=>none) (cellsFrom (↥s+1) scope.ð []) (bindC (envOfC qual scope ↥s f cd).kindOf (ps.zip us) λ_=>none) s1):
  Inv (JK CX P w K mg base N qual scope f cd A outer s H E) [] (start N vs) H s1:=by
 let bj:ps.B<=N.B:=by let:=congrArg List.B S.pre;rw[Z1]at this;lia
 let#[h1,tk,rfl,hk]:=x.done;let we:∀b,b∉(JK CX P w K mg base N qual scope f cd A outer s H E).ex:=λb z=>absurd (show b>([]:List Addr)from z) (by simp)
 show#[#[e0.mod,S.kind,rfl,rfl,Xb _,λy z c h1 h2=>?_,λy hy=>?_,λy c _ h=>?_,λ_=>hd,Around.frames_deeper e0.frames,.h #[rfl,rfl],λb z=>absurd z (we b),e0.bs,e0.bsz,λb _ _=>we b,λb z=>absurd z (we b),e0.funs,e0.frf],
  rfl,e0.bare,Un.kept hk,#[_,x.toInCall.ns,λi y v h1 h2 h3=>?_],λy c h=>#[_,x.cell y c h],e0.hok.fresh (Xb _),λy c h=>?_,λp hp=>absurd (show p>([]:List _)from hp) (by simp),e0.hok.kept hk,?_]
 .show name_of_addr x.apart (Z6 h1) (Z6 h2)
 .let hy\/hy:=hy
  .show _bC hy
  .show absurd rfl (S.nofree _ (Z6 hy))
 .show J3 (x.above y c (Z6 h))
 .let hi:i<vs.B:=by
   unfold start at h2
   by_cases hi:i<vs.B
   .show hi
   .rw[Yk (~~~hi),List.getElem?_replicate]at h2
    split at h2<;>cases h2
  let ha:vs[i]?=@v:=by
   unfold start at h2;rw[Xw (~~~hi),Xf]at h2;cases e:vs[i]? with|none=>rw[e]at h2;cases h2|some a=>rw[e]at h2;cases h2;rfl
  let#[u,hu,rv]:=r.get ha;let hp:ps[i]?=@y:=by
   rw[<-S.pre,List.getElem?_take_of_lt .q];show h1
  let ndP:ps.V:=by rw[<-S.pre];show S.nd.sublist (List.take_sublist _ _)
  show#[u,rv,?_];let k\/k:=S.par y (Y2 hp)
  .show .O #[k,_bA ndP hp hu k]
  .let#[c,e]:=_bC k;show .h #[.O k,c,e,?_];let q:=x.cell y c e;rw[_bB ndP hp hu (by change scope.ð.U y≠_;rw[k];decide)]at q;show q
 .show e0.hok.fresh (J3 (x.above y c (Z6 h)))
 .ext start;change _=N.B;rw[Xi,X5,Zs];lia
#where in
def _bE{CX P w K mg base k f name qual params body scope dV kV im pm ce ct oc}{an od}
  {nk N ps sp} (lk:K.U f=@#[oc,od,.func (PySem.W.fnOf name qual params body scope dV kV im pm an ce ct),nk]) (ja:PySem.W.codeIn K ce qual=true) (S:FnScope N ps scope)
  (len:∀vs H Q E,sp vs H Q E->vs.B=ps.B)
  (jr:∀A (outer) (s) (H) (vs) (Q) (E),Room k (A.deeper (envOfC qual scope ↥s f ce))->sp vs H Q E ->
   ∃t,PSs (JK CX P w K mg base N qual scope f ce A outer s H E) body t/\t {nx:=λ_ H'=>Q .ó H',rt:=Q} (start N vs) H):
  FnOk P w K mg base CX (k+1) f (PySem.W.fnOf name qual params body scope dV kV im pm an ce ct) ps sp:=by
 show#[len,λA outer s H args us vs Q E hr e0 hb r oh=>?_];let KX:=e0.mod.kin.keeps λb o e=>(e0.bs b o e).1
 let xi:∀y>ps.zip us,scope.ð.U y.1=@.local\/(scope.ð.U y.1=@.cell/\((cellsFrom (↥s+1) scope.ð []).U y.1).isSome=true):=λhz hy=>by
  let#[n,v]:=hz;let q\/q:=S.par n (List.of_mem_zip hy).1
  .show .O q
  .show .h #[q,PySem.W.cellsFrom_some _ _ _ (.O q)]
 show codeAny_call_function hr.depth (KX _ _ lk) rfl S.co S.gen rfl (PySem.W.codeRec_of KX ja) (hb _ _ _ _ (wpAny_newFunctionEnv_cells S.kind xi λenv he s1 x=>?_));subst he;show#[(e0.mod.nolimit.keeps λb o e=>(e0.bs b o e).1).keeps x.toInCall.keep,codeAny_func ?_];let#[t,ht,hq]:=jr A outer s H vs Q E (hr.deeper _) oh;let I:Inv (JK CX P w K mg base N qual scope f ce A outer s H E) [] _ H s1:=_bD S hr.hd e0 (len _ _ _ _ oh) r x;show wpAny_mono (ht [] s1 _ H _ I hq) (λfl s' hs=>?_) λe s' hs=>hs
 let fin:∀{σ' H' v u},Inv (JK CX P w K mg base N qual scope f ce A outer s H E) [] σ' H' s'->RelV v u->Q v H'->CE outer P w H s Q u s':=
  fun {σ' H' v u} J rv q=>#[v,H',J.os,J.bare,J.base,J.hok,rv,q]
 cases fl with
 |ret u=>
  let#[v,σ',H',J,rv,q]:=hs;show fin J rv q
 |next=>
  let#[σ',H',J,q]:=hs;show fin (v:=V.ó) J rfl q
 |brk=>
  let#[_,_,_,q]:=hs;show False.è q
 |cont=>
  let#[_,_,_,q]:=hs;show False.è q
section
variable {X:Cx}{x:Str}{p pos:Pos}{e:Expr}{es:List Expr}{t:TA}{id T:String}{r:List V->Hp->VK->Prop}
abbrev tCB(r:List V->Hp->VK->Prop)(t:TA):TE:=fun σ H Q=>t σ H λvs H1=>r vs H1 Q
def _bF(hc:CallR X (.u id) r)(hg:Gl X x)(hm:X.mg x=none)(hv:bootBuiltins x=@(.u id))(ha:PA X (e::es) t)(hn:x≠"__name__"<|>ŕ)(gf:Abd x<|>ŕ)
  (he:Abs e es X<|>Ŕ) (bj:Abb pos es X<|>Ŕ):PE X (.ù (.é x p) (e::es) [] pos) (tCB r t):=by
 intro a8 s σ H Q I h;show Yp (xQ I hg hm hv (PyProof.Rows.callWith_builtin1 (thn (ha pos a8 s σ H _ I h) λus s1 hz=>by let#[vs,H1,I1,r1,q1]:=hz;show hc a8 s1 σ H1 vs us Q I1 r1 q1) he bj) hn gf)
def _bG(hc:CallR X (.l T) r)(hg:Gl X x)(hm:X.mg x=none)(hv:bootBuiltins x=@(.l T))(ha:PA X (e::es) t)(hn:x≠"__name__"<|>ŕ)(gf:Abd x<|>ŕ)
  (he:Abs e es X<|>Ŕ) (bj:Abb pos es X<|>Ŕ):PE X (.ù (.é x p) (e::es) [] pos) (tCB r t):=by
 intro a8 s σ H Q I h;show Yp (xQ I hg hm hv (Y0 (thn (ha pos a8 s σ H _ I h) λus s1 hz=>by let#[vs,H1,I1,r1,q1]:=hz;show hc a8 s1 σ H1 vs us Q I1 r1 q1) he bj) hn gf)
end
end L2
namespace HT
open PySem PyProof.Rows
section
variable {prog:Program}{w:World}{A:Around}{E:VP9}{s:Shared}
def cat_tup{t b vs ws Q}(ht:IsTup s.H t vs.G)(hb:IsTup s.H b ws.G)(hv:vs≠[])
  (h1:ws=[]->Q (.I t) s) (h2:ws≠[]->Q (.I ↥s) {s with heap:=s.H.í {cls:=.l "tuple",data:=.seq (vs++ws).G}})
  (hsz:vs.B+ws.B<=sizeLine):wpAny (model prog w) A (binaryOp .Add (.I t) (.I b)) Q E s:=by
 let#[#[cls,dd,data,sl],ho,hc,n,hd]:=id ht;let#[#[cls2,dd2,data2,vb],kh,qg,n2,jg]:=id hb;subst hc hd qg jg;let e:vs.G++ws.G=(vs++ws).G:=by simp
 by_cases hw:ws=[]
 .show concat_meets #[_,ho,rfl] #[_,kh,rfl] noFill_tuple_add seq_tuple_add PySem.F.slot_tuple_add PySem.F.entry_tuple_add (PySem.F.args_tuple_add_2 _ _)
   (tuple_addW1 t b vs.G ws.G n n2 dd dd2 sl vb (~~~hv) (by simp[hw])) #[ho,kh,h1 hw]
 .show concat_meets #[_,ho,rfl] #[_,kh,rfl] noFill_tuple_add seq_tuple_add PySem.F.slot_tuple_add PySem.F.entry_tuple_add (PySem.F.args_tuple_add_2 _ _)
   (tuple_addW2 t b vs.G ws.G n n2 dd dd2 sl vb (~~~hv) (~~~hw) (hsz)) #[ho,kh,?_]
  rw[e];show h2 hw
end
end HT
namespace L2
open PySem PySem.Spec PyProof.Rows
def _bH{ns}:∀{us},Vals (ns.C V.E) us->IntsAre us ns:=by
 induction ns with
 | nil=>intro us r;cases r;show .nil
 | cons n ns ih=>
  intro us r;cases r with
  |cons r1 r2=>
   let#[t,e]:=r1;subst e;show .æ n t (ih r2)
section
variable {X:Cx}{e:Expr}{te:TE}{lo hi:Option Expr}{tl th:TO}{pos p2:Pos}
def _bI(K:Frag):R2:=λx y H Q=>∃a b xs ys,x=.I a/\y=.I b/\SqT K H a xs/\SqT K H b ys/\xs≠[]/\xs.B+ys.B<=sizeLine /\
 (ys=[]->Q (.I a) H)/\(ys≠[]->∀p,H p=none->Q (.I p) (upd H p (.X (xs++ys))))
def Vals.nil_iff{xs us}(r:Vals xs us):us=[]↔xs=[]:=by
 cases r with|nil=>simp|cons _ _=>simp
def _bJ:OpR X (binaryOp .Add) (_bI X.K):=by
 rintro a8 s σ H x y v u Q I rx ry ⟨a,b,xs,ys,rfl,rfl,ha,hb,hx,hz,q1,q2⟩;cases rx;cases ry;let#[aa,r1,p1,_]:=I.tuple ha;let#[fj,r2,p2,_]:=I.tuple hb;show HT.cat_tup p1 p2 (λz=>hx (r1.nil_iff.mp z)) (λz=>#[.I a,H,I,rfl,q1 (r2.nil_iff.mp z)]) (λz=>(#[.I ↥s,_,I.laid (t':=s.toks) (λb ob q=>X2 _ q) (Xb _) ?_,rfl,q2 (λw=>z (r2.nil_iff.s w)) _ (I.hok.fresh (Xb _))])) (by rw[<-r1.B,<-r2.B];show hz);show#[by rw[Xi];show hz,_,r1.append r2,IsTupD.new _ _]
end
def ixN(n:Nat)(i:Int):Option Nat:=if 0<=i then(if i<n then @i.M else none)else if -(n:Int)<=i then @(i+n).M else none
def atI{α:Type}(xs:List α)(i:Int):Option α:=(ixN xs.B i).bind λj=>xs[j]?
def _bK{n i j}(h:ixN n i=@j):seqIndex? i n=@j/\j<n/\-n<=i/\i<n:=by
 unfold ixN at h
 by_cases h0:0<=i
 .rw[X7 h0]at h
  by_cases h1:i<n
  .rw[X7 h1]at h;show#[by rw[seqIndex_of h0 h1,(_aa h)],.q,.q,h1]
  .rw[Xd h1]at h;cases h
 .rw[Xd h0]at h
  by_cases h1:-n<=i
  .rw[X7 h1]at h;show#[by rw[seqIndex_neg .q h1,(_aa h)],.q,h1,.q]
  .rw[Xd h1]at h;cases h
def _bL{α xs i}{v:α}(h:atI xs i=@v):∃j,seqIndex? i xs.B=@j/\xs[j]?=@v/\j<xs.B/\-(xs.B:Int)<=i/\i<xs.B:=by
 unfold atI at h;cases e:ixN xs.B i with
 |none=>rw[e]at h;cases h
 |some j=>
  rw[e]at h;let#[h1,h2,h3,h4]:=_bK e;show#[j,h1,h,h2,h3,h4]
def _bM(b:Expr):Prop:=∀o i,subscripted b false o i=operate [o,i] (getItem o i)
def IxR(X:Cx)(r:R2):Prop:=
 ∀(bo cj:Expr) (a8:LA9) (s:Shared) (σ:St) (H:Hp) (x y:V) (v u:Value) (Q:VK),Inv X a8 σ H s->RelV x v->RelV y u->r x y H Q ->
  subscripted cj false v u=operate [v,u] (getItem v u)->∅ (subscriptTail bo cj v u) (EP X a8 σ Q) X.xe s
def MtR(X:Cx)(id:String)(r:V->List V->Hp->VK->Prop):Prop:=
 ∀(a8:LA9) (s:Shared) (σ:St) (H:Hp) (x:V) (xs:List V) (v:Value) (us:List Value) (Q:VK),Inv X a8 σ H s->RelV x v->Vals xs us->r x xs H Q ->
  ∅ (call (.u id) (v::us)) (EP X a8 σ Q) X.xe s
section
variable {X:Cx}{a b:Expr}{ta tb:TE}{pos:Pos}
def IxR.or{r r'}(h:IxR X r)(h':IxR X r'):IxR X (λx y H Q=>r x y H Q\/r' x y H Q):=by
 intro bo cj a8 s σ H x y v u Q I rx ry q hs;let q\/q:=q
 .show h bo cj a8 s σ H x y v u Q I rx ry q hs
 .show h' bo cj a8 s σ H x y v u Q I rx ry q hs
def _bN{r}(hr:IxR X r)(ha:PE X a ta)(hb:PE X b tb)(hs:_bM b):PE X (.Subscript a b pos) (tOp r ta tb):=by
 intro a8 s σ H Q I h;show Subscript_ (_a1 ha hb I h λv u s2 x y H2 I2 rx ry q=>hr a b a8 s2 σ H2 x y v u Q I2 rx ry q (hs _ _))
def _bO(K:Frag):R2:=λx y H Q=>∃p xs i v,x=.I p/\y=.E i/\SqL K H p xs/\atI xs i=@v/\Q v H
def _bP(K:Frag):R2:=λx y H Q=>∃p xs i v,x=.I p/\y=.E i/\SqT K H p xs/\atI xs i=@v/\Q v H
def _bQ:R2:=λx y H Q=>∃z i c,x=.x z/\y=.E i/\z.B<=sizeLine/\atI z.cps.R i=@c/\Q (.x #[%[c|0]]) H
def ix_list:IxR X (_bO X.K):=by
 intro bo cj a8 s σ H x y v u Q I rx ry h hs;let#[p,xs,i,z,rfl,rfl,hq,he,q]:=h;cases rx;let#[t,rfl]:=ry;let#[aa,r,pl,hz]:=I.list hq;let#[j,h1,h2,h3,h4,h5]:=_bL he;let#[w,ew,m8]:=r.get h2;let hl:=r.B;let hn:=_bk;let fin:EP X a8 σ Q w s:=#[z,H,I,m8,q]
 by_cases h0:0<=i
 .let hj:i.M=j:=by
   rw[seqIndex_of h0 h5]at h1;show _aa h1
  show item_listR pl.isList h0 .q (by rw[hj];simpa using ew) fin hs
 .let hj:(i+(aa.G.L:Int)).M=j:=by
   rw[seqIndex_neg .q h4]at h1;rw[Xe,<-hl];show _aa h1
  show subscriptTail_builtinR pl.isList.typeIs slot_list_getitem.U
   (wpAny_getItem_list_neg pl.isList .q (by rw[Xe]<;>lia) .q (by rw[hj];simpa using ew) #[rfl,fin]) hs
def ix_tup:IxR X (_bP X.K):=by
 intro bo cj a8 s σ H x y v u Q I rx ry h hs;let#[p,xs,i,z,rfl,rfl,hq,he,q]:=h;cases rx;let#[t,rfl]:=ry;let#[aa,r,pl,hz]:=I.tuple hq;let#[j,h1,h2,h3,h4,h5]:=_bL he;let#[w,ew,m8]:=r.get h2;let hn:=_bk;let fin:EP X a8 σ Q w s:=#[z,H,I,m8,q];show subscriptTail_builtinR pl.typeIs slot_tuple_getitem.U
  (getItem_tuple pl .q .q (by rw[Xe,<-r.B];show h1) (~~~ew) #[rfl,fin]) hs
def _bR:IxR X _bQ:=by
 intro bo cj a8 s σ H x y v u Q I rx ry h hs;let#[z,i,c,rfl,rfl,hz,he,q]:=h;let#[t,rfl]:=rx;let#[t',rfl]:=ry;let#[j,h1,h2,h3,h4,h5]:=_bL he;let hl:z.cps.R.B=z.B:=by simp[Str.B]
 rw[hl]at h1 h4 h5;let hn:=_bk;show tail_any (typeIs_str s z t) slot_str_getitem.U (getItem_str (c:=c) (by
  let e1:decide (i < -(2 ^ 63:Int))=false:=Xj .q;let e2:decide (i>=2 ^ 63)=false:=Xj .q;rw[e1,e2,Bool.or_false]) (by rw[h1];simpa using h2) #[.x #[%[c|0]],H,I.tok _,#[_,rfl],q]) hs
def rIx(K:Frag):R2:=λx y H Q=>_bO K x y H Q\/_bP K x y H Q\/_bQ x y H Q
def _bS:IxR X (rIx X.K):=ix_list.or (ix_tup.or _bR)
def _bT:OpR X (compareOp .NotIn) (λx y H Q=>∃i j,x=.x i/\y=.x j/\Q (.bl (!(!(Builtin.Str.occurrences j i 0 j.B 1).û))) H):=by
 rintro a8 s σ H x y v u Q I rx ry ⟨i,j,rfl,rfl,q⟩;let#[t,rfl]:=rx;let#[t',rfl]:=ry;show notIn_str #[.bl _,H,I,rfl,q]
def _Cq:CallR X (.u "len") (λxs H Q=>∃p ys,xs=[.I p]/\(SqL X.K H p ys\/SqT X.K H p ys)/\Q (.E ys.B) H):=by
 rintro a8 s σ H xs us Q I r ⟨p,ys,rfl,hq,q⟩;let#[u,rfl,rx]:=wj r;cases rx;let hn:=_bk;let hq\/hq:=hq
 .let#[aa,r',pl,hz]:=I.list hq;let af:=r'.B;show Calls.call_len_list pl.isList (by dsimp[Xe]<;>lia) #[.E ys.B,H,I.tok _,#[s.toks+1,by rw[Xe,af]],q]
 .let#[aa,r',pl,hz]:=I.tuple hq;let af:=r'.B;show len_tuple pl (by dsimp[Xe]<;>lia) #[.E ys.B,H,I.tok _,#[s.toks+1,by rw[Xe,af]],q]
def _Cs:CallR X (.u "len") (λxs H Q=>∃z,xs=[.x z]/\z.B<=sizeLine/\Q (.E z.B) H):=by
 rintro a8 s σ H xs us Q I r ⟨z,rfl,hz,q⟩;let#[u,rfl,t,rfl]:=wj r;let hn:=_bk;show len_str .q #[.E z.B,H,I.tok _,#[_,rfl],q]
def CallR.or{f r r'}(h:CallR X f r)(h':CallR X f r'):CallR X f (λxs H Q=>r xs H Q\/r' xs H Q):=by
 intro a8 s σ H xs us Q I rs q;let q\/q:=q
 .show h a8 s σ H xs us Q I rs q
 .show h' a8 s σ H xs us Q I rs q
def _bU:CallR X (.l "list") (λxs H Q=>∃p ys,xs=[.I p]/\(SqL X.K H p ys\/SqT X.K H p ys)/\∀l,H l=none->Q (.I l) (upd H l (.S ys))):=by
 rintro a8 s σ H xs us Q I r ⟨p,ys,rfl,hq,q⟩;let#[u,rfl,rx]:=wj r;cases rx;let fin:∀aa,Vals ys aa->ys.B<=sizeLine->∀h' (c'),_ ->
   h'.get? ↥s=some {cls:=.l "list",dict:=none,data:=.seq aa.G c',slots:=(List.G [])}->EP X a8 σ Q _ {s with heap:=h' }:=λaa r' hz h' c' kp e=>
  #[.I ↥s,_,I.laid (t':=s.toks) kp (Xb _) (show ObjOk X.î X.w _ h' _ (.S ys)from#[hz,aa,c',r',e]),rfl,q _ (I.hok.fresh (Xb _))]
 let hq\/hq:=hq
 .let#[aa,r',pl,hz]:=I.list hq;let af:=r'.B;let#[o,ho,hc,n,hd]:=pl.isList;show call_list_seq p (.O rfl) ho hc hd (λh' c' kp e=>fin aa r' hz h' c' kp e) (by dsimp[Xe]<;>lia)
 .let#[aa,r',pl,hz]:=I.tuple hq;let af:=r'.B;let#[o,ho,hc,n,hd]:=pl;show call_list_seq p (.h rfl) ho hc hd (λh' c' kp e=>fin aa r' hz h' c' kp e) (by dsimp[Xe]<;>lia)
def _bV:CallR X (.l "tuple") (λxs H Q=>∃p ys,xs=[.I p]/\((SqL X.K H p ys/\∀l,H l=none->Q (.I l) (upd H l (.X ys)))\/(SqT X.K H p ys/\Q (.I p) H))):=by
 rintro a8 s σ H xs us Q I r ⟨p,ys,rfl,h⟩;let#[u,rfl,rx]:=wj r;cases rx;let#[hq,q]\/#[hq,q]:=h
 .let#[aa,r',pl,hz]:=I.list hq;let af:=r'.B;show call_tuple_list pl.isList (λh' kp=>?_) (by symm);let I1:Inv X a8 σ H {s with heap:=h' }:=I.kept (t':=s.toks) kp;let I2:Inv X a8 σ _ {s with heap:=h'.í {cls:=.l "tuple",data:=.seq aa.G}}:=
   I1.laid (t':=s.toks) (λb o e=>X2 _ e) (Xb _) (show ObjOk X.î X.w _ _ _ (.X ys)from#[hz,aa,r',IsTupD.new _ _])
  show#[.I h'.objs.L,_,I2,rfl,q _ (I1.hok.fresh (Xb _))]
 .let#[aa,r',pl,hz]:=I.tuple hq;show call_tuple_same pl #[.I p,H,I,rfl,q]
def tyV(K : Frag)(T : String)(x : V)(H : Hp): Prop:= match x with
  |.x _=>T = "str"|.E _=>T = "int"
  |.I p=>(T = "list" /\ ∃xs,SqL K H p xs) \/ (T = "tuple" /\ ∃o,K.U p = @o /\ o.cls = .l "tuple" /\ o.dict = none) \/
      (T = "dict" /\ ((∃kvs,H p = @(.dK kvs)) \/ ∃kvs,H p = @(.dT kvs))) \/ (T = "set" /\ ∃S n,H p = @(.ç S n))
  |_=>False
def _bW{a8}{σ:St}{H s T x v}(I:Inv X a8 σ H s)(r:RelV x v)(ty:tyV X.K T x H):
  s.TypeIs v T/\∀a,v=.I a->∃ob,s.H.get? a=@ob/\ob.dict=none:=by
 cases x with
 | str z=>
  let#[t,rfl]:=r;cases(ty);show#[typeIs_str s z t,nofun]
 | int i=>
  let#[t,rfl]:=r;cases(ty);show#[typeIs_int s i t,nofun]
 | ref p=>
  cases r;let#[rfl,xs,hq]\/#[rfl,o,hk,hc,hd]\/#[rfl,hk]\/#[rfl,S,n,hk]:=ty
  .let#[aa,_,pl,_]:=I.list hq;show#[pl.isList.typeIs,λa e=>?_];cases e;let#[o,n,e,c,hd,_]:=pl;show#[o,e,hd]
  .show#[#[o,I.kIn p o hk,hc],λa e=>?_];cases e;show#[o,I.kIn _ o hk,hd]
  .let z:∃o,s.H.get? p=@o/\o.ExactDict:=by
    let#[kvs,hk]\/#[kvs,hk]:=hk
    .let#[_,_,_,_,o,_,_,e,ex,_]:=I.hok p _ hk;show#[o,e,ex]
    .let#[_,_,_,_,o,_,_,e,ex,_]:=I.hok p _ hk;show#[o,e,ex]
   let#[o,e,ex]:=z;show#[#[o,e,ex.1],λa e2=>?_];cases e2;show#[o,e,ex.2.1]
  .let#[o,_,_,_,e,ex,_]:=I.hok p _ hk;show#[#[o,e,ex.1],λa e2=>?_];cases e2;show#[o,e,ex.2.1]
 |_=>show False.è ty
abbrev zjn(K:Frag)(T:String)(r:V->List V->Hp->VK->Prop)(to:TE):TE:=fun σ H Q=>to σ H λx H1=>tyV K T x H1/\r x [] H1 Q
abbrev tBM(K:Frag)(T:String)(r:V->List V->Hp->VK->Prop)(to:TE)(t:TA):TE:=fun σ H Q=>to σ H λx H1=>tyV K T x H1/\t σ H1 λxs H2=>r x xs H2 Q
variable {o e:Expr}{es:List Expr}{to:TE}{t:TA}{name:Str}{ay ah:Pos}{T id:String}{r:V->List V->Hp->VK->Prop}
abbrev _root_.Abe(p q:Pos):Prop:=(p.endLine==q.line)=true
def _bX(pa:PlainAttrs T)(slot:Slot T name id)(qi:typeOf (.u id)=pure (.l "method_descriptor"))(hm:MtR X id r)(ho:PE X o to)
  (b8:attributeBase o name X.Y (eval o X.Y)=eval o X.Y<|>Ŕ) (b9:Abe ay ah<|>Ŕ):PE X (.ù (.Attribute o name ay) [] [] ah) (zjn X.K T r to):=by
 intro a8 s σ H Q I h;show wpAny_Call_method0_late b8 b9 (thn (ho a8 s σ H _ I h) λv s1 hz=>?_);let#[x,H1,I1,r1,ty,q1]:=hz;let#[h1,h2]:=_bW I1 r1 ty;show#[T,id,pa,slot,qi,h1,h2,Calls.callWith_builtin rfl (PySem.evalArgs_none (hm a8 s1 σ H1 x [] v [] Q I1 r1 .nil q1))]
def _bY(pa:PlainAttrs T)(slot:Slot T name id)(qi:typeOf (.u id)=pure (.l "method_descriptor"))(hm:MtR X id r)(ho:PE X o to)(ha:PA X (e::es) t)
  (b8:attributeBase o name X.Y (eval o X.Y)=eval o X.Y<|>Ŕ)
  (dj:autoParam (((backTo ah (starEach (e::es) X.Y)).all (λx=>!x.1)&&(backToKw ah (keywordEach [] X.Y)).all (λx=>x.1.isSome)
   && decide ((e::es).B+([]:List Keyword).B+(if([]:List Keyword).û then 0 else 1)<30))=true) Ŕ)
  (b9:Abe ay ah<|>Ŕ) (hs:Abs e es X<|>Ŕ) (b7:Abb ah es X<|>Ŕ):
  PE X (.ù (.Attribute o name ay) (e::es) [] ah) (tBM X.K T r to t):=by
 intro a8 s σ H Q I h;show wpAny_Call_method_late b8 dj b9 rfl (thn (ho a8 s σ H _ I h) λv s1 hz=>?_);let#[x,H1,I1,r1,ty,q1]:=hz;let#[h1,h2]:=_bW I1 r1 ty;show#[T,id,pa,slot,qi,h1,h2,?_];let hA:=ha ah a8 s1 σ H1 _ I1 q1;rw[hs]at hA ⊢;show Calls.callWith_builtin (by change(false||(backTo ah _).any _)=false;rw[b7]<;>rfl) (Calls.evalArgs_plain (thn hA λus s2 hz=>by let#[vs,H2,I2,r2,q2]:=hz;show hm a8 s2 σ H2 x vs v us Q I2 r1 r2 q2))
end
def MtM(X:Cx)(id:String)(r:V->List V->Hp->VK->Prop):Prop:=
 ∀(a8:LA9) (s:Shared) (σ:St) (H:Hp) (x:V) (xs:List V) (v:Value) (us:List Value) (Q:VK),Inv X a8 σ H s->RelV x v->Vals xs us->r x xs H Q ->
  ∅ (call (.u id) (v::us)) (EP X a8 σ Q) X.xe s
def Vals.one:∀{x us},Vals [x] us->∃u,us=[u]/\RelV x u:=by
 intro x us h;cases h with|cons r h=>cases h;show#[_,rfl,r]
def Vals.two:∀{x y us},Vals [x,y] us->∃u v,us=[u,v]/\RelV x u/\RelV y v:=by
 intro x y us h;cases h with
 |cons r h=>
  cases h with|cons q h=>cases h;show#[_,_,rfl,r,q]
def Vals.zero:∀{us},Vals [] us->us=[]
 |_,.nil=>rfl
def Vals.dropLast{xs:List V}{us:List Value}(h:Vals xs us):Vals xs.dropLast us.dropLast:=by
 induction h with
 |nil=>show .nil
 |cons r t ih=>
  cases t with|nil=>show .nil|cons q t'=>show .æ r ih
def Vals.eraseIdx:∀{xs us} (i),Vals xs us->Vals (xs.eraseIdx i) (us.eraseIdx i)
 |_,_,_,.nil=>.nil|_,_,0,.æ _ t=>t|_,_,i+1,.æ r t=>.æ r (Vals.eraseIdx i t)
def Vals.rep{xs us}(h:Vals xs us):∀k,Vals (List.ß k xs).flatten (List.ß k us).flatten
 |0=>.nil
 |k+1=>by
  show Vals.append h (Vals.rep h k)
def _bZ{α:Type}(l:List α):l.eraseIdx (l.B - 1)=l.dropLast:=by
 induction l with
 | nil=>rfl
 | cons a r ih=>
  cases r with
  | nil=>rfl
  | cons b r=>
   let e:(a::b::r).B - 1=((b::r).B - 1)+1:=by
    let h1:(a::b::r).B=r.B+2:=rfl;let h2:(b::r).B=r.B+1:=rfl;lia
   rw[e,List.eraseIdx_cons_succ,ih]
   all_goals rfl
def _b0{α:Type}:∀(l:List α) (i),(l.eraseIdx i).B<=l.B
 |[],_=>Xb _|_::_,0=>Nat.le_succ _|_::r,i+1=>Nat.succ_le_succ (_b0 r i)
def _b1(aa):∀k (ae:List Value),
  List.foldl (λx1 x2=>x1++x2) ae.G (List.ß k aa.G)=(ae++(List.ß k aa).flatten).G
 | 0,ae=>by simp
 | k+1,ae=>by
  let e:ae.G++aa.G=(ae++aa).G:=by simp
  let e2:(ae++aa)++(List.ß k aa).flatten=ae++(List.ß (k+1) aa).flatten:=by
   rw[List.replicate_succ,List.flatten_cons,Y3]
  rw[<-e2,<-_b1 aa k _,<-e,List.replicate_succ,Yu]
section
variable {X:Cx}{a8:LA9}{σ:St}{H:Hp}{s:Shared}{l b:Addr}{xs ys zs:List V}
def Inv.lset{aa its':List Value}{n f t'}(I:Inv X a8 σ H s)(hH:H l=@(.S xs))
  (e:s.H.get? l=some {cls:=.l "list",data:=.seq aa.G n}) (hf:f aa.G=its'.G) (hv:Vals ys its') (hz:ys.B<=sizeLine):
  Inv X a8 σ (upd H l (.S ys)) {s with heap:=s.H.update l (Obj.mapSeq f),toks:=t' }:=by
 let q:=PySem.IsL.update e f;rw[hf]at q;show I.write (hH▸trivial) (.O rfl) (λb' u hb hu=>(Zm s.H _ (Ne.à hb)).J hu) #[_,q] ?_;show#[hz,its',_,hv,q]
def Inv.lnew{aa t'}(I:Inv X a8 σ H s)(hv:Vals ys aa)(hz:ys.B<=sizeLine):
  Inv X a8 σ (upd H ↥s (.S ys)) {s with heap:=s.H.í {cls:=.l "list",data:=.seq aa.G},toks:=t' }:=
 I.laid (λ_ _ q=>X2 _ q) (Xb _) #[hz,aa,0,hv,X9 _ rfl]
def Inv.fresh(I:Inv X a8 σ H s):H ↥s=none:=I.hok.fresh (Xb _)
def Inv.lstM(I:Inv X a8 σ H s)(hH:H l=@(.S xs)):xs.B<=sizeLine/\∃(aa:List Value) (n:Nat),Vals xs aa/\xs.B=aa.B/\s.H.get? l=some {cls:=.l "list",data:=.seq aa.G n}:=by
 let#[z,aa,n,r,e]:=I.hok l _ hH;show#[z,aa,n,r,r.B,e]
def _b2{n}(h:n<=sizeLine):Builtin.List.listTooLong n=false:=by
 ext Builtin.List.listTooLong
 symm
end
section
variable {X:Cx}
def _b3:V->List V->Hp->VK->Prop:=λx vs H Q=>∃l xs y,x=.I l/\vs=[y]/\H l=@(.S xs)/\xs.B<sizeLine/\Q .ó (upd H l (.S (xs++[y])))
def _b4:MtM X "list.append" _b3:=by
 rintro a8 s σ H x vs v us Q I rx rv ⟨l,xs,y,rfl,rfl,hH,hz,q⟩;cases rx;let#[u,rfl,ru]:=rv.one;let#[z,aa,n,r,hl,e]:=I.lstM hH;show call_meets F.slot_list_append #[_,e,rfl] F.entry_list_append (F.args_list_append_2 _ _) (PySem.list_append l aa.G n u (by symm)) #[e,(#[.ó,_,I.lset (its':=aa++[u]) hH e (by simp) (r.append (.æ ru .nil)) ?_,rfl,q])];rw[Xi,Xv];lia
def _b5:V->List V->Hp->VK->Prop:=λx vs H Q=>∃l b xs zs,x=.I l/\vs=[.I b]/\H l=@(.S xs)/\H b=@(.S zs)/\xs.B+zs.B<=sizeLine/\Q .ó (upd H l (.S (xs++zs)))
def _b6:MtM X "list.extend" _b5:=by
 rintro a8 s σ H x vs v us Q I rx rv ⟨l,b,xs,zs,rfl,rfl,hH,hB,hz,q⟩;cases rx;let#[u,rfl,ru]:=rv.one;cases ru;let#[z,aa,n,r,hl,e]:=I.lstM hH;let#[z2,fj,n2,r2,ue,e2]:=I.lstM hB;let hsz:aa.G.L+fj.G.L<=sizeLine:=by rw[Xe,Xe];lia
 let ng:¬(!aa.G.û&&Builtin.List.listTooLong (aa.G.L+fj.G.L))=true:=by
  rw[_b2 hsz,Bool.and_false];show Bool.false_ne_true
 show call_meets F.slot_list_extend #[_,e,rfl] F.entry_list_extend (F.args_list_extend_2 _ _)
  (AutoSeq1.list_extend_list_list_0 l aa.G n b fj.G n2 ng .q .q) #[e,e2,?_]
 show#[.ó,_,I.lset (its':=aa++fj) hH e (by simp) (r.append r2) ?_,rfl,q]
 symm
def _b7:V->List V->Hp->VK->Prop:=λx vs H Q=>∃l xs y,x=.I l/\vs=[]/\H l=@(.S xs)/\xs[xs.B - 1]?=@y/\Q y (upd H l (.S xs.dropLast))
def _b8:MtM X "list.pop" _b7:=by
 intro a8 s σ H x vs v us Q I rx rv h;let#[l,xs,y,rfl,rfl,hH,hy,q]:=h;cases rx;let hus:=rv.zero;subst hus;let#[z,aa,n,r,hl,e]:=I.lstM hH;let#[u,hu,ru]:=r.get hy;let hy':aa.G[aa.G.L - 1]?=@u:=by
  change aa.G[aa.B - 1]?=@u;rw[<-Xr,<-hl];show hu
 show call_meets F.slot_list_pop #[_,e,rfl] F.entry_list_pop (F.args_list_pop_1 _) (MeetsSeq.list_pop_last l aa.G n u hy' (by rw[Xe];lia)) #[e,?_];show#[y,_,I.lset (its':=aa.dropLast) hH e ?_ r.dropLast ?_,ru,q]
 .change aa.G.eraseIdxIfInBounds (aa.G.L - 1)=aa.dropLast.G;rw[Xe,List.eraseIdxIfInBounds_toArray,_bZ]
 .rw[List.length_dropLast];lia
def _b9:V->List V->Hp->VK->Prop:=λx vs H Q=>∃l xs i k y,x=.I l/\vs=[.E i]/\H l=@(.S xs)/\-(2 ^ 63)<=i/\i<2 ^ 63/\seqIndex? i xs.B=@k/\xs[k]?=@y/\Q y (upd H l (.S (xs.eraseIdx k)))
def _ca:MtM X "list.pop" _b9:=by
 rintro a8 s σ H x vs v us Q I rx rv ⟨l,xs,i,k,y,rfl,rfl,hH,h1,h2,hk,hy,q⟩;cases rx;let#[u,rfl,ru]:=rv.one;let#[t,rfl]:=ru;let#[z,aa,n,r,hl,e]:=I.lstM hH;let#[w,hw,m8]:=r.get hy;show call_meets F.slot_list_pop #[_,e,rfl] F.entry_list_pop (F.args_list_pop_2 _ _)
  (MeetsSeq.list_pop_at l aa.G n i t k w (fitsIndex_both h1 h2) (by rw[Xe,<-hl];show hk) (Xr▸hw) (by rw[Xe];lia)) #[e,?_]
 show#[y,_,I.lset (its':=aa.eraseIdx k) hH e ?_ (r.eraseIdx k) ?_,m8,q]
 .change aa.G.eraseIdxIfInBounds k=(aa.eraseIdx k).G;rw[List.eraseIdxIfInBounds_toArray]
 .let:=_b0 xs k;lia
def _cb{α:Type}(xs:List α) k:(List.ß k xs).flatten.B=k*xs.B:=by
 induction k with|zero=>simp|succ k ih=>symm
end
end L2
namespace Att
open PySem PySem.W PySem.Calls PyProof.Rows
def _cc{P h}:∀ns vs,WellAll P h vs (ns.C WData.E)->IntsAre vs ns:=by
 intro ns
 induction ns with
 | nil=>
  intro vs w;cases w;show .nil
 | cons n ns ih=>
  intro vs w;cases w with
  |cons a b=>
   cases a;show .æ _ _ (ih _ b)
def script_of{l:OpenLaw}{n}(hn:l.most=@n){P h args}{dv}
  (pd:l.row.toRowW.claim.pre args=true) (hwl:WellAll P h dv args):
  ∃a vs ns,dv=[Value.I a]/\args=[WData.list (ns.C WData.E)]/\h.get? a=some {cls:=.l "list",data:=.seq vs.G}/\IntsAre vs ns/\ns.B<=n:=by
 let t5:WShape.hasAll [] args [.list .E]=true:=(pre_splitW pd).1;let hc:l.pre.holds [] {args:=args}=true:=(pre_splitW pd).2;let#[d,r,rfl,h1,h2]:=hasAllW_cons t5;obtain rfl:=hasAllW_nil h2;let#[xs,rfl,h3]:=hasW_list h1;let#[ns,rfl]:=items_int h3;let af:ns.B<=n:=by
  unfold OpenLaw.pre at hc;let h4:(WTm.not (.lt (.lit (.E n)) (.len (.arg 0)))).holds [] {args:=[.list (ns.C .E)]}=true:=by
   let h4:=(holds_andW hc).1;rw[hn]at h4;show h4
  let h5:=condW_of h4 (w_not (w_lt w_lit (w_len_list (w_arg rfl))))
  grind
 cases hwl with
 |cons w1 w2=>
  cases w2;cases w1 with|list ho ny=>show#[_,_,ns,rfl,rfl,ho,_cc ns _ ny,af]
def post_true(l:OpenLaw) args:l.row.toRowW.claim.post args (.bool true) args=true:=
 postW_of
  (show WShape.has [] _ .bool=true by first|rfl|decide|simp[WShape.armsAll])
  (w_eq_bool (w_res rfl) w_lit) rfl
end Att
namespace L2
open PySem PySem.Spec PyProof.Rows
def _cd(H:Hp):Prop:=∀b,H b=none\/∃o xs,H b=@(.frz o (.S xs))
def x9(s:Stmt):Arguments:=match s with
 |.FunctionDef _ a _ _ _ _ _ _ _ _=>a|_=>{posonlyargs:=[],args:=[],vararg:=none,kwonlyargs:=[],kw_defaults:=[],kwarg:=none,defaults:=[]}
def z8(s:Stmt):List Stmt:=match s with
 |.FunctionDef _ _ b _ _ _ _ _ _ _=>b|_=>[]
def jJ(s:Stmt):Scope:=match s with
 |.FunctionDef _ _ _ _ _ _ sc _ _ _=>sc|_=>{kind:=.function,names:=[],isGenerator:=false,isCoroutine:=false}
structure Fun (K:Frag)(x qual:Str)(st:Stmt)(f:Addr)(fd:FuncData):Prop where
 ex:∃(oc:Value) (od:Option Addr) (kV im pm:Value) (an:Option Addr) (ce ct:Value) (nk:Array (Option Value)),
  fd=PySem.W.fnOf x qual (x9 st) (z8 st) (jJ st) .ã kV im pm an ce ct/\K.U f=@#[oc,od,.func fd,nk]/\PySem.W.codeIn K ce qual=true
 kp:PySem.W.keepIn K (.I f)=true
section
variable {P:Program}{w:World}{K:Frag}{mg:Str->Option Value}{base:Heap}
def Fun.binds{x qual st f fd ps}(F:Fun K x qual st f fd)
  (h:∀kV im pm an (ce ct) us,us.B=ps.B->bindArgs (PySem.W.fnOf x qual (x9 st) (z8 st) (jJ st) .ã kV im pm an ce ct) #[us,[]]=pure (ps.zip us)):Binds K fd ps []:=by
 let#[oc,od,kV,im,pm,an,ce,ct,nk,rfl,lk,ja]:=F.ex;show .all (h kV im pm an ce ct)
def _ce{x qual st f oc od an nk kV im pm ce ct}(l:K.U f=@#[oc,od,.func (PySem.W.fnOf x qual (x9 st) (z8 st) (jJ st) .ã kV im pm an ce ct),nk])
  (c:PySem.W.codeIn K ce qual=true) (k:PySem.W.keepIn K (.I f)=true):Fun K x qual st f (PySem.W.fnOf x qual (x9 st) (z8 st) (jJ st) .ã kV im pm an ce ct):=#[#[oc,od,kV,im,pm,an,ce,ct,nk,rfl,l,c],k]
end
section
variable {X:Cx}
def pv(i:Nat){x:Str}{pos:Pos}(hN:X.N[i]?=@x<|>Ŕ)(hv:Vis X.Y.ú x<|>ř)(hd:Abd x<|>ŕ)
  (ja:(x==("__classdict__":Str))=false<|>ŕ):PE X (.é x pos) (xk i):=_as hN hv hd ja
end
def kJ(H H':Hp):Prop:=∀b o,H b=@o->H' b=@o
section
variable {κ:Type}[DecidableEq κ]
def Jk(kvs:List (κ×V))(k:κ):Option V:=(kvs.find? λkv=>decide (kv.1=k)).C (·.2)
def _cf(kvs:List (κ×V))(k:κ)(v:V):List (κ×V):=
 if(kvs.any λkv=>decide (kv.1=k))=true then kvs.C (λkv=>if kv.1=k then(kv.1,v)else kv)else kvs++[(k,v)]
def _cg{p r}{k:κ}(e:p.1=k):Jk (p::r) k=@p.2:=by simp[Jk,e]
def _ch{p r}{k:κ}(e:¬p.1=k):Jk (p::r) k=Jk r k:=by simp[Jk,e]
def RelO.isSome_eq{o u}(r:RelO o u):o.isSome=u.isSome:=by
 cases o with
 |none=>cases u with|none=>rfl|some _=>show(r).è
 |some _=>cases u with|none=>show(r).è|some _=>rfl
def KV.val{kvs vs}(r:KV kvs vs)(k:κ):RelO (Jk kvs k) (valueAt vs k):=by
 induction r with
 | nil=>show J4
 | @cons p q ps qs h t ih=>
  let#[h1,h2]:=h
  by_cases e:p.1=k
  .let e':q.1=k:=h1.à.J e;let b:valueAt (q::qs) k=@q.2:=by simp[valueAt,e']
   rw[_cg e,b];show h2
  .let e':¬q.1=k:=λz=>e (h1.J z)
   let b:valueAt (q::qs) k=valueAt qs k:=by simp[valueAt,e']
   rw[_ch e,b];show ih
def KV.any{kvs vs}(r:KV kvs vs)(k:κ):(kvs.any λkv=>decide (kv.1=k))=vs.any λkv=>decide (kv.1=k):=by
 induction r with|nil=>rfl|cons h t ih=>symm
def KV.repl{kvs vs}(r:KV kvs vs)(k:κ){y u}(ry:RelV y u):
  KV (kvs.C λkv=>if kv.1=k then(kv.1,y)else kv) (vs.C λkv=>if kv.1=k then(kv.1,u)else kv):=by
 induction r with
 |nil=>show .nil
 |@cons p q ps qs h t ih=>
  rw[List.Z,List.Z];show .æ ?_ ih;let#[h1,h2]:=h
  by_cases e:p.1=k
  .rw[X7 e,X7 (h1.à.J e)];show#[h1,ry]
  .rw[Xd e,Xd (λz=>e (h1.J z))];show#[h1,h2]
def KV.put{kvs vs}(r:KV kvs vs)(k:κ){y u}(ry:RelV y u):KV (_cf kvs k y) (stored vs k u):=by
 ext _cf stored;rw[r.any k]
 by_cases e:(vs.any λkv=>decide (kv.1=k))=true
 .rw[X7 e,X7 e];show r.repl k ry
 .rw[Xd e,Xd e];show Paired.snoc r #[rfl,ry]
def KV.B{kvs}{vs:List (κ×Value)}(r:KV kvs vs):kvs.B=vs.B:=Paired.B r
end
def _ci{P w k u}(r:RelV (kV k) u):(zZ P w).is k u=true:=by
 cases k with|inl i=>let#[t,e]:=(r);subst e;show _ak P w i t|inr x=>let#[t,e]:=(r);subst e;show _al P w x t
def _cj{P w}:∀{ks us},Vals (ks.C kV) us->ItemsAre (zZ P w) ks us
 |[],_,r=>by cases r;show .nil
 |k::ks,_,r=>by
  cases r with|cons h t=>show .æ (_ci h) (_cj t)
abbrev KT(H:Hp):List (List Key×V)->List (List Key×Addr×Value)->Prop:=Paired λp q=>p.1=q.1/\H q.2.1=@(.X (p.1.C kV))/\RelV p.2 q.2.2
def KT.val{H kvs xs}(r:KT H kvs xs) k:RelO (Jk kvs k) ((atKey xs k).C (·.2)):=by
 induction r with
 | nil=>show J4
 | @cons p q ps qs h t ih=>
  let#[h1,_,h2]:=h
  by_cases e:p.1=k
  .let e':q.1=k:=h1.à.J e;let b:atKey (q::qs) k=@q.2:=by simp[atKey,e']
   rw[_cg e,b];show h2
  .let e':¬q.1=k:=λz=>e (h1.J z)
   let b:atKey (q::qs) k=atKey qs k:=by simp[atKey,e']
   rw[_ch e,b];show ih
section
variable {P:Program}{w:World}{H:Hp}{h:Heap}{a:Addr}
def _ck{u}(ok:HOk P w H h)(e:Rd H a u):ObjOk P w H h a u:=e.ok ok
def _cl{kvs}(ok:HOk P w H h)(e:Rd H a (.dK kvs)):kvs.B<=sizeLine/\(a==sysModules)=false/\∃vs,KV kvs vs/\h.DictOf (zZ P w) a vs:=
 show ObjOk P w H h a _ from _ck ok e
def _cm{ks}(ok:HOk P w H h)(e:H a=@(.X (ks.C kV))):(tupleKind (zZ P w)).is h ks a:=by
 let#[_,aa,r,o,h1,h2,_,n,h3]:=(ok a _ e);show#[o,aa.G,n,h1,h2,h3,~~~(_cj r)]
def _cn{kvs}(ok:HOk P w H h)(e:Rd H a (.dT kvs)):kvs.B<=sizeLine/\(a==sysModules)=false /\
  ∃ xs,KT H kvs xs/\h.DictOfH (tupleKind (zZ P w)) a xs:=by
 let#[z,y,xs,r,o,es,ep,h1,h2,h3,h4,h5]:=(_ck ok e);show#[z,y,xs,r,o,es,ep,h1,h2,h3,h4,λx hx=>?_,h5];let all:∀{l m},KT H l m->∀x>m,(tupleKind (zZ P w)).is h x.1 x.2.1:=by
  intro l m q
  induction q with
  | nil=>symm
  | @cons p q ps qs hq t ih=>
   intro x hx;let e\/hx:=aD hx
   .subst e;show _cm ok (by symm)
   .show ih x hx
 show all r x hx
end
def DGet(H:Hp)(a:Addr)(y:V)(r:Option V):Prop:=
 (∃kvs k,Rd H a (.dK kvs)/\y=kV k/\r=Jk kvs k)\/∃kvs k b,Rd H a (.dT kvs)/\y=.I b/\H b=@(.X (k.C kV))/\r=Jk kvs k
def DGet.k{H a kvs k}(e:H a=@(.dK kvs)):DGet H a (kV k) (Jk kvs k):=.O #[kvs,k,.O e,rfl,rfl]
section
variable {X:Cx}{a8:LA9}{σ:St}{H:Hp}{s:Shared}{a:Addr}{y v:V}{u r:Value}{o:Option V}{A:Around}{E:VP9}
def Inv.big(I:Inv X a8 σ H s):sysModules<↥s:=by
 show J5 .q ((I.mod.glob.keeps I.bk).lt)
def _co{Q}(hu:A.y+1<cLine)(I:Inv X a8 σ H s)(g:DGet H a y @v)(ry:RelV y u)(h:∀w' s',Inv X a8 σ H s'->RelV v w'->Q w' s'):
  wpAny (model X.î X.w) A (getItem (.I a) u) Q E s:=by
 let#[kvs,k,e,ey,l]\/#[kvs,k,b,e,ey,eb,l]:=g
 .subst ey;let#[z,hd,vs,km,dd]:=_cl I.hok e;let#[w',hw,m8]:=RelO.some_of (l▸km.val k);show wpAny_getItem_of (_ci ry) dd.mapOf hw (h w' _ (I.tok _) m8)
 .subst ey;cases(ry);let#[z,hd,xs,km,dd]:=_cn I.hok e;let#[w',hw,m8]:=RelO.some_of (l▸km.val k);let#[p,hp,vp]:=Option.map_eq_some_iff.mp hw;show wpAny_getItem_heap (tupleKind_room_in1 hu) (_cm I.hok eb) dd hp ?_;rw[vp];show h w' _ (I.tok _) m8
def d_in{Q}(hu:A.y+1<cLine)(I:Inv X a8 σ H s)(g:DGet H a y o)(ry:RelV y u)(h:∀s',Inv X a8 σ H s'->Q (.bool o.isSome) s'):
  wpAny (model X.î X.w) A (compareOp .In u (.I a)) Q E s:=by
 let#[kvs,k,e,ey,l]\/#[kvs,k,b,e,ey,eb,l]:=g
 .subst ey;let#[z,hd,vs,km,dd]:=_cl I.hok e;show wpAny_in_of (_ci ry) hd dd.mapOf ?_;rw[<-(km.val k).isSome_eq,<-l];show h _ (I.tok _)
 .subst ey;cases(show u=Value.I b from ry);let#[z,hd,xs,km,dd]:=_cn I.hok e;show wpAny_in_heap (tupleKind_room_in1 hu) (_cm I.hok eb) hd dd ?_;let q:=(km.val k).isSome_eq;rw[Option.isSome_map]at q;rw[<-q,<-l];show h _ (I.tok _)
def _cp{h' t' ob}(I:Inv X a8 σ H s)(mu:Mut (H a))(hs:Heap.SameBut a s.H h')(he:∃q,h'.get? a=@q)(new:ObjOk X.î X.w (upd H a ob) h' a ob):
  Inv X a8 σ (upd H a ob) {s with heap:=h',toks:=t' }:=
 I.write mu (.O rfl) (λb q hb z=>(hs.2 b hb).J z) he new
def _cq{P w H' h' kvs vs}(z:kvs.B<=sizeLine)(hd:(a==sysModules)=false)(km:KV kvs vs)(dd:h'.DictOf (zZ P w) a vs):
  ObjOk P w H' h' a (.dK kvs):=#[z,hd,vs,km,dd]
end
section
variable {X:Cx}{a8:LA9}{σ:St}{H:Hp}{s:Shared}{a:Addr}{kvs:List (Key×V)}{k:Key}{u:Value}{A:Around}{E:VP9}
def _cr{Q}(I:Inv X a8 σ H s)(e:Rd H a (.dK kvs))(h:∀t s',Inv X a8 σ H s'->Q (.E kvs.B t) s'):wpAny (model X.î X.w) A (call (.u "len") [.I a]) Q E s:=by
 let#[z,hd,vs,km,dd]:=_cl I.hok e;show call_len_dict hd dd (by rw[<-km.B];rw[Z0]at z;lia) ?_;rw[<-km.B];show h _ _ (I.tok _)
end
def ZJ(i:Expr):Prop:=∀ov iv,subscripted i false ov iv=operate [ov,iv] (getItem ov iv)
def _cs{prog w A E s env bo cj pos T id}{Q}
  (hl:typeLookup (.l T) "__getitem__"=pure @(.u id)) (hs:ZJ cj)
  (h:wpAny (model prog w) A (eval bo env) (λo s₁=>wpAny (model prog w) A (eval cj env) (λi s₂=>s₂.TypeIs o T/\wpAny (model prog w) A (getItem o i) Q E s₂) E s₁) E s):
  wpAny (model prog w) A (eval (.Subscript bo cj pos) env) Q E s:=by
 show Subscript_ (wpAny_mono h (λo s₁ h₁=>wpAny_mono h₁ (λi s₂ h₂=>?_) λ_ _ x=>x) λ_ _ x=>x);let#[hT,h₂]:=h₂;show X0 ?_;rw[getitemInPython_of_ne hT.not_modules];show X0 (Yx hT hl ?_);let fin:wpAny (model prog w) A (subscripted cj false o i) (λr s₃=>wpAny (model prog w) A (letTemporaryGo bo o r >>= λ_=>pure r) Q E s₃) E s₂:=by
  rw[hs o i];show wpAny_operating (wpAny_mono h₂ (λr s₃ h₃=>X0 (wpAny_letTemporaryGo (X4 h₃))) λ_ _ x=>x)
 first
  |show X4 (X0 fin)
def _ct{X a8}{σ:St}{H s a y o}(I:Inv X a8 σ H s)(g:DGet H a y o):s.TypeIs (.I a) "dict":=by
 let#[kvs,k,e,_,_]\/#[kvs,k,b,e,_,_,_]:=g
 .let#[_,_,vs,_,dd]:=_cl I.hok e;show dd.typeIs
 .let#[_,_,xs,_,dd]:=_cn I.hok e;show dd.typeIs
abbrev xx3(td ty:TE):TE:=fun σ H Q=>td σ H λx H1=>ty σ H1 λy H2=>∃a v,x=.I a/\DGet H2 a y @v/\Q v H2
section
variable {X:Cx}{o i e bo:Expr}{pos da pi:Pos}{td ty tv:TE}
def _cu(hu:X.A.y+1<cLine)(ho:PE X o td)(hi:PE X i ty)(hs:ZJ i):PE X (.Subscript o i pos) (xx3 td ty):=by
 intro a8 s σ H Q I h;show _cs PySem.F.slot_dict_getitem.U hs (thn (ho a8 s σ H _ I h) λu s1 #[x,H1,I1,rx,q1]=>thn (hi a8 s1 σ H1 _ I1 q1) λiv s2 hz=>?_);let#[y,H2,I2,ry,a,v,ex,g,q2]:=hz;subst ex;obtain rfl:u=Value.I a:=rx;show#[_ct I2 g,_co hu I2 g ry λw' s3 I3 m8=>#[v,H2,I3,m8,q2]]
end
def _cv:List (TE×TE)->St->Hp->(List (V×V)->Hp->Prop)->Prop
 |[],_,H,Q=>Q [] H|(tk,tv)::r,σ,H,Q=>tk σ H λx H1=>tv σ H1 λy H2=>_cv r σ H2 λps H3=>Q ((x,y)::ps) H3
abbrev VV:List (V×V)->List (Value×Value)->Prop:=Paired λp q=>RelV p.1 q.1/\RelV p.2 q.2
def PPs(X:Cx)(pos:Pos)(keys:List (Option Expr))(ug:List Expr)(trs:List (TE×TE)):Prop:=
 ∀(a8:LA9) (s:Shared) (σ:St) (H:Hp) (Q:List (V×V)->Hp->Prop),Inv X a8 σ H s->_cv trs σ H Q ->
  ∅ (evalPairs (pairTrees keys ug X.Y pos)) (λvs s'=>∃ps H',Inv X a8 σ H' s'/\VV ps vs/\Q ps H') X.xe s
def _cw{X:Cx}{pos:Pos}:PPs X pos [] [] []:=λa8 s σ H Q I h=>pairTrees_nil_walk #[[],H,I,.nil,h]
def _cx{X:Cx}{pos:Pos}{k v:Expr}{ks:List (Option Expr)}{vs:List Expr}{tk tv:TE}{trs:List (TE×TE)}(hk:PE X k tk)(hv:PE X v tv)(hr:PPs X pos ks vs trs):
  PPs X pos (@k::ks) (v::vs) ((tk,tv)::trs):=λa8 s σ H Q I h=>
 pairTrees_cons_walk (thn (hk a8 s σ H _ I h) λu s1 #[x,H1,I1,rx,q1]=>thn (hv a8 s1 σ H1 _ I1 q1) λw2 s2 hz=>by
  let#[y,H2,I2,ry,q2]:=hz;show thn (hr a8 s2 σ H2 _ I2 q2) λws s3 hz=>by let#[ps,H3,I3,km,q3]:=hz;show#[(x,y)::ps,H3,I3,.æ #[rx,ry] km,q3])
section
variable {X:Cx}
def _cy:CallR X (.u "len") (λxs H Q=>∃a kvs,xs=[V.I a]/\H a=@(.dK kvs)/\Q (.E kvs.B) H):=by
 rintro a8 s σ H xs us Q I r ⟨a,kvs,rfl,ha,q⟩;let#[u,rfl,ru]:=wj r;cases ru;show _cr I (.O ha) λt s' I'=>#[.E kvs.B,H,I',#[t,rfl],q]
end
end L2
set_option maxHeartbeats 4000000
namespace L3
open PySem PySem.Spec PyProof.Rows L2
abbrev vqi(gi:List Expr)(env:Env):Sem Bool:=
 forIn gi true λc r=>if r=true then do let ok <-isTrue c env (eval c env);pure (ForInStep.yield ok)else pure (ForInStep.yield r)
def _cz (env): ∀(l : List (Str × NameKind)) (cs),(∀y > l,y.2 = .free -> ∃c,env.cells.U y.1 = @c) ->
    (∀x c,cs.U x = @c -> env.cells.U x = @c) ->
    ∃ cl,(forIn l cs (λx r=>if(x.2==NameKind.free) = true then do let a <-cellOf env x.1; pure (ForInStep.yield ((x.1,a)::r))else pure (ForInStep.yield r)): Sem (List (Str × Addr))) = pure cl /\
      (∀x c,cl.U x = @c -> env.cells.U x = @c) /\ (∀x c,cs.U x = @c -> ∃c',cl.U x = @c') /\ ∀y > l,y.2 = .free -> ∃c,cl.U y.1 = @c
  | [],cs,_,hs=>#[cs,rfl,hs,λx c h=>#[c,h],nofun]
  | (n,k)::r,cs,hl,hs=>by
    by_cases hk : k = .free
    . subst hk
      let#[c,hc]:= hl _ X3 rfl;let iu : ∀x d,((n,c)::cs).U x = @d -> env.cells.U x = @d:= λx d h=>by
        rw[List.lookup_cons]at h;cases hx : x==n with| true=>symm| false=>rw[hx]at h; show hs x d h
      let#[cl,e,a,b,d]:= _cz env r _ (λy hy=>hl y (_ad _ hy)) iu;show#[cl,?_,a,λx c' h=> ?_,λy hy hf=> ?_]
      . rw[List.forIn_cons]
        let q : cellOf env n = pure c:= by ext cellOf; rw[hc]
        dsimp[q];show e
      . cases hx : x==n with| true=>show b x c (by rw[List.lookup_cons,hx])| false=>show b x c' (by rw[List.lookup_cons,hx]; show h)
      . let z\/z:=aD hy
        . symm
        . show d y z hf
    . let#[cl,e,a,b,d]:= _cz env r cs (λy hy=>hl y (_ad _ hy)) hs
      show#[cl,?_,a,b,λy hy hf=> ?_]
      . rw[List.forIn_cons]
        let q : (k==NameKind.free) = false:= ~~~hk
        dsimp[q];show e
      . let z\/z:=aD hy
        . subst z
          show absurd hf hk
        . show d y z hf
def _cA(h:∀y>scope.ð,y.2=.free->∃c,env.cells.U y.1=@c):
  ∃cl,closureFor scope env=pure cl/\(∀x c,cl.U x=@c->env.cells.U x=@c)/\∀y>scope.ð,y.2=.free->∃c,cl.U y.1=@c:=by
 let#[cl,e,a,_,d]:=_cz env scope.ð [] h (nofun);show#[cl,?_,a,d];ext closureFor
 symm
def lcX(X:Cx)(scope:Scope)(N:List Str)(cl:List (Str×Addr))(C:Addr)(s0:Shared)(H0:Hp)(fp:List Addr):Cx:=
 {X with N:=N,s₀:=s0,H₀:=H0,env:=compEnvC scope cl C X.Y,outer:=X.stack,ex:=fp,fn:=λ_=>false,pn:=[],xe:=λ_ _=>False}
noncomputable def JV(k:Nat)(R:List Nat)(σ:L2.St):L2.St:=List.ß k none++R.C λj=>(σ[j]?).join
structure LcOk (X:Cx)(scope:Scope)(N:List Str)(k:Nat)(R:List Nat):Prop where
 kind:scope.kind=.function
 nocell:∀y>scope.ð,y.2≠.cell
 names:∀y>scope.ð,y.2=.local->scope.ð.U y.1=@.local
 caps:∀y>scope.ð,y.2=.free->X.Y.kindOf y.1=@.cell\/X.Y.kindOf y.1=@.free
 len:N.B=k+R.B
 outs:∀i j x,R[i]?=@j->N[k+i]?=@x->X.N[j]?=@x/\scope.ð.U x=@.free
def K8(XN:List Str)(sc scope:Scope)(N:List Str)(k:Nat)(R:List Nat):Bool:=
 scope.ð.all (λy=>y.2 != .cell)&&scope.ð.all (λy=>y.2 != .local||scope.ð.U y.1==@.local) &&
 scope.ð.all (λy=>y.2 != .free||(sc.ð.U y.1==@.cell||sc.ð.U y.1==@.free)) &&
 (N.B==k+R.B)&&(R.zip (N.ý k)).all (λp=>XN[p.1]? == @p.2&&scope.ð.U p.2==@.free)
def _cB(hk:scope.kind=.function)(h:K8 X.N X.Y.ú scope N k R=true):LcOk X scope N k R:=by
 unfold K8 at h;dsimp[Bool.â,Yb,bne_iff_ne,Bool.or_eq_true,beq_iff_eq]at h;let#[#[#[#[h1,h2],h3],h4],h5]:=h;show#[hk,λy hy=>h1 y hy,λy hy e=>(h2 y hy).resolve_left (λz=>z e),λy hy e=>(h3 y hy).resolve_left (λz=>z e),h4,λi j x e1 e2=>?_];let m:(j,x)>R.zip (N.ý k):=by
  show Y2 (i:=i) ?_;rw[List.getElem?_zip_eq_some]
  symm
 show h5 _ m
def _cC {env : Env}: ∀{names : List (Str × NameKind)},(names.C λ(n,k)=>if(k==NameKind.free&&env.ú.kind == .function&&env.kindOf n==@.cell)then(n,NameKind.cell)else(n,k)).U x = @q ->
    (x,q) > names \/ (q = .cell /\ (x,NameKind.free) > names)
  | [],h=>nomatch h
  | (n,k)::r,h=>by
    let h : List.U x ((if _ = true then _ else _)::_) = @q:= h
    by_cases hc : (k==NameKind.free&&env.ú.kind == .function&&env.kindOf n==@.cell) = true
    . rw[X7 hc,List.lookup_cons]at h
      cases hx : x==n with
      | true=>symm
      | false=>
        rw[hx]at h;let z\/#[z,y]:=_cC h
        . show .O (_ad _ z)
        . show .h #[z,_ad _ y]
    . rw[Xd hc,List.lookup_cons]at h
      cases hx : x==n with
      | true=>symm
      | false=>
        rw[hx]at h;let z\/#[z,y]:=_cC h
        . show .O (_ad _ z)
        . show .h #[z,_ad _ y]
section
def _cD(sc : LcOk X scope N k R)(ci : ∀y > scope.ð,y.2 = .free -> ∃c,cl.U y.1 = @c)
 (h : (compEnvC scope cl C X.Y).kindOf x = @.cell \/ (compEnvC scope cl C X.Y).kindOf x = @.free): ∃c,cl.U x = @c:= by
  let h\/h:=h
  . let z\/#[_,z]:=_cC h
    . show absurd rfl (sc.nocell _ z)
    . show ci _ z rfl
  . let z\/#[z,_]:=_cC h
    . show ci _ z rfl
    . cases z
def _cE(I:Inv X a8 σ H s)(sc:LcOk X scope N k R)(hf:∀b>fp,wW X a8 H b)(ho:∀b>fp,∃o,s.H.get? b=@o)
  (hC:↥s<=C) (de:∀x c,cl.U x=@c->X.Y.cells.U x=@c) (ci:∀y>scope.ð,y.2=.free->∃c,cl.U y.1=@c):(lcX X scope N cl C s H fp).Ok where
 mod:=I.ok.mod
 kind:=sc.kind
 glob:=I.ok.glob
 blt:=I.ok.blt
 above:=hC
 inj:=λx y c h1 h2=>I.ok.inj x y c (de _ _ h1) (de _ _ h2)
 has:=λx h=>_cD sc ci h
 cab:=λx c h=>by cases h
 hd:=I.ok.hd
 frames:=I.ok.frames
 stk:=.O rfl
 exf:=λb hb=>by
  let#[o,e]:=ho b hb;show#[Xl (Xs (Xh e) hC),λx c h=>(hf b hb).2.2.2.2.1 x c (de x c h)]
 bs:=λb o e=>I.bs b o e
 bsz:=Yw I.ok.bsz I.sz
 noex:=λb o e hb=>by
  let z\/z:=(hf b hb).2.2.2.1
  .show I.ok.noex b o e z
  .show absurd (Xs (Xh e) (Yw I.ok.bsz z)) (Yt _)
 exfs:=λb hb hs=>by
  let z\/z:=aD (I.stkSub b hs)
  .show(hf b hb).2.1 z
  .show(hf b hb).2.2.1 z
 funs:=I.stack
 frf:=I.stkFree
def _cF(I:Inv X a8 σ H s)(h:↥s<=a):a∉frs X.stack:=λz=>by
 let e\/e:=aD (I.stkSub a z)
 .subst e;show absurd (Xs I.lt h) (Yt _)
 .show I.nofs h e
def _cG (I:Inv X a8 σ H s) (sc:LcOk X scope N k R)
  (hf:∀ b>fp,wW X a8 H b) (ho:∀b>fp,∃o,s.H.get? b=@o)
  (hC:↥s<=C) (hD:↥s<=D) (ut:D≠C) (de:∀x c,cl.U x=@c->X.Y.cells.U x=@c) (ci:∀y>scope.ð,y.2=.free->∃c,cl.U y.1=@c)
  (cf:∀ b o,s.H.get? b=@o->h1.get? b=@o) (hn:h1.Ns C m) (eD:h1.get? D=@oD) (dD:∀v,oD.data≠.cell v):
  Inv (lcX X scope N cl C s H fp) [(D,oD)] (JV k R σ) H {s with heap:=h1,toks:=t} where
 ok:=_cE I sc hf ho hC de ci
 os:=rfl
 bare:=I.bare
 base:=Un.kept cf
 loc:=#[m,hn,λi x v e1 e2 vis=>by
  let#[mX,hnX,hl]:=I.loc;unfold JV at e2
  by_cases hi:i<k
  .rw [Xw (by symm),List.getElem?_replicate,X7 hi]at e2
   symm
  .let hk:k<=i:=Nat.le_of_not_lt hi;rw [Yk (Zs▸hk),Zs,Xf]at e2;cases er:R[i - k]? with
   | none=>symm
   | some j=>
    rw [er]at e2;let ej:(σ[j]?).join=@v:= ~~~e2
    let ej':σ[j]?=@(@v):=by
     cases q:σ[j]? with| none=>rw[q]at ej;cases ej| some z=>symm
    let#[o1,o2]:=sc.outs _ j x er (by rw[show k+(i - k)=i by lia];show e1);let cap:=sc.caps (x,.free) (Z6 o2) rfl;let visX:Vis X.Y.ú x:=cap.è (λz=>.h (.O z)) λz=>.h (.h z)
    let#[u,ru,q]:=hl j x v o1 ej' visX;show#[u,ru,?_];let#[q,_]\/#[_,c,ec,hc]:=q
    .symm
    .let#[c',ec']:=ci (x,.free) (Z6 o2) rfl;let e:=_aa ((de x c' ec').à.J ec);subst e;show .h #[?_,c',ec',?_]
     .let z\/z\/z:=vis
      .let y\/#[y,_]:=_cC (env:=X.Y) (names:=scope.ð) z
       .let y':=sc.ð _ y rfl
        symm
       .cases y
      .show .O z
      .show .h z
     .let#[o,h1,h2]:=hc;show#[o,cf _ _ h1,h2]]
 cell:=λx c h=>by
  let#[v,o,h1,h2]:=I.cell x c (de x c h);show#[v,o,cf _ _ h1,h2]
 free:=I.hok.fresh hC
 freeC:=λx c h=>I.freeC x c (de x c h)
 pin:=λp hp=>by
  let e:p=(D,oD):=by
   let hp:p>([]++[(D,oD)]:LA9):=hp
   simpa using hp
  subst e;show#[eD,I.hok.fresh hD,ut,_cF I hD,dD]
 hok:=I.hok.kept cf
 len:=by
  change(JV k R σ).B=N.B;ext JV;rw[sc.len,Xi,Zs,X5]
def _cH(I:Inv X a8 σ H s)(hn:H a=none)(hL:a≠X.Y.locals)(h1:a>X.ex\/X.s₀.H.objs.L<=a)(h2:∀x c,X.Y.cells.U x=@c->c≠a)(h3:∀p>X.pn++a8,p.1≠a)
  (new:ObjOk X.î X.w (upd H a o) s.H a o):Inv X a8 σ (upd H a o) s:=by
 let hok:HOk X.î X.w (upd H a o) s.H:=λb u e=>by
  by_cases hb:b=a
  .subst hb;rw[vQ]at e;cases e;show new
  .rw[qk hb]at e;show(I.hok b u e).stay (λ_ _ _ q=>q) (λc q=>by rw[qk (JX q hn)];show q) λc xs q=>by rw[qk (JX q hn)];show q
 let na:∀b,b∉[a]->b≠a:=λb hb z=>hb (z▸aB rfl)
 show I.step (h':=s.H) (H':=upd H a o) (g':=s.gens) (t':=s.toks) (d':=s.drawn)
  (λb hb=>by rw[aC hb];show#[h1.imp id λz=>Yo z,hL,h2,h3]) (λb o _ _ _ e _=>e) (λb o _ _ _ e _=>#[o.slots,e]) (λb o hb _ q=>by rw[qk (na b hb)];show q)
  (λb o _ e=>#[o,e]) (λb xs q=>by rw[qk (JX q hn)];show q) (λb o u q=>by rw[qk (JX q hn)];show q) (λb ps q=>#[(List.G []),by rw[qk (JX q hn),q];rfl])
  (λm hm=>hm) hok I.bare
end
def PTs(X:Cx)(gi:List Expr)(t:TT):Prop:=
 ∀(a8:LA9) (s:Shared) (σ:L2.St) (H:Hp) (Q:Bool->Hp->Prop),Inv X a8 σ H s->t σ H Q->∅ (vqi gi X.Y) (TP X a8 σ Q) X.xe s
abbrev tYes:TT:=λ_ H Q=>Q true H
def _cI:PTs X [] tYes:=λ_ _ _ H _ I h=>wpAny_tests_nil #[H,I,h]
def _cJ(hc:PT X c t):PTs X [c] t:=λa8 s σ H Q I h=>wpAny_tests_one (hc a8 s σ H Q I h)
def LcW(g:TG)(tt:TT)(te:TE)(Q:VK)(J:It)(W:Nat->Nat->List V->L2.St->Hp->Prop):Prop:=∀i m ys σ H,W i m ys σ H ->
 (J.stop i H/\ys.B<=sizeLine/\∀p,H p=none->Q (.I p) (upd H p (.S ys))) \/
 (J.go i H/\∀x H1,J.yld i H x H1->g x σ H1 fun σ2 H2=>∃(Ny:VK) (Nn:Hp->Prop),(∀y H4,Ny y H4->ys.B<=sizeLine/\∃m',m'<m/\W (i+1) m' (ys++[y]) σ2 H4) /\
  (∀H4,Nn H4->∃m',m'<m/\W (i+1) m' ys σ2 H4)/\tt σ2 H2 λb H3=>if b=true then te σ2 H3 Ny else Nn H3)
abbrev tLC(wi:TI)(g:TG)(tt:TT)(te:TE)(k:Nat)(R:List Nat):TE:=fun σ H Q=>wi σ H λJ H1=>
 ∃W:Nat->Nat->List V->L2.St->Hp->Prop,(∃m,W 0 m [] (JV k R σ) H1)/\LcW g tt te Q J W
abbrev wxd(aa:List Value)(n:Nat):Obj:={cls:=.l "list",data:=.seq aa.G n}
section
def op_mulI:OpR X (binaryOp .Mult) (rI IntMulOk λi j=>.E (i*j)):=opI λ_ _ _ _ _ _ _ hc q=>mul_int q hc
def _cK(_i j:Int):Prop:=0<j/\j.natAbs.log2<9000
def _cL:OpR X (binaryOp .FloorDiv) (rI _cK λi j=>.E (i / j)):=opI λi j _ _ _ _ _ hc q=>by
 let h1:=hc.1;show floordiv_int .q (by rw[Int.fdiv_eq_ediv_of_nonneg i .q];show q) (.O (PyProof.noPylong_of_log2 hc.2))
def kinds:List String:=["NoneType","bool","int","str","list","tuple","dict"]
def _cM(T U:String):Bool:=T==U||(T == "bool" && U == "int")
def _cN{K}(hT:T>kinds)(hU:U>kinds.tail):kitOne K (.l T) (.l U)=@(_cM T U):=by
 dsimp[kinds,List.tail_cons,Zy,Yv,or_false]at hT hU;let rfl\/rfl\/rfl\/rfl\/rfl\/rfl\/rfl:=hT<;>let rfl\/rfl\/rfl\/rfl\/rfl\/rfl:=hU<;>ac_rfl
def _cO(K:Frag):List V->Hp->VK->Prop:=λxs H Q=>∃x T U,xs=[x,.ty U]/\TyOf K H x (.l T)/\T>kinds/\U>kinds.tail/\Q (.bl (_cM T U)) H
def _cP:CallR X (.u "isinstance") (_cO X.K):=by
 rintro a8 s σ H xs us Q I r ⟨x,T,U,rfl,ty,hT,hU,q⟩;let#[u,w',rfl,r1,r2]:=_bn r;cases(r2);show _bs I r1 ty (_cN hT hU) λtk=>#[.bl _,H,I.tok _,rfl,q]
def _cQ:∀{bs:List Bool} {aa} {i:Nat} {v},Vals (bs.C V.bl) aa->aa[i]?=@v->∃b,bs[i]?=@b/\v=.bool b
 |[],_,_,_,.nil,e=>by symm
 |b::bs,_,0,v,.æ r _,e=>by
  simp at e;subst e;show#[b,rfl,r]
 |b::bs,_,i+1,v,.æ _ t,e=>by
  let#[b',e1,e2]:=_cQ t (~~~e);show#[b',~~~e1,e2]
def _cR(bs:List Bool):((List.ä bs.B).all λi=>(bs[i]?).p true)=bs.all id:=by
 rw[Bool.eq_iff_iff,Yb,Yb];constructor
 .intro h b hb;let#[i,hi,e]:=Yg hb;let:=h i (List.å.s hi);rw[X1 hi,e]at this;show this
 .intro h i hi;let jh:=List.å.mp hi;rw[X1 jh];show h _ (Xm jh)
def _cS(K:Frag):List V->Hp->VK->Prop:=λxs H Q=>∃(p:Addr) (bs:List Bool),xs=[.I p]/\SqL K H p (bs.C V.bl)/\Q (.bl (bs.all id)) H
def _cT(hc:X.calm=true):CallR X (.u "all") (_cS X.K):=by
 rintro a8 s σ H xs us Q I r ⟨p,bs,rfl,hq,q⟩;let#[u,rfl,ru]:=wj r;cases ru;let#[aa,rv,pl,hz]:=I.list hq;let hl:=pl.isList;let bf:p<↥s:=by let#[_,e,_]:=hl;show Xh e
 let af:bs.B=aa.B:=by rw[<-rv.B,X5]
 show call_all_walk (Zf hl ?_);show#[↥s,[↥s,p],[↥s],aa.G.L,_,_,λi=>(bs[i]?).p true,rfl,Walks.list (A:=X.A.in1) (I.ok.hd hc) _ p (Xl bf) aa.G,
  #[#[_,X9 _ rfl,rfl,rfl],hl.í _],λi v s' Q' E' hP hQ=>?_,λh' tk hk=>?_]
 .let#[b,e,rfl]:=_cQ rv (~~~hP);dsimp[e]at hQ;show Zu hQ
 .let e:((List.ä aa.G.L).all λi=>(bs[i]?).p true)=bs.all id:=by
   rw[Xe,<-af];show _cR bs
  rw[e];show#[.bl _,H,I.kept (t':=tk) (h':=h') λb o e=>hk b o (λz=>?_) (X2 _ e),rfl,q];show absurd (Xh e) (aC z▸Yt _)
noncomputable def Its(x:Str):It:=#[λi _=>i<x.cps.L,λi H v H'=>H'=H/\∃c,x.cps[i]?=@c/\v=.x #[%[c|0]],λi _=>i=x.cps.L]
def _cU{K}
  (W:∀A',A'.õ=none->Walks P w A' it [it] [it] x.cps.L (SignAt x) (λi h=>h.IsStrIter it ty x t i))
  (wc:∀A (i) (s) (Q) (E),s.H.IsStrIter it ty x t i->Q (.I it) s->wpAny (model P w) A (pyIter (.I it)) Q E s)
  (qi:["enumerate","zip","dict_itemiterator","dict_reverseitemiterator","odict_iterator","itertools.zip_longest","itertools.pairwise"].contains ty=false):
  Turn P w K tg (Its x) [it] it (λi h=>h.IsStrIter it ty x t i) where
 mem:=by simp
 obj:=λi h st b hb=>by
  let e:b=it:= ~~~hb
  let#[o,e,c,d]:=st
  symm
 keep:=λi h h' st k=>by
  let#[o,e,r]:=st;show#[o,k it (by simp) o e,r]
 item:=by
  intro X hP hw hK hc i a8 s σ H E I hf st hg;subst hP hw hK;let#[f0,f1,f2,f3,f4,f5]:=hf it (by simp);show(W X.A (I.ok.hd hc)).item i s _ _ hg st λv h' tk hv fm kk=>?_
  let#[c,u,i6,rfl]:=hv;let I1:Inv X a8 σ H {s with heap:=h',toks:=tk}:=I.turned (λb o hb e=>kk b o (~~~hb) e) f0 f1 f3 f4 f5;let#[o,e,c1,d]:=id fm;show#[_,rfl,_aS e c1 d qi #[.x #[%[c|0]],H,I1,#[u,rfl],#[rfl,c,i6,rfl],fm,λb hb=>(hf b hb).1]]
 done:=by
  intro X hP hw hK hc i a8 s σ H E I hf st hg;subst hP hw hK;let#[f0,f1,f2,f3,f4,f5]:=hf it (by simp);subst hg;show(W X.A (I.ok.hd hc)).done s _ _ st λh' tk kk=>#[rfl,I.turned (λb o hb e=>kk b o (~~~hb) e) f0 f1 f3 f4 f5]
 self:=λA i s Q E st hQ=>wc A i s Q E st hQ
def _cV:R2:=λx y H Q=>∃z n,x=.x z/\y=.E n/\(z.B<=1024/\n<=1024/\-1024<=n)/\Q (.x (Txt.mul z n)) H
def _cW:OpR X (binaryOp .Mult) _cV:=by
 rintro a8 s σ H x y v u Q I rx ry ⟨z,n,rfl,rfl,⟨h1,h2,h3⟩,q⟩;let#[t,rfl]:=rx;let#[t',rfl]:=ry;show SB.mul (mulOk_of 1024 1024 h1 h2 .q (by simp) (by simp)) λt' k=>#[.x _,H,I.tok k,#[t',rfl],q]
def _cX:∀{ys aa},Vals (ys.C V.x) aa->StrsAre aa ys
 |[],_,.nil=>.nil|_::_,_,.æ #[t,e] r=>by subst e;show .æ _ t (_cX r)
def _cY(K:Frag):V->List V->Hp->VK->Prop:=λx vs H Q=>∃z p ys,x=.x z/\vs=[.I p]/\SqL K H p (ys.C V.x)/\(ys.C (·.B)).sum+ys.B*z.B<=16777216/\Q (.x (Txt.join z ys)) H
def _cZ:MtR X "str.join" (_cY X.K):=by
 rintro a8 s σ H x xs v us Q I rx rv ⟨z,p,ys,rfl,rfl,hq,hok,q⟩;let#[t,rfl]:=rx;let#[u,rfl,ru]:=rv.one;cases ru;let#[aa,rs,pl,hz]:=I.list hq;show join_list pl.isList (_cX rs) hok λt' k=>#[.x _,H,I.tok k,#[t',rfl],q]
def _c0(K:Frag):List V->Hp->VK->Prop:=λxs H Q=>(∃p ys,xs=[.I p]/\(SqL K H p ys\/SqT K H p ys)/\Q (.E ys.B) H)\/(∃z,xs=[.x z]/\z.B<=sizeLine/\Q (.E z.B) H)\/(∃a kvs,xs=[V.I a]/\H a=@(.dK kvs)/\Q (.E kvs.B) H)
def _c1 K (hK:X.K=K<|>Ŕ):CallR X (.u "len") (_c0 K):=by subst hK;show _Cq.or (_Cs.or _cy)
def _c2:CallR X (.l "int") (λxs H Q=>(∃i,xs=[.E i]/\Q (.E i) H)\/∃k,xs=[.bl k]/\Q (.E (if k then 1 else 0)) H):=_bp
def _c3 K (hK:X.K=K<|>Ŕ)(hc:X.calm=true<|>Ŕ):CallR X (.u "all") (_cS K):=by subst hK;show _cT hc
def _c4(K){id}
  (pa:PlainAttrs T) (slot:Slot T name id) (qi:typeOf (.u id)=pure (.l "method_descriptor")) (hm:MtR X id r) (ho:PE X o to) (ha:PA X (e::es) t)
  (b8:attributeBase o name X.Y (eval o X.Y)=eval o X.Y<|>Ŕ)
  (dj:autoParam (((backTo ah (starEach (e::es) X.Y)).all (λx=>!x.1)&&(backToKw ah (keywordEach [] X.Y)).all (λx=>x.1.isSome)
   && decide ((e::es).B+([]:List Keyword).B+(if([]:List Keyword).û then 0 else 1)<30))=true) Ŕ)
  (b9:Abe ay ah<|>Ŕ) (hs:Abs e es X<|>Ŕ) (b7:Abb ah es X<|>Ŕ) (hK:X.K=K<|>Ŕ):
  PE X (.ù (.Attribute o name ay) (e::es) [] ah) (tBM K T r to t):=by subst hK;show _bY pa slot qi hm ho ha b8 dj b9 hs b7
def _c5:bootBuiltins "len"=@(.u "len"):=by decide +kernel
def _c6:bootBuiltins "isinstance"=@(.u "isinstance"):=by decide +kernel
def _c7:bootBuiltins "all"=@(.u "all"):=by decide +kernel
def _c8:bootBuiltins "max"=@(.u "max"):=by decide +kernel
def _c9:bootBuiltins "min"=@(.u "min"):=by decide +kernel
def _da:bootBuiltins "sorted"=@(.u "sorted"):=by decide +kernel
def _db:bootBuiltins "int"=@(.l "int"):=by decide +kernel
def _dc:bootBuiltins "str"=@(.l "str"):=by decide +kernel
def _dd:bootBuiltins "bool"=@(.l "bool"):=by decide +kernel
def Vk:bootBuiltins "list"=@(.l "list"):=by decide +kernel
def _de:bootBuiltins "tuple"=@(.l "tuple"):=by decide +kernel
def _df:bootBuiltins "dict"=@(.l "dict"):=by decide +kernel
end
def Cst(mg:Str->Option Value)(x:Str)(v:V):Prop:=∃u,mg x=@u/\RelV v u
section
def WV(c:Cst X.mg x v)(hg:Gl X x<|>Ŕ)(hd:Abd x<|>ŕ):PE X (.é x pos) (tC v):=by
 let#[u,m,r]:=c;show _ay hg m r hd
end
def _dg:∀{ns:List Int} {m},PySem.W.WData.weightAll (ns.C PySem.W.WData.E)<=m->∀n>ns,Builtin.Int.intBits n<=m
 | [],_,_,_,h=>nomatch h
 | a::r,m,h,n,hn=>by
  let h':(if a==0 then 0 else a.natAbs.log2+1)+1+PySem.W.WData.weightAll _<=m:=h;let z\/z:=aD hn
  .subst z;let e:Builtin.Int.intBits n=(if n==0 then 0 else n.natAbs.log2+1):=rfl
   grind
  .show _dg .q n z
def _dh{ns:List Int}(h:PySem.W.WData.layableAll [PySem.W.WData.list (ns.C PySem.W.WData.E)]=true):∀n>ns,Builtin.Int.intBits n<=1048576:=by
 let h1:=(PySem.W.layW_cons h).1;unfold PySem.W.WData.layable at h1;simp at h1;let h2:PySem.W.WData.weightAll _<=2 ^ 20:=h1.2;show _dg (~~~h2)
section
def in1_units(A:Around):A.in1.y<=A.y+1:=by
 symm
end
section
def _di(K:Frag):List V->Hp->VK->Prop:=λxs H Q=>∃p ys,xs=[.I p]/\(SqL K H p ys\/SqT K H p ys)/\∀l,H l=none->Q (.I l) (upd H l (.S ys))
def _dj K (hK:X.K=K<|>Ŕ):CallR X (.l "list") (_di K):=by subst hK;show _bU
def _dk(K){id}
  (pa:PlainAttrs T) (slot:Slot T name id) (qi:typeOf (.u id)=pure (.l "method_descriptor")) (hm:MtR X id r) (ho:PE X o to)
  (b8:attributeBase o name X.Y (eval o X.Y)=eval o X.Y<|>Ŕ) (b9:Abe ay ah<|>Ŕ) (hK:X.K=K<|>Ŕ):
  PE X (.ù (.Attribute o name ay) [] [] ah) (zjn K T r to):=by subst hK;show _bX pa slot qi hm ho b8 b9
end
section
def _dl(fp:List Addr)(I:Inv X a8 σ H s)(k:∀b o,b∉fp->s.H.get? b=@o->h'.get? b=@o)(hf:∀b>fp,wW X a8 H b):Inv X a8 σ H {s with heap:=h',toks:=t' }:=by
 let vi:∀b u,H b=@u->b∉fp:=λb u e z=>by rw[(hf b z).1]at e;cases e
 show I.step (g':=s.gens) (d':=s.drawn) (λb hb=>?_) (λb o _ _ hc e _=>k b o hc e) (λb o _ _ hc e _=>#[o.slots,k b o hc e]) (λ_ _ _ _ n=>n)
  (λb o hc e=>#[o,k b o hc e]) (λ_ _ e=>e) (λ_ _ _ e=>e) (λb ps e=>#[(List.G []),by rw[e];rfl]) (λm hm=>?_) (λb u e=>?_) I.bare
 .let#[_,f1,_,f3,f4,f5]:=hf b hb;show#[f3.imp id λz=>Yo z,f1,f4,f5]
 .let#[o,es,ep,ho,r]:=hm;show#[o,es,ep,k _ o (λz=>(hf _ z).2.1 rfl) ho,r]
 .show(I.hok b u e).stay (λc v hc q=>k c v ?_ q) (λ_ q=>q) λ_ _ q=>q
  let z\/z:=hc
  .rw[z];show vi b u e
  .show vi c _ z
end
section
def _dm:List V->Hp->VK->Prop:=λxs H Q=>(∃i,xs=[.E i]/\Q (.E i) H)\/(∃k,xs=[.bl k]/\Q (.E (if k then 1 else 0)) H)\/∃(x:Str) (n:Int),xs=[.x x]/\PySem.intText? x=@n/\x.B<=640/\Q (.E n) H
def _dn:CallR X (.l "int") _dm:=by
 intro a8 s σ H xs us Q I r h;let h\/h\/#[x,n,rfl,hx,hl,q]:=h
 .show _c2 a8 s σ H xs us Q I r (.O h)
 .show _c2 a8 s σ H xs us Q I r (.h h)
 .let#[u,rfl,t,rfl]:=wj r;show PySem.W.KIN.call_text hx hl #[.E n,H,I.tok _,#[_,rfl],q]
end
def _do(h:env.frame=env0.frame):noteFrame e env=noteFrame e env0:=by
 ext noteFrame PySem.frameOf;rw[h]
structure Fl0 (h:Heap)(x:Addr)(C:Value)(vs:Array Value):Prop where
 ob:h.get? x=some {cls:=C,data:=.fields vs}
 sz:1<vs.L
structure FlT (h:Heap)(x T:Addr)(C:Value)(fl:Value):Prop where
 ex:∃vs,h.get? x=some {cls:=C,data:=.fields vs}/\vs[1]?=@(.I T)
 tb:∃oT ts,h.get? T=@oT/\oT.data=.fields ts/\ts[3]?=@fl
 ne:T≠x
structure Chg (fs ch:List Addr)(h h':Heap):Prop where
 keep:∀b o,h.get? b=@o->b∉fs->b∉ch->h'.get? b=@o
 slot:∀b o,h.get? b=@o->b∉ch->∃sl,h'.get? b=some {cls:=o.cls,dict:=o.dict,data:=o.data,slots:=sl}
 size:h.objs.L<=h'.objs.L
def Chg.J(a:Chg fs ch h h1)(b:Chg fs ch' h1 h2)(hc:∀x>ch',x>ch\/h.get? x=none):Chg fs ch h h2 where
 keep:=λx o e h1 h2=>b.keep x o (a.keep x o e h1 h2) h1 λz=>(hc x z).è h2 λq=>by rw[q]at e;cases e
 slot:=λx o e hn=>by
  let#[sl,e1]:=a.slot x o e hn;let#[vb,e2]:=b.slot x _ e1 λz=>(hc x z).è hn λq=>by rw[q]at e;cases e
  show#[vb,e2]
 size:=Yw a.L b.L
def Chg.mono(a:Chg fs ch h h1)(hc:∀x>ch,x>ch'):Chg fs ch' h h1:=#[λb o e h1 h2=>a.keep b o e h1 λz=>h2 (hc b z),λb o e h2=>a.slot b o e λz=>h2 (hc b z),a.L]
def Chg.of_upd : Chg fs [a] h (h.update a f):=
  #[λb o e _ hn=>by rw[Zl _ _ _ _ (λz=>hn (aB z))]; show e,
   λb o e hn=>#[o.slots,by rw[Zl _ _ _ _ (λz=>hn (aB z))]; show e],by rw[Heap.size_update]; show Xb _]
def Chg.of_push:Chg fs [] h (h.í o):=
 #[λb o e _ _=>X2 _ e,λb o e _=>#[o.slots,X2 _ e],by rw[Zo];simp]
def Chg.of_slots(s:Heap.SlotsOnly fs h h'):Chg fs [] h h':=
 #[λb o e hn _=>(s.2.1 b hn).J e,λb o e _=>s.2.2 b o e,by rw[s.1];show Xb _]
def Chg.ò:Chg fs ch h h:=#[λ_ _ e _ _=>e,λb o e _=>#[o.slots,e],Xb _]
section
variable {L x T:Addr}
def _dp(hA:A.frames=@(env::outer))(hF:s.H.FunFrames base (env::outer))(hL:env.frame=@L)(ho:Fl0 s.H x C vs)
  (h:∀h' T',Chg (frs (env::outer)) [x] s.H h'->↥s<=T'->FlT h' x T' C (rawInt ↑L)->Q () {s with heap:=h' }):
  wpAny M A (do
   let a <-PySem.frameOf env
   let pl <-entryPlaceOf L hadNext
   let b <-EntryCells.newEntry head a Value.ã (rawInt ↑L) Value.ã pl
   setField (Value.I x) 1 b) Q E s:=by
 show X0 (wpAny_frameOf_fun hA hF hL λh1 s1=>?_);let hx:x∉frs _:=λz=>by
  let#[_,o,e,hn]:=hF.mem z;rw[ho.ob]at e;cases e;show hn _ rfl
 let o1:h1.get? x=some {cls:=C,data:=.fields vs}:=(s1.2.1 x hx).J ho.ob;let fin:∀pl,IsPlace pl->wpAny M A (do
   let b <-EntryCells.newEntry head _ Value.ã _ Value.ã pl
   setField _ 1 b) Q E {s with heap:=h1}:=λpl bj=>by
  show X0 ?_;ext EntryCells.newEntry newFields;let har:([head,Value.I L,Value.ã,rawInt ↑L,Value.ã]++if pl.û=true then List.ß 6 Value.ã else pl).G[3]?=@(rawInt ↑L):=by rfl
  let hsz:([head,Value.I L,Value.ã,rawInt ↑L,Value.ã]++if pl.û=true then List.ß 6 Value.ã else pl).G.L<=sizeLine+2:=by
   let rfl\/#[_,_,_,_,_,_,_,rfl]:=bj<;>simp<;>decide
  generalize ([head,Value.I L,Value.ã,rawInt ↑L,Value.ã]++if pl.û=true then List.ß 6 Value.ã else pl).G=ar at har hsz;show Ya ?_ hsz;let o2:(h1.í {cls:=.l "traceback",data:=.fields ar}).get? x=some {cls:=C,data:=.fields vs}:=X2 _ o1;show Yq o2 rfl ho.sz ?_;let bc:h1.objs.L≠x:=λe=>absurd (Xh o1) (e▸Yt _)
  let o3:((h1.í {cls:=.l "traceback",data:=.fields ar}).update x (Obj.mapFields λy=>y.þ 1 (.I h1.objs.L))).get? h1.objs.L=some {cls:=.l "traceback",data:=.fields ar}:=by
   rw[Zl _ _ _ _ bc];show X9 _ rfl
  show h _ h1.objs.L (((Chg.of_slots s1).mono (nofun)).J ((Chg.of_push.mono nofun).J Chg.of_upd λy hy=>.O hy) λy hy=>.O hy) (s1.1▸Xb _) #[#[vs.þ 1 _,?_,Array.getElem?_setIfInBounds_self_of_lt ho.sz],#[_,_,o3,rfl,har],bc];show Ye _ o2 rfl
 show X0 (wpAny_entryPlaceOf λpl bj=>fin pl bj)
def _dq(hA:A.frames=@(env::outer))(hF:s.H.FunFrames base (env::outer))(hL:env.frame=@L)(ho:Fl0 s.H x C vs)(hv:vs[1]?=@.ã)
  (h:∀h' T',Chg (frs (env::outer)) [x] s.H h'->↥s<=T'->FlT h' x T' C (rawInt ↑L)->Q () {s with heap:=h' }):wpAny M A (noteFrame (.I x) env) Q E s:=by
 ext noteFrame;rw[hL];show X0 (Zw ho.ob rfl hv (_dp hA hF hL ho h))
def upd3{h:Heap}(e:h.get? T=@oT)(ed:oT.data=.fields ts)(h3:3<ts.L):
  ∃o' ts',(h.update T (Obj.mapFields λy=>y.þ 3 v)).get? T=@o'/\o'.data=.fields ts'/\ts'[3]?=@v:=by
 let#[c,d,dt,sl]:=oT;cases(ed);show#[_,ts.þ 3 v,Ye _ e rfl,rfl,Array.getElem?_setIfInBounds_self_of_lt h3]
def _dr(hA:A.frames=@(env::outer))(hF:s.H.FunFrames base (env::outer))(hL:env.frame=@L)(f:FlT s.H x T C fl)
  (h:∀h' T',Chg (frs (env::outer)) [x,T] s.H h'->(↥s<=T'\/T'=T)->FlT h' x T' C (rawInt ↑L)->Q () {s with heap:=h' }):wpAny M A (noteFrame (.I x) env) Q E s:=by
 let#[#[vs,e1,v1],#[oT,ts,e2,d2,v2],bc]:=f;let h3:3<ts.L:=by
  rw[Array.getElem?_eq_some_iff]at v2;show v2.1
 let h1:1<vs.L:=by
  rw[Array.getElem?_eq_some_iff]at v1;show v1.1
 ext noteFrame;rw[hL];show X0 (Zw e1 rfl v1 (X0 (Zw e2 d2 v2 ?_)))
 by_cases hf:(fl==rawInt ↑L)=true
 .rw[X7 hf];let e:=eq_of_beq hf;subst e;show X4 (h s.H T Chg.ò (.h rfl) #[#[vs,e1,v1],#[oT,ts,e2,d2,v2],bc])
 .rw[Xd hf];show X0 (Yq e2 d2 h3 ?_);let c1:Chg (frs (env::outer)) [x,T] s.H (s.H.update T (Obj.mapFields λy=>y.þ 3 Value.ã)):=Chg.of_upd.mono λy hy=>by
   grind
  let e1':(s.H.update T (Obj.mapFields λy=>y.þ 3 Value.ã)).get? x=some {cls:=C,data:=.fields vs}:=by
   rw[Zl _ _ _ _ bc.à];show e1
  let hF':(s.H.update T (Obj.mapFields λy=>y.þ 3 Value.ã)).FunFrames base (env::outer):=by
   show hF.of_keeps λb o e hn=>#[o,?_,rfl]
   rw[Zl _ _ _ _ λz=>?_]
   .show e
   .symm
  show _dp hA hF' hL #[e1',h1] λh' T' c2 hs f'=>(h h' T' (c1.J (c2.mono (ch':=[x,T]) λy hy=>by rw[aC hy];simp) λy hy=>.O hy) (.O ?_) f')
  rw[Heap.size_update]at hs;show hs
def _ds(f:FlT s.H x T C fl)(h:∀h',Chg (frs outer) [x,T] s.H h'->FlT h' x T C (fr.è Value.ã λf=>rawInt ↑f)->Q () {s with heap:=h' }):wpAny M A (setFlight (.I x) fr) Q E s:=by
 let#[#[vs,e1,v1],#[oT,ts,e2,d2,v2],bc]:=f;let h3:3<ts.L:=by
  rw[Array.getElem?_eq_some_iff]at v2;show v2.1
 show X0 (Zw e1 rfl v1 (Yq e2 d2 h3 (h _ (Chg.of_upd.mono λy hy=>by rw[aC hy];simp) #[#[vs,?_,v1],upd3 e2 d2 h3,bc])))
 rwa [Zl _ _ _ _ bc.à]
end
structure XCls (K:Frag)(C:Addr):Prop where
 ga:findIn K (.I C) "__getattribute__"=some @(.u "BaseException.__getattribute__")
 gt:findIn K (.I C) "__getattr__"=@none
 fo:PySem.W.findObj K C none "__class__"=@(.bind (.u "getset_descriptor.__get__") (.u "object.__class__"))
 ob:PySem.W.mroIn K C (.l "object")=@true
 bx:PySem.W.mroIn K C (.l "BaseException")=@true
 cl:(PySem.W.clsIn K C).isSome=true
def FpX(X:Cx)(a8:LA9)(H:Hp)(b:Addr):Prop:=
 H b=none/\b≠X.Y.locals/\b∉X.fs/\(b>X.ex\/X.s₀.H.get? b=none)/\(∀x c,X.Y.cells.U x=@c->c≠b)/\∀p>X.pn++a8,p.1≠b
section
def fpX(I:Inv X a8 σ H s)(hb:s.H.get? b=none)(hn:H' b=none):FpX X a8 H' b:=by
 show#[hn,λz=>?_,λz=>?_,?_,λx c e z=>?_,λp hp z=>?_]
 .let#[m,#[o,_,_,ho,_],_]:=I.loc
  symm
 .let#[_,o,e,_]:=I.ok.funs.mem z
  by_cases hx:b>X.ex
  .show I.ok.exfs b hx z
  .obtain _:=I.base.there b o e hx
   grind
 .by_cases hx:b>X.ex
  .show .O hx
  .cases e:X.s₀.H.get? b with
   |none=>show .h rfl
   |some o=>
    let#[o',e']:=I.base.there b o e hx
    symm
 .let#[v,o,ho,_]:=I.cell x c e
  symm
 .let:=(I.pin p hp).1
  symm
def FpX.of(h:wW X a8 H b):FpX X a8 H b:=#[h.1,h.2.1,h.2.2.1,h.2.2.2.1.imp id λz=>Yo z,h.2.2.2.2]
def _dt(I:Inv X a8 σ H s)(c:Chg (frs X.stack) ch s.H h')(hf:∀b>ch,FpX X a8 H b):Inv X a8 σ H {s with heap:=h' }:=by
 show I.call (g':=s.gens) (t':=s.toks) (d':=s.drawn) #[λb o e _ h1 h2=>c.keep b o e h1 h2,λb o e _ _ h2=>c.slot b o e h2,λ_ _ _ n _=>n,λb o e h2=>?_,λ_ _ e=>e,λ_ _ _ e=>e,λ_ _ e=>#[(List.G []),by rw[e];rfl]] (λb u e=>?_) I.bare λb hb=>?_
 .let#[sl,q]:=c.slot b o e h2;show#[_,q]
 .let no:∀d v,H d=@v->d∉frs X.stack/\d∉ch:=λd v e=>#[λz=>(by rw[I.stkFree d z]at e;cases e),λz=>(by rw[(hf d z).1]at e;cases e)]
  show(I.hok b u e).stay (λd v hc q=>?_) (λ_ q=>q) λ_ _ q=>q
  let z\/z:=hc
  .rw[z]at q ⊢;show c.keep b v q (no b u e).1 (no b u e).2
  .show c.keep d v q (no d _ z).1 (no d _ z).2
 .let#[_,f1,_,f3,f4,f5]:=hf b hb;show#[f3,f1,f4,f5]
end
structure Fx (X:Cx)(a8:LA9)(H:Hp)(h:Heap)(x:Addr)(C:Value):Prop where
 fp:FpX X a8 H x
 st:(∃vs,Fl0 h x C vs/\vs[1]?=@.ã)\/∃T fl,FlT h x T C fl/\FpX X a8 H T
structure Xt (X:Cx)(a8:LA9)(σ:L2.St)(H:Hp)(x T:Addr)(C fl:Value)(s:Shared):Prop where
 inv:Inv X a8 σ H s
 fx:FpX X a8 H x
 fT:FpX X a8 H T
 f:FlT s.H x T C fl
def Xt.to(h:Xt X a8 σ H x T C fl s):Fx X a8 H s.H x C:=#[h.fx,.h #[T,fl,h.f,h.fT]]
def Xo(X:Cx)(E:XK)(e:Value)(s:Shared):Prop:=∃a8 σ H x C,e=.I x/\Inv X a8 σ H s/\Fx X a8 H s.H x C/\E C none H
def xq(X:Cx)(E:XK):Prop:=∀a8 σ H s x C,Inv X a8 σ H s->Fx X a8 H s.H x C->E C none H->X.xe (.I x) s
abbrev Cx.ex'(X:Cx)(E:XK):Cx:=X.wish (Xo X E)
def zJ:xq (Cx.ex' X E) E:=λa8 σ H s x C I f q=>#[a8,σ,H,x,C,rfl,I.unwish,#[f.fp,f.st],q]
def Jz(X:Cx):Prop:=∃env0 out,X.stack=env0::out/\X.Y.frame=env0.frame
section
def _du(top:Jz X)(hA:A.frames=X.A.frames)(I:Inv X a8 σ H s)(f:Fx X a8 H s.H x C)(h:∀L T s',X.Y.frame=@L->Xt X a8 σ H x T C (rawInt ↑L) s'->Q () s'):
  wpAny M A (noteFrame (.I x) X.Y) Q E' s:=by
 let#[env0,out,e1,e2]:=top;let hF:=I.stack;let uo:A.frames=@(env0::out):=by rw[hA,I.ok.frames,e1]
 rw[e1]at hF;let#[_,#[L,o,hL,_],_]:=id hF;rw[_do e2];let yt:=e2.J hL;let#[vs,f0,hv]\/#[T,fl,fT,pT]:=f.st
 .show _dq uo hF hL f0 hv λh' T' c hs rj=>h L T' _ yt #[?_,f.fp,fpX I (Yo hs) (I.hok.fresh hs),rj]
  rw[<-e1]at c;show _dt I c λb hb=>by rw[aC hb];show f.fp
 .show _dr uo hF hL fT λh' T' c hs rj=>?_
  rw[<-e1]at c;show h L T' _ yt #[_dt I c λb hb=>?_,f.fp,?_,rj]
  .dsimp[Zy,Yv,or_false]at hb;let rfl\/rfl:=hb
   .show f.fp
   .show pT
  .let hs\/hs:=hs
   .show fpX I (Yo hs) (I.hok.fresh hs)
   .rw[hs];show pT
def _dv(t:Xt X a8 σ H x T C fl s)(h:∀s',Xt X a8 σ H x T C (fr.è Value.ã λf=>rawInt ↑f) s'->Q () s'):wpAny M A (setFlight (.I x) fr) Q E' s:=by
 show _ds t.f λh' c rj=>h _ #[_dt t.inv c λb hb=>?_,t.fx,t.fT,rj]
 simp at hb;let rfl\/rfl:=hb
 .show t.fx
 .show t.fT
def _dw(t:Xt X a8 σ H x T C fl s)(h:∀s' rj,Xt X a8 σ H x T C rj s'->E' (.I x) s'):wpAny M A (PySem.passOn what (.I x) px:Sem α) Q E' s:=by
 let#[vs,e1,v1]:=t.f.ex;show X0 (Zw e1 rfl v1 (X0 (_dv t λs' t'=>(wpAny_throw (h s' _ t')))))
def _dx(top:Jz X):PassesOwn M X.A X.Y (Xo X E):=by
 rintro e s' ⟨a8,σ,H,x,C,rfl,I,f,q⟩;show _du top rfl I f λL T s1 _ t=>?_
 let#[vs,e1,v1]:=t.f.ex;show X0 (Zw e1 rfl v1 (_dv t λs2 t2=>#[a8,σ,H,x,C,rfl,t2.inv,t2.to,q]))
end
def CXE(P:Program)(w:World):CXT:=λouter H s E e s'=>∃x T C fl H',e=.I x/\s'.os=s.os/\AllBare s'.gens/\Un (frs outer) [] H H' s.H s'.H/\HOk P w H' s'.H /\
 s.H.get? x=none/\s.H.get? T=none/\H' x=none/\H' T=none/\FlT s'.H x T C fl/\E C none H'
def _dy(g:xq X E):_bv (CXE X.î X.w) X E:=by
 rintro a8 σ H s e s' I ⟨x,T,C,fl,H',rfl,os,bare,un,hok,hx,hT,nx,nT,f,q⟩;show g a8 σ H' s' x C (I.call' os un hok bare nofun) #[fpX I hx nx,.h #[T,fl,f,fpX I hT nT]] q
def _dz{K}:
  Jz (JK CX P w K mg base N qual scope f cd A outer s H E):=#[_,_,rfl,rfl]
def _dA{K}
  (h:Xo (JK (CXE P w) P w K mg base N qual scope f cd A outer s H E) E e s'):(JK (CXE P w) P w K mg base N qual scope f cd A outer s H E).xe e s':=by
 let#[a8,σ,H',x,C,rfl,I,fx,q]:=h;change wpAny _ _ _ _ _ s';show X0 (_du _dz rfl I fx λL T s1 _ t=>(_dv t λs2 t2=>?_));let ge:∀b,FpX (JK (CXE P w) P w K mg base N qual scope f cd A outer s H E) a8 H' b->s.H.get? b=none:=λb hb=>hb.2.2.2.1.è (nofun) λz=>z
 show#[x,T,C,_,H',rfl,t2.inv.os,t2.inv.bare,t2.inv.base,t2.inv.hok,ge x t2.fx,ge T t2.fT,t2.fx.1,t2.fT.1,t2.f,q]
section
variable {K:Frag}
def _dB{st f}(F:Fun K x qual st f fd)(S:FnScope N ps (jJ st))(len:∀vs H Q E,sp vs H Q E->vs.B=ps.B)
  (jr:∀ce (A) (outer) (s) (H) (vs) (Q) (E),Room k (A.deeper (envOfC qual (jJ st) ↥s f ce))->sp vs H Q E ->
   ∃t,PSs (Cx.ex' (JK (CXE P w) P w K mg base N qual (jJ st) f ce A outer s H E) E) (z8 st) t/\t {nx:=λ_ H'=>Q .ó H',rt:=Q} (L2.start N vs) H):FnOk P w K mg base (CXE P w) (k+1) f fd ps sp:=by
 let#[oc,od,kV,im,pm,an,ce,ct,nk,rfl,lk,ja]:=F.ex;show _bE lk ja S len λA outer s H vs Q E hr oh=>?_
 let#[t,h,q]:=jr ce A outer s H vs Q E hr oh;show#[t,λa8 s' σ H' D I hw=>wpAny_mono (h a8 s' σ H' D (I.wish _) hw) (λf lq z=>z.unwish) λe lq z=>_dA z,q]
def kz(P:Program)(w:World)(K:Frag)(mg:Str->Option Value)(base:Heap)(k:Nat)(x:Str)(ps:List Str)(sp:Sp):Prop:=
 ∃(f:Addr) (fd:FuncData),FnOk P w K mg base (CXE P w) k f fd ps sp/\Binds K fd ps []/\PySem.W.keepIn K (.I f)=true/\mg x=@(.I f)
end
section
def _dC(D:kz X.î X.w X.K X.mg X.base k x ps sp)(hr:Room k X.A)(g:xq X E)(ha:PA X (e::es) t)(hg:Gl X x<|>Ŕ)(gf:Abd x<|>ŕ)
  (he:Abs e es X<|>Ŕ) (bj:Abb pos es X<|>Ŕ):
  PE X (.ù (.é x p) (e::es) [] pos) (wz2 sp [] E t):=by
 let#[f,fd,F,b,kp,m]:=D;show _bx F hr hg m kp b .nil (_dy g) ha gf he bj
end
abbrev lcE(X:Cx)(scope:Scope)(N:List Str)(cl:List (Str×Addr))(C:Addr)(s0:Shared)(H0:Hp)(fp:List Addr)(EX:XK):Cx:=Cx.ex' (lcX X scope N cl C s0 H0 fp) EX
section
#where in
def _dD(Ex)(I:Nat->Shared->Prop)
  (gy:∀n s,I n s->wpAny (model prog w) A (pyNext it) (λr s1=>match r with
   | none=>R (.ok .next) s1
   | some v=>wpAny (model prog w) A (letOwnedTupleGo jb it v) (λ_ s2=>wpAny (model prog w) A (assign jb env v) (λ_ s3=>
     wpAny (model prog w) A (vqi gi env) (λok s4=>
      if ok=true then
       wpAny (model prog w) A (eval elt env) (λx s5=>wpAny (model prog w) A (call (.u "list.append") [ae,x]) (λ_ s6=>∃m,m<n/\I m s6) Ex s5) Ex s4
      else ∃m,m<n/\I m s4) Ex s3) Ex s2) Ex s1) Ex s)
  (hx:∀e s,Ex e s->notedBy (model prog w) A env (λe s'=>R (.error e) s') e s) n (h:I n s):codeAny (model prog w) A (.compLoop (.ListComp elt [#[jb,iter,gi,0]] scope pos) 0 it ae env) R s:=by
 show codeAny_loop rfl I (λn s hI=>(wpAny_noted ?_)) n h;rw[compTurn_list];show wpAny_mono (X0 (wpAny_standAt (X0 (thn (gy n s hI) λr s1 h1=>?_)))) (λ_ _ q=>q) (λe s q=>?_)
 rotate_left
 .show hx e s q
 cases r with
 |none=>show X4 h1
 |some v=>
  show X0 (thn h1 λ_ s2 h2=>(X0 (thn h2 λ_ s3 h3=>(X0 (thn h3 λok s4 h4=>?_)))));cases ok with|false=>show X4 #[rfl,h4]|true=>show X0 (X0 (thn h4 λx s5 h5=>X0 (thn h5 λ_ s6 h6=>X4 (X4 #[rfl,h6]))))
end
section
def _dE(gx:xq X EX)
  (I2:Inv X a8 σ H2 s2) (f2:∀b>fp,wW X a8 H2 b) (hC:↥s2<=C) (t:Xt (lcX X scope N cl C s2 H2 fp) dz σ' H' x T Cc fl s') (q:EX Cc none H'):
  compPost (model X.î X.w) X.A X.xe use Q ae C (.error (.I x)) s':=by
 let#[m,hn,_]:=t.inv.loc;show#[m,hn,λh' sb px _=>?_];let fC:=I2.fpOk hC t.inv.free;let J2:Inv X a8 σ H' {s' with heap:=h',toks:=s'.toks}:=(I2.call' t.inv.os t.inv.base t.inv.hok t.inv.bare λb hb=>#[((f2 b hb).2.2.2.1.imp id λz=>Yo z),(f2 b hb).2.1,(f2 b hb).2.2.2.2.1,(f2 b hb).2.2.2.2.2]).turned (λb o hb e=>(sb.2 b hb).J e) fC.1 fC.2.1 fC.2.2.2.1 fC.2.2.2.2.1 fC.2.2.2.2.2;let fp':∀b,FpX (lcX X scope N cl C s2 H2 fp) dz H' b->FpX X a8 H' b:=λb hb=>by
  let z\/z:=hb.2.2.2.1
  .show#[hb.1,(FpX.of (f2 b z)).2]
  .show fpX I2 z hb.1
 let nx:=t.fx.2.1;let nT:=t.fT.2.1;let f:FlT h' x T Cc fl:=by
  let#[#[vs,e1,v1],#[oT,ts,e2,d2,v2],bc]:=t.f;show#[#[vs,(sb.2 x nx).J e1,v1],#[oT,ts,(sb.2 T nT).J e2,d2,v2],bc]
 show _dw #[J2,fp' x t.fx,fp' T t.fT,f] λs3 rj t3=>gx a8 σ H' s3 x Cc t3.inv t3.to q
#where in
def _dF
  {RR:Value->Addr->Result->Shared->Prop} (hc:X.calm=true) (top:Jz X) (sc:LcOk X scope N k R)
  (de:∀x c,cl.U x=@c->X.Y.cells.U x=@c) (ci:∀y>scope.ð,y.2=.free->∃c,cl.U y.1=@c)
  (hg:∀C s0 H0 fp,PG (lcE X scope N cl C s0 H0 fp EX) tg g) (ht:∀C s0 H0 fp,PTs (lcE X scope N cl C s0 H0 fp EX) gi tt) (he:∀C s0 H0 fp,PE (lcE X scope N cl C s0 H0 fp EX) elt te)
  (I2:Inv X a8 σ H2 s2) (T:Turn X.î X.w X.K tg J fp it tn) (bu:tn 0 s2.H) (f2:∀b>fp,wW X a8 H2 b) (w0:∃m,W 0 m [] (JV k R σ) H2) (gy:LcW g tt te Q J W)
  (hRR:∀D C oC m ys H' s',Inv X (a8++[(C,oC)]) σ (upd H' D (.S ys)) s'->s'.H.get? C=@oC->s'.H.Ns C m->wW X a8 (upd H' D (.S ys)) C->Q (.I D) (upd H' D (.S ys))->RR (.I D) C (.ok .next) s')
  (hER:∀D C s' dz σ' H' x T Cc fl,↥s2<=C->Xt (lcX X scope N cl C s2 H2 fp) dz σ' H' x T Cc fl s'->EX Cc none H'->RR (.I D) C (.error (.I x)) s'):
  ∅ (newList []) (λae s3=>∅ (newFunctionEnv scope X.Y.globals cl [] X.Y.qual none .ã @X.Y) (λpx s4=>
   codeAny (model X.î X.w) X.A (.compStart (.ListComp elt [#[tg,iter,gi,0]] scope pos) 0 (.I it) ae {px with scope:=relabel scope X.Y}) (RR ae px.locals) s4) E s3) E s2:=by
 let yu:∀b>fp,∃o,s2.H.get? b=@o:=λb hb=>(T.obj 0 _ bu b hb).imp λ_ h=>h.1
 show Ya (wpAny_newFunctionEnv sc.nocell (by intro y hy;simp at hy) (λh1 sk sb1=>?_) sc.kind);generalize eH:s2.H.í {cls:=.l "list",dict:=none,data:=.seq ([]:List Value).G}=Hx at sk sb1 ⊢;let eC:Hx.objs.L=↥s2+1:=by rw[<-eH,Zo]
 generalize eD:↥s2=D at eC;generalize eC':Hx.objs.L=C at sk sb1 eC ⊢;let ut:D≠C:=by symm
 let hC:↥s2<=C:=by symm
 let hD:↥s2<=D:=by symm
 let cf:=λb o e=>by
  show sb1.extBut b o (Xl (Xs (Xh e) hC)) (X2 _ (eH▸X2 _ e))
 let accD:h1.get? D=@(wxd [] 0):=by
  show sb1.extBut _ _ ut (X2 _ ?_);rw [<-eH,<-eD];show X9 _ rfl
 let below:∀b>fp,b≠D/\b≠C:=λb hb=>by
  let#[o,e]:=yu b hb;show#[Xl (Xs (Xh e) hD),Xl (Xs (Xh e) hC)]
 let kr:∀{H' oD},(∀b>fp,H' b=none)->∀b>fp,wW (lcE X scope N cl C s2 H2 fp EX) [(D,oD)] H' b:=fun {H' oD} hn b hb=>by
  let#[_,f1,f3,f4,f5,f6]:=f2 b hb;show#[hn b hb,(below b hb).2,λz=>?_,.O hb,λx c h=>f5 x c (de x c h),λp hp=>?_]
  .let y\/y:=aD (I2.stkSub b z)
   .show f1 y
   .show f3 y
  .let e:p=(D,oD):=by
    let hp:p>([]++[(D,oD)]:LA9):=hp
    simpa using hp
   rw [e];show(below b hb).1.à
 let loop:∀s3,s3={s2 with heap:=h1,toks:=s2.toks+([]:List (Str×Value)).B} ->
   codeAny (model X.î X.w) X.A (.compLoop (.ListComp elt [#[tg,iter,gi,0]] scope pos) 0 (.I it) (.I D) (compEnvC scope cl C X.Y)) (RR (.I D) C) s3:=by
  rintro s3 rfl;let#[m0,w0]:=w0;let hxx:∀e s,Xo (lcX X scope N cl C s2 H2 fp) EX e s->notedBy (model X.î X.w) X.A (compEnvC scope cl C X.Y) (λe s'=>RR (.I D) C (.error e) s') e s:=by
   rintro e s ⟨dz,σ',H',x,Cc,rfl,I',f',q'⟩;show _du (X:=lcX X scope N cl C s2 H2 fp) top rfl I' f' λL T s1 _ t=>hER D C s1 dz σ' H' x T Cc _ hC t q'
  show _dD (Xo (lcX X scope N cl C s2 H2 fp) EX) (λn s'=>∃i ys aa nn σ' H',Inv (lcE X scope N cl C s2 H2 fp EX) [(D,wxd aa nn)] σ' H' s'/\Vals ys aa/\tn i s'.H/\(∀b>fp,H' b=none)/\W i n ys σ' H') ?_ hxx m0
   #[0,[],[],0,_,H2,(_cG I2 sc f2 yu hC hD ut de ci cf sk accD (λv z=>by cases z)).wish _,.nil,T.keep _ _ _ bu (λb hb o e=>cf b o e),λb hb=>(f2 b hb).1,w0]
  rintro n s3 ⟨i,ys,aa,nn,σ3,H3,I3,rv,fh,t6,w3⟩;let#[stop,hz,qn]\/#[go,step]:=gy i n ys σ3 H3 w3
  .show thn (T.done (lcE X scope N cl C s2 H2 fp EX) rfl rfl rfl hc i _ s3 σ3 H3 _ I3 (kr t6) fh stop) λr s4 hz=>?_
   let#[hr,I4]:=hz;subst hr;change RR (.I D) C (.ok .next) s4;let hD4:=I4.pin (D,wxd aa nn) (by change _>([]++[(D,wxd aa nn)]:LA9);simp);let fD:=I2.fpOk hD hD4.2.1;let fC:=I2.fpOk hC I4.free;let J2:Inv X a8 σ (upd H3 D (.S ys)) s4:=_cH (I2.call' I4.os I4.base I4.hok I4.bare λb hb=>#[((f2 b hb).2.2.2.1.imp id λz=>Yo z),(f2 b hb).2.1,(f2 b hb).2.2.2.2.1,(f2 b hb).2.2.2.2.2]) hD4.2.1 fD.2.1 fD.2.2.2.1 fD.2.2.2.2.1 fD.2.2.2.2.2 #[hz,aa,nn,rv,hD4.1];let#[mC,nC,_]:=I4.loc;let#[oC,es,ep,hoC,hdC,ly]:=id nC;let fC':wW X a8 (upd H3 D (.S ys)) C:=#[by rw[qk ut.à];show fC.1,fC.2];show hRR D C oC mC ys H3 s4 (J2.pins_of λp hp=>?_) hoC nC fC' (qn D hD4.2.1);let z\/z:=aA hp
   .show J2.pin p (_ab _ z)
   .rw[aC z];show#[hoC,fC'.1,fC'.2.1,fC'.2.2.1,λv y=>by rw[hdC]at y;cases y]
  .show thn (T.item (lcE X scope N cl C s2 H2 fp EX) rfl rfl rfl hc i _ s3 σ3 H3 _ I3 (kr t6) fh go) λr s4 hz=>?_
   let#[u,hr,h4]:=hz;subst hr;show thn h4 λ_ s5 hz=>?_
   let#[x,H5,I5,r5,y5,n8,fr5]:=hz;let m6:∀{σ' H' s' pl},Inv (lcE X scope N cl C s2 H2 fp EX) (pl++V6 fp s5.H) σ' H' s'->tn (i+1) s'.H/\∀b>fp,H' b=none:=fun {σ' H' s' pl} I'=>by
    let q:∀b>fp,∀o,s5.H.get? b=@o->s'.H.get? b=@o/\H' b=none:=λb hb o e=>by
     let#[a1,a2,_]:=I'.pin (b,o) (_ab _ (_ab _ (_aY hb e)));show#[a1,a2]
    show#[T.keep _ _ _ n8 λb hb o e=>(q b hb o e).1,λb hb=>?_];let#[o,e,_]:=T.obj _ _ n8 b hb;show(q b hb o e).2
   show thn (hg C s2 H2 fp _ s5 σ3 H5 x u _ (I5.pinned (kr fr5) (T.obj _ _ n8)) r5 (step x H5 y5)) λ_ s6 h6=>Exists.è h6 fun σ6 h6=>Exists.è h6 λH6 h6=>h6.è λI6 h6=>Exists.è h6 λNy h6=>Exists.è h6 λNn h6=>h6.è λhNy h6=>h6.è λhNn q6=>(thn (ht C s2 H2 fp _ s6 σ6 H6 _ I6 q6) λok s7 hz=>?_)
   let#[H7,I7,q7]:=hz;cases ok with
   | false=>
    let#[m',hm,w7]:=hNn _ q7;show#[m',hm,i+1,ys,aa,nn,σ6,H7,I7.unpinned,rv,(m6 I7).1,(m6 I7).2,w7]
   | true=>
    show thn (he C s2 H2 fp _ s7 σ6 H7 _ I7 q7) λu8 s8 hz=>?_
    let#[y,H8,I8,r8,q8]:=hz;let#[hz,m',hm,w8]:=hNy _ _ q8;let pD:=I8.pin (D,wxd aa nn) (_ab _ (_ac _ (aB rfl)));let af:=rv.B;show append_at (hsz:=by rw[Xe];symm) pD.1 λh9 sb9 e9=>?_
    let I9:Inv (lcE X scope N cl C s2 H2 fp EX) ([]++V6 fp s5.H) σ6 H8 {s8 with heap:=h9,toks:=s8.toks}:=(I8.pins_of λp hp=>I8.pin p (_ab _ (_ab _ hp))).turned (it:=D) (λb o hb e=>(sb9.2 b hb).J e) pD.2.1 ut (.h hD)
     (λx c h z=>by
      let#[v,q]:=I2.cell x c (de x c h);show absurd (Xs q.lt (z▸hD)) (Yt _))
     (λp hp z=>by
      let hp:p>([]++([]++V6 fp s5.H):LA9):=hp;let hp:p>V6 fp s5.H:= ~~~hp
      show(below p.1 (_aZ hp).1).1 z)
    let e9':h9.get? D=@(wxd (aa++[u8]) (nn+1)):=by rw[e9];simp
    show#[m',hm,i+1,ys++[y],aa++[u8],nn+1,σ6,H8,I9.pins_of λp hp=>?_,rv.append (.æ r8 .nil),(m6 I9).1,(m6 I9).2,w8];rw[aC hp];show#[e9',pD.2.1,pD.2.2.1,pD.2.2.2.1,λv z=>by cases z]
 show codeAny_compStart_list (loop _ rfl) (T.self _ 0 _ _ _ (T.keep _ _ _ bu λb hb o e=>cf b o e) (loop _ rfl))
def _dG(N)(k)(R)(hi:PI X tg iter wi)
  (hg:∀cl C s0 H0 fp,PG (lcE X scope N cl C s0 H0 fp EX) tg g) (ht:∀cl C s0 H0 fp,PTs (lcE X scope N cl C s0 H0 fp EX) gi tt) (he:∀cl C s0 H0 fp,PE (lcE X scope N cl C s0 H0 fp EX) elt te)
  (gx:xq X EX) (top:Jz X) (hc:X.calm=true<|>Ŕ) (hk:scope.kind=.function<|>Ŕ) (lg:K8 X.N X.Y.ú scope N k R=true<|>Ŕ) (hs:(∀x,foldedSetIterable iter X.Y x=pure x)<|>Ŗ):
  PE X (.ListComp elt [#[tg,iter,gi,0]] scope pos) (tLC wi g tt te k R):=by
 intro a8 s σ H Q I h;let sc:=_cB hk lg;let#[cl,n6,de,ci]:=_cA λy hy e=>I.ok.has y.1 (sc.caps y hy e)
 show wpAny_comprehension_free rfl hs n6 sc.kind sc.ð (thn (hi a8 s σ H _ I h) λv s1 h1=>thn h1 λitv s2 h2=>?_);let#[it,fp,tn,J,H2,e,I2,T,bu,f2,W,w0,gy]:=h2;subst e;show _dF hc top sc de ci (hg cl) (ht cl) (he cl) I2 T bu f2 w0 gy ?_ ?_
 rotate_left
 .intro D C s' dz σ' H' x T Cc fl hC t q;show _dE gx I2 f2 hC t q
 intro D C oC m ys H' s' I' _ nC fC q;show#[m,nC,λh' sb=>#[.I D,_,I'.unpinned.turned (t':=s'.toks) (λb o hb e=>(sb.2 b hb).J e) fC.1 fC.2.1 fC.2.2.2.1 fC.2.2.2.2.1 fC.2.2.2.2.2,rfl,q]]
end
structure ExAt (K:Frag)(x:Addr)(ox:Obj)(C:Addr):Prop where
 cls:ox.cls=.I C
 no:PySem.W.notCls ox=true
 di:ox.dict=none
 xc:XCls K C
end L3
namespace Q
open PySem
inductive D where
 |non|bl (b:Bool)|int (i:Int)|str (z:Str)|tup (xs:List D)|lst (xs:List D)|dct (kvs:List (D×D))|obj (c:Str) (fs:List (Str×D))
instance:DecidableEq D:=λa b=>Classical.propDecidable (a=b)
instance:Inhabited D:=#[.ó]
mutual
def D.pure:D->Bool
 |.tup xs=>D.pures xs|.lst _=>false|.dct _=>false|.obj _ _=>false|_=>true
def D.pures:List D->Bool
 |[]=>true|a::x=>D.pure a&&D.pures x
end
def D.pures_all:∀xs,D.pures xs=xs.all D.pure
 |[]=>by rfl|a::x=>by rw[D.pures,List.all_cons,D.pures_all x]
@[simp] theorem D.pures_map f (xs:List α)(h:∀x∈xs,(f x).pure=true):D.pures (xs.map f)=true:=by
 rw[D.pures_all,Yb];intro d hd;obtain⟨x,hx,rfl⟩:=aE hd;exact h x hx
mutual
def peq:D->D->Bool
 |.non,y=>(match y with|.non=>true|_=>false)
 |.bl a,y=>(match y with|.bl b=>a==b|.int b=>(if a then 1 else 0)==b|_=>false)
 |.int a,y=>(match y with|.bl b=>a==(if b then 1 else 0)|.int b=>a==b|_=>false)
 |.str a,y=>(match y with|.str b=>a==b|_=>false)
 |.lst a,y=>(match y with|.lst b=>peqs a b|_=>false)
 |.dct _,_=>false|.obj _ _,_=>false|.tup a,y=>match y with|.tup b=>peqs a b|_=>false
def peqs:List D->List D->Bool
 |[],[]=>true|a::as,b::bs=>peq a b&&peqs as bs|_,_=>false
end
mutual
def D.flat:Nat->D->Bool
 |0,.tup _=>false|0,.lst _=>false|n+1,.tup xs=>D.flats n xs|n+1,.lst xs=>D.flats n xs|_,.dct _=>false|_,.obj _ _=>false|_,_=>true
def D.flats:Nat->List D->Bool
 |_,[]=>true|n,a::x=>D.flat n a&&D.flats n x
end
mutual
def k5:Nat->D->Bool
 |_,.non=>true|_,.int _=>true|_,.str _=>true|n+1,.tup xs=>keyDs n xs|_,_=>false
def keyDs:Nat->List D->Bool
 |_,[]=>true|n,a::x=>k5 n a&&keyDs n x
end
def unm : List (D × D) -> Bool
  |(.x _,_)::_=>false|_=>true
inductive Own where
 |no|rt|dp
 deriving DecidableEq
abbrev Sd:=Own×D
abbrev En:=List (Option Sd)
inductive Res (α:Type) where
 |ok (E:En) (a:α)
 |exc (E:En) (c:Str)
abbrev Ev(α:Type):=En->Option (Res α)
abbrev Ex:=Ev Sd
def bnd(m:Option (Res α))(f:En->α->Option (Res β)):Option (Res β):=
 match m with
 |some (.ok E a)=>f E a|some (.exc E c)=>@(.exc E c)|none=>none
@[simp] theorem zke (E:En)(a:α)(f:En->α->Option (Res β)):bnd ⇑(.ok E a) f=f E a:=rfl
@[simp] theorem zj8 (E:En)(c:Str)(f:En->α->Option (Res β)):bnd ⇑(.exc E c) f=⇑(.exc E c):=rfl
@[simp] theorem xwp (f:En->α->Option (Res β)):bnd none f=none:=rfl
def val(E:En)(x:Option α):Option (Res α):=x.C (Res.ok E)
@[simp] theorem xw6 (E:En)(x:α):val E ⇑x=⇑(.ok E x):=rfl
@[simp] theorem xw7 (E:En):val E (none:Option α)=none:=rfl
def cC(d:D):Ex:=λE=>@(.ok E (.dp,d))
def cV(i:Nat):Ex:=λE=>match E[i]? with
 |some @(_,d)=>@(.ok (E.ç i @(.r,d)) (.r,d))|_=>none
def cMv(i:Nat):Ex:=λE=>match E[i]? with
 |some @x=>@(.ok (E.ç i none) x)|_=>none
def vV(i:Nat):Ex:=λE=>match E[i]? with
 |some @x=>@(.ok E x)|_=>none
def vE(c:Ex):Ex:=λE=>bnd (c E) λE x=>@(.ok E (.r,x.2))
abbrev C9(z:Int):Ex:=vE (cC (.E z))
def cH(v:Ex):Ex:=λE=>bnd (v E) λE x=>if x.1=.r then @(.ok E (.r,x.2))else if x.2.pure then @(.ok E (.dp,x.2))else none
def cF1(f:Sd->Option Sd)(a:Ex):Ex:=λE=>bnd (a E) λE x=>val E (f x)
def cF2(f:Sd->Sd->Option Sd)(a b:Ex):Ex:=λE=>bnd (a E) λE x=>bnd (b E) λE y=>val E (f x y)
def pu1(f:D->Option D):Sd->Option Sd:=λx=>(f x.2).C λd=>(.dp,d)
def pu2(f:D->D->Option D):Sd->Sd->Option Sd:=λx y=>(f x.2 y.2).C λd=>(.dp,d)
def _dH:D->List D
 |.S xs=>xs|.X xs=>xs|.dct kvs=>kvs.C (·.2)|_=>[]
def qY(x:Sd):Bool:=x.1 != .dp||D.pures (_dH x.2)
def sub:Own->Own
 |.dp=>.dp|_=>.r
def ixN(n:Nat)(i:Int):Option Nat:=if 0<=i then(if i<n then @i.M else none)else if -(n:Int)<=i then @(i+n).M else none
def ixD:D->D->Option D
 |.S xs,.E i=>(ixN xs.B i).bind λj=>xs[j]?|.X xs,.E i=>(ixN xs.B i).bind λj=>xs[j]?|.x z,.E i=>(ixN z.cps.L i).bind λj=>(z.cps.R[j]?).C λc=>.x #[%[c|0]]|.dct kvs,k=>(kvs.find? λe=>decide (e.1=k)).C (·.2)|_,_=>none
def big:Nat:=16777216
def i2(f:Int->Int->Option Int):D->D->Option D
 |.E a,.E b=>(f a b).C .E|_,_=>none
def c2(f:Int->Int->Bool):D->D->Option D
 |.E a,.E b=>@(.bl (f a b))|_,_=>none
def WK(a:Int):Bool:=decide (-(2 ^ 64)<a)&&decide (a<2 ^ 64)
def qv:Sd->Sd->Option Sd:=λx y=>match x.2,y.2 with
 |.E a,.E b=>@(.dp,.E (a+b))|.x a,.x b=>if a.cps.L+b.cps.L<=big then @(.dp,.x (a++b))else none|.S a,.S b=>if a.B+b.B<=big/\qY x/\qY y then @(.rt,.S (a++b))else none|.X a,.X b=>if a.B+b.B<=big/\qY x/\qY y then @(.r,.X (a++b))else none|_,_=>none
def QQ(a b:Int):Bool:=WK a||WK b||(decide (a.natAbs.log2<2000000)&&decide (b.natAbs.log2<2000000))
def Jj:Sd->Sd->Option Sd:=λx y=>match x.2,y.2 with
 |.E a,.E b=>if QQ a b then @(.dp,.E (a*b))else none|.S a,.E k=>if -(2 ^ 63)<=k/\k<2 ^ 63/\a.B*k.M<=big/\qY x then @(.rt,.S (List.ß k.M a).flatten)else none|.x z,.E n=>if(z.cps.L<=1024/\n<=1024/\-1024<=n)/\(Txt.mul z n).cps.L<=big then @(.dp,.x (Txt.mul z n))else none|_,_=>none
def z7:D->D->Option D:=i2 λa b=>if 0<b/\b.natAbs.log2<9000 then @(a / b)else none
def vx:D->D->Option D:=i2 λa b=>if 0<b then @(a % b)else none
def _dI:D->D->Option D:=i2 λa b=>if 0<=b/\b<=1000000/\a.natAbs<2 ^ 64 then @(a ^ b.M)else none
def fEq:D->D->Option D:=λa b=>if a.flat 40&&b.flat 40 then @(.bl (peq a b))else none
def fNe:D->D->Option D:=λa b=>if a.flat 40&&b.flat 40 then @(.bl (!peq a b))else none
def isNon:D->Bool
 |.ó=>true|_=>false
def fLt:D->D->Option D:=c2 λa b=>decide (a<b)
def fLe:D->D->Option D:=c2 λa b=>decide (a<=b)
def fGe:D->D->Option D:=c2 λa b=>decide (b<=a)
def _dJ(a b:Str):Bool:=!(Builtin.Str.occurrences b a 0 b.B 1).û
def fIn:D->D->Option D:=λx y=>match y with
 |.S ys=>if x.flat 30&&D.flats 30 ys then @(.bl (ys.any λz=>peq z x))else none|.X ys=>if x.flat 30&&D.flats 30 ys then @(.bl (ys.any λz=>peq z x))else none
 |.x b=>(match x with
  |.x a=>@(.bl (_dJ a b))
  |_=>none)
 |.dct kvs=>@(.bl (kvs.any λe=>decide (e.1=x)))|_=>none
def Qz:D->D->Option D:=λx y=>(fIn x y).bind λd=>match d with
 |.bl k=>@(.bl (!k))|_=>none
def v6:D->Option D
 |.S xs=>@(.E xs.B)|.X xs=>@(.E xs.B)|.x z=>@(.E z.B)|_=>none
def kind:D->String
 |.ó=>"NoneType"|.bl _=>"bool"|.E _=>"int"|.x _=>"str"|.X _=>"tuple"|.S _=>"list"|.dct _=>"dict"|.obj _ _=>""
def isaK(t u:String):Bool:=t==u||(t == "bool" && u == "int")
def wZ(u:String):D->Option D:=λd=>match d with
 |.obj _ _=>none|.dct _=>none|_=>@(.bl (isaK (kind d) u))
def fIsNon:D->Option D:=λd=>@(.bl (isNon d))
def fNotNon:D->Option D:=λd=>@(.bl (!isNon d))
abbrev Ts:=Ev Bool
def truth:D->Option Bool
 |.bl b=>@b|.ó=>@false|.E i=>@(i != 0)|.x z=>@(z.cps.L != 0)|.S xs=>@(!xs.û)|.X xs=>@(!xs.û)|.dct xs=>@(!xs.û)|.obj _ _=>none
def tE(c:Ex):Ts:=λE=>bnd (c E) λE x=>val E (truth x.2)
def tOr(a b:Ts):Ts:=λE=>bnd (a E) λE x=>if x then @(.ok E true)else b E
def tNot(a:Ts):Ts:=λE=>bnd (a E) λE x=>@(.ok E (!x))
def tYes:Ts:=λE=>@(.ok E true)
def cIf(t:Ts)(a b:Ex):Ex:=λE=>bnd (t E) λE x=>if x then a E else b E
def W7(a b:Ex):Ex:=λE=>bnd (a E) λE x=>match x.2 with
 |.bl true=>b E|.bl false=>@(.ok E (.dp,.bl false))|_=>none
def x8:D->D->Option D:=λx y=>match y with
 |.dct _=>none|_=>fIn x y
def Kq:D->D->Option D:=λx y=>match y with
 |.dct _=>none|_=>Qz x y
def f2First(f:D->Option D):Sd->Sd->Option Sd:=λx y=>if isNon y.2 then(f x.2).C λd=>(.dp,d)else none
def jW:D->D->Option D:=λx y=>match x with
 |.dct _=>none|_=>ixD x y
def j8(a b:Ex):Ex:=λE=>bnd (a E) λE x=>bnd (b E) λE y=>val E ((jW x.2 y.2).C λd=>(sub x.1,d))
def truthQ:D->Option Bool:=λd=>match d with
 |.dct _=>none|_=>truth d
def tEQ(c:Ex):Ts:=λE=>bnd (c E) λE x=>val E (truthQ x.2)
noncomputable def wJ:List Ex->Ev (List Sd)
 |[],E=>@(.ok E [])|c::cs,E=>bnd (c E) λE x=>bnd (wJ cs E) λE xs=>@(.ok E (x::xs))
def qW(x:Sd):Bool:=x.1 == .dp||x.2.pure
def vz(o:Own)(cs:List Ex):Ex:=λE=>bnd (wJ cs E) λE xs=>if o=.dp then(if xs.all qW then @(.ok E (.dp,.S (xs.C (·.2))))else none)else @(.ok E (.rt,.S (xs.C (·.2))))
def kW(o:Own)(cs:List Ex):Ex:=λE=>bnd (wJ cs E) λE xs=>if o=.dp then(if xs.all qW then @(.ok E (.dp,.X (xs.C (·.2))))else none)else @(.ok E (.r,.X (xs.C (·.2))))
inductive Fl where
 |nx (E:En)|rt (E:En) (x:Sd)|ct (E:En)|bk (E:En)|xc (E:En) (c:Str)
abbrev Sm:=En->Option Fl
def ofE(m:Option (Res α))(f:En->α->Option Fl):Option Fl:=
 match m with
 |some (.ok E a)=>f E a|some (.exc E c)=>@(.xc E c)|none=>none
@[simp] theorem zk4 (E:En)(a:α)(f:En->α->Option Fl):ofE ⇑(.ok E a) f=f E a:=rfl
@[simp] theorem xz7 (E:En)(c:Str)(f:En->α->Option Fl):ofE ⇑(.exc E c) f=⇑(.xc E c):=rfl
@[simp] theorem xwi (f:En->α->Option Fl):ofE none f=none:=rfl
def j6(a b:Sm):Sm:=λE=>match a E with
 |some (.nx E)=>b E|r=>r
def qz:Sm:=λE=>@(.nx E)
def jv(i:Nat)(c:Ex):Sm:=λE=>ofE (c E) λE x=>@(.nx (E.ç i @x))
def jz(c:Ex):Sm:=λE=>ofE (c E) λE x=>@(.rt E x)
def sIf(t:Ts)(a b:Sm):Sm:=λE=>ofE (t E) λE x=>if x then a E else b E
inductive Tg where
 |n (i:Nat)|t (ts:List Nat)
def setAll:List Nat->List D->En->Option En
 |[],[],E=>@E|i::is,d::ds,E=>setAll is ds (E.ç i @(.r,d))|_,_,_=>none
def Tg.put:Tg->D->En->Option En
 |.n i,d,E=>@(E.ç i @(.r,d))|.t is,.X ds,E=>setAll is ds E|.t is,.S ds,E=>setAll is ds E|.t _,_,_=>none
def _dK(is:List Nat)(c:Ex):Sm:=λE=>ofE (c E) λE x=>(Tg.put (.t is) x.2 E).C .nx
def V9(tg:Tg)(b:Sm):List D->En->Option Fl
 | [],E=>@(.nx E)
 | d::ds,E=>match tg.put d E with
  |none=>none
  |some E=>match b E with
   |some (.nx E)=>V9 tg b ds E|some (.ct E)=>V9 tg b ds E|some (.bk E)=>@(.nx E)|r=>r
def v5(it:Ev (List D))(tg:Tg)(b:Sm):Sm:=λE=>ofE (it E) λE ds=>V9 tg b ds E
def whF(t:Ts)(b:Sm)(f:Sm):Sm:=λE=>match t E with
 |some (.ok E true)=>(match b E with
  |some (.nx E)=>f E|some (.ct E)=>f E|some (.bk E)=>@(.nx E)
  |r=>r)
 |some (.ok E false)=>@(.nx E)|some (.exc E c)=>@(.xc E c)|none=>none
def whN(t:Ts)(b:Sm):Nat->Sm
 |0=>λ_=>none|n+1=>whF t b (whN t b n)
open Classical in
def zY(t:Ts)(b:Sm):Sm:=λE=>if h:∃n r,whN t b n E=@r then @h.choose_spec.choose else none
#where in
def _dL(h:zY t b E=@r):∃n,whN t b n E=@r:=by
 unfold zY at h
 split at h
 .revert h2;show#[_,h▸h2.choose_spec.choose_spec]
 .symm
def _dM(E):(∃E2,∀g,whF t b g E=g E2)\/∃q,∀g,whF t b g E=q:=by
 ext whF;cases t E with
 | none=>show .h #[_,λ_=>rfl]
 | some r=>
  cases r with
  | exc=>show .h #[_,λ_=>rfl]
  | ok E1 k=>
   cases k with
   |false=>show .h #[_,λ_=>rfl]
   |true=>
    right;cases b E1 with|none=>show .h #[_,λ_=>rfl]|some f=>cases f<;>first|show .O #[_,λ_=>rfl]|show .h #[_,λ_=>rfl]
def _dN:∀{n E r},whN t b n E=@r->whN t b (n+1) E=@r
 |n+1,E,r,h=>by
  let#[E2,e]\/#[q,e]:=_dM E
  .show(e _).J (_dN ((e _).à.J h))
  .show(e _).J ((e _).à.J h)
def _dO(h:whN t b n E=@r):∀k,whN t b (n+k) E=@r
 |0=>h|k+1=>_dN (_dO h k)
def _dP(h:whN t b n E=@r):zY t b E=@r:=by
 let h2:∃n r,whN t b n E=@r:=#[n,r,h];ext zY;rw[dif_pos h2];let b:=_dO h h2.choose;rw[Nat.add_comm]at b;show(_dO h2.choose_spec.choose_spec n).à.J b
def _dQ (E) : zY t b E = whF t b (zY t b) E:= by
  show Option.ext λr=>#[λh=> ?_,λh=> ?_]
  . let#[n,h]:= _dL h
    cases n with
    | zero=>cases h
    | succ n => let#[E2,e]\/#[q,e]:=_dM E
                . show(e _).J (_dP ((e _).à.J h))
                . show(e _).J ((e _).à.J h)
  . let#[E2,e]\/#[q,e]:=_dM E
    . let#[n,h]:= _dL ((e _).à.J h)
      show _dP (n:= n+1) ((e _).J h)
    . show _dP (n:= 1) ((e _).J ((e _).à.J h))
def at'(L:List (Option α))(j:Nat):Option α:=(L[j]?).join
def clr:List Nat->List (Option α)->List (Option α)
 |[],L=>L|j::R,L=>clr R (L.ç j none)
def back:List Nat->List (Option α)->List (Option α)->List (Option α)
 |j::R,q::B,L=>back R B (L.ç j q)|_,_,L=>L
def _dR(k:Nat)(R:List Nat)(E:En):En:=List.ß k none++R.C (at' E)
def zj(k:Nat)(R:List Nat)(B E:En):En:=back R (B.ý k) (clr R E)
def lcL(tg:Tg)(t:Ts)(c:Ex):List D->En->List Sd->Option (Res (List Sd))
 |[],B,ae=>@(.ok B ae)
 |d::ds,B,ae=>match tg.put d B with
  |none=>none|some B=>bnd (t B) λB x=>if x then bnd (c B) λB y=>lcL tg t c ds B (ae++[y])else lcL tg t c ds B ae
def mkL(o:Own)(E:En)(xs:List Sd):Option (Res Sd):=
 if o=.dp then(if xs.all qW then @(.ok E (.dp,.S (xs.C (·.2))))else none)else @(.ok E (.rt,.S (xs.C (·.2))))
def cLC(o:Own)(k:Nat)(R:List Nat)(it:Ev (List D))(tg:Tg)(t:Ts)(c:Ex):Ex:=λE=>bnd (it E) λE ds=>
 match lcL tg t c ds (_dR k R E) []with
 |some (.ok B xs)=>mkL o (zj k R B E) xs|some (.exc B e)=>@(.exc (zj k R B E) e)|none=>none
def V7:Option (Option Sd)->Bool
 |some @(_,.S _)=>true|_=>false
def _dS(g0:Option (Option Sd)->Bool)(g:Sd->D->D->Option D)(i:Nat)(kc vc:Ex):Sm:=λE=>ofE (vc E) λE v=>if g0 E[i]?=true then ofE (kc E) λE k=>(match E[i]? with
 |some @s=>(g s k.2 v.2).C λd=>.nx (E.ç i @(.rt,d))
 |_=>none)else none
def vq(f:List D->D->Option (List D))(i:Nat)(c:Ex):Sm:=λE=>if V7 E[i]? then ofE (c E) λE x=>match E[i]? with
 |some @(o,.S xs)=>if o=.r then none else(match f xs x.2 with
  |some ys=>@(.nx (E.ç i @(if o=.dp/\qW x then .dp else .rt,.S ys)))
  |none=>none)
 |_=>none
 else none
def vk:List D->D->Option (List D):=λxs d=>if xs.B<big then @(xs++[d])else none
def _dT:D->Option D
 |.E i=>@(.E i)|.bl k=>@(.E (if k then 1 else 0))|.x z=>if z.B<=640 then(PySem.intText? z).C .E else none|_=>none
def _dU:Sd->Option Sd:=λx=>match x.2 with
 |.S xs=>if qY x then @(.rt,.S xs)else none|.X xs=>if qY x then @(.rt,.S xs)else none|_=>none
def xJ:Sd->Option Sd:=λx=>match x.2 with
 |.S xs=>if qY x then @(.r,.X xs)else none|.X xs=>if qY x then @(.r,.X xs)else none|_=>none
def _dV:D->D->Option D:=i2 λa b=>@(if b<a then b else a)
def bls:List D->Option (List Bool)
 |[]=>⇑[]|.bl b::ds=>(bls ds).C (b :: ·)|_=>none
def _dW:D->Option D
 |.S ds=>(bls ds).C λbs=>.bl (bs.all id)|_=>none
def seqOf:D->Option (List D)
 |.S xs=>@xs|.X xs=>@xs|.x z=>if z.cps.L<=big then @(z.cps.R.C λc=>.x #[%[c|0]])else none|_=>none
noncomputable def itS(c:Ex):Ev (List D):=λE=>bnd (c E) λE x=>val E (seqOf x.2)
def wv(i:Int):Bool:=decide (-(2 ^ 62)<=i)&&decide (i<2 ^ 62)
def jZ(lo hi:Int):List D:=(List.ä (hi - lo).M).C λ(k:Nat)=>.E (lo+(k:Int))
noncomputable def v9(c:Ex):Ev (List D):=λE=>bnd (c E) λE x=>match x.2 with
 |.E j=>if wv j/\j.M<=big then @(.ok E (jZ 0 j))else none|_=>none
def WZ(c:Ex):Ex:=λE=>bnd (c E) λE x=>match x.2 with
 |.E j=>if wv j/\j.M<=big then @(.ok E (.rt,.S (jZ 0 j)))else none|_=>none
abbrev Fn:=List Sd->Option (Res Sd)
def fn(n:Nat)(b:Sm):Fn:=λxs=>match b (xs.C some++List.ß (n - xs.B) none)with
 |some (.rt E x)=>@(.ok E x)|some (.nx E)=>@(.ok E (.dp,.ó))|some (.xc E c)=>@(.exc E c)|_=>none
def letAll(xs:List Sd):List Sd:=xs.C λx=>(.r,x.2)
def jx(f:Fn)(cs:List Ex):Ex:=λE=>bnd (wJ cs E) λE xs=>match f (letAll xs)with
 |some (.ok _ y)=>@(.ok E y)|some (.exc _ c)=>@(.exc E c)|none=>none
end Q
namespace Q
open PySem PySem.Spec PyProof.Rows L2 L3
mutual
def Jq(w:PySem.World):D->Int
 |.int i=>hashInt i|.str z=>hashStr w z|.tup xs=>reduceHash (Builtin.Tuple.tupleHashOf (hashDs w xs))|_=>4238894112
def hashDs(w:PySem.World):List D->List Int
 |[]=>[]|a::x=>Jq w a::hashDs w x
end
def Kd:Type:={d:D // k5 6 d=true}
instance:DecidableEq Kd:=λa b=>Classical.propDecidable (a=b)
abbrev Ent:=Kd×Addr×Value
def kK(a:Addr)(es:List Ent)(ep:Nat):HO:=.ext λw h=>∃o ds,h.get? a=@o/\o.ExactDict/\o.data=.dict ds ep/\ds.R=es.C λx=>(#[Jq w x.1.1,.I x.2.1,x.2.2]:DictEntry)
mutual
def PuR(K:Frag)(H:Hp):D->V->Prop
 |.non,v=>v=.non|.int i,v=>v=.int i|.str z,v=>v=.str z/\z.length<=sizeLine|.tup ds,v=>∃a xs,v=.ref a/\SqT K H a xs/\PuRs K H ds xs|_,_=>False
def PuRs(K:Frag)(H:Hp):List D->List V->Prop
 |[],xs=>xs=[]|d::ds,xs=>∃x r,xs=x::r/\PuR K H d x/\PuRs K H ds r
end
def DcN(K:Frag)(H:Hp)(a:Addr)(ks:List D)(vs:List V):Prop:=∃(es:List Ent) (ep:Nat),H a=@(kK a es ep)/\(a==sysModules)=false/\es.B<=sizeLine/\(es.C (·.1)).V/\ks=es.C (·.1.1)/\(∀x>es,PuR K H x.1.1 (.I x.2.1))/\Vals vs (es.C (·.2.2))
def DcI(H:Hp)(a:Addr)(ks:List D)(vs:List V):Prop:=∃(kv:List (Int×V)) (m:Str),H a=@(.dK (kv.C λp=>(Sum.O p.1,p.2)))/\ks=.x m::kv.C (λp=>D.E p.1)/\vs=.ó::kv.C (·.2)
def DcA(K:Frag)(H:Hp)(a:Addr)(ks:List D)(vs:List V):Prop:=DcN K H a ks vs\/DcI H a ks vs
def DcA.un{K}(h:DcA K H a (kvs.C (·.1)) vs)(hu:unm kvs=true):DcN K H a (kvs.C (·.1)) vs:=by
 let h\/#[kv,m,_,h,_]:=h
 .show h
 .cases kvs with
  |nil=>cases h
  |cons p r=>
   let#[k,d]:=p;injection h with h1 _;subst h1;cases hu
def _dX(K:Frag)(a:Addr)(xs:List V):Prop:=∃(aa:Array Value) (n:Nat),K.U a=some {cls:=.l "list",data:=.seq aa n}/\aa.L<=sizeLine/\Vals xs aa.R
def _dY(K:Frag)(H:Hp)(a:Addr)(xs:List V):Prop:=(∃o,H a=@(.frz o (.S xs)))\/_dX K a xs
def LsR(K:Frag)(H:Hp)(a:Addr)(xs:List V):Prop:=Rd H a (.S xs)\/_dX K a xs
def LsR.of{K}(h:_dY K H a xs):LsR K H a xs:=h.imp .h id
def LsR.sq{K}(h:LsR K H a xs):SqL K H a xs:=by
 let h\/#[aa,n,h1,h2,h3]:=h
 .show .O h
 .show .h #[_,aa,n,h1,rfl,rfl,rfl,h2,h3]
def LsR.is(I:L2.Inv X a8 σ H s)(h:LsR X.K H a xs):xs.B<=sizeLine/\∃(aa:List Value) (n:Nat),Vals xs aa/\s.H.get? a=some {cls:=.l "list",data:=.seq aa.G n}:=by
 let h\/#[aa,n,h1,h2,h3]:=h
 .let#[z,aa,n,r,e]:=h.ok I.hok;show#[z,aa,n,r,e]
 .let hl:=h3.B;simp at hl;show#[by symm,aa.R,n,h3,~~~(I.kIn a _ h1)]
def ExD(K:Frag)(H:Hp)(c:Str)(v:V):Prop:=∃x o C,v=.I x/\H x=@(.frz o (.ext λ_ _=>True))/\ExAt K x o C/\nsIn K mainGlobals c=some @(.I C)
mutual
def RepL(K:Frag)(H:Hp)(g:Bool):D->V->List Addr->Prop
 |.non,v,as=>v=.non/\as=[]|.bl b,v,as=>v=.bl b/\as=[]|.int i,v,as=>v=.int i/\as=[]|.str z,v,as=>v=.str z/\as=[]/\z.length<=sizeLine|.tup ds,v,as=>∃a xs,v=.ref a/\SqT K H a xs/\RepA K H g ds xs as|.lst ds,v,as=>∃a xs bs,v=.ref a/\RepA K H g ds xs bs/\((H a=⇑(.lst xs)/\as=a::bs)\/(g=true/\_dY K H a xs/\as=bs))|.dct kvs,v,as=>∃a xs bs,v=.ref a/\RepP K H g kvs xs bs/\DcA K H a (kvs.map (·.1)) xs/\as=a::bs|.obj c _,v,as=>as=[]/\ExD K H c v
def RepA(K:Frag)(H:Hp)(g:Bool):List D->List V->List Addr->Prop
 |[],xs,as=>xs=[]/\as=[]|d::ds,xs,as=>∃x r bs cs,xs=x::r/\as=bs++cs/\RepL K H g d x bs/\RepA K H g ds r cs
def RepP(K:Frag)(H:Hp)(g:Bool):List (D×D)->List V->List Addr->Prop
 |[],xs,as=>xs=[]/\as=[]|(_,d)::ds,xs,as=>∃x r bs cs,xs=x::r/\as=bs++cs/\RepL K H g d x bs/\RepP K H g ds r cs
end
def RepR(K:Frag)(H:Hp):D->V->List Addr->Prop
 |.S ds,v,as=>∃a xs bs,v=.I a/\RepA K H true ds xs bs/\H a=@(.S xs)/\as=a::bs|.dct kvs,v,as=>∃a xs bs,v=.I a/\RepP K H true kvs xs bs/\DcA K H a (kvs.C (·.1)) xs/\as=a::bs|_,_,_=>False
def RepO(K:Frag)(H:Hp):Own->D->V->List Addr->Prop
 |.r=>RepL K H true|.rt=>RepR K H|.dp=>RepL K H false
section
variable {K:Frag}{H H':Hp}
def Kp(H H':Hp)(as:List Addr):Prop:=(∀a xs,H a=@(.X xs)->H' a=@(.X xs))/\(∀a o u,H a=@(.frz o u)->H' a=@(.frz o u))/\∀a>as,∀ob,H a=@ob->H' a=@ob
def Kp.left(k:Kp H H' (as++bs)):Kp H H' as:=#[k.1,k.2.1,λa ha=>k.2.2 a (_ac _ ha)]
def Kp.right(k:Kp H H' (as++bs)):Kp H H' bs:=#[k.1,k.2.1,λa ha=>k.2.2 a (_ab _ ha)]
def Kp.tail(k:Kp H H' (a::bs)):Kp H H' bs:=#[k.1,k.2.1,λb hb=>k.2.2 b (_ad _ hb)]
def Kp.tupT(k:Kp H H' as)(h:SqT K H a xs):SqT K H' a xs:=by
 let(h\/#[o,h])\/h:=h
 .show .O (.O (k.1 a xs h))
 .show .O (.h #[o,k.2.1 a o _ h])
 .show .h h
def Kp.frzL(k:Kp H H' as)(h:_dY K H a xs):_dY K H' a xs:=by
 let#[o,h]\/h:=h
 .show .O #[o,k.2.1 a o _ h]
 .show .h h
mutual
theorem PuR.kp{as}(k:Kp H H' as):∀{d v},PuR K H d v->PuR K H' d v
 |.non,_,h=>h|.int _,_,h=>h
 |.tup ds,_,h=>by
  obtain⟨a,xs,e,s,r⟩:=h;exact#[a,xs,e,k.tupT s,PuRs.kp k r]
 |.bl _,_,h=>h.elim|.str _,_,h=>by unfold PuR at h ⊢;exact h|.lst _,_,h=>h.elim|.dct _,_,h=>h.elim|.obj _ _,_,h=>h.elim
theorem PuRs.kp{as}(k:Kp H H' as):∀{ds xs},PuRs K H ds xs->PuRs K H' ds xs
 |[],_,h=>by unfold PuRs at h ⊢;exact h
 |d::ds,_,h=>by
  obtain⟨x,r,e,h1,h2⟩:=h;exact#[x,r,e,PuR.kp k h1,PuRs.kp k h2]
end
def Kp.dcn(k:Kp H H' (a::bs))(h:DcN K H a ks vs):DcN K H' a ks vs:=by
 let#[es,ep,e,h1,h2,h3,h4,h5,h6]:=h;show#[es,ep,k.2.2 a X3 _ e,h1,h2,h3,h4,λx hx=>PuR.kp k (h5 x hx),h6]
def Kp.dca(k:Kp H H' (a::bs))(h:DcA K H a ks vs):DcA K H' a ks vs:=by
 let h\/#[kv,m,e,h]:=h
 .show .O (k.dcn h)
 .show .h #[kv,m,k.2.2 a X3 _ e,h]
def Kp.of_same(s:kJ H H'):Kp H H' as:=#[λa xs h=>s a _ h,λa o u h=>s a _ h,λa _ ob h=>s a ob h]
mutual
theorem RepL.kp{g}:∀{d v as},RepL K H g d v as->Kp H H' as->RepL K H' g d v as
 | .non,_,_,h,_=>h| .bl _,_,_,h,_=>h| .int _,_,_,h,_=>h| .str _,_,_,h,_=>by unfold RepL at h ⊢;exact h
 | .tup ds,_,_,h,k=>by
  obtain⟨a,xs,e,s,r⟩:=h;exact#[a,xs,e,k.tupT s,RepA.kp r k]
 | .lst ds,_,_,h,k=>by
  obtain⟨a,xs,bs,e,r,q⟩:=h;refine#[a,xs,bs,e,?_,?_]
  ·rcases q with⟨_,rfl⟩|⟨_,_,rfl⟩
   ·exact RepA.kp r k.tail
   ·exact RepA.kp r k
  ·rcases q with⟨h1,rfl⟩|⟨hg,h1,rfl⟩
   ·exact .inl #[k.2.2 a X3 _ h1,rfl]
   ·exact .inr #[hg,k.frzL h1,rfl]
 |.dct kvs,_,_,h,k=>by
  obtain⟨a,xs,bs,e,r,q,rfl⟩:=h;exact#[a,xs,bs,e,RepP.kp r k.tail,k.dca q,rfl]
 |.obj _ _,_,_,h,k=>by
  obtain⟨e,x,o,C,h1,h2,h3⟩:=h;exact#[e,x,o,C,h1,k.2.1 _ _ _ h2,h3]
theorem RepA.kp{g}:∀{ds xs as},RepA K H g ds xs as->Kp H H' as->RepA K H' g ds xs as
 |[],_,_,h,_=>by unfold RepA at h ⊢;exact h
 |d::ds,_,_,h,k=>by
  obtain⟨x,r,bs,cs,e1,rfl,h1,h2⟩:=h;exact#[x,r,bs,cs,e1,rfl,RepL.kp h1 k.left,RepA.kp h2 k.right]
theorem RepP.kp{g}:∀{ds xs as},RepP K H g ds xs as->Kp H H' as->RepP K H' g ds xs as
 |[],_,_,h,_=>by unfold RepP at h ⊢;exact h
 |_::ds,_,_,h,k=>by
  obtain⟨x,r,bs,cs,e1,rfl,h1,h2⟩:=h;exact#[x,r,bs,cs,e1,rfl,RepL.kp h1 k.left,RepP.kp h2 k.right]
end
mutual
theorem RepL.wk:∀{d v as},RepL K H false d v as->RepL K H true d v as
 |.non,_,_,h=>h|.bl _,_,_,h=>h|.int _,_,_,h=>h|.str _,_,_,h=>by unfold RepL at h ⊢;exact h
 |.tup ds,_,_,h=>by
  obtain⟨a,xs,e,s,r⟩:=h;exact#[a,xs,e,s,RepA.wk r]
 |.lst ds,_,_,h=>by
  obtain⟨a,xs,bs,e,r,q⟩:=h;refine#[a,xs,bs,e,RepA.wk r,?_];rcases q with q|⟨z,_⟩
  ·exact .inl q
  ·simp_all
 |.dct kvs,_,_,h=>by
  obtain⟨a,xs,bs,e,r,q,z⟩:=h;exact#[a,xs,bs,e,RepP.wk r,q,z]
 |.obj _ _,_,_,h=>h
theorem RepA.wk:∀{ds xs as},RepA K H false ds xs as->RepA K H true ds xs as
 |[],_,_,h=>h
 |d::ds,_,_,h=>by
  obtain⟨x,r,bs,cs,e1,e2,h1,h2⟩:=h;exact#[x,r,bs,cs,e1,e2,RepL.wk h1,RepA.wk h2]
theorem RepP.wk:∀{ds xs as},RepP K H false ds xs as->RepP K H true ds xs as
 |[],_,_,h=>h
 |_::ds,_,_,h=>by
  obtain⟨x,r,bs,cs,e1,e2,h1,h2⟩:=h;exact#[x,r,bs,cs,e1,e2,RepL.wk h1,RepP.wk h2]
end
mutual
theorem RepL.al{g}:∀{d v as},RepL K H g d v as->∀a∈as,(∃xs,H a=⇑(.lst xs))\/(∃ φ,H a=⇑(.ext φ))\/∃kvs,H a=⇑(.dK kvs)
 | .non,_,_,h=>by rw[h.2];exact λ_ z=>nomatch z| .bl _,_,_,h=>by rw[h.2];exact λ_ z=>nomatch z| .int _,_,_,h=>by rw[h.2];exact λ_ z=>nomatch z| .str _,_,_,h=>by rw[h.2.1];exact nofun
 | .tup ds,_,_,h=>by
  obtain⟨a,xs,e,s,r⟩:=h;exact RepA.al r
 | .lst ds,_,_,h=>by
  obtain⟨a,xs,bs,e,r,q⟩:=h;rcases q with⟨h1,rfl⟩|⟨_,_,rfl⟩
  ·intro b hb;rcases aD hb with rfl|hb
   ·exact .inl #[_,h1]
   ·exact RepA.al r b hb
  ·exact RepA.al r
 | .dct kvs,_,_,h=>by
  obtain⟨a,xs,bs,e,r,q,rfl⟩:=h;intro b hb;rcases aD hb with rfl|hb
  ·rcases q with⟨es,ep,q,_⟩|⟨kv,m,q,_⟩
   ·exact .inr (.inl #[_,q])
   ·exact .inr (.inr #[_,q])
  ·exact RepP.al r b hb
 |.obj _ _,_,_,h=>by rw[h.1];exact nofun
theorem RepA.al{g}:∀{ds xs as},RepA K H g ds xs as->∀a∈as,(∃xs,H a=⇑(.lst xs))\/(∃ φ,H a=⇑(.ext φ))\/∃kvs,H a=⇑(.dK kvs)
 |[],_,_,h=>by rw[h.2];exact nofun
 |d::ds,_,_,h=>by
  obtain⟨x,r,bs,cs,e1,rfl,h1,h2⟩:=h;intro a ha;rcases aA ha with ha|ha
  ·exact RepL.al h1 a ha
  ·exact RepA.al h2 a ha
theorem RepP.al{g}:∀{ds xs as},RepP K H g ds xs as->∀a∈as,(∃xs,H a=⇑(.lst xs))\/(∃ φ,H a=⇑(.ext φ))\/∃kvs,H a=⇑(.dK kvs)
 |[],_,_,h=>by rw[h.2];exact nofun
 |_::ds,_,_,h=>by
  obtain⟨x,r,bs,cs,e1,rfl,h1,h2⟩:=h;intro a ha;rcases aA ha with ha|ha
  ·exact RepL.al h1 a ha
  ·exact RepP.al h2 a ha
end
mutual
theorem RepL.pu{g g'}:∀{d v as},RepL K H g d v as->d.pure=true->as=[]/\RepL K H g' d v []
 |.non,_,_,h,_=>#[h.2,h.1,rfl]|.bl _,_,_,h,_=>#[h.2,h.1,rfl]|.int _,_,_,h,_=>#[h.2,h.1,rfl]|.str _,_,_,h,_=>#[h.2.1,h.1,rfl,h.2.2]
 |.tup ds,_,_,h,p=>by
  obtain⟨a,xs,e,s,r⟩:=h;obtain⟨z,r'⟩:=RepA.pu (g':=g') r (p);exact#[z,a,xs,e,s,r']
 |.lst ds,_,_,h,p=>by cases p|.dct ds,_,_,h,p=>by cases p|.obj _ _,_,_,h,p=>by unfold D.pure at p;cases p
theorem RepA.pu{g g'}:∀{ds xs as},RepA K H g ds xs as->D.pures ds=true->as=[]/\RepA K H g' ds xs []
 |[],_,_,h,_=>#[h.2,h.1,rfl]
 |d::ds,_,_,h,p=>by
  unfold D.pures at p;rw[Bool.and_eq_true]at p;obtain⟨x,r,bs,cs,e1,rfl,h1,h2⟩:=h;obtain⟨rfl,q1⟩:=RepL.pu (g':=g') h1 p.1;obtain⟨rfl,q2⟩:=RepA.pu (g':=g') h2 p.2;exact#[rfl,x,r,[],[],e1,rfl,q1,q2]
end
def RepR.wk(h:RepR K H d v as):RepL K H true d v as:=by
 cases d<;>first|show False.è h|skip
 all_goals
  let#[a,xs,bs,e,r,q,z]:=h
  first|show#[a,xs,bs,e,r,.O #[q,z]]|show#[a,xs,bs,e,r,q,z]
def RepR.kp(h:RepR K H d v as)(k:Kp H H' as):RepR K H' d v as:=by
 cases d<;>first|show False.è h|skip
 all_goals
  let#[a,xs,bs,e,r,q,rfl]:=h
  first|show#[a,xs,bs,e,r.kp k.tail,k.2.2 a X3 _ q,rfl]|show#[a,xs,bs,e,r.kp k.tail,k.dca q,rfl]
def RepO.wk:∀{o d v as},RepO K H o d v as->RepL K H true d v as
 |.r,_,_,_,h=>h|.rt,_,_,_,h=>RepR.wk h|.dp,_,_,_,h=>RepL.wk h
def RepO.kp:∀{o d v as},RepO K H o d v as->Kp H H' as->RepO K H' o d v as
 |.r,_,_,_,h,k=>RepL.kp h k|.rt,_,_,_,h,k=>RepR.kp h k|.dp,_,_,_,h,k=>RepL.kp h k
end
structure Sl where
 o:Own
 d:D
 v:V
 as:List Addr
def Sl.ë(x:Sl):List Addr:=match x.o with
 |.r=>[]|.rt=>x.as.take 1|.dp=>x.as
def Sl.frz(x:Sl):List Addr:=match x.o with
 |.r=>x.as|.rt=>x.as.ý 1|.dp=>[]
def Sl.parts(x:Sl):x.ë++x.frz=x.as:=by
 ext Sl.ë Sl.frz;cases x.o with|no=>rfl|rt=>show List.take_append_drop 1 x.as|dp=>show Xx _
def Sl.own_as{x:Sl}(h:a>x.ë):a>x.as:=by rw[<-x.parts];show _ac _ h
def Sl.frz_as{x:Sl}(h:a>x.frz):a>x.as:=by rw[<-x.parts];show _ab _ h
def Sl.as_of{x:Sl}(h:a>x.as):a>x.ë\/a>x.frz:=by rw[<-x.parts]at h;show aA h
def Sl.let(x:Sl):Sl:={x with o:=.r}
abbrev Ls:=List (Option Sl)
def jk(L:Ls):List Addr:=L.flatMap λx=>x.è [] Sl.ë
def k6(L:Ls):List Addr:=L.flatMap λx=>x.è [] Sl.frz
@[simp] theorem xk6:jk []=[]:=rfl
@[simp] theorem wxh:k6 []=[]:=rfl
@[simp] theorem jK x (L:Ls):jk (⇑x::L)=x.own++jk L:=by rfl
@[simp] theorem vW x (L:Ls):k6 (⇑x::L)=x.frz++k6 L:=by rfl
@[simp] theorem qww (L:Ls):jk (none::L)=jk L:=by rfl
@[simp] theorem qq5 (L:Ls):k6 (none::L)=k6 L:=by rfl
@[simp] theorem k7 (L T):jk (L++T)=jk L++jk T:=by simp[jk]
@[simp] theorem qK (L T):k6 (L++T)=k6 L++k6 T:=by simp[k6]
def mem_owned:a>jk L↔∃x,@x>L/\a>x.ë:=by
 ext jk;rw[List.mem_flatMap];constructor
 .rintro ⟨y,hy,h⟩;cases y with|none=>symm|some x=>show#[x,hy,h]
 .rintro ⟨x,hx,h⟩;show#[@x,hx,h]
def mem_frozen:a>k6 L↔∃x,@x>L/\a>x.frz:=by
 ext k6;rw[List.mem_flatMap];constructor
 .rintro ⟨y,hy,h⟩;cases y with|none=>symm|some x=>show#[x,hy,h]
 .rintro ⟨x,hx,h⟩;show#[@x,hx,h]
def Sl.ok(K:Frag)(H:Hp)(x:Sl):Prop:=RepO K H x.o x.d x.v x.as
def Sl.ok.al{K}{x:Sl}(h:x.ok K H):∀a>x.as,(∃xs,H a=@(.S xs))\/(∃ φ,H a=@(.ext φ))\/∃kvs,H a=@(.dK kvs):=(RepO.wk h).al
def Sl.ok.some{K}{x:Sl}(h:x.ok K H)(ha:a>x.as):H a≠none:=λz=>by
 let#[xs,e]\/#[xs,e]\/#[xs,e]:=h.al a ha<;>(rw[z]at e;cases e)
structure World (K:Frag)(H:Hp)(L:Ls):Prop where
 ok:∀x,@x>L->x.ok K H
 nd:(jk L).V
 ds:∀a>jk L,a∉k6 L
structure Step (H:Hp)(L:Ls)(H':Hp)(L':Ls):Prop where
 keep:∀a ob,H a=@ob->a∉jk L->H' a=@ob
 own:∀a>jk L',a>jk L\/H a=none
 frz:∀a>k6 L',a>k6 L\/a>jk L\/H a=none
section
variable {K:Frag}{H H1 H2 H':Hp}{L L1 L2' L' T:Ls}{x y:Sl}
def World.own_al(w:World K H L)(h:a>jk L):(∃xs,H a=@(.S xs))\/(∃ φ,H a=@(.ext φ))\/∃kvs,H a=@(.dK kvs):=by
 let#[x,hx,ha]:=mem_owned.mp h;show(w.ok x hx).al a (Sl.own_as ha)
def World.own_some(w:World K H L)(h:a>jk L):H a≠none:=by
 let#[x,hx,ha]:=mem_owned.mp h;show(w.ok x hx).some (Sl.own_as ha)
def World.frz_some(w:World K H L)(h:a>k6 L):H a≠none:=by
 let#[x,hx,ha]:=mem_frozen.mp h;show(w.ok x hx).some (Sl.frz_as ha)
def Step.ò:Step H L H L:=#[λ_ _ h _=>h,λ_ h=>.O h,λ_ h=>.O h]
def Step.J(a:Step H L H1 L1)(b:Step H1 L1 H2 L2'):Step H L H2 L2' where
 keep:=λc ob h hn=>b.keep c ob (a.keep c ob h hn) λz=>(a.ë c z).è hn λe=>by rw[h]at e;cases e
 own:=λc hc=>by
  let z\/z:=b.ë c hc
  .show a.ë c z
  .by_cases h:c>jk L
   .show .O h
   .show .h ?_;cases e:H c with|none=>rfl|some ob=>rw[a.keep c ob e h]at z;cases z
 frz:=λc hc=>by
  let z\/z\/z:=b.frz c hc
  .show a.frz c z
  .show .h (a.ë c z)
  .by_cases h:c>jk L
   .show .h (.O h)
   .show .h (.h ?_);cases e:H c with|none=>rfl|some ob=>rw[a.keep c ob e h]at z;cases z
def Step.kp(a:Step H L H' L')(w:World K H L)(h:∀b>as,b∉jk L):Kp H H' as:=by
 let no:∀b ob,H b=@ob->(∀xs,ob≠.S xs)->(∀ φ,ob≠.ext φ)->(∀kvs,ob≠.dK kvs)->H' b=@ob:=λb ob e h1 h2 h3=>a.keep b ob e λz=>by
  let _\/_\/_:=w.own_al z
  .grind
  .grind
  .grind
 show#[λb xs e=>no b _ e (λ_ z=>(nomatch z)) (λ_ z=>(nomatch z)) (λ_ z=>(nomatch z)),λb o u e=>no b _ e (λ_ z=>(nomatch z)) (λ_ z=>(nomatch z)) (λ_ z=>(nomatch z)),λb hb ob e=>a.keep b ob e (h b hb)]
def Step.frame(a:Step H L H' L')(w:World K H (L++T))(w':World K H' L')(wL:World K H L):World K H' (L'++T):=by
 let nd:=w.nd;rw [k7,Xa]at nd;let dis:=λb hb hT=>nd.2.2 b hb b hT rfl
 let okT:=λx hx=>w.ok x (_ab _ hx)
 let nT:∀x,@x>T->∀b>x.as,b∉jk L:=λx hx b hb hL=>by
  let z\/z:=Sl.as_of hb
  .show dis b hL (mem_owned.s #[x,hx,z])
  .show w.ds b (by rw[k7];show _ac _ hL) ?_;rw[qK];show _ab _ (mem_frozen.s #[x,hx,z])
 show#[λx hx=>?_,?_,λb hb=>?_]
 .let hx\/hx:=aA hx
  .show w'.ok x hx
  .show(okT x hx).kp (a.kp wL (nT x hx))
 .rw[k7,Xa];show#[w'.nd,nd.2.1,λb hb c hc e=>?_];subst e;let#[x,hx,lr]:=mem_owned.mp hc;let z\/z:=a.ë b hb
  .show dis b z hc
  .show(okT x hx).some (Sl.own_as lr) z
 .rw[k7]at hb;rw[qK];intro hf;let hb\/hb:=aA hb
  .let hf\/hf:=aA hf
   .show w'.ds b hb hf
   .let#[x,hx,lr]:=mem_frozen.mp hf;let z\/z:=a.ë b hb
    .show nT x hx b (Sl.frz_as lr) z
    .show(okT x hx).some (Sl.frz_as lr) z
  .let hf\/hf:=aA hf
   .let#[x,hx,lr]:=mem_owned.mp hb;let z\/z\/z:=a.frz b hf
    .show w.ds b (by rw[k7];show _ab _ hb) (by rw[qK];show _ac _ z)
    .show dis b z hb
    .show(okT x hx).some (Sl.own_as lr) z
   .show w.ds b (by rw[k7];show _ab _ hb) (by rw[qK];show _ab _ hf)
def World.left(w:World K H (L++T)):World K H L:=by
 let nd:=w.nd;rw[k7,Xa]at nd;show#[λx hx=>w.ok x (_ac _ hx),nd.1,λa ha hf=>w.ds a (by rw[k7];show _ac _ ha) (by rw[qK];show _ac _ hf)]
def World.right(w:World K H (L++T)):World K H T:=by
 let nd:=w.nd;rw[k7,Xa]at nd;show#[λx hx=>w.ok x (_ab _ hx),nd.2.1,λa ha hf=>w.ds a (by rw[k7];show _ab _ ha) (by rw[qK];show _ab _ hf)]
def World.comm(w:World K H (L++T)):World K H (T++L):=by
 show#[λx hx=>w.ok x ?_,?_,λa ha hf=>w.ds a ?_ ?_]
 .grind
 .let nd:=w.nd;rw[k7,Xa]at nd ⊢;show#[nd.2.1,nd.1,λa ha b hb e=>nd.2.2 b hb a ha e.à]
 .rw[k7]at ha ⊢;let h\/h:=aA ha
  .show _ab _ h
  .show _ac _ h
 .rw[qK]at hf ⊢;let h\/h:=aA hf
  .show _ab _ h
  .show _ac _ h
def World.tail(w:World K H (q::L)):World K H L:=World.right (L:=[q]) w
def World.head(w:World K H (@x::L)):x.ok K H:=w.ok x X3
def World.apart(w:World K H (@x::L)):∀a>x.as,a∉jk L:=λa ha hL=>by
 let z\/z:=Sl.as_of ha
 .let nd:=w.nd;rw[jK,Xa]at nd;show nd.2.2 a z a hL rfl
 .show w.ds a (_ab _ hL) (_ac _ z)
def World.æ(w:World K H L)(h:x.ok K H)(n:x.ë.V)(h1:∀a>x.ë,a∉jk L)(h2:∀a>x.ë,a∉k6 L)(h3:∀a>x.frz,a∉jk L)(h4:∀a>x.ë,a∉x.frz):World K H (@x::L):=by
 show#[λy hy=>?_,?_,λa ha hf=>?_]
 .let z\/z:=aD hy
  .symm
  .show w.ok y z
 .rw[jK,Xa];show#[n,w.nd,λa ha b hb e=>by subst e;show h1 a ha hb]
 .let ha\/ha:=aA ha
  .symm
  .let hf\/hf:=aA hf
   .show h3 a hf ha
   .show w.ds a ha hf
def World.consNo(w:World K H L)(h:x.ok K H)(ho:x.o=.r)(h3:∀a>x.as,a∉jk L):World K H (@x::L):=by
 let e1:x.ë=[]:=by ext Sl.ë;rw[ho]
 let e2:x.frz=x.as:=by ext Sl.frz;rw[ho]
 show w.æ h (by symm) (e1▸nofun) (by symm) (e2▸h3) (by symm)
def World.consPu(w:World K H L)(h:x.ok K H)(e:x.as=[]):World K H (@x::L):=by
 let e1:∀a,a∉x.ë:=λa ha=>by let:=Sl.own_as ha;rw[e]at this;show nomatch this
 let e2:∀a,a∉x.frz:=λa ha=>by let:=Sl.frz_as ha;rw[e]at this;show nomatch this
 let e3:=List.eq_nil_iff_forall_not_mem.s e1;show w.æ h (by symm) (λa z=>absurd z (e1 a)) (λa z=>absurd z (e1 a)) (λa z=>absurd z (e2 a)) (λa z=>absurd z (e1 a))
def _dZ(h:@y>L.ç i q):q=@y\/@y>L:=by
 let z\/z:=List.mem_or_eq_of_mem_set h
 .show .h z
 .show .O z.à
def _d0(h:a>jk (L.ç i @x)):a>x.ë\/a>jk L:=by
 let#[y,hy,ha]:=mem_owned.mp h;let z\/z:=_dZ hy
 .symm
 .show .h (mem_owned.s #[y,z,ha])
def _d1(h:a>k6 (L.ç i @x)):a>x.frz\/a>k6 L:=by
 let#[y,hy,ha]:=mem_frozen.mp h;let z\/z:=_dZ hy
 .symm
 .show .h (mem_frozen.s #[y,z,ha])
def _d2:∀{L i},(x.ë++jk L).V->(jk (L.ç i @x)).V
 |[],_,h=>by simp
 |q::L,0,h=>by
  rw[List.set_cons_zero,jK];let e:jk (q::L)=q.è [] Sl.ë++jk L:=by rfl
  rw[e,Xa]at h;let#[h1,h2,h3]:=h;rw[Xa]at h2 ⊢;show#[h1,h2.2.1,λa ha b hb=>h3 a ha b (_ab _ hb)]
 |q::L,i+1,h=>by
  rw[List.ÿ];let e:∀M,jk (q::M)=q.è [] Sl.ë++jk M:=λM=>by rfl
  rw[e]at h ⊢;rw[Xa]at h;let#[h1,h2,h3]:=h;rw[Xa]at h2;rw[Xa];show#[h2.1,_d2 (by rw[Xa];show#[h1,h2.2.1,λa ha b hb=>h3 a ha b (_ab _ hb)]),λa ha b hb e=>?_];subst e;let z\/z:=_d0 hb
  .show h3 a z a (_ac _ ha) rfl
  .show h2.2.2 a ha a z rfl
def World.ç(w:World K H (@x::L)):World K H (L.ç i @x):=by
 show#[λy hy=>?_,_d2 (by let:=w.nd;rwa [jK]at this),λa ha hf=>?_]
 .let z\/z:=_dZ hy
  .cases z;show w.head
  .show w.ok y (_ad _ z)
 .show w.ds a ?_ ?_
  .rw[jK];show List.mem_append.s (_d0 ha)
  .rw[vW];show List.mem_append.s (_d1 hf)
def Step.ç:Step H (@x::L) H (L.ç i @x) where
 keep:=λ_ _ h _=>h
 own:=λa ha=>.O (List.mem_append.s (_d0 ha))
 frz:=λa ha=>.O (List.mem_append.s (_d1 ha))
def Step.ý:Step H (q::L) H L where
 keep:=λ_ _ h _=>h
 own:=λa ha=>.O (by rw[show(q::L:Ls)=[q]++L from rfl];show _ab _ ha)
 frz:=λa ha=>.O (by rw[show(q::L:Ls)=[q]++L from rfl];show _ab _ ha)
def qX{i:Nat}(h:L[i]?=some @x):@x>L:=Y2 h
def _d3(x:Sl):x.let.ë=[]/\x.let.frz=x.as/\x.let.as=x.as:=#[rfl,rfl,rfl]
def _d4(h:a>jk (L.ç i @x.let)):a>jk L:=by
 let z\/z:=_d0 h
 .show nomatch z
 .show z
def _d5:∀{L i},(jk L).V->(∀a>jk L,a∉k6 L)->L[i]?=@(@x)->∀a>x.as,a∉jk (L.ç i @x.let)
 | [],_,_,_,h,_,_=>by symm
 | q::L,0,nd,ds,h,a,ha=>by
  let e:q=@x:= ~~~h
  subst e;intro hm;let z\/z:=Sl.as_of ha
  .rw[jK,Xa]at nd;show nd.2.2 a z a hm rfl
  .show ds a (_ab _ hm) (_ac _ z)
 | q::L,i+1,nd,ds,h,a,ha=>by
  let e:∀M,jk (q::M)=q.è [] Sl.ë++jk M:=λM=>by rfl
  let f:k6 (q::L)=q.è [] Sl.frz++k6 L:=by rfl
  intro hm;rw[e,Xa]at nd;let hm\/hm:=aA hm
  .let z\/z:=Sl.as_of ha
   .show nd.2.2 a hm a (mem_owned.s #[x,qX h,z]) rfl
   .show ds a (_ac _ hm) (by rw[f];show _ab _ (mem_frozen.s #[x,qX h,z]))
  .show _d5 nd.2.1 (λb hb hf=>ds b (_ab _ hb) (f▸_ab _ hf)) h a ha hm
def JJ(h:x.ok K H):x.let.ok K H:=RepO.wk h
def World.let(w:World K H L)(h:L[i]?=some @x):World K H (L.ç i @x.let):=by
 show#[λy hy=>?_,_d2 ((_d3 x).1▸w.nd),λa ha hf=>?_]
 .let z\/z:=_dZ hy
  .cases z;show JJ (w.ok x (qX h))
  .show w.ok y z
 .let z\/z:=_d1 hf
  .show(_d5 w.nd w.ds h) a z ha
  .show w.ds a (_d4 ha) z
def World.read(w:World K H L)(h:L[i]?=some @x):World K H (@x.let::L.ç i @x.let):=
 (w.let h).consNo (JJ (w.ok x (qX h))) rfl (_d5 (x:=x) w.nd w.ds h)
def Step.read(h:L[i]?=some @x):Step H L H (@x.let::L.ç i @x.let) where
 keep:=λ_ _ h _=>h
 own:=λa ha=>.O (_d4 ha)
 frz:=λa ha=>by
  let hx:=qX h;let q:∀a>x.as,a>k6 L\/a>jk L\/H a=none:=λa ha=>by
   let z\/z:=Sl.as_of ha
   .show .h (.O (mem_owned.s #[x,hx,z]))
   .show .O (mem_frozen.s #[x,hx,z])
  let z\/z:=aA ha
  .show q a z
  .let z\/z:=_d1 z
   .show q a z
   .show .O z
end
inductive Mt:En->L2.St->Ls->Prop
 |nil:Mt [] [] []
 |un {E:En} {σ:L2.St} {L:Ls} {y:Option V}:Mt E σ L->Mt (none::E) (y :: σ) (none::L)
 |cons {E:En} {σ:L2.St} {L:Ls} {x:Sl}:Mt E σ L->Mt (@(x.o,x.d)::E) (@x.v :: σ) (@x::L)
def Mt.get:∀{E σ L} {i:Nat} {o d},Mt E σ L->E[i]?=@(@(o,d))->∃x,L[i]?=some @x/\x.o=o/\x.d=d/\σ[i]?=some @x.v
 |_,_,_,_,_,_,.nil,h=>by symm|_,_,_,0,_,_,.un _,h=>by symm|_,_,_,i+1,_,_,.un m,h=>by simpa using m.get (~~~h)
 |_,_,_,0,_,_,.æ (x:=x) m,h=>by
  simp at h;show#[x,by rfl,h.1,h.2,by rfl]
 |_,_,_,i+1,_,_,.æ m,h=>by simpa using m.get (~~~h)
def Mt.ç:∀{E σ L} (i),Mt E σ L->Mt (E.ç i @(x.o,x.d)) (σ.ç i @x.v) (L.ç i @x)
 |_,_,_,_,.nil=>.nil|_,_,_,0,.un m=>.æ m|_,_,_,i+1,.un m=>.un (m.ç i)|_,_,_,0,.æ m=>.æ m|_,_,_,i+1,.æ m=>.æ (m.ç i)
def Mt.let:∀{E σ L i},Mt E σ L->L[i]?=@(@x)->Mt (E.ç i @(.r,x.d)) σ (L.ç i @x.let)
 |_,_,_,_,.nil,h=>by symm|_,_,_,i+1,.un m,h=>.un (m.let (~~~h))
 |_,_,_,0,.æ (x:=y) m,h=>by
  let e:y=x:= ~~~h
  subst e;show .æ (x:=y.let) m
 |_,_,_,i+1,.æ m,h=>.æ (m.let (~~~h))
def Mt.len:∀{E σ L},Mt E σ L->E.B=σ.B/\L.B=σ.B
 |_,_,_,.nil=>#[rfl,rfl]|_,_,_,.un m=>by simp[m.len]|_,_,_,.æ m=>by simp[m.len]
def sls(L:Ls):List Sl:=L.filterMap id
def Q5 L:jk L=(sls L).flatMap Sl.ë:=by
 induction L with
 |nil=>rfl
 |cons q L ih=>
  cases q with|none=>rw[qww,ih];rfl|some x=>rw[jK,ih];rfl
def Vx L:k6 L=(sls L).flatMap Sl.frz:=by
 induction L with
 |nil=>rfl
 |cons q L ih=>
  cases q with|none=>rw[qq5,ih];rfl|some x=>rw[vW,ih];rfl
def mem_sls:x>sls L↔@x>L:=by simp[sls]
@[simp] theorem W5 (L T):sls (L++T)=sls L++sls T:=by simp[sls]
@[simp] theorem vxb (L:Ls):sls (none::L)=sls L:=rfl
@[simp] theorem xwb (x:Sl)(L:Ls):sls (⇑x::L)=x::sls L:=rfl
@[simp] theorem xx6:sls []=[]:=rfl
@[simp] theorem xx7 T:sls (T.map some)=T:=by simp[sls]
@[simp] theorem xx5 k:sls (List.replicate k none)=[]:=by
 induction k with|zero=>rfl|succ k ih=>rw[List.replicate_succ,vxb,ih]
def _d6(f:α->List β){l l':List α}(h:l.Sublist l'):(l.flatMap f).Sublist (l'.flatMap f):=by
 induction h with|slnil=>show Z2 _|cons a _ ih=>rw[List.flatMap_cons];show List.Sublist.J ih (List.sublist_append_right _ _)|cons_cons a _ ih=>rw[List.flatMap_cons];show List.Sublist.append (Z2 _) ih
section
variable {K:Frag}
def World.same(w:World K H L)(p:(sls L).á (sls L')):World K H L':=by
 let po:(jk L).á (jk L'):=by rw[Q5,Q5];show p.flatMap_right _
 let pf:(k6 L).á (k6 L'):=by rw[Vx,Vx];show p.flatMap_right _
 show#[λx hx=>w.ok x (mem_sls.mp (p.ê.s (mem_sls.s hx))),po.nodup_iff.mp w.nd,λa ha hf=>w.ds a (po.ê.s ha) (pf.ê.s hf)]
def Step.same(s:Step H L H' L')(p:(sls L).á (sls M))(p':(sls L').á (sls M')):Step H M H' M':=by
 let po:(jk L).á (jk M):=by rw[Q5,Q5];show p.flatMap_right _
 let pf:(k6 L).á (k6 M):=by rw[Vx,Vx];show p.flatMap_right _
 let po':(jk L').á (jk M'):=by rw[Q5,Q5];show p'.flatMap_right _
 let pf':(k6 L').á (k6 M'):=by rw[Vx,Vx];show p'.flatMap_right _
 show#[λa ob h hn=>s.keep a ob h λz=>hn (po.ê.mp z),λa ha=>(s.ë a (po'.ê.s ha)).imp (λz=>po.ê.mp z) id,
  λa ha=>(s.frz a (pf'.ê.s ha)).imp (λz=>pf.ê.mp z) λz=>z.imp (λz=>po.ê.mp z) id]
def World.sub(w:World K H L)(p:(sls L').Sublist (sls L)):World K H L':=by
 show#[λx hx=>w.ok x (mem_sls.mp (p.subset (mem_sls.s hx))),?_,λa ha hf=>w.ds a ?_ ?_]
 .let:=w.nd;rw[Q5]at this ⊢;show(_d6 _ p).nodup this
 .rw[Q5]at ha ⊢;show(_d6 _ p).subset ha
 .rw[Vx]at hf ⊢;show(_d6 _ p).subset hf
def Step.sub(s:Step H L H' L')(p:(sls M).Sublist (sls L')):Step H L H' M:=by
 show#[s.keep,λa ha=>s.ë a ?_,λa ha=>s.frz a ?_]
 .rw[Q5]at ha ⊢;show(_d6 _ p).subset ha
 .rw[Vx]at ha ⊢;show(_d6 _ p).subset ha
end
def _d7:∀{L:Ls} {j},(sls (at' L j::L.ç j none)).á (sls L)
 | [],j=>by simp[at']
 | q::L,0=>by
  cases q with|none=>simp[at']|some x=>simp[at']
 | q::L,j+1=>by
  let ih:=_d7 (L:=L) (j:=j);let e:at' (q::L) (j+1)=at' L j:=by rfl
  rw[e];let e2:∀a b M,(sls (a::b::M)).á (sls (b::a::M)):=λa b M=>by
   cases a<;>cases b<;>simp
   show List.á.swap ..
  show(e2 _ _ _).J ?_;cases q with|none=>simpa [sls]using ih|some y=>simpa [sls]using ih
def _d8:∀{R} {L:Ls},R.V->(sls (R.C (at' L)++clr R L)).á (sls L)
 | [],L,_=>by simp[clr]
 | j::R,L,h=>by
  rw[Yh]at h;let e:R.C (at' L)=R.C (at' (L.ç j none)):=by
   apply Y1;intro i hi;let:j≠i:=λe=>h.1 (e▸hi)
   ext at';rw[Zb this]
  rw[List.Z,clr,e];let ih:=_d8 (L:=L.ç j none) h.2;show List.á.J ?_ (_d7 (j:=j));cases hq:at' L j with|none=>simpa [sls]using ih|some x=>simpa [sls]using ih
def _d9:∀{R} {L:List (Option α)},(clr R L).B=L.B
 |[],_=>rfl|j::R,L=>by rw[clr,_d9,List.length_set]
def _ea:∀{R} {L:List (Option α)} {j},j>R->at' (clr R L) j=none
 | [],_,_,h=>by grind
 | i :: R,L,j,h=>by
  rw [clr]
  by_cases hR:j>R
  .show _ea hR
  .let e:j=i:=by simpa [hR]using h
   subst e;let gen:∀{R} {M:List (Option α)},j∉R->at' (clr R M) j=at' M j:=by
    intro R
    induction R with
    |nil=>intro M _;rfl
    |cons r R ih=>
     intro M h;rw[Zy,not_or]at h;rw[clr,ih h.2];ext at';rw[Zb (Ne.à h.1)]
   rw[gen hR];ext at'
   by_cases hl:j<L.B
   .rw[List.getElem?_set_self hl];rfl
   .rw[List.set_eq_of_length_le .q,Y5 .q];rfl
def _eb:∀{R} {B L:Ls},R.V->(∀j>R,at' L j=none)->(∀j>R,j<L.B)->B.B=R.B->(sls (back R B L)).á (sls (B++L))
 | [],B,L,_,_,_,hl=>by
  let:B=[]:= ~~~hl
  subst this;simp [back]
 | j :: R,q::B,L,hn,hz,hr,hl=>by
  rw [Yh]at hn;let ih:=_eb (L:=L.ç j q) hn.2 (λi hi=>by
   let:j≠i:=λe=>hn.1 (e▸hi)
   ext at';rw [Zb this];show hz i (_ad _ hi)) (λi hi=>by rw[List.length_set];show hr i (_ad _ hi)) (~~~hl)
  show ih.J ?_;let sp:∀{M i},at' M i=none->i<M.B->(sls (M.ç i q)).á (sls (q::M)):=by
   intro M
   induction M with
   | nil=>intro i _ h;simp at h
   | cons r M ihM=>
    intro i h1 h2;cases i with
    | zero=>
     let:r=none:=by simpa [at']using h1
     subst this;cases q<;>rfl
    | succ i=>
     let:=ihM (by simpa [at']using h1) (~~~h2);cases r with
     | none=>cases q<;>simpa [sls]using this
     | some y=>
      cases q with
      |none=>simpa [sls]using this
      |some x=>
       show(this.æ y).J (List.á.swap ..)
  rw[W5];let h2:(sls B++sls _).á _:=(sp (hz j X3) (hr j X3)).append_left _;show h2.J ?_;cases q with
  |none=>simp
  |some x=>
   dsimp[W5];show List.perm_middle
section
variable {K:Frag}
def _ec(p:L.á L'):(jk L).á (jk L'):=p.flatMap_right _
def _ed(p:L.á L'):(k6 L).á (k6 L'):=p.flatMap_right _
def World.perm(w:World K H L)(p:L.á L'):World K H L':=
 #[λx hx=>w.ok x (p.ê.s hx),(_ec p).nodup_iff.mp w.nd,λa ha hf=>w.ds a ((_ec p).ê.s ha) ((_ed p).ê.s hf)]
def Step.perm(s : Step H L H' L')(p : L.á M)(p' : L'.á M'): Step H M H' M':=
  #[λa ob h hn=>s.keep a ob h λz=>hn ((_ec p).ê.mp z),
   λa ha=>(s.ë a ((_ec p').ê.s ha)).imp (λz=>(_ec p).ê.mp z) id,
   λa ha=>(s.frz a ((_ed p').ê.s ha)).imp (λz=>(_ed p).ê.mp z) λz=>z.imp (λz=>(_ec p).ê.mp z) id]
def Step.frm(s:Step H L H' L'):Step H (L++T) H' (L'++T) where
 keep:=λa ob h hn=>s.keep a ob h λz=>hn (by rw[k7];show _ac _ z)
 own:=λa ha=>by
  rw[k7]at ha ⊢;let z\/z:=aA ha
  .show(s.ë a z).imp (_ac _) id
  .show .O (_ab _ z)
 frz:=λa ha=>by
  rw[qK]at ha ⊢;rw[k7];let z\/z:=aA ha
  .show(s.frz a z).imp (_ac _) λz=>z.imp (_ac _) id
  .show .O (_ab _ z)
def _ee(w:World K H (T++L))(s:Step H L H' L')(w':World K H' L'):World K H' (T++L')/\Step H (T++L) H' (T++L'):=by
 let w1:=w.comm;show#[(s.frame w1 w' w1.left).comm,s.frm.perm List.perm_append_comm List.perm_append_comm]
end
def ex8{P:Prop}{a b c d e:α->β->γ->Prop}(h:∃x y z,a x y z/\b x y z/\c x y z/\d x y z/\e x y z)(f:∀x y z,a x y z->b x y z->c x y z->d x y z->e x y z->P):P:=
 h.è λx h=>h.è λy h=>h.è λz h=>f x y z h.1 h.2.1 h.2.2.1 h.2.2.2.1 h.2.2.2.2
def ex7{P:Prop}{a b c d:α->β->γ->Prop}(h:∃x y z,a x y z/\b x y z/\c x y z/\d x y z)(f:∀x y z,a x y z->b x y z->c x y z->d x y z->P):P:=
 h.è λx h=>h.è λy h=>h.è λz h=>f x y z h.1 h.2.1 h.2.2.1 h.2.2.2
def qj(h:PE X e t)(w:∀ σ H Q,t' σ H Q->t σ H Q):PE X e t':=λa8 s σ H Q I q=>h a8 s σ H Q I (w σ H Q q)
def _ef(h:PT X e t)(w:∀ σ H Q,t' σ H Q->t σ H Q):PT X e t':=λa8 s σ H Q I q=>h a8 s σ H Q I (w σ H Q q)
def zV(h:PS X e t)(w:∀D σ H,t' D σ H->t D σ H):PS X e t':=λa8 s σ H D I q=>h a8 s σ H D I (w D σ H q)
def _eg(h:PSs X e t)(w:∀D σ H,t' D σ H->t D σ H):PSs X e t':=λa8 s σ H D I q=>h a8 s σ H D I (w D σ H q)
structure Fx0 where
 K:Frag
 mg:Str->Option Value
 EX:XK
def Xc(Z:Fx0)(σ:L2.St)(H:Hp)(L:Ls)(r:Res α):Prop:=∀E' c,r=.exc E' c->∀C L' H',Z.mg c=@(.I C)->Mt E' σ L'->World Z.K H' L'->Step H L H' L'->Z.EX (.I C) none H'
def Xc.step{α Z σ H H1 L L1}{r:Res α}(x:Xc Z σ H L r)(s:Step H L H1 L1):Xc Z σ H1 L1 r:=λE' c e C L' H' hm m w s'=>x E' c e C L' H' hm m w (s.J s')
def Xc.C(x:Xc Z σ H L r)(e:r=.exc E' c):Xc Z σ H L (.exc E' c:Res β):=λE1 c1 e1=>by
 injection e1 with h1 h2;subst h1 h2;show x _ _ e
def tQ(Z:Fx0)(q:Bool)(c:Ex):TE:=fun σ H Q=>∃E L r,Mt E σ L/\World Z.K H L/\c E=@r/\Xc Z σ H L r /\
 ∀E' a,r=.ok E' a->∀(x:Sl) L' H',x.o=a.1->x.d=a.2->Mt E' σ L'->World Z.K H' (@x::L')->Step H L H' (@x::L')->(q=true->kJ H H'/\∀b>x.ë,H b=none)->Q x.v H'
def Src(H:Hp)(L:Ls)(as:List Addr):Prop:=∀b>as,b>k6 L\/b>jk L\/H b=none
def Src.back(h:Src H1 L1 as)(s:Step H L H1 L1):Src H L as:=λb hb=>by
 let z\/z\/z:=h b hb
 .show s.frz b z
 .show .h (s.ë b z)
 .by_cases ho:b>jk L
  .show .h (.O ho)
  .show .h (.h ?_);cases e:H b with|none=>rfl|some ob=>rw[s.keep b ob e ho]at z;cases z
def tV(Z:Fx0)(q:Bool)(c:Ex):TE:=fun σ H Q=>∃E L r,Mt E σ L/\World Z.K H L/\c E=@r/\Xc Z σ H L r /\
 ∀E' a,r=.ok E' a->∀(x:Sl) L' H',x.o=a.1->x.d=a.2->Mt E' σ L'->World Z.K H' L'->x.ok Z.K H'->(∀b>x.frz,b∉jk L')->Src H L x.as->Step H L H' L'->(q=true->kJ H H')->Q x.v H'
def QE(X:Cx)(Z:Fx0)(q:Bool)(c:Ex)(e:Expr):Prop:=PE X e (tQ Z q c)
def QV(X:Cx)(Z:Fx0)(q:Bool)(c:Ex)(e:Expr):Prop:=PE X e (tV Z q c)
section
variable {Z:Fx0}{a b c:Ex}{H:Hp}
noncomputable def wq(h:bnd m F=@r):(∃E1 x,m=@(.ok E1 x)/\F E1 x=@r)\/∃E1 c,m=@(.exc E1 c)/\r=.exc E1 c:=by
 cases m with
 |none=>cases h
 |some q=>
  cases q with|ok E1 x=>show .O #[E1,x,rfl,h]|exc E1 c=>show .h #[E1,c,rfl,(_aa h).à]
def VQ(m:Mt E σ L)(w:World Z.K H L)(h:bnd (a E) F=@r)(xc:Xc Z σ H L r)
  (k:∀E1 s,F E1 s=@r->∀x L1 H1,x.o=s.1->x.d=s.2->Mt E1 σ L1->World Z.K H1 (@x::L1)->Step H L H1 (@x::L1)->(q=true->kJ H H1/\∀b>x.ë,H b=none)->G x.v H1):tQ Z q a σ H G:=by
 let#[E1,s,h1,h2]\/#[E1,c,h1,h2]:=wq h
 .show#[E,L,_,m,w,h1,(λ_ _ z=>by cases z),λE' s' z x L' H' e1 e2 m' w' st sm=>by
   injection z with z1 z2;subst z1 z2;show k _ _ h2 x L' H' e1 e2 m' w' st sm]
 .show#[E,L,_,m,w,h1,xc.C h2,λE' s' z=>by cases z]
def qV(m:Mt E σ L)(w:World Z.K H L)(h:bnd (a E) F=@r)(xc:Xc Z σ H L r)
  (k:∀E1 s,F E1 s=@r->∀(x:Sl) L1 H1,x.o=s.1->x.d=s.2->Mt E1 σ L1->World Z.K H1 L1->x.ok Z.K H1->(∀b>x.frz,b∉jk L1)->Src H L x.as->Step H L H1 L1->(q=true->kJ H H1)->G x.v H1):tV Z q a σ H G:=by
 let#[E1,s,h1,h2]\/#[E1,c,h1,h2]:=wq h
 .show#[E,L,_,m,w,h1,(λ_ _ z=>by cases z),λE' s' z x L' H' e1 e2 m' w' ok fr sr st sm=>by
   injection z with z1 z2;subst z1 z2;show k _ _ h2 x L' H' e1 e2 m' w' ok fr sr st sm]
 .show#[E,L,_,m,w,h1,xc.C h2,λE' s' z=>by cases z]
def Qk{x:Sl}{K}(ok:x.ok K H1)(fr:∀b>x.frz,b∉jk L1)(st:Step H1 L1 H2 L2')(sm:kJ H1 H2):x.ok K H2/\∀b>x.frz,b∉jk L2':=
 #[RepO.kp ok (Kp.of_same sm),λb hb ho=>(st.ë b ho).è (fr b hb) λz=>ok.some (Sl.frz_as hb) z]
def xw(h:val E x=@r):∃y,x=@y/\r=.ok E y:=by
 cases x with|none=>cases h|some y=>show#[y,rfl,(_aa h).à]
def _eh(st:Step H L H1 (@x::L1)):Src H L x.as:=λb hb=>by
 let z\/z:=Sl.as_of hb
 .show .h (st.ë b (_ac _ z))
 .show st.frz b (_ac _ z)
def j9(h:QE X Z q c e):QV X Z q (vE c) e:=qj h fun σ H Q ai=>ex8 ai λE L r m w hc xc k=>
 VQ m w hc xc λE1 s h1 x L1 H1 e1 e2 m1 w1 st sm=>by
  cases _aa h1;show k _ _ rfl x.let L1 H1 rfl e2 m1 w1.tail (JJ w1.head) (λb hb=>w1.apart b hb) (_eh (x:=x) st) (st.J Step.ý) λhq=>(sm hq).1
def JW(st:Step H L H1 L1)(sr:Src H L x.as)(ho:x.ë=[]):Step H L H1 (@x::L1) where
 keep:=st.keep
 own:=λb hb=>by rw[jK,ho]at hb;show st.ë b hb
 frz:=λb hb=>by
  let z\/z:=aA hb
  .show sr b (Sl.frz_as z)
  .show st.frz b z
def _ei{x:Sl}(h:x.o=.r):x.ë=[]:=by ext Sl.ë;rw[h]
def _ej{x:Sl}(h:x.o=.r):x.frz=x.as:=by ext Sl.frz;rw[h]
def _ek{x:Sl}(h:x.as=[]):x.ë=[]:=List.eq_nil_iff_forall_not_mem.s λa ha=>by let:=Sl.own_as ha;rw[h]at this;show nomatch this
def jY(h:QV X Z q c e):QE X Z q (cH c) e:=qj h fun σ H Q ai=>ex8 ai λE L r m w hc xc k=>
 qV m w hc xc λE1 s h1 x L1 H1 e1 e2 m1 w1 ok fr sr st sm=>by
  by_cases ho:s.1=.r
  .rw[X7 ho]at h1;cases _aa h1;let eo:=e1.J ho;show k _ _ rfl x L1 H1 eo e2 m1 (w1.consNo ok eo λb hb=>fr b (_ej eo▸hb)) (JW st sr (_ei eo)) λhq=>#[sm hq,by rw[_ei eo];show λ_ z=>(nomatch z)]
  .rw[Xd ho]at h1
   by_cases hp:s.2.pure=true
   .rw[X7 hp]at h1;cases _aa h1;let#[z,rp]:=RepL.pu (g':=false) (RepO.wk ok) (by symm);show k _ _ rfl #[.dp,x.d,x.v,[]] L1 H1 rfl e2 m1 (w1.consPu rp rfl) (JW st (nofun) rfl) λhq=>#[sm hq,λ_ z=>(nomatch z)]
   .symm
def q_C(h:PE X e (tC v))(hr:∀H,RepL Z.K H false d v []):QE X Z true (cC d) e:=qj h fun σ H Q ai=>ex8 ai λE L r m w hc xc k=>by
 cases _aa hc;show k _ _ rfl #[.dp,d,v,[]] L H rfl rfl m (w.consPu (hr H) rfl) (JW Step.ò (nofun) rfl) λ_=>#[λ_ _ z=>z,λ_ z=>(nomatch z)]
#where in
def q_V(h:PE X e (xk i)):QE X Z true (cV i) e:=qj h fun σ H Q ai=>ex8 ai λE L r m w hc xc k=>by
 unfold cV at hc
 split at hc
 .revert o d hE;cases _aa hc;let#[x,h1,h2,h3,h4]:=m.get hE;show#[x.v,h4,k _ _ rfl x.let _ H rfl h3 ?_ (w.read h1) (Step.read h1) λ_=>#[λ_ _ z=>z,λ_ z=>(nomatch z)]];let:=m.let h1
  rwa [h3]at this
 .cases hc
def _el:∀{E σ} {L} j,Mt E σ L->Mt (E.ç j none) σ (L.ç j none):=by
 intro E σ L j m
 induction m generalizing j with
 |nil=>show .nil
 |un m ih=>cases j with|zero=>show .un m|succ j=>show .un (ih j)
 |cons m ih=>cases j with|zero=>show .un m|succ j=>show .æ (ih j)
def _em:∀{L:Ls} {i},L[i]?=@(@x)->(none::L).á (@x::L.ç i none)
 |[],_,h=>by symm
 |q::L,0,h=>by
  let e:q=@x:= ~~~h
  subst e;show List.á.swap ..
 |q::L,i+1,h=>by
  let:=_em (~~~h);show(List.á.swap ..).J ((this.æ q).J (List.á.swap ..))
#where in
def W1(h:PE X e (xk i)):QE X Z false (cMv i) e:=qj h fun σ H Q ai=>ex8 ai λE L r m w hc xc k=>by
 unfold cMv at hc
 split at hc
 .revert s hE;cases _aa hc;let#[x,h1,h2,h3,h4]:=m.get hE;let wn:World Z.K H (none::L):=#[λy hy=>w.ok y (by symm),~~~w.nd,~~~w.ds];let sn:Step H L H (none::L):=#[λ_ _ z _=>z,λa z=>.O (by symm),λa z=>.O (by symm)];show#[x.v,h4,k _ _ rfl x _ H h2 h3 (_el i m) (wn.perm (_em h1)) (sn.J (Step.ò.perm (List.á.ò _) (_em h1))) λz=>(nomatch z)]
 .cases hc
#where in
def q_vV(h:PE X e (xk i)):QV X Z true (vV i) e:=qj h fun σ H Q ai=>ex8 ai λE L r m w hc xc k=>by
 unfold vV at hc
 split at hc
 .revert s hE;cases _aa hc;let#[x,h1,h2,h3,h4]:=m.get hE;let hx:=qX h1;show#[x.v,h4,k _ _ rfl x L H h2 h3 m w (w.ok x hx) (λb hb ho=>w.ds b ho (mem_frozen.s #[x,hx,hb])) (λb hb=>?_) Step.ò λ_=>λ_ _ z=>z];let z\/z:=Sl.as_of hb
  .show .h (.O (mem_owned.s #[x,hx,z]))
  .show .O (mem_frozen.s #[x,hx,z])
 .cases hc
structure Out (K:Frag)(H H':Hp)(z:Sl)(fr:List Addr):Prop where
 same:kJ H H'
 ok:z.ok K H'
 new:∀b>z.ë,H b=none
 nd:z.ë.V
 fr:∀b>z.frz,b>fr
def Ad1(K:Frag)(r:V->Hp->VK->Prop)(f:Sd->Option Sd):Prop:=∀(H:Hp) (x:Sl) (s:Sd) (Q:VK),x.ok K H->f (x.o,x.d)=@s->(∀(z:Sl) H',z.o=s.1->z.d=s.2->Out K H H' z x.frz->Q z.v H')->r x.v H Q
def Ad2(K:Frag)(r:R2)(f:Sd->Sd->Option Sd):Prop:=∀(H:Hp) (x y:Sl) (s:Sd) (Q:VK),x.ok K H->y.ok K H->f (x.o,x.d) (y.o,y.d)=@s->(∀(z:Sl) H',z.o=s.1->z.d=s.2->Out K H H' z (x.frz++y.frz)->Q z.v H')->r x.v y.v H Q
def _en{K}(s:kJ H H')(r:RepL K H' false d v []):Out K H H' #[.dp,d,v,[]] fr:=#[s,r,λ_ h=>(nomatch h),Xy,λ_ h=>(nomatch h)]
def xj:kJ H H:=λ_ _ z=>z
def kQ(a:kJ H H1)(b:kJ H1 H2):kJ H H2:=λc ob h=>b c ob (a c ob h)
def W3(w:World Z.K H1 L1)(st:Step H L H1 L1)(o:Out Z.K H1 H2 z fr)(ap:∀b>fr,b∉jk L1)(al:∀b>fr,H1 b≠none)(sr:Src H L fr):
  World Z.K H2 (@z::L1)/\Step H L H2 (@z::L1):=by
 let w2:World Z.K H2 L1:=#[λx hx=>RepO.kp (w.ok x hx) (Kp.of_same o.same),w.nd,w.ds];show#[w2.æ o.ok o.nd (λb hb ho=>w.own_some ho (o.new b hb)) (λb hb hf=>w.frz_some hf (o.new b hb)) (λb hb=>ap b (o.fr b hb)) (λb hb hf=>al b (o.fr b hf) (o.new b hb)),(#[λb ob h hn=>o.same b ob (st.keep b ob h hn),λb hb=>?_,λb hb=>?_])]
 .let z\/z:=aA hb
  .by_cases ho:b>jk L
   .show .O ho
   .show .h ?_;cases e:H b with|none=>rfl|some ob=>let:=o.new b z;rw[st.keep b ob e ho]at this;cases this
  .show st.ë b z
 .let z\/z:=aA hb
  .show sr b (o.fr b z)
  .show st.frz b z
def V4(h:Src H L as)(hb:∀b>bs,b>as):Src H L bs:=λb z=>h b (hb b z)
def _eo(h:Src H L as)(h':Src H L bs):Src H L (as++bs):=λb z=>(aA z).è (h b) (h' b)
def JY{b}(s:kJ H H1)(h:H1 b=none):H b=none:=by
 cases e:H b with|none=>rfl|some ob=>rw[s b ob e]at h;cases h
def XY(ad:Ad1 Z.K r f)(h:tQ Z q (cF1 f a) σ H Q):tUn r (tV Z q a) σ H Q:=by
 let#[E,L,R,m,w,hc,xc,k]:=h;show qV m w hc xc λE1 s h1 x L1 H1 e1 e2 m1 w1 ok fr sr st sm=>?_
 let#[z,hz,rfl]:=xw h1;show ad H1 x z Q ok (by symm) λy H' ho hd o=>?_
 let#[w3,fh]:=W3 w1 st o fr (λb hb=>ok.some (Sl.frz_as hb)) (V4 sr λb hb=>Sl.frz_as hb);show k _ _ rfl y L1 H' ho hd m1 w3 fh λhq=>#[kQ (sm hq) o.same,λb hb=>JY (sm hq) (o.new b hb)]
def _ep(ad:Ad2 Z.K r f)(h:tQ Z qa (cF2 f a b) σ H Q):tOp r (tV Z qa a) (tV Z true b) σ H Q:=by
 let#[E,L,R,m,w,hc,xc,k]:=h;show qV m w hc xc λE1 s h1 x L1 H1 e1 e2 m1 w1 ok fr sr st sm=>(qV m1 w1 h1 (xc.step st) λE2 s2 h2 y L2 H2 e3 e4 m2 w2 ib rh rz bu dw=>?_)
 let#[z,hz,rfl]:=xw h2;let kx:=Qk ok fr bu (dw rfl);show ad H2 x y z Q kx.1 ib (by symm) λy' H' ho hd o=>?_
 let#[w3,fh]:=W3 w2 (st.J bu) o (λb hb=>(aA hb).è (kx.2 b) (rh b)) (λb hb=>(aA hb).è (λz=>kx.1.some (Sl.frz_as z)) λz=>ib.some (Sl.frz_as z))
  (_eo (V4 sr λb hb=>Sl.frz_as hb) (V4 (rz.back st) λb hb=>Sl.frz_as hb))
 show k _ _ rfl y' L2 H' ho hd m2 w3 fh λhq=>#[kQ (sm hq) (kQ (dw rfl) o.same),λb hb=>JY (kQ (sm hq) (dw rfl)) (o.new b hb)]
def ZY(ho:OpR X (binaryOp op) r)(ad:Ad2 Z.K r f)(ha:QV X Z qa a ea)(hb:QV X Z true b eb):QE X Z qa (cF2 f a b) (.BinOp ea op eb pos):=
 qj (_a2 ho ha hb) fun σ H Q h=>_ep ad h
def _eq(ho:OpR X (compareOp op) r)(ad:Ad2 Z.K r f)(ha:QV X Z qa a ea)(hb:QV X Z true b eb)(hm:behindInMarks op eb=false):QE X Z qa (cF2 f a b) (.Compare ea [op] [eb] pos):=
 qj (_be ho ha hb hm) fun σ H Q h=>_ep ad h
def RepA.get{K}:∀{ds xs as} {i:Nat} {d},RepA K H g ds xs as->ds[i]?=@d->∃v bs,xs[i]?=@v/\RepL K H g d v bs/\∀b>bs,b>as
 | [],_,_,_,_,_,e=>by symm
 | d::ds,_,_,i,d',h,e=>by
  let#[x,r,bs,cs,rfl,rfl,h1,h2]:=h;cases i with
  |zero=>
   let e:d=d':= ~~~e
   subst e;show#[x,bs,by rfl,h1,λb hb=>_ac _ hb]
  |succ i=>
   let#[v,bz,e1,e2,e3]:=RepA.get h2 (~~~e);show#[v,bz,~~~e1,e2,λb hb=>_ab _ (e3 b hb)]
def RepA.len{K}:∀{ds xs as},RepA K H g ds xs as->ds.B=xs.B
 |[],_,_,h=>by rw[h.1];rfl
 |d::ds,_,_,h=>by
  let#[x,r,bs,cs,rfl,rfl,h1,h2]:=h;simp[RepA.len h2]
def items{K}{x:Sl}(ok:x.ok K H)(h:x.d=.S ds\/x.d=.X ds):∃a xs bs,x.v=.I a/\((x.d=.S ds/\LsR K H a xs)\/(x.d=.X ds/\SqT K H a xs))/\RepA K H (x.o != .dp) ds xs bs/\(∀b>bs,b>x.as)/\(x.o≠.dp->∀b>bs,b>x.frz):=by
 let#[o,d,v,as]:=x;let rfl\/rfl:=h
 .cases o with
  |no=>
   let ok:RepL K H true _ v as:=ok;let#[a,xs,bs,rfl,r,q]:=ok;let#[q,rfl]\/#[_,q,rfl]:=q
   .show#[a,xs,bs,rfl,.O #[rfl,.O (.O q)],r,λb hb=>_ad _ hb,λ_ b hb=>_ad _ hb]
   .show#[a,xs,as,rfl,.O #[rfl,.of q],r,λb hb=>hb,λ_ b hb=>hb]
  |rt=>
   let#[a,xs,bs,rfl,r,q,rfl]:=(ok);show#[a,xs,bs,rfl,.O #[rfl,.O (.O q)],r,λb hb=>_ad _ hb,λ_ b hb=>by simpa [Sl.frz]using hb]
  |dp=>
   let ok:RepL K H false _ v as:=ok;let#[a,xs,bs,rfl,r,q]:=ok;let#[q,rfl]\/#[z,_]:=q
   .show#[a,xs,bs,rfl,.O #[rfl,.O (.O q)],r,λb hb=>_ad _ hb,λz=>absurd rfl z]
   .symm
 .cases o with
  |no=>
   let#[a,xs,rfl,q,r]:=ok;show#[a,xs,as,rfl,.h #[rfl,q],r,λb hb=>hb,λ_ b hb=>hb]
  |rt=>show(ok).è
  |dp=>
   let#[a,xs,rfl,q,r]:=ok;show#[a,xs,as,rfl,.h #[rfl,q],r,λb hb=>hb,λz=>absurd rfl z]
def JZ{K}{x:Sl}(ok:x.ok K H)(h:x.d=.S ds\/x.d=.X ds)(hl:qY (x.o,x.d)=true):∃a xs bs,x.v=.I a/\((x.d=.S ds/\LsR K H a xs)\/(x.d=.X ds/\SqT K H a xs))/\RepA K H true ds xs bs/\(∀b>bs,b>x.frz):=by
 let#[a,xs,bs,e,q,r,h1,h2]:=items ok h
 by_cases ho:x.o=.dp
 .let hp:D.pures ds=true:=by
   unfold qY at hl;rw[show(x.o,x.d).1=Own.dp from ho]at hl;let:_dH x.d=ds:=by let h\/h:=h<;>rw[h]<;>rfl
   simpa [this]using hl
  let#[rfl,r']:=RepA.pu (g':=true) r hp;show#[a,xs,[],e,q,r',nofun]
 .let:(x.o != Own.dp)=true:= ~~~ho
  rw[this]at r;show#[a,xs,bs,e,q,r,h2 ho]
end
section
variable {K:Frag}{x y:Sl}
def qJ(ok:x.ok K H)(h:x.d=.E i):x.v=.E i:=by
 let:=RepO.wk ok;rw[h]at this;show this.1
def Vz(ok:x.ok K H)(h:x.d=.bl i):x.v=.bl i:=by
 let:=RepO.wk ok;rw[h]at this;show this.1
def _er(ok:x.ok K H)(h:x.d=.ó):x.v=.ó:=by
 let:=RepO.wk ok;rw[h]at this;show this.1
def zQ(ok:x.ok K H)(h:x.d=.x z):x.v=.x z/\z.B<=sizeLine:=by
 let:=RepO.wk ok;rw[h]at this;show#[this.1,this.2.2]
def wQ:RepL K H g (.E i) (.E i) []:=#[rfl,rfl]
def _es:RepL K H g (.bl i) (.bl i) []:=#[rfl,rfl]
def _et:RepL K H g .ó .ó []:=#[rfl,rfl]
def ZK(h:z.B<=sizeLine):RepL K H g (.x z) (.x z) []:=#[rfl,rfl,h]
def QX:Out K H H #[.dp,.E i,.E i,[]] fr:=_en xj wQ
def x6:Out K H H #[.dp,.bl i,.bl i,[]] fr:=_en xj _es
def _eu(h:z.B<=sizeLine):Out K H H #[.dp,.x z,.x z,[]] fr:=_en xj (ZK h)
#where in
def _ev{g:Int->Int->Int}(h:∀i j k,f i j=@k->C i j/\k=g i j):Ad2 K (rI C λi j=>.E (g i j)) (pu2 (i2 f)):=by
 intro H x y s Q ox oy hf k;unfold pu2 i2 at hf;dsimp only at hf
 split at hf
 .revert i j e1 e2;cases hk:f i j with
  |none=>rw[hk]at hf;cases hf
  |some n=>
   rw[hk]at hf;cases _aa hf;let#[hc,rfl]:=h i j n hk;show#[i,j,qJ ox e1,qJ oy e2,hc,k _ H rfl rfl QX]
 .cases hf
#where in
def _ew:Ad2 K (rI0 λi j=>.bl (g i j)) (pu2 (c2 g)):=by
 intro H x y s Q ox oy hf k;unfold pu2 c2 at hf;dsimp only at hf
 split at hf
 .revert i j e1 e2;cases _aa hf;show#[i,j,qJ ox e1,qJ oy e2,k _ H rfl rfl x6]
 .cases hf
#where in
def _ex:Ad2 K (rI _cK λi j=>.E (i / j)) (pu2 z7):=_ev λi j k h=>by
 split at h
 .revert c;show#[c,(_aa h).à]
 .symm
#where in
def _ey:Ad2 K (rI (λ_ j=>0<j) λi j=>.E (i % j)) (pu2 vx):=_ev λi j k h=>by
 split at h
 .revert c;show#[c,(_aa h).à]
 .symm
#where in
def _ez:Ad2 K (rI _a4 λi j=>.E (i ^ j.M)) (pu2 _dI):=_ev λi j k h=>by
 split at h
 .revert c;show#[c,(_aa h).à]
 .grind
end
def _eA(K:Frag):R2:=λx y H Q=>∃l b xs zs,x=.I l/\y=.I b/\LsR K H l xs/\LsR K H b zs/\xs.B+zs.B<=sizeLine/\∀p,H p=none->Q (.I p) (upd H p (.S (xs++zs)))
def op_catL:OpR X (binaryOp .Add) (_eA X.K):=by
 rintro a8 s σ H x y v u Q I rx ry ⟨l,b,xs,zs,rfl,rfl,hH,hB,hz,q⟩;cases rx;cases ry;let#[z,aa,n,r,e]:=hH.is I;let#[z2,fj,n2,r2,e2]:=hB.is I;let hl:=r.B;let ue:=r2.B;show PySem.P.add_list e e2 ?_ (by rw[Xe,Xe];symm);let ea:aa.G++fj.G=(aa++fj).G:=by simp
 rw[ea];show#[.I _,_,I.lnew (t':=s.toks) (r.append r2) (by rw[Xi];omega),rfl,q _ I.fresh]
def _eB(K:Frag):R2:=λx y H Q=>∃a b ys,x=.I a/\y=.I b/\SqT K H a []/\SqT K H b ys/\Q (.I b) H
def op_catE:OpR X (binaryOp .Add) (_eB X.K):=by
 rintro a8 s σ H x y v u Q I rx ry ⟨a,b,ys,rfl,rfl,ha,hb,q⟩;cases rx;cases ry;let#[aa,r1,p1,_]:=I.tuple ha;let#[fj,r2,p2,_]:=I.tuple hb;let#[#[cls,dd,data,sl],ho,hc,n,hd]:=id p1;let#[#[cls2,dd2,data2,vb],kh,qg,n2,jg]:=id p2;subst hc hd qg jg;let e:=r1.nil_iff.s rfl;subst e;show concat_meets #[_,ho,rfl] #[_,kh,rfl] noFill_tuple_add seq_tuple_add PySem.F.slot_tuple_add PySem.F.entry_tuple_add (PySem.F.args_tuple_add_2 _ _)
   (tuple_addW0 a b [].G fj.G n n2 dd dd2 sl vb (by rfl)) #[ho,kh,#[.I b,H,I,rfl,q]]
def _eC(K:Frag):R2:=λx y H Q=>rI0 (λi j=>.E (i+j)) x y H Q\/(∃i j,x=.x i/\y=.x j/\i.B+j.B<=sizeLine/\Q (.x (i++j)) H)\/_eA K x y H Q\/_eB K x y H Q\/_bI K x y H Q
def _eD{K}(hK:X.K=K):OpR X (binaryOp .Add) (_eC K):=by subst hK;show op_add.or (_Oa.or (op_catL.or (op_catE.or _bJ)))
def RepA.app{K}(h':RepA K H g ds' xs' bz):∀{ds xs as},RepA K H g ds xs as->RepA K H g (ds++ds') (xs++xs') (as++bz)
 |[],_,_,h=>by rw[h.1,h.2];show h'
 |d::ds,_,_,h=>by
  let#[x,r,bs,cs,rfl,rfl,h1,h2]:=h;rw[List.cons_append];show#[x,r++xs',bs,cs++bz,rfl,by rw[Y3],h1,RepA.app h' h2]
def vK(h:H p=none):kJ H (upd H p o):=λb u q=>by rw[qk (JX q h)];show q
def K6{K}(hp:H p=none)(r:RepA K H true ds xs bs)(hb:∀b>bs,b>fr):Out K H (upd H p (.S xs)) #[.rt,.S ds,.I p,p::bs] fr:=by
 show#[vK hp,#[p,xs,bs,rfl,r.kp (Kp.of_same (vK hp)),vQ,rfl],λb hb=>?_,?_,λb gr=>hb b (by simpa [Sl.frz]using gr)]
 .let:b=p:=by simpa [Sl.ë]using hb
  rw[this];show hp
 .simp[Sl.ë]
def _eE{K}(hp:H p=none)(r:RepA K H true ds xs bs)(hb:∀b>bs,b>fr):Out K H (upd H p (.X xs)) #[.r,.X ds,.I p,bs] fr:=by
 show#[vK hp,?_,λb hb=>(nomatch hb),Xy,λb gr=>hb b gr];change RepL K _ true _ _ bs;show#[p,xs,rfl,SqT.of vQ,r.kp (Kp.of_same (vK hp))]
#where in
def _eF{K}:Ad2 K (_eC K) qv:=by
 intro H x y s Q ox oy hf k;unfold qv at hf;dsimp only at hf
 split at hf
 .revert i j e1 e2;cases _aa hf;show .O #[i,j,qJ ox e1,qJ oy e2,k _ H rfl rfl QX]
 .revert i j e1 e2
  split at hf
  .revert hl;cases _aa hf;let hl':(i++j).B<=sizeLine:=by rw[strLen_append];show hl
   show .h (.O #[i,j,(zQ ox e1).1,(zQ oy e2).1,hl,k _ H rfl rfl (_eu hl')])
  .cases hf
 .revert i j e1 e2
  split at hf
  .revert hl;cases _aa hf;let#[a,xs,bs,e3,q3,r3,h3]:=JZ ox (.O e1) hl.2.1;let#[b,ys,cs,e4,q4,r4,h4]:=JZ oy (.O e2) hl.2.2;let q3:LsR K H a xs:=by let#[_,z]\/#[z,_]:=q3;show z;rw[e1]at z;cases z
   let q4:LsR K H b ys:=by let#[_,z]\/#[z,_]:=q4;show z;rw[e2]at z;cases z
   show .h (.h (.O #[a,b,xs,ys,e3,e4,q3,q4,by rw[<-r3.len,<-r4.len];show hl.1,λp hp=>(k _ _ rfl rfl (K6 hp (r4.app r3) λb hb=>(aA hb).è (λz=>_ac _ (h3 b z)) λz=>_ab _ (h4 b z)))]))
  .cases hf
 .revert i j e1 e2
  split at hf
  .revert hl;cases _aa hf;let#[a,xs,bs,e3,q3,r3,h3]:=JZ ox (.h e1) hl.2.1;let#[b,ys,cs,e4,q4,r4,h4]:=JZ oy (.h e2) hl.2.2;let q3:SqT K H a xs:=by let#[z,_]\/#[_,z]:=q3;rw[e1]at z;cases z;show z
   let q4:SqT K H b ys:=by let#[z,_]\/#[_,z]:=q4;rw[e2]at z;cases z;show z
   let ap:=r4.app r3;let uo:=λb hb=>(aA hb).è (λz=>_ac _ (h3 b z)) λz=>_ab _ (h4 b z)
   let same:∀c zs,zs=xs++ys->SqT K H c zs->Q (.I c) H:=λc zs e hq=>by
    show k #[.r,.X _,.I c,bs++cs] H rfl rfl #[xj,?_,λb hb=>(nomatch hb),Xy,uo];change RepL K H true _ _ _;show#[c,zs,rfl,hq,by rw[e];show ap]
   by_cases hx:xs=[]
   .subst hx;show .h (.h (.h (.O #[a,b,ys,e3,e4,q3,q4,same b ys rfl q4])))
   .show .h (.h (.h (.h #[a,b,xs,ys,e3,e4,q3,q4,hx,by rw[<-r3.len,<-r4.len];show hl.1,λhy=>?_,λhy p hp=>?_])))
    .show same a xs (by rw[hy,Xx]) q3
    .show k _ _ rfl rfl (_eE hp ap uo)
  .cases hf
 .cases hf
noncomputable def tT(Z:Fx0)(q:Bool)(c:Ts):TT:=fun σ H Q=>∃E L r,Mt E σ L/\World Z.K H L/\c E=@r/\Xc Z σ H L r /\
 ∀E' k,r=.ok E' k->∀L' H',Mt E' σ L'->World Z.K H' L'->Step H L H' L'->(q=true->kJ H H')->Q k H'
def QT(X:Cx)(Z:Fx0)(q:Bool)(c:Ts)(e:Expr):Prop:=PT X e (tT Z q c)
def QW(X:Cx)(Z:Fx0)(q:Bool)(c:Ts)(e:Expr):Prop:=PW X e (tT Z q c)
section
def _eG(h:PW X e t)(w:∀ σ H Q,t' σ H Q->t σ H Q):PW X e t':=λwh a8 s σ H Q I q=>h wh a8 s σ H Q I (w σ H Q q)
def _eH(m:Mt E σ L)(w:World Z.K H L)(h:bnd (u E) F=@r)(xc:Xc Z σ H L r)
  (k:∀E1 s,F E1 s=@r->∀L1 H1,Mt E1 σ L1->World Z.K H1 L1->Step H L H1 L1->(q=true->kJ H H1)->G s H1):tT Z q u σ H G:=by
 let#[E1,s,h1,h2]\/#[E1,c,h1,h2]:=wq h
 .show#[E,L,_,m,w,h1,(λ_ _ z=>by cases z),λE' s' z L' H' m' w' st sm=>by
   injection z with z1 z2;subst z1 z2;show k _ _ h2 L' H' m' w' st sm]
 .show#[E,L,_,m,w,h1,xc.C h2,λE' s' z=>by cases z]
def Wz(ha:QT X Z q u ea):QW X Z q u (.BoolOp .Or [ea] pos):=_aA ha
def Kv(ha:QT X Z q u ea)(hb:QW X Z q v (.BoolOp .Or (eb::es) pos)):QW X Z q (Q.tOr u v) (.BoolOp .Or (ea::eb::es) pos):=
 _eG (_aB ha hb) fun σ H Q ai=>ex8 ai λE L r m w hc xc k=>_eH m w hc xc λE1 s h1 L1 H1 m1 w1 st sm=>by
  cases s with
  |false=>
   show#[E1,L1,r,m1,w1,h1,xc.step st,λE' k' z L' H' m' w' fm uj=>k E' k' z L' H' m' w' (st.J fm) λhq=>kQ (sm hq) (uj hq)]
  |true=>grind
def QW.pt(h:QW X Z q u e):QT X Z q u e:=PW.pt h
def xx(ha:QT X Z q u ea):QT X Z q (Q.tNot u) (.UnaryOp .Not ea pos):=
 _ef (_aC ha) fun σ H Q ai=>ex8 ai λE L r m w hc xc k=>_eH m w hc xc λE1 s h1 L1 H1 m1 w1 st sm=>by
  cases _aa h1;show k _ _ rfl L1 H1 m1 w1 st sm
def wx(ho:OpR X (compareOp op) r)(ad:Ad2 Z.K r f)(ha:QV X Z qa a ea)(hb:QV X Z true b eb)(hm:behindInMarks op eb=false)(hf:∀x y s,f x y=@s->∃k,s.2=.bl k):QT X Z qa (Q.tE (cF2 f a b)) (.Compare ea [op] [eb] pos):=
 _ef (_bf ho ha hb hm) fun σ H Q ai=>ex8 ai λE L r m w hc xc k=>by
  show _ep ad ?_;let#[E1,s,h1,h2]\/#[E1,c,h1,h2]:=wq hc
  .show#[E,L,_,m,w,h1,(λ_ _ z=>by cases z),λE' s' z x L' H' e1 e2 m' w' st sm=>?_];injection z with z1 z2;subst z1 z2;obtain⟨kk,hk⟩:∃k,s.2=.bl k:=by
    let#[E2,s2,h3,h4]\/#[_,_,_,z]:=wq h1
    .let#[E3,s3,h5,h6]\/#[_,_,_,z]:=wq h4
     .let#[y,hy,z]:=xw h6;cases z;show hf _ _ _ hy
     .cases z
    .cases z
   rw[hk]at h2;cases _aa h2;show#[kk,Vz w'.head (e2.J hk),k _ _ rfl L' H' m' w'.tail (st.J Step.ý) λhq=>(sm hq).1]
  .show#[E,L,_,m,w,h1,xc.C h2,λE' s' z=>by cases z]
end
def Pn(pn:List Nat)(σ σ':L2.St):Prop:=∀p>pn,σ'[p]?=σ[p]?
def Pn.ò:Pn pn σ σ:=λ_ _=>rfl
def Pn.J(a:Pn pn σ σ1)(b:Pn pn σ1 σ2):Pn pn σ σ2:=λp hp=>(b p hp).J (a p hp)
def Pn.ç(a:Pn pn σ σ1)(h:i∉pn):Pn pn σ (σ1.ç i y):=λp hp=>by
 let:i≠p:=λe=>h (e▸hp)
 rw[Zb this];show a p hp
def FlP(Z:Fx0)(pn:List Nat)(D:Ends)(σ:L2.St)(H:Hp)(L:Ls):Fl->Prop
 |.nx E'=>∀ σ' L' H',Pn pn σ σ'->Mt E' σ' L'->World Z.K H' L'->Step H L H' L'->D.nx σ' H'|.ct E'=>∀ σ' L' H',Pn pn σ σ'->Mt E' σ' L'->World Z.K H' L'->Step H L H' L'->D.ct σ' H'|.bk E'=>∀ σ' L' H',Pn pn σ σ'->Mt E' σ' L'->World Z.K H' L'->Step H L H' L'->D.bk σ' H'|.rt E' a=>∀(x:Sl) σ' L' H',x.o=a.1->x.d=a.2->Pn pn σ σ'->Mt E' σ' L'->World Z.K H' (@x::L')->Step H L H' (@x::L')->D.rt x.v H'|.xc E' c=>∀C σ' L' H',Z.mg c=@(.I C)->Pn pn σ σ'->Mt E' σ' L'->World Z.K H' L'->Step H L H' L'->Z.EX (.I C) none H'
def FlP.step{Z pn D σ σ1 H H1 L L1 r}(k:FlP Z pn D σ H L r)(s:Step H L H1 L1)(p:Pn pn σ σ1):FlP Z pn D σ1 H1 L1 r:=by
 cases r with|nx E'=>show fun σ' L' H' p' m w s'=>k σ' L' H' (p.J p') m w (s.J s')|ct E'=>show fun σ' L' H' p' m w s'=>k σ' L' H' (p.J p') m w (s.J s')|bk E'=>show fun σ' L' H' p' m w s'=>k σ' L' H' (p.J p') m w (s.J s')|rt E' a=>show λx σ' L' H' e1 e2 p' m w s'=>k x σ' L' H' e1 e2 (p.J p') m w (s.J s')|xc E' c=>show λC σ' L' H' hm p' m w s'=>k C σ' L' H' hm (p.J p') m w (s.J s')
def FlP.xc{D}(k:FlP Z pn D σ H L (.xc E' c)):Xc Z σ H L (.exc E' c:Res α):=λE1 c1 e C L' H' hm m w s=>by
 injection e with h1 h2;subst h1 h2;show k C σ L' H' hm Pn.ò m w s
def tS(Z:Fx0)(pn:List Nat)(c:Sm):TS:=λD σ H=>∃E L r,Mt E σ L/\World Z.K H L/\c E=@r/\FlP Z pn D σ H L r
def QS(X:Cx)(Z:Fx0)(pn:List Nat)(c:Sm)(st:Stmt):Prop:=PS X st (tS Z pn c)
def QSs(X:Cx)(Z:Fx0)(pn:List Nat)(c:Sm)(st:List Stmt):Prop:=PSs X st (tS Z pn c)
section
variable {X:Cx}{Z:Fx0}{pn:List Nat}{q qa qb:Bool}{a b c:Ex}{u v:Ts}{A B:Sm}{st:Stmt}{σ:L2.St}{H:Hp}{L:Ls}{E:En}{D:Ends}
def _eI(h:ofE m F=@r):(∃E1 x,m=@(.ok E1 x)/\F E1 x=@r)\/∃E1 c,m=@(.exc E1 c)/\r=.xc E1 c:=by
 cases m with
 |none=>cases h
 |some q=>
  cases q with|ok E1 x=>show .O #[E1,x,rfl,h]|exc E1 c=>show .h #[E1,c,rfl,(_aa h).à]
def KJ(m:Mt E σ L)(w:World Z.K H L)(h:ofE (a E) F=@r)(k:FlP Z pn D σ H L r)
  (g:∀E1 s,F E1 s=@r->∀x L1 H1,x.o=s.1->x.d=s.2->Mt E1 σ L1->World Z.K H1 (@x::L1)->Step H L H1 (@x::L1)->(q=true->kJ H H1/\∀b>x.ë,H b=none)->G x.v H1):tQ Z q a σ H G:=by
 let#[E1,s,h1,h2]\/#[E1,c,h1,rfl]:=_eI h
 .show#[E,L,_,m,w,h1,(λ_ _ z=>by cases z),λE' s' z x L' H' e1 e2 m' w' st sm=>by
   injection z with z1 z2;subst z1 z2;show g _ _ h2 x L' H' e1 e2 m' w' st sm]
 .show#[E,L,_,m,w,h1,k.xc,λE' s' z=>by cases z]
def _eJ(m:Mt E σ L)(w:World Z.K H L)(h:ofE (u E) F=@r)(k:FlP Z pn D σ H L r)
  (g:∀E1 s,F E1 s=@r->∀L1 H1,Mt E1 σ L1->World Z.K H1 L1->Step H L H1 L1->G s H1):tT Z q u σ H G:=by
 let#[E1,s,h1,h2]\/#[E1,c,h1,rfl]:=_eI h
 .show#[E,L,_,m,w,h1,(λ_ _ z=>by cases z),λE' s' z L' H' m' w' st sm=>by
   injection z with z1 z2;subst z1 z2;show g _ _ h2 L' H' m' w' st]
 .show#[E,L,_,m,w,h1,k.xc,λE' s' z=>by cases z]
def _eK:QSs X Z pn qz []:=_eg _aG λD σ H ai=>ex7 ai λE L r m w hc k=>by
 cases _aa hc;show k σ L H Pn.ò m w Step.ò
def j7(h1:QS X Z pn A st)(h2:QSs X Z pn B ss):QSs X Z pn (j6 A B) (st::ss):=_eg (_aH h1 h2) λD σ H ai=>ex7 ai λE L r m w hc k=>by
 unfold j6 at hc;cases ha:A E with
 |none=>rw[ha]at hc;cases hc
 |some f=>
  rw[ha]at hc;cases f with|nx E1=>show#[E,L,_,m,w,ha,fun σ' L' H' p m' w' s=>#[E1,L',r,m',w',hc,k.step s p]]|ct E1=>cases _aa hc;show#[E,L,_,m,w,ha,k]|bk E1=>cases _aa hc;show#[E,L,_,m,w,ha,k]|rt E1 x=>cases _aa hc;show#[E,L,_,m,w,ha,k]|xc E1 x=>cases _aa hc;show#[E,L,_,m,w,ha,k]
def kX(h1:QS X Z pn A st):QSs X Z pn A [st]:=_aI h1
def _eL(h:QE X Z q a ea):QS X Z pn (jz a) (.Return @ea pos):=zV (_aK h) λD σ H ai=>ex7 ai λE L r m w hc k=>
 KJ m w hc k λE1 s h1 x L1 H1 e1 e2 m1 w1 st _=>by
  cases _aa h1;show k x σ L1 H1 e1 e2 Pn.ò m1 w1 st
def _eM(hc:QT X Z q u e)(ha:QSs X Z pn A ss)(hb:QSs X Z pn B tt):QS X Z pn (sIf u A B) (.If e ss tt pos):=zV (_aL hc ha hb) λD σ H ai=>ex7 ai λE L r m w hc k=>
 _eJ m w hc k λE1 s h1 L1 H1 m1 w1 st=>by
  cases s with|true=>rw[X7 rfl]at h1 ⊢;show#[E1,L1,r,m1,w1,h1,k.step st Pn.ò]|false=>rw[Xd .q]at h1 ⊢;show#[E1,L1,r,m1,w1,h1,k.step st Pn.ò]
def _eN(m:Mt E σ L)(e1:x.o=s.1)(e2:x.d=s.2):Mt (E.ç i @s) (σ.ç i @x.v) (L.ç i @x):=by
 let:=m.ç (x:=x) i;rw[e1,e2]at this;show this
def _eO(hN:X.N.V)(hi:X.N[i]?=@y)(hx:Loc X.Y.ú y)(h:QE X Z q a ea)(hp:i∉pn<|>ŕ)(hs:swapsWith ea @(.é y da) pos.line X.Y=pure false<|>Ŕ)(hf:X.fn y=true\/X.Y.ú.ð.U y=@.local<|>Ř):
  QS X Z pn (jv i a) (.Assign [.é y da] ea pos):=zV (_aO hN hi hx h hs hf) λD σ H ai=>ex7 ai λE L r m w hc k=>
 KJ m w hc k λE1 s h1 x L1 H1 e1 e2 m1 w1 st _=>by
  cases _aa h1;show k _ _ H1 (Pn.ò.ç hp) (_eN m1 e1 e2) w1.ç (st.J Step.ç)
def _eP(hp:i∉pn)(h:PS X (.Assign [.é y da] ea pos) (λD σ H=>tQ Z q a σ H λv H1=>D.nx (σ.ç i @v) H1)):
  QS X Z pn (jv i a) (.Assign [.é y da] ea pos):=zV h λD σ H ai=>ex7 ai λE L r m w hc k=>
 KJ m w hc k λE1 s h1 x L1 H1 e1 e2 m1 w1 st _=>by
  cases _aa h1;show k _ _ H1 (Pn.ò.ç hp) (_eN m1 e1 e2) w1.ç (st.J Step.ç)
def _eQ(hp:PassesOwn (model X.î X.w) X.A X.Y X.xe)(hc:QT X Z q u e)(hb:QSs X Z pn B ss):QS X Z pn (zY u B) (.While e ss [] pos):=zV (_aR hp hc hb) λD σ H ai=>ex7 ai λE L r m w hr k=>by
 let#[n0,hn]:=_dL hr;show#[λn σ1 H1=>∃E1 L1,Mt E1 σ1 L1/\World Z.K H1 L1/\whN u B n E1=@r/\Step H L H1 L1/\Pn pn σ σ1,#[n0,E,L,m,w,hn,Step.ò,Pn.ò],?_];rintro n σ1 H1 ⟨E1,L1,m1,w1,h1,jt,p1⟩;cases n with
 | zero=>cases h1
 | succ n=>
  let k1:=k.step jt p1;unfold whN whF at h1;cases ht:u E1 with
  | none=>rw[ht]at h1;cases h1
  | some f=>
   rw [ht]at h1;cases f with
   | exc E2 c=>
    cases _aa h1;show#[E1,L1,_,m1,w1,ht,k1.xc,λE' s' z=>by cases z]
   | ok E2 kk=>
    show#[E1,L1,_,m1,w1,ht,(λ_ _ z=>by cases z),λE' s' z L' H' m' w' st sm=>?_];injection z with z1 z2;subst z1 z2;cases kk with
    | false=>
     rw[Xd .q];cases _aa h1;show k1 σ1 L' H' Pn.ò m' w' st
    | true=>
     rw[X7 rfl];dsimp only at h1;show#[fun σ2 H2=>∃E2 L2,Mt E2 σ2 L2/\World Z.K H2 L2/\whN u B n E2=@r/\Step H L H2 L2/\Pn pn σ σ2,fun σ2 H2 h2=>#[n,by omega,h2],?_];cases hB:B E2 with
     |none=>rw[hB]at h1;cases h1
     |some g=>
      rw[hB]at h1;let k2:=k1.step st Pn.ò;show#[E2,L',g,m',w',hB,?_];cases g with|nx E3=>show fun σ3 L3 H3 p3 m3 w3 s3=>#[E3,L3,m3,w3,h1,jt.J (st.J s3),p1.J p3]|ct E3=>show fun σ3 L3 H3 p3 m3 w3 s3=>#[E3,L3,m3,w3,h1,jt.J (st.J s3),p1.J p3]|bk E3=>cases _aa h1;show k2|rt E3 x=>cases _aa h1;show k2|xc E3 c=>cases _aa h1;show k2
end
structure Walks (K:Frag)(J:It)(T:List Sl)(ds:List D):Prop where
 no:∀t>T,t.o=.r
 go:∀i H,(∀t>T,t.ok K H)->i<ds.B->J.go i H
 stop:∀H,(∀t>T,t.ok K H)->J.stop ds.B H
 yld:∀i H v H' d,(∀t>T,t.ok K H)->J.yld i H v H'->ds[i]?=@d->∃z:Sl,z.o=.r/\z.d=d/\z.v=v/\kJ H H'/\z.ok K H'/\∀b>z.as,∃t>T,b>t.as
def tI(Z:Fx0)(q:Bool)(it:Ev (List D)):TI:=fun σ H R=>∃E L r,Mt E σ L/\World Z.K H L/\it E=@r/\Xc Z σ H L r /\
 ∀E' ds,r=.ok E' ds->∀J T L' H',Mt E' σ L'->World Z.K H' (L'++T.C some)->Step H L H' (L'++T.C some)->ds.B<=sizeLine->(q=true->kJ H H')->Walks Z.K J T ds->R J H'
def QI(X:Cx)(Z:Fx0)(q:Bool)(tg:Expr)(it:Ev (List D))(e:Expr):Prop:=PI X tg e (tI Z q it)
def _eR(K:Frag)(H0:Hp)(T:List Sl)(H:Hp):Prop:=(∀t>T,t.ok K H)/\∀t>T,Kp H0 H t.as
structure WalksD (K:Frag)(H0:Hp)(J:It)(T:List Sl)(ds:List D):Prop where
 no:∀t>T,t.o=.r
 go:∀i H,_eR K H0 T H->i<ds.B->J.go i H
 stop:∀H,_eR K H0 T H->J.stop ds.B H
 yld:∀i H v H' d,_eR K H0 T H->J.yld i H v H'->ds[i]?=@d->∃z:Sl,z.o=.r/\z.d=d/\z.v=v/\kJ H H'/\z.ok K H'/\∀b>z.as,∃t>T,b>t.as
def Walks.D{K}(h:Walks K J T ds):WalksD K H0 J T ds:=#[h.r,λi H o=>h.go i H o.1,λH o=>h.stop H o.1,λi H v H' d o=>h.yld i H v H' d o.1]
def tID(Z:Fx0)(q:Bool)(it:Ev (List D)):TI:=fun σ H R=>∃E L r,Mt E σ L/\World Z.K H L/\it E=@r/\Xc Z σ H L r /\
 ∀E' ds,r=.ok E' ds->∀J T L' H',Mt E' σ L'->World Z.K H' (L'++T.C some)->Step H L H' (L'++T.C some)->ds.B<=sizeLine->(q=true->kJ H H')->WalksD Z.K H' J T ds->R J H'
def QID(X:Cx)(Z:Fx0)(q:Bool)(tg:Expr)(it:Ev (List D))(e:Expr):Prop:=PI X tg e (tID Z q it)
def QI.D(h:QI X Z q tg it e):QID X Z q tg it e:=λa8 s σ H R I hz=>h a8 s σ H R I (by
 let#[E,L,r,m,w,e,x,k]:=hz;show#[E,L,r,m,w,e,x,λE' ds z J T L' H' m' w' st hl sm wk=>k E' ds z J T L' H' m' w' st hl sm wk.D])
structure WalksS (K:Frag)(q:Bool)(H0:Hp)(J:It)(T:List Sl)(ds:List D):Prop where
 no:∀t>T,t.o=.r
 go:∀i H,(∀t>T,t.ok K H)->(q=true->kJ H0 H)->i<ds.B->J.go i H
 stop:∀H,(∀t>T,t.ok K H)->(q=true->kJ H0 H)->J.stop ds.B H
 yld:∀i H v H' d,(∀t>T,t.ok K H)->(q=true->kJ H0 H)->J.yld i H v H'->ds[i]?=@d->∃z:Sl,z.o=.r/\z.d=d/\z.v=v/\kJ H H'/\z.ok K H'/\∀b>z.as,∃t>T,b>t.as
def _eS{K}(h:Walks K J T ds):WalksS K q H0 J T ds:=#[h.r,λi H o _=>h.go i H o,λH o _=>h.stop H o,λi H v H' d o _=>h.yld i H v H' d o]
def tIS(Z:Fx0)(q:Bool)(it:Ev (List D)):TI:=fun σ H R=>∃E L r,Mt E σ L/\World Z.K H L/\it E=@r/\Xc Z σ H L r /\
 ∀E' ds,r=.ok E' ds->∀J T L' H',Mt E' σ L'->World Z.K H' (L'++T.C some)->Step H L H' (L'++T.C some)->ds.B<=sizeLine->(q=true->kJ H H')->WalksS Z.K q H J T ds->R J H'
def QIS(X:Cx)(Z:Fx0)(q:Bool)(tg:Expr)(it:Ev (List D))(e:Expr):Prop:=PI X tg e (tIS Z q it)
def _eT(h:QI X Z q tg it e):QIS X Z q tg it e:=λa8 s σ H R I hz=>h a8 s σ H R I (by
 let#[E,L,r,m,w,e,x,k]:=hz;show#[E,L,r,m,w,e,x,λE' ds z J T L' H' m' w' st hl sm wk=>k E' ds z J T L' H' m' w' st hl sm (_eS wk)])
def tG(Z:Fx0)(pn:List Nat)(tg:Tg):TG:=λv σ H Q=>∃(E:En) (L:Ls) (z:Sl) (E':En),Mt E σ L/\World Z.K H (@z::L)/\z.o=.r/\z.v=v/\tg.put z.d E=@E' /\
 ∀ σ' L',Pn pn σ σ'->Mt E' σ' L'->World Z.K H L'->Step H (@z::L) H L'->Q σ' H
def QG(X:Cx)(Z:Fx0)(pn:List Nat)(tg:Tg)(e:Expr):Prop:=PG X e (tG Z pn tg)
section
variable {Z:Fx0}
def _eU(h:PG X e t)(w:∀v σ H Q,t' v σ H Q->t v σ H Q):PG X e t':=λa8 s σ H x v Q I r q=>h a8 s σ H x v Q I r (w x σ H Q q)
def zw(h:PG X e (vvb i))(hp:i∉pn<|>ŕ):QG X Z pn (.n i) e:=_eU h λv σ H Q hz=>by
 let#[E,L,z,E',m,w,ho,hv,cp,k]:=hz;cases _aa cp;rw[<-hv];show k _ _ (Pn.ò.ç hp) (_eN m ho rfl) w.ç Step.ç
def gNs:List Nat->TGs
 |[]=>zk6|i::is=>xqp (vvb i) (gNs is)
def _eV:∀{is ds xs bs E L σ E'},Mt E σ L->World Z.K H L->RepA Z.K H true ds xs bs->(∀b>bs,b∉jk L)->(∀b>bs,b>k6 M)->Step H M H L->Pn pn σ0 σ ->
  setAll is ds E=@E'->(∀i>is,i∉pn)->(∀ σ' L',Pn pn σ0 σ'->Mt E' σ' L'->World Z.K H L'->Step H M H L'->Q σ' H)->gNs is xs σ H Q
 | [],[],xs,bs,E,L,σ,E',m,w,r,_,_,st,p,e,_,k=>by
  cases _aa e;show#[r.1,k σ L p m w st]
 | [],_::_,_,_,_,_,_,_,_,_,_,_,_,_,_,e,_,_=>by cases e| _::_,[],_,_,_,_,_,_,_,_,_,_,_,_,_,e,_,_=>by cases e
 | i::is,d::ds,xs,bs,E,L,σ,E',m,w,r,hb,hf,st,p,e,hi,k=>by
  let#[x,rr,cs,es,rfl,rfl,h1,h2]:=r;let s1:Step H M H (L.ç i @#[.r,d,x,cs]):=by
   show#[λ_ _ h _=>h,λa ha=>?_,λa ha=>?_]
   .let z\/z:=_d0 ha
    .show nomatch z
    .show st.ë a z
   .let z\/z:=_d1 ha
    .show .O (hf a (_ac _ z))
    .show st.frz a z
  show#[x,rr,rfl,_eV (_eN (x:=#[.r,d,x,cs]) m rfl rfl) (w.consNo (x:=#[.r,d,x,cs]) h1 rfl λb gr=>hb b (_ac _ gr)).ç h2 (λb gr ho=>by
   let z\/z:=_d0 ho
   .show nomatch z
   .show hb b (_ab _ gr) z) (λb gr=>hf b (_ab _ gr)) s1 (p.ç (hi i X3)) e (λj hj=>hi j (_ad _ hj)) k]
def _eW:∀{is ds E E'},setAll is ds E=@E'->is.B=ds.B
 |[],[],_,_,_=>rfl|i::is,d::ds,E,E',e=>by rw[Xn,Xn,_eW (E:=E.ç i _) e]
def _eX(K:Frag)(n:Nat)(t:TGs):TG:=λv σ H Q=>∃a xs,v=.I a/\(SqT K H a xs\/SqL K H a xs)/\xs.B=n/\t xs σ H Q
section
def _eY{items}(bc:t≠it):∀n i (s) (Q),s.H.IsListIter it t i->s.H.IsList t items->i+n<=items.L ->
  (∀h',h'.IsListIter it t (i+n)->Heap.SameBut it s.H h'->Q ((items.R.ý i).take n) {s with heap:=h' })->wpAny (model prog w) A (draw (.I it) n) Q E' s
 | 0,i,s,Q,fv,_,_,hQ=>by
  show X4 (~~~(hQ s.H fv (Heap.SameBut.ò ..)))
 | n+1,i,s,Q,fv,ht,ij,hQ=>by
  let bf:i<items.L:=by omega
  show X0 (wpAny_pyNext_list_item fv ht (x:=items[i]) (by simp) λh₁ sx wf=>?_);let ht₁:h₁.IsList t items:=by
   let#[o,ho,r]:=ht;show#[o,(wf.2 t bc).J ho,r]
  show X0 (Yd (_eY bc n _ _ _ sx ht₁ (by omega) λh₂ hit₂ hs₂=>X4 ?_));let hd:items.R.ý i=items[i]::items.R.ý (i+1):=by simp[Z8,bf]
  let:=hQ h₂ .q (wf.J hs₂)
  symm
def _eZ{t items}(hh:A.õ=none)(ht:s.H.IsList t items)
  (hQ:∀h',Heap.ExtBut ↥s s.H h'->Q items.R {s with heap:=h' }):wpAny (model prog w) A (unpackItems (.I t) items.L none) Q E' s:=by
 let bf:t≠↥s:=by let#[o,ho,_]:=ht;show Xl (Xh ho)
 show X0 (X0 (Yx ht.typeIs slot_list_iter.U (X4 (X0 (Yd (Zf ht ?_))))));let ht0:∀o,(s.H.í o).IsList t items:=λo=>by
  let#[ob,ho,r]:=ht;show#[ob,X2 _ ho,r]
 show X0 (Yd (_eY bf items.L 0 _ _ #[_,X9 _ rfl,rfl,rfl] (ht0 _) (by simp) λh₁ sx wf=>?_));let ny:List.take items.L (List.ý 0 items.R)=items.R:=by
  rw[List.drop_zero];show List.take_of_length_le (by simp)
 rw[ny,Xd (by simp)];let ht₁:h₁.IsList t items:=by
  let#[o,ho,r]:=ht0 _;show#[o,(wf.2 t bf).J ho,r]
 show X0 (Yd (wpAny_pyNext_list_end hh sx ht₁ (by simp) λh₂ he₂=>(X4 (hQ h₂ λb o hb e=>he₂ b o hb (wf.extBut b o hb (X2 _ e))))))
def _e0{items}(hh:A.õ=none)(ht:s.H.IsList t items)
  (hn:(assignEach elts env).B=items.L) (yi:(assignEach elts env).findIdx? (·.1)=none)
  (h:∀h',Heap.ExtBut ↥s s.H h'->wpAny (model prog w) A (assignInOrder ((assignEach elts env).C (·.2)) items.R) Q E' {s with heap:=h' }):
  wpAny (model prog w) A (assign (.Tuple elts x1 pos) env (.I t)) Q E' s:=by
 show X0 (wpAny_standAt ?_);ext unpack;rw[hn,yi];show X0 (Yd (_eZ hh ht h))
end
def Q1 K (h:PGs X es t)(hc:X.calm=true<|>Ŕ)(hK:X.K=K<|>Ŕ)
  (hn:(assignEach es X.Y).B=n<|>Ŕ) (av:(assignEach es X.Y).findIdx? (·.1)=none<|>Ŕ):PG X (.Tuple es k pos) (_eX K n t):=by
 subst hK;rintro a8 s σ H v u Q I r ⟨a,xs,e1,hq,hl,hw⟩;subst e1;cases r;let hq\/hq:=hq
 .let#[aa,rv,ht,hz]:=I.tuple hq;show assign_Tuple_tuple (I.ok.hd hc) ht (by simp[hn,<-hl,rv.B]) av λh' hx=>?_
  let I1:L2.Inv X a8 σ H {s with heap:=h' }:=I.kept (t':=s.toks) λb o e=>hx b o (Xl (Xh e)) e
  show h a8 _ σ H xs _ Q I1 (by symm) hw
 .let#[aa,rv,ht,hz]:=I.list hq;show _e0 (I.ok.hd hc) ht.isList (by simp[hn,<-hl,rv.B]) av λh' hx=>?_
  let I1:L2.Inv X a8 σ H {s with heap:=h' }:=I.kept (t':=s.toks) λb o e=>hx b o (Xl (Xh e)) e
  show h a8 _ σ H xs _ Q I1 (~~~rv) hw
noncomputable def Qq(h:PG X e (_eX Z.K is.B (gNs is)))(hp:(∀i>is,i∉pn)<|>ŕ):QG X Z pn (.t is) e:=_eU h λv σ H Q hz=>by
 let#[E,L,z,E',m,w,ho,hv,cp,k]:=hz;let fin:∀ds,_->setAll is ds E=@E'->_eX Z.K is.B (gNs is) v σ H Q:=λds hd cp=>by
  let#[a,xs,bs,e1,q1,r,h1,h2]:=items w.head hd;rw[ho]at r;show#[a,xs,hv.à.J e1,?_,by rw[_eW cp,r.len],_eV m w.tail r (λb hb=>w.apart b (h1 b hb)) (λb hb=>?_) Step.ý Pn.ò cp hp k]
  .let#[_,z']\/#[_,z']:=q1
   .show .h z'.sq
   .show .O z'
  .rw[vW,_ej ho];show _ac _ (h1 b hb)
 cases hd:z.d with|tup ds=>rw[hd]at cp;show fin ds (.h hd) cp|lst ds=>rw[hd]at cp;show fin ds (.O hd) cp|_=>rw[hd]at cp;cases cp
def _e1(h:QE X Z q c ea)(hg:QG X Z pn (.t is) tg)(hs:swapsWithSole [tg] ea pos.line X.Y=pure false<|>Ŕ)(hw:swappedStores [tg] ea X.Y=pure none<|>Ŕ)(h1:(assignEach [tg] X.Y).C (·.2)=[assign tg X.Y]<|>Ŕ):
  QS X Z pn (_dK is c) (.Assign [tg] ea pos):=zV (_aN h hg hs hw h1) λD σ H ai=>ex7 ai λE L r m w hc k=>
 KJ m w (hc) k λE1 s h1 x L1 H1 e1 e2 m1 w1 st _=>by
  cases hp:Tg.put _ s.2 E1 with
  |none=>rw[hp]at h1;cases h1
  |some E2=>
   rw[hp]at h1;cases _aa h1;show#[E1,L1,x.let,E2,m1,(w1.tail.consNo (JJ w1.head) rfl λb hb=>w1.apart b hb),rfl,rfl,by rw[show x.let.d=s.2 from e2];show hp,fun σ' L' p m' w' s'=>k σ' L' H1 p m' w' ((JW (x:=x.let) (st.J Step.ý) (_eh (x:=x) st) rfl).J s')]
end
section
def _e2{K}{T:List Sl}(w:World K H1 (L1++T.C some))(hT:∀t>T,t.o=.r)(sm:kJ H1 H2)(ok:z.ok K H2)(ho:z.o=.r)(hz:∀b>z.as,∃t>T,b>t.as):
  World K H2 ((@z::L1)++T.C some)/\Step H1 (L1++T.C some) H2 ((@z::L1)++T.C some):=by
 let w2:World K H2 _:=#[λx hx=>RepO.kp (w.ok x hx) (Kp.of_same sm),w.nd,w.ds];let hf:∀b>z.as,b>k6 (L1++T.C some):=λb hb=>by
  let#[t,ht,hbt]:=hz b hb;rw[qK];show _ab _ (mem_frozen.s #[t,Yc ht,by rw[_ej (hT t ht)];show hbt])
 show#[w2.consNo ok ho λb hb hL=>w2.ds b hL (hf b hb),λa ob h _=>sm a ob h,λa ha=>?_,λa ha=>?_]
 .rw[List.cons_append,jK,_ei ho]at ha;show .O ha
 .rw[List.cons_append,vW,_ej ho]at ha;let q\/q:=aA ha
  .show .O (hf a q)
  .show .O q
def stay{K}(w:World K H1 (L1++T))(s:Step H1 L1 H2 L2)(w2:World K H2 L2):World K H2 (L2++T)/\Step H1 (L1++T) H2 (L2++T):=#[s.frame w w2 w.left,s.frm]
def Step.dropT:Step H1 (L1++T) H1 L1:=#[λ_ _ h _=>h,λa ha=>.O (by rw[k7];show _ac _ ha),λa ha=>.O (by rw[qK];show _ac _ ha)]
def Kp.J(a:Kp H H1 as)(b:Kp H1 H2 as):Kp H H2 as:=#[λc xs e=>b.1 c xs (a.1 c xs e),λc o u e=>b.2.1 c o u (a.2.1 c o u e),λc hc ob e=>b.2.2 c hc ob (a.2.2 c hc ob e)]
def _e3{K}{T:List Sl}(w:World K H2 (L2++T.C some))(hT:∀t>T,t.o=.r)(s:Step H2 L2 H3 L3)(h:∀t>T,Kp H0 H2 t.as):∀t>T,Kp H0 H3 t.as:=λt ht=>
 (h t ht).J (s.kp w.left λb hb z=>w.ds b (by rw[k7];show _ac _ z) (by
  rw[qK];show _ab _ (mem_frozen.s #[t,Yc ht,by rw[_ej (hT t ht)];show hb])))
structure FoC (Z:Fx0)(t:Tg)(B:Sm)(pn:List Nat)(H:Hp)(L:Ls)(T:List Sl)(H0:Hp)(σ:L2.St)(r:Fl)(ds:List Q.D)(E1:En)(L1:Ls)(j:Nat)(σ1:L2.St)(H1:Hp):Prop where
 m:Mt E1 σ1 L1
 w:World Z.K H1 (L1++T.C some)
 s:Step H L H1 (L1++T.C some)
 p:Pn pn σ σ1
 f:V9 t B (ds.ý j) E1=@r
 k:∀t>T,Kp H0 H1 t.as
inductive FoI (Z:Fx0)(t:Tg)(B:Sm)(pn:List Nat)(H:Hp)(L:Ls)(T:List Sl)(H0:Hp)(σ:L2.St)(r:Fl)(ds:List Q.D):Nat->Nat->L2.St->Hp->Prop
 |mk {i σ1 H1} (E1:En) (L1:Ls) (h:FoC Z t B pn H L T H0 σ r ds E1 L1 i σ1 H1) (hi:i<=ds.B):FoI Z t B pn H L T H0 σ r ds i (ds.B - i) σ1 H1
inductive FoP (Z:Fx0)(t:Tg)(B:Sm)(pn:List Nat)(H:Hp)(L:Ls)(T:List Sl)(H0:Hp)(σ:L2.St)(r:Fl)(ds:List Q.D)(j:Nat)(σ1:L2.St)(H1:Hp):Prop
 |mk (E1:En) (L1:Ls) (h:FoC Z t B pn H L T H0 σ r ds E1 L1 j σ1 H1)
def _e4(hp:PassesOwn (model X.î X.w) X.A X.Y X.xe)(hc:X.calm=true)(hi:QID X Z q tg it iter)(hg:QG X Z pn t tg)(hb:QSs X Z pn B ss)(hs:(∀x,foldedSetIterable iter X.Y x=pure x)<|>Ŗ):QS X Z pn (v5 it t B) (.For tg iter ss [] pos):=zV (_a0 hp hc hi hg hb hs) λD σ H ai=>ex7 ai λE L r m w hr k=>by
 let#[E1,ds,h1,h2]\/#[E1,c,h1,rfl]:=_eI hr
 rotate_left
 .show#[E,L,_,m,w,h1,k.xc,λE' s' z=>by cases z]
 show#[E,L,_,m,w,h1,(λ_ _ z=>by cases z),λE' ds' z J T L' H' m' w' st hz _ wk=>?_];injection z with z1 z2;subst z1 z2;let okT:∀{H2 L2},World Z.K H2 (L2++T.C some)->∀t>T,t.ok Z.K H2:=λw2 t ht=>w2.ok t (_ab _ (Yc ht))
 show#[FoI Z t B pn H L T H' σ r ds,#[_,.mk E1 L' #[m',w',st,Pn.ò,h2,λ_ _=>Kp.of_same xj] (Y9 _)],?_];rintro i n σ1 H1 ⟨E1,L1,⟨m1,w1,jt,p1,f1,a8⟩,hi⟩
 by_cases bf:i<ds.B
 .let hd:ds.ý i=ds[i]::ds.ý _:=Z8 bf;rw [hd]at f1;unfold V9 at f1;cases cp:t.put ds[i] E1 with
  | none=>rw[cp]at f1;cases f1
  | some E2=>
   rw[cp]at f1;dsimp only at f1;show .h #[wk.go i H1 #[okT w1,a8] bf,FoP Z t B pn H L T H' σ r ds (i+1),fun σ2 H2 ⟨E2,L2,a⟩=>#[ds.B - (i+1),by omega,.mk E2 L2 a bf],λv H2 hy=>?_];let#[z,zo,zd,zv,sm,wg,zas]:=wk.yld i H1 v H2 ds[i] #[okT w1,a8] hy (X1 bf);let#[wz,sz]:=_e2 w1 wk.r sm wg zo zas;show#[E1,L1,z,E2,m1,wz.left,zo,zv,by rw[zd];show cp,fun σ2 L2 p2 m2 w2 bu=>?_];let#[w3,fh]:=stay wz bu w2;let kg:=jt.J (sz.J fh);let si:=λt ht=>(a8 t ht).J (Kp.of_same sm)
   cases hB:B E2 with
   | none=>rw[hB]at f1;cases f1
   | some g=>
    rw[hB]at f1;show#[E2,L2,g,m2,w2,hB,?_];cases g with
    |nx E3=>
     intro σ3 L3 H3 p3 m3 w4 s3;let#[w5,s5]:=stay w3 s3 w4;show#[E3,L3,m3,w5,kg.J s5,(p1.J p2).J p3,f1,_e3 w3 wk.r s3 si]
    |ct E3=>
     intro σ3 L3 H3 p3 m3 w4 s3;let#[w5,s5]:=stay w3 s3 w4;show#[E3,L3,m3,w5,kg.J s5,(p1.J p2).J p3,f1,_e3 w3 wk.r s3 si]
    |bk E3=>
     let e:=_aa f1;subst e;intro σ3 L3 H3 p3 m3 w4 s3;show k σ3 L3 H3 ((p1.J p2).J p3) m3 w4 ((kg.J Step.dropT).J s3)
    |rt E3 x=>
     let e:=_aa f1;subst e;intro y σ3 L3 H3 e1 e2 p3 m3 w4 s3;show k y σ3 L3 H3 e1 e2 ((p1.J p2).J p3) m3 w4 ((kg.J Step.dropT).J s3)
    |xc E3 c=>
     let e:=_aa f1;subst e;intro C σ3 L3 H3 hm p3 m3 w4 s3;show k C σ3 L3 H3 hm ((p1.J p2).J p3) m3 w4 ((kg.J Step.dropT).J s3)
 .let e:i=ds.B:=.q
  subst e;rw[List.drop_length]at f1;cases _aa f1;show .O #[wk.stop H1 #[okT w1,a8],k σ1 L1 H1 p1 m1 w1.left (jt.J Step.dropT)]
def _e5(hp:PassesOwn (model X.î X.w) X.A X.Y X.xe)(hc:X.calm=true)(hi:QI X Z q tg it iter)(hg:QG X Z pn t tg)(hb:QSs X Z pn B ss)(hs:(∀x,foldedSetIterable iter X.Y x=pure x)<|>Ŗ):QS X Z pn (v5 it t B) (.For tg iter ss [] pos):=_e4 hp hc hi.D hg hb hs
end
mutual
def jX(h:Heap):D->Value->Prop
 |.non,u=>u=.none|.bl b,u=>u=.bool b|.int i,u=>∃t,u=.int i t|.str z,u=>∃t,u=.str z t|.tup ds,u=>∃a us,u=.ref a/\h.IsTuple a us.toArray/\CReps h ds us|.lst ds,u=>∃a us,u=.ref a/\h.IsList a us.toArray/\CReps h ds us|.dct _,_=>False|.obj _ _,_=>False
def CReps(h:Heap):List D->List Value->Prop
 |[],us=>us=[]|d::ds,us=>∃u r,us=u::r/\jX h d u/\CReps h ds r
end
def _e6:D.flat n (.dct k)=false:=by cases n<;>rfl
def _e7:D.flat n (.obj c k)=false:=by cases n<;>rfl
section
variable {X:Cx}{a8:LA9}{σ:L2.St}{H:Hp}{s:Shared}
mutual
theorem Vv(I:Inv X a8 σ H s){g}:∀{n d v as u},RepL X.K H g d v as->d.flat n=true->RelV v u->jX s.heap d u
 | _,.non,_,_,_,h,_,r=>by
  unfold RepL at h;rw[h.1]at r;exact r
 | _,.bl _,_,_,_,h,_,r=>by
  unfold RepL at h;rw[h.1]at r;exact r
 | _,.int _,_,_,_,h,_,r=>by
  unfold RepL at h;rw[h.1]at r;exact r
 | _,.str _,_,_,_,h,_,r=>by
  unfold RepL at h;rw[h.1]at r;unfold jX;exact r
 | 0,.tup ds,_,_,_,h,f,r=>by cases f
 | n+1,.tup ds,_,_,_,h,f,r=>by
  obtain⟨a,xs,rfl,q,ra⟩:=h;cases r;obtain⟨aa,rv,p,_⟩:=I.tuple q;exact#[a,aa,rfl,p,creps_of I ra f rv]
 | 0,.lst ds,_,_,_,h,f,r=>by cases f
 | n+1,.lst ds,_,_,_,h,f,r=>by
  obtain⟨a,xs,bs,rfl,ra,q⟩:=h;cases r;have q':SqL X.K H a xs:=by
   rcases q with⟨q,_⟩|⟨_,q,_⟩
   ·exact SqL.of q
   ·exact(LsR.of q).sq
  obtain⟨aa,rv,p,_⟩:=I.list q';exact#[a,aa,rfl,p.isList,creps_of I ra f rv]
 |_,.dct _,_,_,_,h,f,r=>by rw[_e6]at f;cases f|_,.obj _ _,_,_,_,h,f,r=>by rw[_e7]at f;cases f
theorem creps_of(I:Inv X a8 σ H s){g}:∀{n ds xs as us},RepA X.K H g ds xs as->D.flats n ds=true->Vals xs us->CReps s.heap ds us
 | _,[],_,_,_,h,_,r=>by
  rw[h.1]at r;cases r;unfold CReps;rfl
 | n,d::ds,_,_,_,h,f,r=>by
  have f:(D.flat _ _&&D.flats _ _)=true:=f;rw[Bool.and_eq_true]at f;obtain⟨x,rr,bs,cs,rfl,rfl,h1,h2⟩:=h;cases r with
  |cons r1 r2=>
   exact#[_,_,rfl,Vv I h1 f.1 r1,creps_of I h2 f.2 r2]
end
end
def CReps.len:∀{ds us},CReps h ds us->ds.B=us.B
 |[],_,r=>by rw[r];rfl
 |d::ds,_,r=>by
  let#[u,rr,rfl,_,h2]:=r;simp[CReps.len h2]
def CReps.get:∀{ds us} {j:Nat} {d},CReps h ds us->ds[j]?=@d->∃u,us[j]?=@u/\jX h d u
 | [],_,_,_,_,e=>by symm
 | d::ds,_,j,d',r,e=>by
  let#[u,rr,rfl,h1,h2]:=r;cases j with
  |zero=>symm
  |succ j=>
   obtain _:=CReps.get h2 (~~~e)
   symm
def _e8{h:Heap}(p:h.IsTuple a x)(q:h.IsTuple a y):x=y:=by
 let#[o,h1,_,n,h2]:=p;let#[o',h3,_,n',h4]:=q
 symm
def _e9{h:Heap}(p:h.IsList a x)(q:h.IsList a y):x=y:=by
 let#[o,h1,_,n,h2]:=p;let#[o',h3,_,n',h4]:=q
 symm
def _fa{h:Heap}(p:h.IsList a x)(q:h.IsTuple a y):False:=by
 let#[o,h1,h2,_]:=p;let#[o',h3,h4,_]:=q
 grind
inductive Cv (h:Heap):D->Value->Prop
 |non:Cv h .ó .ã
 |bl (b:Bool):Cv h (.bl b) (.bool b)
 |int (i:Int) (t:_):Cv h (.E i) (.E i t)
 |str (z:Str) (t:_):Cv h (.x z) (.x z t)
 |lst {ds:List D} {a:Addr} {us:List Value} (p:h.IsList a us.G) (q:CReps h ds us):Cv h (.S ds) (.I a)
 |tup {ds:List D} {a:Addr} {us:List Value} (p:h.IsTuple a us.G) (q:CReps h ds us):Cv h (.X ds) (.I a)
def crv(r:jX h d u):Cv h d u:=by
 cases d<;>unfold jX at r
 all_goals first|show r.è|(subst r;constructor)|(let#[_,rfl]:=r;constructor)|(let#[_,_,rfl,p,q]:=r;first|show .S p q|show .X p q)
#where in
mutual
theorem _fb{h d d' u}(a:jX h d u)(b:jX h d' u):d=d':=by
 cases d<;>cases crv a<;>cases crv b<;>try rfl
 ·exact(_fa ‹_› ‹_›).elim
 ·rename_i p r _ _ r' p';cases Array.mk.inj (_e8 p p');rw[_Ci r r']
 ·rename_i p r _ _ r' p';cases Array.mk.inj (_e9 p p');rw[_Ci r r']
 ·exact(_fa ‹_› ‹_›).elim
theorem _Ci{h}:∀{ds ds' us},CReps h ds us->CReps h ds' us->ds=ds'
 | [],ds',us,a,b=>by
  unfold CReps at a;subst a;cases ds' with|nil=>rfl|cons d ds=>unfold CReps at b;obtain⟨_,_,e,_⟩:=b;cases e
 | d::ds,ds',us,a,b=>by
  unfold CReps at a;obtain⟨u,r,rfl,h1,h2⟩:=a;cases ds' with
  |nil=>unfold CReps at b;cases b
  |cons d' ds'=>
   obtain⟨u',r',e,h3,h4⟩:=b;cases e;rw[_fb h1 h3,_Ci h2 h4]
end
mutual
theorem YV:∀{n d},d.flat n=true->peq d d=true
 |_,.non,_=>by rfl|_,.bl b,_=>by show(b==b)=true;simp|_,.int b,_=>by show(b==b)=true;simp|_,.str b,_=>by show(b==b)=true;simp|n+1,.tup ds,f=>peqs_refl f|n+1,.lst ds,f=>peqs_refl f|_,.dct _,f=>by rw[_e6]at f;cases f|_,.obj _ _,f=>by rw[_e7]at f;cases f
theorem peqs_refl:∀{n d},D.flats n d=true->peqs d d=true
 |_,[],_=>by rfl
 |n,d::ds,f=>by
  have f:(D.flat _ _&&D.flats _ _)=true:=f;rw[Bool.and_eq_true]at f;show(peq d d&&peqs ds ds)=true;rw[YV f.1,peqs_refl f.2];rfl
end
def _fc:∀{n ds} {j:Nat} {d},D.flats n ds=true->ds[j]?=@d->d.flat n=true
 |_,[],_,_,_,e=>by symm
 |n,d::ds,j,d',f,e=>by
  let f:(D.flat _ _&&D.flats _ _)=true:=f;rw[Bool.â]at f;cases j with|zero=>symm|succ j=>show _fc f.2 (~~~e)
def pAt(as bs:List D)(j:Nat):Bool:=match as[j]?,bs[j]? with
 |some a,@b=>peq a b|_,_=>true
def _fd:∀as bs,as.B=bs.B->(List.ä as.B).all (pAt as bs)=peqs as bs
 |[],[],_=>by rfl
 |a::as,b::bs,h=>by
  rw[Xn,List.range_succ_eq_map,List.all_cons,List.all_map];change _=(peq a b&&peqs as bs);rw[<-(_fd as bs (~~~h))];rfl
def _fe:∀as bs,as.B≠bs.B->peqs as bs=false
 |[],[],h=>by symm
 |a::as,b::bs,h=>by
  change(peq a b&&peqs as bs)=false;rw[_fe as bs (~~~h),Bool.and_false]
 |[],_::_,_=>by rfl|_::_,[],_=>by rfl
def _ff(as bs):((List.ä (min as.B bs.B)).all (pAt as bs)&&as.B==bs.B)=peqs as bs:=by
 by_cases e:as.B=bs.B
 .rw[<-e,Nat.min_self,_fd as bs e];simp
 .rw[_fe as bs e]
  symm
section
def _fg(ra:CReps s.H as us)(rb:CReps s.H bs ws)
  (h:∀(j:Nat) (d d') (u w),as[j]?=@d->bs[j]?=@d'->jX s.H d u->jX s.H d' w->SeqAt.EqAt A s u w (peq d d')):
  ∀j h1 (h2:j<ws.G.L),SeqAt.EqAt A s us.G[j] ws.G[j] (pAt as bs j):=λj h1 h2=>by
 let l1:=ra.len;let l2:=rb.len;simp at h1 h2;let ha:j<as.B:=.q
 let hb:j<bs.B:=.q
 let#[u,eu,ru]:=ra.get (X1 ha);let#[w,ew,m8]:=rb.get (X1 hb);let e1:us.G[j]=u:=by
  symm
 let e2:ws.G[j]=w:=by
  symm
 let e3:pAt as bs j=peq as[j] bs[j]:=by
  ext pAt;rw[X1 ha,X1 hb]
 rw[e1,e2,e3];show h j _ _ u w (X1 ha) (X1 hb) ru m8
#where in
def _fh(hu:A.y<cLine)(r:jX s.H d u)(r':jX s.H d' w)
  (el:∀as bs (us ws),(d=.S as\/d=.X as)->(d'=.S bs\/d'=.X bs)->CReps s.H as us->CReps s.H bs ws->∀j (h1) (h2:j<ws.G.L),SeqAt.EqAt A.in1 s us.G[j] ws.G[j] (pAt as bs j)):
  SeqAt.RcAt A s u w (peq d d'):=by
 cases crv r<;>cases crv r'
 .show SeqAt.RcAt.none_none
 .show SeqAt.RcAt.none_bool _
 .show SeqAt.RcAt.none_int _ _
 .show SeqAt.RcAt.none_str _ _
 .show SeqAt.RcAt.none_list ‹_› hu
 .show SeqAt.RcAt.none_tuple ‹_› hu
 .show SeqAt.RcAt.bool_none _
 .show SeqAt.RcAt.bool_bool _ _
 .show SeqAt.RcAt.bool_int _ _ _
 .show SeqAt.RcAt.bool_str _ _ _
 .show SeqAt.RcAt.bool_list _ ‹_› hu
 .show SeqAt.RcAt.bool_tuple _ ‹_› hu
 .show SeqAt.RcAt.int_none _ _
 .show SeqAt.RcAt.int_bool _ _ _
 .show SeqAt.RcAt.int_int _ _ _ _
 .show SeqAt.RcAt.int_str _ _ _ _
 .show SeqAt.RcAt.int_list _ _ ‹_› hu
 .show SeqAt.RcAt.int_tuple _ _ ‹_› hu
 .show SeqAt.RcAt.str_none _ _
 .show SeqAt.RcAt.str_bool _ _ _
 .show SeqAt.RcAt.str_int _ _ _ _
 .show SeqAt.RcAt.str_str _ _ _ _
 .show SeqAt.RcAt.str_list _ _ ‹_› hu
 .show SeqAt.RcAt.str_tuple _ _ ‹_› hu
 .show SeqAt.RcAt.list_none ‹_› hu
 .show SeqAt.RcAt.list_bool _ ‹_› hu
 .show SeqAt.RcAt.list_int _ _ ‹_› hu
 .show SeqAt.RcAt.list_str _ _ ‹_› hu
 .revert as a us p ra bs b ws p' rb;change SeqAt.RcAt _ _ _ _ (peqs as bs);let l1:=ra.len;let l2:=rb.len
  by_cases hl:as.B=bs.B
  .rw[<-_fd as bs hl];let z:=SeqAt.RcAt.lists (A:=A) (s:=s) (e:=pAt as bs) p p' (by simp;symm) hu (el as bs us ws (.O rfl) (.O rfl) ra rb);rw[Xe,<-l1]at z;show z
  .rw[_fe as bs hl];show SeqAt.RcAt.lists_lengths p p' (by simp;symm) hu
 .show SeqAt.RcAt.list_tuple ‹_› ‹_› hu
 .show SeqAt.RcAt.tuple_none ‹_› hu
 .show SeqAt.RcAt.tuple_bool _ ‹_› hu
 .show SeqAt.RcAt.tuple_int _ _ ‹_› hu
 .show SeqAt.RcAt.tuple_str _ _ ‹_› hu
 .show SeqAt.RcAt.tuple_list ‹_› ‹_› hu
 .revert as a us p ra bs b ws p' rb;change SeqAt.RcAt _ _ _ _ (peqs as bs);rw[<-_ff as bs];let z:=SeqAt.RcAt.tuples (A:=A) (s:=s) (e:=pAt as bs) p p' hu (el as bs us ws (.h rfl) (.h rfl) ra rb);rw[Xe,Xe,<-ra.len,<-rb.len]at z;show z
#where in
def _fi(hu:A.y<cLine)(r:jX s.H d u)(r':jX s.H d' w)
  (el:∀as bs (us ws),(d=.S as\/d=.X as)->(d'=.S bs\/d'=.X bs)->CReps s.H as us->CReps s.H bs ws->∀j (h1) (h2:j<ws.G.L),SeqAt.EqAt A.in1 s us.G[j] ws.G[j] (pAt as bs j)):
  SeqAt.ü A s u w (!peq d d'):=by
 cases crv r<;>cases crv r'
 .show SeqAt.ü.none_none
 .show SeqAt.ü.none_bool _
 .show SeqAt.ü.none_int _ _
 .show SeqAt.ü.none_str _ _
 .show SeqAt.ü.none_list ‹_› hu
 .show SeqAt.ü.none_tuple ‹_› hu
 .show SeqAt.ü.bool_none _
 .show SeqAt.ü.bool_bool _ _
 .show SeqAt.ü.bool_int _ _ _
 .show SeqAt.ü.bool_str _ _ _
 .show SeqAt.ü.bool_list _ ‹_› hu
 .show SeqAt.ü.bool_tuple _ ‹_› hu
 .show SeqAt.ü.int_none _ _
 .show SeqAt.ü.int_bool _ _ _
 .show SeqAt.ü.int_int _ _ _ _
 .show SeqAt.ü.int_str _ _ _ _
 .show SeqAt.ü.int_list _ _ ‹_› hu
 .show SeqAt.ü.int_tuple _ _ ‹_› hu
 .show SeqAt.ü.str_none _ _
 .show SeqAt.ü.str_bool _ _ _
 .show SeqAt.ü.str_int _ _ _ _
 .show SeqAt.ü.str_str _ _ _ _
 .show SeqAt.ü.str_list _ _ ‹_› hu
 .show SeqAt.ü.str_tuple _ _ ‹_› hu
 .show SeqAt.ü.list_none ‹_› hu
 .show SeqAt.ü.list_bool _ ‹_› hu
 .show SeqAt.ü.list_int _ _ ‹_› hu
 .show SeqAt.ü.list_str _ _ ‹_› hu
 .revert as a us p ra bs b ws p' rb;change SeqAt.ü _ _ _ _ (!peqs as bs);let l1:=ra.len;let l2:=rb.len
  by_cases hl:as.B=bs.B
  .rw[<-_fd as bs hl];let z:=SeqAt.ü.lists (A:=A) (s:=s) (e:=pAt as bs) p p' (by simp;symm) hu (el as bs us ws (.O rfl) (.O rfl) ra rb);rw[Xe,<-l1]at z;show z
  .rw[_fe as bs hl];show SeqAt.ü.lists_lengths p p' (by simp;symm) hu
 .show SeqAt.ü.list_tuple ‹_› ‹_› hu
 .show SeqAt.ü.tuple_none ‹_› hu
 .show SeqAt.ü.tuple_bool _ ‹_› hu
 .show SeqAt.ü.tuple_int _ _ ‹_› hu
 .show SeqAt.ü.tuple_str _ _ ‹_› hu
 .show SeqAt.ü.tuple_list ‹_› ‹_› hu
 .revert as a us p ra bs b ws p' rb;change SeqAt.ü _ _ _ _ (!peqs as bs);rw[<-_ff as bs];let z:=SeqAt.ü.tuples (A:=A) (s:=s) (e:=pAt as bs) p p' hu (el as bs us ws (.h rfl) (.h rfl) ra rb);rw[Xe,Xe,<-ra.len,<-rb.len]at z;show z
def _fj(rf:Value.I a=Value.I a'->b=true)(rc:SeqAt.RcAt A s (.I a) (.I a') b):SeqAt.EqAt A s (.I a) (.I a') b:=by
 by_cases e:a=a'
 .subst e;rw[rf rfl];show SeqAt.EqAt.same _
 .show SeqAt.EqAt.of_refs e rc
def _fk(hu:A.y<cLine)(r:jX s.H d u)(r':jX s.H d' w)(rf:u=w->peq d d'=true)(rc:SeqAt.RcAt A s u w (peq d d')):SeqAt.EqAt A s u w (peq d d'):=by
 cases crv r<;>cases crv r'
 .show SeqAt.EqAt.same _
 .show SeqAt.EqAt.none_bool _
 .show SeqAt.EqAt.none_int _ _
 .show SeqAt.EqAt.none_str _ _
 .show SeqAt.EqAt.none_list ‹_› hu
 .show SeqAt.EqAt.none_tuple ‹_› hu
 .show SeqAt.EqAt.bool_none _
 .show SeqAt.EqAt.bool_bool _ _
 .show SeqAt.EqAt.bool_int _ _ _
 .show SeqAt.EqAt.bool_str _ _ _
 .show SeqAt.EqAt.bool_list _ ‹_› hu
 .show SeqAt.EqAt.bool_tuple _ ‹_› hu
 .show SeqAt.EqAt.int_none _ _
 .show SeqAt.EqAt.int_bool _ _ _
 .show SeqAt.EqAt.int_int _ _ _ _
 .show SeqAt.EqAt.int_str _ _ _ _
 .show SeqAt.EqAt.int_list _ _ ‹_› hu
 .show SeqAt.EqAt.int_tuple _ _ ‹_› hu
 .show SeqAt.EqAt.str_none _ _
 .show SeqAt.EqAt.str_bool _ _ _
 .show SeqAt.EqAt.str_int _ _ _ _
 .show SeqAt.EqAt.str_str _ _ _ _
 .show SeqAt.EqAt.str_list _ _ ‹_› hu
 .show SeqAt.EqAt.str_tuple _ _ ‹_› hu
 .show SeqAt.EqAt.list_none ‹_› hu
 .show SeqAt.EqAt.list_bool _ ‹_› hu
 .show SeqAt.EqAt.list_int _ _ ‹_› hu
 .show SeqAt.EqAt.list_str _ _ ‹_› hu
 .show _fj rf rc
 .show _fj rf rc
 .show SeqAt.EqAt.tuple_none ‹_› hu
 .show SeqAt.EqAt.tuple_bool _ ‹_› hu
 .show SeqAt.EqAt.tuple_int _ _ ‹_› hu
 .show SeqAt.EqAt.tuple_str _ _ ‹_› hu
 .show _fj rf rc
 .show _fj rf rc
def WX:∀n {d d' u w A},d.flat n=true->jX s.H d u->jX s.H d' w->A.y+n<cLine->SeqAt.EqAt A s u w (peq d d'):=by
 let h0:∀{n d d' u w A},d.flat n=true->jX s.H d u->jX s.H d' w->A.y+n<cLine->(∀m,n=m+1->∀{d d' u w A},d.flat m=true->jX s.H d u->jX s.H d' w->A.y+m<cLine->SeqAt.EqAt A s u w (peq d d'))->SeqAt.EqAt A s u w (peq d d'):=fun {n d d' u w A} f r r' hu ih=>by
  show _fk .q r r' (λe=>?_) (_fh .q r r' λas bs us ws h1 h2 ra rb=>?_)
  .subst e;rw[_fb r' r];show YV f
  .cases n with
   |zero=>let rfl\/rfl:=h1<;>(show nomatch (show false=true from f))
   |succ n=>
    let fs:D.flats n as=true:=by let rfl\/rfl:=h1<;>show f
    show _fg ra rb λj d d' u w e1 e2 q1 q2=>ih n rfl (_fc fs e1) q1 q2 .q
 intro n
 induction n with|zero=>show λf r r' hu=>h0 f r r' hu λm e=>nomatch e|succ n ih=>show λf r r' hu=>h0 f r r' hu λm e=>by cases e;show ih
end
section
variable {K:Frag}
def _fl(K:Frag):R2:=λx y H Q=>∃d d' as bs,RepL K H true d x as/\RepL K H true d' y bs/\d.flat 40=true/\d'.flat 40=true/\Q (.bl (peq d d')) H
def _fm(K:Frag):R2:=λx y H Q=>∃d d' as bs,RepL K H true d x as/\RepL K H true d' y bs/\d.flat 40=true/\d'.flat 40=true/\Q (.bl (!peq d d')) H
def _fn(hu:X.A.y+64<cLine)(hK:X.K=K<|>Ŕ):OpR X (compareOp .Eq) (_fl K):=by
 subst hK;rintro a8 s σ H x y v u Q I rx ry ⟨d,d',as,bs,h1,h2,f1,f2,q⟩;show _fh .q (Vv I h1 f1 rx) (Vv I h2 f2 ry) (λas bs us ws e1 e2 ra rb=>_fg ra rb λj d d' u w e3 e4 q1 q2=>?_) _ _ _ _ #[.bl _,H,I,rfl,q];let fs:D.flats 39 as=true:=by let rfl\/rfl:=e1<;>show f1
 show WX 39 (_fc fs e3) q1 q2 .q
def _fo(hu:X.A.y+64<cLine)(hK:X.K=K<|>Ŕ):OpR X (compareOp .NotEq) (_fm K):=by
 subst hK;rintro a8 s σ H x y v u Q I rx ry ⟨d,d',as,bs,h1,h2,f1,f2,q⟩;show _fi .q (Vv I h1 f1 rx) (Vv I h2 f2 ry) (λas bs us ws e1 e2 ra rb=>_fg ra rb λj d d' u w e3 e4 q1 q2=>?_) _ _ _ _ #[.bl _,H,I,rfl,q];let fs:D.flats 39 as=true:=by let rfl\/rfl:=e1<;>show f1
 show WX 39 (_fc fs e3) q1 q2 .q
def _fp:Ad2 K (_fl K) (pu2 fEq):=by
 intro H x y s Q ox oy hf k;unfold pu2 fEq at hf
 by_cases hc:(x.d.flat 40&&y.d.flat 40)=true
 .rw[X7 hc]at hf;rw[Bool.â]at hc;cases _aa hf;show#[x.d,y.d,x.as,y.as,RepO.wk ox,RepO.wk oy,hc.1,hc.2,k _ H rfl rfl x6]
 .symm
def _fq:Ad2 K (_fm K) (pu2 fNe):=by
 intro H x y s Q ox oy hf k;unfold pu2 fNe at hf
 by_cases hc:(x.d.flat 40&&y.d.flat 40)=true
 .rw[X7 hc]at hf;rw[Bool.â]at hc;cases _aa hf;show#[x.d,y.d,x.as,y.as,RepO.wk ox,RepO.wk oy,hc.1,hc.2,k _ H rfl rfl x6]
 .symm
end
mutual
def WJ:D->Nat
 |.tup xs=>drwDs xs+1|_=>1
def drwDs:List D->Nat
 |[]=>0|a::x=>WJ a+drwDs x
end
mutual
theorem _fr{n:Nat}{d:D}(h:k5 n d=true):d.flat n=true:=by
 cases d<;>cases n<;>unfold k5 at h<;>first|rfl|(cases h)|skip
 exact _Kf h
theorem _Kf{n:Nat}{ds:List D}(h:keyDs n ds=true):D.flats n ds=true:=by
 cases ds<;>unfold keyDs at h
 ·rfl
 rw[Bool.and_eq_true]at h;show(D.flat _ _&&D.flats _ _)=true;rw[_fr h.1,_Kf h.2];rfl
end
mutual
theorem _fs{n m:Nat}{a b:D}(ha:k5 n a=true)(hb:k5 m b=true):peq a b=decide (a=b):=by
 cases a<;>first|(cases n<;>(unfold k5 at ha;cases ha);done)|(cases b<;>first|(cases m<;>(unfold k5 at hb;cases hb);done)|(exact(Xj (nofun)).symm)|(simp;first|rfl|exact Bool.beq_eq_decide_eq _ _)|skip)
 cases n<;>cases m<;>unfold k5 at ha hb<;>first|(cases ha)|(cases hb)|(refine(keys_peq ha hb).trans (decide_eq_decide.mpr ?_);simp)
theorem keys_peq{n m:Nat}{a b:List D}(ha:keyDs n a=true)(hb:keyDs m b=true):peqs a b=decide (a=b):=by
 cases a<;>cases b<;>unfold keyDs at ha hb
 ·exact(X8 rfl).symm
 ·exact(Xj (nofun)).symm
 ·exact(Xj (nofun)).symm
 rw[Bool.and_eq_true]at ha hb;show(peq _ _&&peqs _ _)=_;rw[_fs ha.1 hb.1,keys_peq ha.2 hb.2];simp
end
#where in
def _ft:∀{ds:List D} {us:List Value},keyDs n ds=true->CReps h ds us->∀u>us,∃d,k5 n d=true/\jX h d u:=by
 intro ds
 induction ds<;>intro us hk r u hu<;>unfold CReps at r
 .subst r;cases hu
 .revert ih;let#[v,r,rfl,h1,h2]:=r;unfold keyDs at hk;rw[Bool.â]at hk;let rfl\/hu:=aD hu
  .show#[_,hk.1,h1]
  .show ih hk.2 h2 u hu
#where in
def _fu{P : Nat -> Value -> Prop}(b : ∀n u,(u = .ã \/ (∃i t,u = .E i t) \/ ∃x t,u = .x x t) -> P n u)(st : ∀n a (us : List Value),h.IsTuple a us.G -> (∀u > us,P n u) -> P (n+1) (.I a)): ∀n {d : D} {u : Value},k5 n d = true -> jX h d u -> P n u:= by
  intro n
  induction n <;> intro d u hk hr <;> cases crv hr <;> unfold k5 at hk <;> first
    |(cases hk; done)
    |show b _ _ (.O rfl)
    |show b _ _ (.h (.O ⟨_,_,rfl⟩))
    |show b _ _ (.h (.h ⟨_,_,rfl⟩))
    |skip
  revert ih _ _ _ p q;show st _ _ _ p λu hu=> ?_
  let#[d,k,r]:= _ft hk q u hu;show ih k r
section
def _fv(h:Q 4238894112 {s with toks:=s.toks+1}):wpAny (model prog w) A (pyHash .ã) Q E s:=by
 let ty:s.TypeIs Value.ã "NoneType":=rfl;ext pyHash;show X0 ?_;show X4 (X0 (Yx ty F.slot_NoneType_hash.U ?_));change wpAny _ _ (callSpecialIfBoundUnlessNone? Value.ã "__hash__" _ >>= _) Q E s;show X0 (wpAny_callSpecialIfBoundUnlessNone?_slot ty F.slot_NoneType_hash (Y8 F.slot_NoneType_hash ty F.entry_NoneType_hash ?_ (F.args_NoneType_hash_1 _)));show wpAny_ret_mkInt ?_;change wpAny _ _ (if(decide (-(2:Int) ^ 63<=(4238894112:Int))&&decide ((4238894112:Int)<2 ^ 63))=true then _ else _) Q E _;rw[X7 (by rfl)];show X4 h
def _fw:∀ds:List D,hashDs w (ds++[d])=hashDs w ds++[Jq w d]
 |[]=>by rfl|a::x=>by rw[List.cons_append,hashDs,_fw x];rfl
def _fx:∀ds:List D,drwDs (ds++[d])=drwDs ds+WJ d
 |[]=>by simp[drwDs]|a::x=>by rw[List.cons_append,drwDs,drwDs,_fx x];lia
#where in
def _fy:∀(n:Nat) {d:D} {u:Value} {A:Around} {s:Shared} {Q:Int->Shared->Prop},k5 n d=true->jX s.H d u->A.y+4*n<cLine->Q (Jq w d) {s with toks:=s.toks+WJ d}->wpAny (model prog w) A (pyHash u) Q E s:=by
 intro n
 induction n<;>intro d u A s Q hk hr hu h<;>cases crv hr<;>unfold k5 at hk<;>first|(cases hk;done)|((with_reducible show _fv ?_);show h)|((with_reducible show wpAny_pyHash_int ?_);show h)|((with_reducible show wpAny_pyHash_str ?_);show h)|skip
 revert n ih ds a us ht hi;let ty:=ht.typeIs;let#[ob,jc,de,nn,mz]:=ht;ext pyHash;ext pyHashByItsType;show X0 (wpAny_cRoomFor_or (.h .q) ?_);show X0 (Yx ty F.slot_tuple_hash.U ?_);change wpAny _ _ (if(@(Value.u "tuple.__hash__")==@Value.ã)=true then _ else _) Q E s;rw [Xd (show ¬(@(Value.u "tuple.__hash__")==@Value.ã)=true by rw[beq_builtin_none];show Bool.false_ne_true)];show X0 (Yx ty F.slot_tuple_hash.U ?_);change wpAny _ _ (callSpecialIfBoundUnlessNone? (Value.I a) "__hash__" _ >>= _) Q E s;show X0 (wpAny_callSpecialIfBoundUnlessNone?_slot ty F.slot_tuple_hash (Y8 F.slot_tuple_hash ty F.entry_tuple_hash ?_ (F.args_tuple_hash_1 _)));change wpAny _ _ (Builtin.Tuple.tupleItemsOf (Value.I a) >>= _) _ _ s;show X0 (wpAny_tupleItemsOf jc mz ?_);show X0 ?_;rw [<-Array.forIn_toList];show Zz _ (λac (b:Array Int) s'=>∃pre post,ds=pre++post/\keyDs n post=true/\CReps s.H post ac/\b.R=hashDs w pre/\s'={s with toks:=s.toks+drwDs pre}) _ ?_ ?_ _ _ #[[],ds,rfl,hk,hi,rfl,rfl]
 .rintro x ac b s' ⟨pre,post,rfl,ji,hl,hb,rfl⟩;cases post with
  | nil=>unfold CReps at hl;cases hl
  | cons d post=>
   unfold CReps at hl;let#[u1,r1,e1,h1,h2]:=hl;injection e1 with e1 e2;subst e1 e2;unfold keyDs at ji;rw[Bool.â]at ji;let ru:A.in1.y+4*n<cLine:=by change A.y+1+4*n<cLine;lia
   let fin:∃p q,pre++d::post=p++q/\keyDs n q=true/\CReps s.H q ac/\(b.í (Jq w d)).R=hashDs w p/\({s with toks:=s.toks+drwDs pre+WJ d}:Shared)={s with toks:=s.toks+drwDs p}:=
    #[pre++[d],post,by simp,ji.2,h2,by rw[_fw,<-hb];simp,by rw[_fx,Nat.add_assoc]]
   show X0 (ih ji.1 h1 ru ?_)
   first
    |show X4 fin
    |show X0 (X4 (X4 fin))
 .rintro b s' ⟨pre,post,rfl,ji,hl,hb,rfl⟩;let:post=[]:=by
   cases post with|nil=>rfl|cons d post=>unfold CReps at hl;let#[_,_,z,_]:=hl;cases z
  subst this;rw[Xx]at h;change wpAny _ _ (retInt (Builtin.Tuple.tupleHashOf b.R)) _ _ _;rw[hb];show wpAny_ret_mkInt ?_;generalize hv:Builtin.Tuple.tupleHashOf (hashDs w pre)=v;let h:Q (reduceHash v) {s with toks:=s.toks+drwDs pre+1}:=by rw[<-hv];unfold Jq WJ at h;rw[Nat.add_assoc];show h
  change wpAny _ _ (if(decide (-(2:Int) ^ 63<=v)&&decide (v<2 ^ 63))=true then _ else _) Q E _;unfold reduceHash at h
  by_cases hq:(decide (-(2:Int) ^ 63<=v)&&decide (v<2 ^ 63))=true
  .rw[X7 hq]at h ⊢;show X4 h
  .rw[Xd hq]at h ⊢;show X0 (Zp (X4 h))
def _fz(n m:Nat)(hm:n<=m)(hk:k5 n d=true)(hr:jX s.H d u)(h:Q true s):wpAny (model prog w) A (eqIsQuiet m u) Q E s:=by
 show _fu (P:=λn u=>∀m (Q:Bool->Shared->Prop),n<=m->Q true s->wpAny (model prog w) A (eqIsQuiet m u) Q E s) ?_ (λn a us ht hi m Q hm h=>?_) n hk hr m Q hm h
 .rintro n u (rfl|⟨i,t,rfl⟩|⟨i,t,rfl⟩) m Q _ h<;>(rw[eqIsQuiet_byValue m rfl];show X4 h)
 let ty:=ht.typeIs;let#[ob,jc,de,nn,mz]:=ht;cases m
 .symm
 ext eqIsQuiet;show X0 (Yx ty F.slot_tuple_eq.U ?_);change wpAny _ _ (isInstance (Value.I a) (.l "tuple") >>= _) _ _ s;show X0 (Zn ty isSubtype_tuple_tuple ?_);dsimp[Bool.not_true,Bool.false_eq_true,if_false];show X0 (Zc jc mz (X0 ?_));change wpAny _ _ (forIn us.G _ _) _ _ s;rw[<-Array.forIn_toList];show Zz _ (λac r s'=>r.1=none/\s'=s/\∀u>ac,u>us) _ ?_ ?_ _ _ #[rfl,rfl,λ_ h=>h]
 .rintro v ac r s' ⟨hr,rfl,hu⟩;show X0 (hi v (hu v X3) _ _ (by symm) ?_);simp;show X4 #[rfl,rfl,λu h=>hu u (_ad _ h)]
 .rintro ⟨r1,r2⟩ s' ⟨hz,rfl,_⟩;cases hz;show X4 h
end
mutual
theorem _fA{h h':Heap}(et:∀b ob us n,h.get? b=⇑ob->ob.cls=.type "tuple"->ob.data=.seq us n->h'.get? b=⇑ob){n:Nat}{d:D}{u:Value}(hk:k5 n d=true)(r:jX h d u):jX h' d u:=by
 cases d<;>cases n<;>unfold k5 at hk<;>unfold jX at r ⊢<;>first|exact r|(cases hk;done)|skip
 obtain⟨a,us,e,⟨ob,jc,hc,nn,mz⟩,hi⟩:=r;exact#[a,us,e,#[ob,et a ob _ _ jc hc mz,hc,nn,mz],_Ck et hk hi]
theorem _Ck{h h':Heap}(et:∀b ob us n,h.get? b=⇑ob->ob.cls=.type "tuple"->ob.data=.seq us n->h'.get? b=⇑ob){n:Nat}{ds:List D}{us:List Value}(hk:keyDs n ds=true)(r:CReps h ds us):CReps h' ds us:=by
 cases ds<;>unfold CReps at r ⊢
 ·exact r
 unfold keyDs at hk;rw[Bool.and_eq_true]at hk;obtain⟨u,rr,e,h1,h2⟩:=r;exact#[u,rr,e,_fA et hk.1 h1,_Ck et hk.2 h2]
end
def Kz(prog:Program)(w:PySem.World):HeapKind prog w Kd where
 is:=λh k a=>jX h k.1 (.I a)
 hash:=λk=>Jq w k.1
 draws:=λk=>WJ k.1
 room:=λA=>A.y+40<cLine
 inj:=λhx hy=>J1 (_fb hx hy)
 keeps:=fun {h h' k a d o es ep} x ho hd hs=>_fA (λb ob us n e _ z=>(hs.2 b (by rintro rfl;rw[ho]at e;cases e;rw[hd]at z;cases z)).J e) k.2 x
 pyHash:=fun {A E s k a Q} hu hk h=>_fy 6 k.2 hk (Nat.lt_of_le_of_lt (Nat.add_le_add_left .q _) hu) h
 eqBool:=fun {A E s x y a b Q} hu hx hy h=>by
  let e:peq x.1 y.1=decide (x=y):=by
   rw[_fs x.2 y.2]
   by_cases z:x=y
   .rw[X8 z,X8 (congrArg Subtype.val z)]
   .rw[Xj z,Xj λq=>z (J1 q)]
  let:=WX (s:=s) 6 (A:=A) (_fr x.2) hx hy (Nat.lt_of_le_of_lt (Nat.add_le_add_left .q _) hu);rw[e]at this;show this prog w E Q h
 quiet:=fun {A E s k a Q} hk h=>_fz 6 8 .q k.2 hk h
abbrev Sl.sd(x:Sl):Sd:=(x.o,x.d)
def tA(Z:Fx0)(q:Bool)(cs:List Ex):TA:=fun σ H Q=>∃E L r,Mt E σ L/\World Z.K H L/\wJ cs E=@r/\Xc Z σ H L r /\
 ∀E' ys,r=.ok E' ys->∀(xs:List Sl) L' H',xs.C Sl.sd=ys->Mt E' σ L'->World Z.K H' (xs.C some++L')->Step H L H' (xs.C some++L')->(q=true->kJ H H'/\∀b>jk (xs.C some),H b=none)->Q (xs.C Sl.v) H'
def QA(X:Cx)(Z:Fx0)(q:Bool)(cs:List Ex)(es:List Expr):Prop:=PA X es (tA Z q cs)
def _fB(h:PA X es t)(w:∀ σ H Q,t' σ H Q->t σ H Q):PA X es t':=λpos a8 s σ H Q I q=>h pos a8 s σ H Q I (w σ H Q q)
section
noncomputable def jq:QA X Z true [] []:=_fB vJ fun σ H Q ai=>ex8 ai λE L r m w hc xc k=>by
 cases _aa hc;show k _ _ rfl [] L H rfl m w Step.ò λ_=>#[λ_ _ z=>z,λ_ z=>(nomatch z)]
def j5(h:QE X Z q c e)(hs:QA X Z q cs es)(av:Abs e es X<|>Ŕ):QA X Z q (c::cs) (e::es):=
 _fB (qZ h hs av) fun σ H Q ai=>ex8 ai λE L r m w hc xc k=>by
  show VQ m w (hc) xc λE1 s h1 x L1 H1 e1 e2 m1 w1 st sm=>?_
  let#[E2,ys,h2,h3]\/#[E2,cc,h2,h3]:=wq h1
  .cases _aa h3;show#[E1,L1,_,m1,w1.tail,h2,(λ_ _ z=>by cases z),λE' ys' z xs L2 H2 e3 m2 w2 bu dw=>?_];injection z with z1 z2;subst z1 z2;let#[w3,fh]:=_ee (T:=[@x]) w1 bu w2;show k _ _ rfl (x::xs) L2 H2 (by rw[List.Z,e3];simp[Sl.sd,e1,e2]) m2 w3 (st.J fh) λhq=>?_
   let#[a1,a2]:=sm hq;let#[b1,b2]:=dw hq;show#[kQ a1 b1,λb hb=>?_];let z\/z:=aA hb
   .show a2 b z
   .show JY a1 (b2 b z)
  .show#[E1,L1,_,m1,w1.tail,h2,(xc.step (st.J Step.ý)).C h3,λE' s' z=>by cases z]
end
section
variable {Z:Fx0}
def _fC:∀{cs E E' ys},wJ cs E=@(.ok E' ys)->ys.B=cs.B
 | [],E,E',ys,h=>by cases _aa h;rfl
 | c::cs,E,E',ys,h=>by
  let#[E1,x,h1,h2]\/#[_,_,_,z]:=wq (h)
  .let#[E2,xs,h3,h4]\/#[_,_,_,z]:=wq h2
   .cases _aa h4;rw[Xn,Xn,_fC h3]
   .cases z
  .cases z
def _fD(m:Mt E σ L)(w:World Z.K H L)(h:bnd (wJ cs E) F=@r)(xc:Xc Z σ H L r)
  (k:∀E1 ys,F E1 ys=@r->ys.B=cs.B->∀(xs:List Sl) L1 H1,xs.C Sl.sd=ys->Mt E1 σ L1->World Z.K H1 (xs.C some++L1)->Step H L H1 (xs.C some++L1)->(q=true->kJ H H1/\∀b>jk (xs.C some),H b=none)->G (xs.C Sl.v) H1):tA Z q cs σ H G:=by
 let#[E1,s,h1,h2]\/#[E1,c,h1,h2]:=wq h
 .show#[E,L,_,m,w,h1,(λ_ _ z=>by cases z),λE' s' z xs L' H' e1 m' w' st sm=>by
   injection z with z1 z2;subst z1 z2;show k _ _ h2 (_fC h1) xs L' H' e1 m' w' st sm]
 .show#[E,L,_,m,w,h1,xc.C h2,λE' s' z=>by cases z]
def _fE{K}(g):∀{xs:List Sl},(∀x>xs,x.ok K H)->(g=false->∀x>xs,qW x.sd=true)->∃bs,RepA K H g (xs.C Sl.d) (xs.C Sl.v) bs/\(∀b>bs,∃x>xs,b>x.as)/\(g=false->bs=jk (xs.C some))/\(g=true->bs=xs.flatMap Sl.as)
 | [],_,_=>#[[],#[rfl,rfl],λ_ h=>(nomatch h),λ_=>rfl,λ_=>rfl]
 | x :: xs,h,ht=>by
  let#[bs,r,hb,ho,hg]:=_fE g (λy hy=>h y (_ad _ hy)) λhg y hy=>ht hg y (_ad _ hy)
  let hx:=h x X3;let key:∃cs,RepL K H g x.d x.v cs/\(∀b>cs,b>x.as)/\(g=false->cs=x.ë)/\(g=true->cs=x.as):=by
   cases g with
   | true=>show#[x.as,RepO.wk hx,λb hb=>hb,(λz=>by cases z),λ_=>rfl]
   | false=>
    by_cases ho:x.o=.dp
    .show#[x.as,?_,λb hb=>hb,λ_=>?_,λz=>by cases z]
     .let:=hx;unfold Sl.ok at this;rw[ho]at this;show this
     .ext Sl.ë;rw[ho]
    .let hp:x.d.pure=true:=by
      let z\/z:=Bool.or_eq_true_iff.mp (ht rfl x X3)
      .symm
      .show z
     let#[z,rp]:=RepL.pu (g':=false) (RepO.wk hx) hp;show#[[],rp,λ_ h=>(nomatch h),λ_=>(_ek z).à,λz=>by cases z]
  let#[cs,r1,h1,h2,h3]:=key;show#[cs++bs,?_,λb gr=>?_,λxh=>?_,λxh=>?_]
  .show#[x.v,xs.C Sl.v,cs,bs,rfl,rfl,r1,r]
  .let z\/z:=aA gr
   .show#[x,X3,h1 b z]
   .symm
  .rw[List.Z,jK,h2 xh,ho xh]
  .rw[List.flatMap_cons,h3 xh,hg xh]
def _fF{K}{xs:List Sl}(w:World K H (xs.C some++L))(out:∀bs,RepA K H true (xs.C Sl.d) (xs.C Sl.v) bs->Out K H H' #[o,d,v,ps++bs] bs):
  ∃bs,World K H' (@#[o,d,v,ps++bs]::L)/\Step H (xs.C some++L) H' (@#[o,d,v,ps++bs]::L):=by
 let#[bs,r,hb,_,_]:=_fE true (λx hx=>w.ok x (_ac _ (Yc hx))) (λz=>by cases z);let ap:∀b>bs,b∉jk L:=λb gr hL=>by
  let#[x,hx,lr]:=hb b gr;let z\/z:=Sl.as_of lr
  .let nd:=w.nd;rw[k7,Xa]at nd;show nd.2.2 b (mem_owned.s #[x,Yc hx,z]) b hL rfl
  .show w.ds b (by rw[k7];show _ab _ hL) (by rw[qK];show _ac _ (mem_frozen.s #[x,Yc hx,z]))
 let al:∀b>bs,H b≠none:=λb gr=>by
  let#[x,hx,lr]:=hb b gr;show(w.ok x (_ac _ (Yc hx))).some lr
 let sr:Src H (xs.C some++L) bs:=λb gr=>by
  let#[x,hx,lr]:=hb b gr;let z\/z:=Sl.as_of lr
  .show .h (.O (by rw[k7];show _ac _ (mem_owned.s #[x,Yc hx,z])))
  .show .O (by rw[qK];show _ac _ (mem_frozen.s #[x,Yc hx,z]))
 let st:Step H (xs.C some++L) H L:=#[λ_ _ h _=>h,λa ha=>.O (by rw[k7];show _ab _ ha),λa ha=>.O (by rw[qK];show _ab _ ha)];show#[bs,W3 (Z:=#[K,λ_=>none,λ_ _ _=>True]) w.right st (out bs r) ap al sr]
def _fG{K}{xs:List Sl}(w:World K H (xs.C some++L))(hp:H p=none):
  ∃bs,World K (upd H p (.S (xs.C Sl.v))) (@#[.rt,.S (xs.C Sl.d),.I p,p::bs]::L)/\Step H (xs.C some++L) (upd H p (.S (xs.C Sl.v))) (@#[.rt,.S (xs.C Sl.d),.I p,p::bs]::L):=
 _fF (ps:=[p]) w λ_ r=>K6 hp r λ_ h=>h
def _fH{K}{xs:List Sl}(w:World K H (xs.C some++L))(hp:H p=none):
  ∃bs,World K (upd H p (.X (xs.C Sl.v))) (@#[.r,.X (xs.C Sl.d),.I p,bs]::L)/\Step H (xs.C some++L) (upd H p (.X (xs.C Sl.v))) (@#[.r,.X (xs.C Sl.d),.I p,bs]::L):=
 _fF (ps:=[]) w λ_ r=>_eE hp r λ_ h=>h
def _fI{K}{xs:List Sl}(w:World K H (xs.C some++L))(ht:∀x>xs,qW x.sd=true)(hp:∀b>ps,H b=none)(nd:ps.V)(sm:kJ H H')
  (rep:∀bs,RepA K H false (xs.C Sl.d) (xs.C Sl.v) bs->RepL K H' false d v (ps++bs)):
  World K H' (@#[.dp,d,v,ps++jk (xs.C some)]::L)/\Step H (xs.C some++L) H' (@#[.dp,d,v,ps++jk (xs.C some)]::L):=by
 let#[bs,r,hb,ho,_]:=_fE false (λx hx=>w.ok x (_ac _ (Yc hx))) (λ_=>ht);let e:=ho rfl;subst e;let w2:World K H' _:=#[λx hx=>RepO.kp (w.ok x hx) (Kp.of_same sm),w.nd,w.ds];let ndx:=w.nd;rw[k7,Xa]at ndx;let al:∀b>jk _,H b≠none:=λb hb=>w.own_some (by rw[k7];show _ac _ hb)
 show#[w2.right.æ (rep _ r) ?_ (λa ha hL=>?_) (λa ha hf=>?_) (λa ha=>(nomatch ha)) (λa ha=>λz=>(nomatch z)),#[λa ob h _=>sm a ob h,λa ha=>?_,λa ha=>?_]]
 .change(ps++jk _).V;rw[Xa];show#[nd,ndx.1,λa ha b hb e=>by subst e;show al a hb (hp a ha)]
 .let z\/z:=aA (ha)
  .show w.own_some (by rw[k7];show _ab _ hL) (hp a z)
  .show ndx.2.2 a z a hL rfl
 .let z\/z:=aA (ha)
  .show w.frz_some (by rw[qK];show _ab _ hf) (hp a z)
  .show w.ds a (by rw[k7];show _ac _ z) (by rw[qK];show _ab _ hf)
 .rw[jK]at ha;let z\/z:=aA ha
  .let y\/y:=aA (z)
   .show .h (hp a y)
   .show .O (by rw[k7];show _ac _ y)
  .symm
 .show .O (by rw[qK];show _ab _ ha)
def _fJ{xs:List Sl}(h:xs.C Sl.sd=ys):xs.C Sl.d=ys.C (·.2):=by rw[<-h,Xp];rfl
def _fK{xs:List Sl}(h:xs.C Sl.sd=ys)(ht:ys.all qW=true):∀x>xs,qW x.sd=true:=λx hx=>by
 rw[<-h,List.all_map,Yb]at ht;show ht x hx
def _fL{o}{xs:List Sl}{ys}{Q:VK}(h:mkL o E' ys=@r)(e:xs.C Sl.sd=ys)(w:World Z.K H1 (xs.C some++L'))(st:Step Hq Lq H1 (xs.C some++L'))(sm:q=true->kJ Hq H1/\∀b>jk (xs.C some),Hq b=none)
  (k:∀E'' a,r=.ok E'' a->∀x L'' H',x.o=a.1->x.d=a.2->Mt E'' σ L''->World Z.K H' (@x::L'')->Step Hq Lq H' (@x::L'')->(q=true->kJ Hq H'/\∀b>x.ë,Hq b=none)->Q x.v H') (m:Mt E' σ L'):
  ∀ p,H1 p=none->Q (.I p) (upd H1 p (.S (xs.C Sl.v))):=by
 intro p hp;unfold mkL at h
 by_cases ho:o=.dp
 .rw[X7 ho]at h
  by_cases ht:ys.all qW=true
  .rw[X7 ht]at h;cases _aa h;let#[w2,s2]:=_fI (d:=.S _) w (_fK e ht) (λb hb=>by rw[aC hb];show hp) (by simp) (vK hp) (λbs r=>by
    show#[p,_,bs,rfl,r.kp (Kp.of_same (vK hp)),.O #[vQ,rfl]])
   show k _ _ rfl _ L' _ rfl (by rw[_fJ e]) m w2 (st.J s2) λhq=>#[kQ (sm hq).1 (vK hp),λb hb=>?_]
   let z\/z:=aA (hb)
   .rw[aC z];show JY (sm hq).1 hp
   .show(sm hq).2 b z
  .symm
 .rw[Xd ho]at h;cases _aa h;let#[bs,w2,s2]:=_fG w hp;show k _ _ rfl _ L' _ rfl (by rw[_fJ e]) m w2 (st.J s2) λhq=>#[kQ (sm hq).1 (vK hp),λb hb=>?_]
  let:b=p:=by simpa [Sl.ë]using hb
  rw[this];show JY (sm hq).1 hp
def _fM{xs:List Sl}(h:xs.C Sl.sd=ys)(hl:ys.B=n)(hz:n<=1000):(xs.C Sl.v).B<=sizeLine:=by
 let:xs.B=n:=by rw[<-hl,<-h,X5]
 rw[X5,this];show Yw hz .q
def _fN(h:QA X Z q cs es)(hz:(cs.B<=1000)<|>ŕ):QE X Z q (vz o cs) (.List es pos):=qj (_bu h) fun σ H Q ai=>ex8 ai λE L r m w hc xc k=>
 _fD m w (hc) xc λE1 ys h1 hl xs L1 H1 e1 m1 w1 st sm=>#[_fM e1 hl hz,_fL (E':=E1) (h1) e1 w1 st sm k m1]
def qx(h:QA X Z q cs es)(hz:(cs.B<=1000)<|>ŕ):QE X Z q (kW o cs) (.Tuple es x1 pos):=qj (_bt h) fun σ H Q ai=>ex8 ai λE L r m w hc xc k=>
 _fD m w (hc) xc λE1 ys h1 hl xs L1 H1 e1 m1 w1 st sm=>#[_fM e1 hl hz,λp hp=>by
  by_cases ho:o=.dp
  .rw[X7 ho]at h1
   by_cases ht:ys.all qW=true
   .rw[X7 ht]at h1;cases _aa h1;let#[w2,s2]:=_fI (d:=.X _) (ps:=[]) w1 (_fK e1 ht) (λb hb=>(nomatch hb)) (by simp) (vK hp) (λbs r=>by
     show#[p,_,rfl,SqT.of vQ,r.kp (Kp.of_same (vK hp))])
    show k _ _ rfl _ L1 _ rfl (by rw[_fJ e1]) m1 w2 (st.J s2) λhq=>#[kQ (sm hq).1 (vK hp),λb hb=>(sm hq).2 b hb]
   .symm
  .rw[Xd ho]at h1;cases _aa h1;let#[bs,w2,s2]:=_fH w1 hp;show k _ _ rfl _ L1 _ rfl (by rw[_fJ e1]) m1 w2 (st.J s2) λhq=>#[kQ (sm hq).1 (vK hp),λb hb=>(nomatch hb)]]
end
def spF(K:Frag)(mg:Str->Option Value)(n:Nat)(f:Fn):Sp:=λvs H Q E=>∃(xs:List Sl) (r:Res Sd),vs=xs.C Sl.v/\xs.B=n/\World K H (xs.C some)/\f (xs.C Sl.sd)=@r /\
 (∀E' c,r=.exc E' c->∀C H',mg c=@(.I C)->Step H (xs.C some) H' []->E (.I C) none H') /\
 ∀E' a,r=.ok E' a->∀(x:Sl) H',x.o=a.1->x.d=a.2->World K H' [@x]->Step H (xs.C some) H' [@x]->Q x.v H'
def _fO{K}{ps:List Str}(hn:ps.B=n):∀vs H Q E,spF K mg n f vs H Q E->vs.B=ps.B:=λvs H Q E hz=>by let#[xs,r,e,hl,_]:=hz;rw[e,X5,hl,hn]
def _fP:∀(xs:List Sl) (k),Mt (xs.C (λx=>@x.sd)++List.ß k none) (xs.C (λx=>@x.v)++List.ß k none) (xs.C some++List.ß k none)
 |[],0=>.nil
 |[],k+1=>by
  show .un (_fP [] k)
 |x::xs,k=>.æ (_fP xs k)
def _fQ{K}(hN:N.B=nn)(t:QSs X #[K,mg,E] [] B body)(h:spF K mg n (fn nn B) vs H Q E):
  ∃t,PSs X body t/\t {nx:=λ_ H'=>Q .ó H',rt:=Q} (L2.start N vs) H:=by
 show#[_,t,?_];let#[xs,r,rfl,hl,w,hf,hx,hk]:=h;unfold fn at hf;rw[X5,Xp]at hf;let e1:L2.start N (xs.C Sl.v)=xs.C (λx=>@x.v)++List.ß (nn - xs.B) none:=by
  ext L2.start;rw[Xp,X5,hN];rfl
 let wL:World K H (xs.C some++List.ß (nn - xs.B) none):=w.same (by simp);let sL:Step H (xs.C some) H (xs.C some++List.ß (nn - xs.B) none):=Step.ò.same (List.á.ò _) (by simp);cases hB:B _ with
 | none=>rw[show(some∘Sl.sd)=(λx:Sl=>@x.sd)from rfl,hB]at hf;cases hf
 | some g=>
  rw[show(some∘Sl.sd)=(λx:Sl=>@x.sd)from rfl,hB]at hf;show#[_,_,g,e1▸(_fP xs _),wL,hB,?_];cases g with
  |nx E1=>
   cases _aa hf;intro σ' L' H' _ m' w' s';show hk _ _ rfl _ H' rfl rfl (World.consPu (x:=#[.dp,.ó,.ó,[]]) #[λ_ z=>(nomatch z),Xy,λ_ z=>(nomatch z)] (show RepL K H' false .ó .ó []from _et) rfl) (JW ((sL.J s').sub (by simp)) (λb hb=>(nomatch hb)) rfl)
  |rt E1 a=>
   cases _aa hf;intro x σ' L' H' e2 e3 _ m' w' s';show hk _ _ rfl x H' e2 e3 (w'.sub (by simp)) ((sL.J s').sub (by simp))
  |xc E1 c=>
   cases _aa hf;intro C σ' L' H' hm _ m' w' s';show hx _ _ rfl C H' hm ((sL.J s').sub (by simp))
  |ct E1=>cases hf|bk E1=>cases hf
section
def Kj:∀xs:List Sl,jk ((xs.C Sl.let).C some)=[]
 |[]=>rfl|x::xs=>by rw[List.Z,List.Z,jK,Kj xs];rfl
def _fR:∀xs:List Sl,k6 ((xs.C Sl.let).C some)=xs.flatMap Sl.as
 |[]=>rfl|x::xs=>by rw[List.Z,List.Z,vW,_fR xs];rfl
def _fS(xs:List Sl):(xs.C Sl.let).C Sl.sd=letAll (xs.C Sl.sd):=by
 ext letAll;rw[Xp,Xp];rfl
def _fT{K}{xs:List Sl}(w:World K H (xs.C some++L)):World K H ((xs.C Sl.let).C some++L)/\Step H (xs.C some++L) H ((xs.C Sl.let).C some++L):=by
 let nd:=w.nd;rw[k7,Xa]at nd;let cl:∀a>xs.flatMap Sl.as,a>jk _\/a>k6 _:=λa ha=>by
  let#[x,hx,hax]:=List.mem_flatMap.mp ha;show(Sl.as_of hax).imp (λz=>mem_owned.s #[x,Yc hx,z]) λz=>mem_frozen.s #[x,Yc hx,z]
 show#[#[λx hx=>?_,by rw[k7,Kj];show nd.2.1,λa ha hf=>?_],λ_ _ h _=>h,λa ha=>?_,λa ha=>?_]
 .let hx\/hx:=aA hx
  .let#[y,hy,e]:=aE hx;cases e;let#[z,hz,rfl]:=aE hy;show JJ (w.ok z (_ac _ (Yc hz)))
  .show w.ok x (_ab _ hx)
 .rw[k7,Kj]at ha;rw[qK,_fR]at hf;let z\/z:=aA hf
  .let z\/z:=cl a z
   .show nd.2.2 a z a ha rfl
   .show w.ds a (by symm) (by symm)
  .show w.ds a (by symm) (by symm)
 .rw[k7,Kj]at ha
  symm
 .rw[qK,_fR]at ha;rw[qK,k7];let z\/z:=aA ha
  .let z\/z:=cl a z
   .show .h (.O (_ac _ z))
   .show .O (_ac _ z)
  .show .O (_ab _ z)
def _fU(D:kz X.î X.w X.K X.mg X.base k x ps (spF Z.K Z.mg n f))(hr:Room k X.A)(g:xq X Z.EX)(ha:QA X Z q cs (e::es))(hn:cs.B=n<|>Ŕ)(hg:Gl X x<|>Ŕ)(gf:Abd x<|>ŕ)
  (he:Abs e es X<|>Ŕ) (bj:Abb pos es X<|>Ŕ):
  QE X Z q (jx f cs) (.ù (.é x p) (e::es) [] pos):=qj (_dC D hr g ha hg gf he bj) fun σ H Q ai=>ex8 ai λE L r m w hc xc kk=>
 _fD m w (hc) xc λE1 ys h1 hl xs L1 H1 e1 m1 w1 st sm=>by
  rw [Xx];let af:xs.B=n:=by rw[<-hn,<-hl,<-e1,X5]
  cases hf:f (letAll ys)with
  | none=>symm
  | some fr=>
   rw[hf]at h1;let#[wl,sl]:=_fT w1;let ev:xs.C Sl.v=(xs.C Sl.let).C Sl.v:=by rw[Xp];rfl
   rw[ev];show#[xs.C Sl.let,fr,rfl,by rw[X5];show af,wl.left,by rw[<-e1]at hf;rw[_fS];show hf,λE' c ee C H' hm s'=>?_,λE' a ee y H' e2 e3 w' s'=>?_]
   .subst ee;cases _aa h1;let#[w2,s2]:=stay wl s' #[λ_ z=>(nomatch z),Xy,λ_ z=>(nomatch z)];show xc _ _ rfl C L1 H' hm m1 w2 ((st.J sl).J s2)
   .subst ee;cases _aa h1;let#[w2,s2]:=stay wl s' w';show kk _ _ rfl y L1 H' e2 e3 m1 w2 ((st.J sl).J s2) λhq=>?_
    let#[a1,a2]:=sm hq;show#[λb ob hb=>s'.keep b ob (a1 b ob hb) λz=>?_,λb hb=>?_]
    .rw[Kj]at z;show nomatch z
    .let z\/z:=s'.ë b (_ac _ hb)
     .rw[Kj]at z;show nomatch z
     .show JY a1 z
end
def _fV(K:Frag):R2:=λx y H Q=>∃l k xs,x=.I l/\y=.E k/\LsR K H l xs/\-(2 ^ 63)<=k/\k<2 ^ 63/\xs.B*k.M<=sizeLine /\
 ∀p,H p=none->Q (.I p) (upd H p (.S (List.ß k.M xs).flatten))
def op_repR:OpR X (binaryOp .Mult) (_fV X.K):=by
 rintro a8 s σ H x y v u Q I rx ry ⟨l,k,xs,rfl,rfl,hH,h1,h2,hz,q⟩;cases rx;let#[t,rfl]:=ry;let#[z,aa,n,r,e]:=hH.is I;let af:aa.G.L*k.M<=sizeLine:=by rw[Xe,<-r.B];show hz
 let hcap:¬(2 ^ 63 - 1) / 8<aa.G.L*k.M:=by
  let:sizeLine<=(2 ^ 63 - 1) / 8:=.q
  lia
 let tf:¬(!Builtin.List.listFitsIndex k)=true:=by
  rw[fitsIndex_both h1 h2];show Bool.false_ne_true
 let ng:¬Builtin.List.listTooLong (aa.G.L*k.M)=true:=by
  rw[_b2 af];show Bool.false_ne_true
 let db:List.foldl (λx1 x2=>x1++x2) (List.G []) (List.ß (if aa.G.û=true then 0 else k.M) aa.G)=(List.ß k.M aa).flatten.G:=by
  let f0:∀m,List.foldl (λx1 x2=>x1++x2) (List.G []) (List.ß m aa.G)=(List.ß m aa).flatten.G:=λm=>by
   let:=_b1 aa m []
   symm
  cases aa with|nil=>simp|cons a r'=>symm
 show wpAny_binaryOp_repeat_ref .q #[_,e,rfl] (λs'=>typeIs_int s' k t) noFill_list_mul F.fills_int_mul F.slot_int_rmul repeat_list F.slot_int_index.U
  (call_meets F.slot_int_rmul (typeIs_int s k t) F.entry_int_rmul (F.args_int_rmul_2 _ _) (int___rmul___int_list k t l aa.G n)
   #[e,rfl,#[_,e,rfl],call_meets F.slot_list_mul #[_,e,rfl] F.entry_list_mul (F.args_list_mul_2 _ _) (AutoListH.list___mul___list_int_3 l aa.G n k t tf hcap ng) #[e,?_]])
 rw[db];show#[.I _,_,I.lnew (t':=s.toks) (r.rep k.M) (by rw[_cb,Nat.mul_comm];show hz),rfl,q _ I.fresh]
def _fW(K:Frag):R2:=λx y H Q=>rI IntMulOk (λi j=>.E (i*j)) x y H Q\/_fV K x y H Q\/_cV x y H Q
def _fX{K}(hK:X.K=K<|>Ŕ):OpR X (binaryOp .Mult) (_fW K):=by subst hK;show op_mulI.or (op_repR.or _cW)
def _fY(h:a.natAbs.log2<2000000):Builtin.Int.intBits a<=2000000:=by
 ext Builtin.Int.intBits
 split
 .symm
 .omega
def mulOk_of(h:QQ a b=true):IntMulOk a b:=by
 unfold QQ WK at h;simp at h;let(h\/h)\/h:=h
 .show .of_left (intBits_le_64 h.1 h.2)
 .show .of_right (intBits_le_64 h.1 h.2)
 .let h1:=_fY h.1;let h2:=_fY h.2;ext IntMulOk Builtin.Int.intTooBig;let e:2 ^ 27=134217728:=.q
  let hb:bitsLine=134217728:=e
  grind
def RepA.reps{K}(h:RepA K H true ds xs bs):∀k,∃cs,RepA K H true (List.ß k ds).flatten (List.ß k xs).flatten cs/\∀b>cs,b>bs
 |0=>#[[],by dsimp[List.replicate_zero,List.flatten_nil];ext RepA;show#[rfl,rfl],λ_ z=>(nomatch z)]
 |k+1=>by
  let#[cs,r,hc]:=RepA.reps h k;show#[bs++cs,r.app h,λb hb=>(aA hb).è id (hc b)]
#where in
def _fZ{K}:Ad2 K (_fW K) Jj:=by
 intro H x y s Q ox oy hf k;unfold Jj at hf;dsimp only at hf
 split at hf
 .revert i j e1 e2
  split at hf
  .revert hm;cases _aa hf;show .O #[i,j,qJ ox e1,qJ oy e2,mulOk_of hm,k _ H rfl rfl QX]
  .cases hf
 .revert a n e1 e2
  split at hf
  .revert hc;cases _aa hf;let#[l,xs,bs,e3,q3,r3,h3]:=JZ ox (.O e1) hc.2.2.2;let q3:LsR K H l xs:=by let#[_,z]\/#[z,_]:=q3;show z;rw[e1]at z;cases z
   let#[cs,r4,h4]:=r3.reps n.M;show .h (.O #[l,n,xs,e3,qJ oy e2,q3,hc.1,hc.2.1,by rw[<-r3.len];show hc.2.2.1,λp hp=>(k _ _ rfl rfl (K6 hp r4 λb hb=>_ac _ (h3 b (h4 b hb))))])
  .cases hf
 .revert z n e1 e2
  split at hf
  .revert hc;cases _aa hf;show .h (.h #[z,n,(zQ ox e1).1,qJ oy e2,hc.1,k _ H rfl rfl (_eu hc.2)])
  .cases hf
 .cases hf
def dec(h:Heap)(u:Value):D:=open Classical in if e:∃d,jX h d u then e.choose else .ó
def _f0(r:jX h d u):dec h u=d:=by
 ext dec;let e:∃d,jX h d u:=#[d,r];rw[dif_pos e];show _fb e.choose_spec r
def _f1:∀{ds us},CReps h ds us->us.any (λu=>peq (dec h u) d)=ds.any λz=>peq z d
 |[],_,r=>by rw[r];rfl
 |z::ds,_,r=>by
  let#[u,rr,rfl,h1,h2]:=r;rw[List.any_cons,List.any_cons,_f0 h1,_f1 h2]
def _f2:∀{ds us u},CReps h ds us->u>us->∃d>ds,jX h d u
 | [],_,_,r,hu=>by rw[r]at hu;cases hu
 | z::ds,_,u,r,hu=>by
  let#[u',rr,rfl,h1,h2]:=r;let rfl\/hu:=aD hu
  .show#[z,X3,h1]
  .let#[d,hd,c]:=_f2 h2 hu;show#[d,_ad _ hd,c]
def _f3:∀{n ds d},D.flats n ds=true->d>ds->d.flat n=true
 |_,[],_,_,h=>by grind
 |n,z::ds,d,f,h=>by
  let f:(D.flat _ _&&D.flats _ _)=true:=f;rw[Bool.â]at f;let rfl\/h:=aD h
  .show f.1
  .show _f3 f.2 h
section
variable {K:Frag}
def _f4(K:Frag)(mn:Bool):R2:=λx y H Q=>∃d ds as bs p xs,RepL K H true d x as/\y=.I p/\(SqL K H p xs\/SqT K H p xs)/\RepA K H true ds xs bs/\d.flat 30=true/\D.flats 30 ds=true/\Q (.bl (if mn then !(ds.any λz=>peq z d)else ds.any λz=>peq z d)) H
def _f5(hu:X.A.y+64<cLine):OpR X (compareOp .In) (_f4 X.K false):=by
 rintro a8 s σ H x y v u Q I rx ry ⟨d,ds,as,bs,p,xs,h1,rfl,hq,ra,f1,f2,q⟩;cases ry;let he:∀{us},CReps s.H ds us->∀w,w>us.G->SeqAt.EqAt X.A.in1 s w v (peq (dec s.H w) d):=fun {us} cr w hw=>by
  let#[d',hd,c]:=_f2 cr (~~~hw);rw[_f0 c];show WX 30 (_f3 f2 hd) c (Vv I h1 f1 rx) (by grind)
 let hq\/hq:=hq
 .let#[aa,r,pl,hz]:=I.list hq;let cr:=creps_of I ra f2 r;show SeqAt.in_listAt _ pl.isList (he cr) #[.bl _,H,I,rfl,?_]
  rwa [List.any_toArray,_f1 cr]
 .let#[aa,r,pl,hz]:=I.tuple hq;let cr:=creps_of I ra f2 r;show SeqAt.in_tupleAt _ pl (he cr) #[.bl _,H,I,rfl,?_]
  rwa [List.any_toArray,_f1 cr]
def _f6(hu:X.A.y+64<cLine):OpR X (compareOp .NotIn) (_f4 X.K true):=by
 rintro a8 s σ H x y v u Q I rx ry ⟨d,ds,as,bs,p,xs,h1,rfl,hq,ra,f1,f2,q⟩;cases ry;let he:∀{us},CReps s.H ds us->∀w,w>us.G->SeqAt.EqAt X.A.in1 s w v (peq (dec s.H w) d):=fun {us} cr w hw=>by
  let#[d',hd,c]:=_f2 cr (~~~hw);rw[_f0 c];show WX 30 (_f3 f2 hd) c (Vv I h1 f1 rx) (by grind)
 let hq\/hq:=hq
 .let#[aa,r,pl,hz]:=I.list hq;let cr:=creps_of I ra f2 r;show SeqAt.notIn_listAt _ pl.isList (he cr) #[.bl _,H,I,rfl,?_]
  rwa [List.any_toArray,_f1 cr]
 .let#[aa,r,pl,hz]:=I.tuple hq;let cr:=creps_of I ra f2 r;show SeqAt.notIn_tupleAt _ pl (he cr) #[.bl _,H,I,rfl,?_]
  rwa [List.any_toArray,_f1 cr]
def _f7(mn:Bool):R2:=λx y H Q=>∃i j,x=.x i/\y=.x j/\Q (.bl (if mn then !_dJ i j else _dJ i j)) H
def opInStr:OpR X (compareOp .In) (_f7 false):=λa8 s σ H x y v u Q I rx ry hz=>by let#[i,j,e1,e2,q]:=hz;show _bb a8 s σ H x y v u Q I rx ry #[i,j,e1,e2,q]
def opNotInStr:OpR X (compareOp .NotIn) (_f7 true):=λa8 s σ H x y v u Q I rx ry hz=>by let#[i,j,e1,e2,q]:=hz;show _bT a8 s σ H x y v u Q I rx ry #[i,j,e1,e2,q]
def _f8(K:Frag)(mn:Bool):R2:=λx y H Q=>_f7 mn x y H Q\/_f4 K mn x y H Q
def _f9(hu:X.A.y+64<cLine)(hK:X.K=K<|>Ŕ):OpR X (compareOp .In) (_f8 K false):=by subst hK;show opInStr.or (_f5 hu)
def _ga(hu:X.A.y+64<cLine)(hK:X.K=K<|>Ŕ):OpR X (compareOp .NotIn) (_f8 K true):=by subst hK;show opNotInStr.or (_f6 hu)
def J8(h:LsR K H l xs):SqL K H l xs:=h.sq
def _gb{x y:Sl}(ox:x.ok K H)(oy:y.ok K H)(hy:y.d=.S ys\/y.d=.X ys)(hc:(x.d.flat 30&&D.flats 30 ys)=true)
  (k:Q (.bl (if mn then !(ys.any λz=>peq z x.d)else ys.any λz=>peq z x.d)) H):_f8 K mn x.v y.v H Q:=by
 rw[Bool.â]at hc;let#[l,xs,bs,e3,q3,r3,_]:=items oy hy;let r3':RepA K H true ys xs bs:=by
  cases ho:(y.o != .dp)with|true=>rw[ho]at r3;show r3|false=>rw[ho]at r3;show r3.wk
 show .h #[x.d,ys,x.as,bs,l,xs,RepO.wk ox,e3,?_,r3',hc.1,hc.2,k];let#[_,z]\/#[_,z]:=q3
 .show .O (J8 z)
 .show .h z
#where in
def ZQ:Ad2 K (_f8 K false) (pu2 x8):=by
 intro H x y s Q ox oy hf k;unfold pu2 x8 fIn at hf;dsimp only at hf;cases hy:y.d with
 | lst ys=>
  rw[hy]at hf;dsimp only at hf
  split at hf
  .revert hc;cases _aa hf;show _gb ox oy (.O hy) hc (k _ H rfl rfl x6)
  .cases hf
 | tup ys=>
  rw[hy]at hf;dsimp only at hf
  split at hf
  .revert hc;cases _aa hf;show _gb ox oy (.h hy) hc (k _ H rfl rfl x6)
  .cases hf
 | str b=>
  rw[hy]at hf;dsimp only at hf
  split at hf
  .revert a hx;cases _aa hf;show .O #[a,b,(zQ ox hx).1,(zQ oy hy).1,k _ H rfl rfl x6]
  .cases hf
 |_=>symm
#where in
def _gc:Ad2 K (_f8 K true) (pu2 Kq):=by
 intro H x y s Q ox oy hf k;unfold pu2 Kq Qz fIn at hf;dsimp only at hf;cases hy:y.d with
 | lst ys=>
  rw[hy]at hf;dsimp only at hf
  split at hf
  .revert hc;cases _aa hf;show _gb ox oy (.O hy) hc (k _ H rfl rfl x6)
  .cases hf
 | tup ys=>
  rw[hy]at hf;dsimp only at hf
  split at hf
  .revert hc;cases _aa hf;show _gb ox oy (.h hy) hc (k _ H rfl rfl x6)
  .cases hf
 | str b=>
  rw[hy]at hf;dsimp only at hf
  split at hf
  .revert a hx;cases _aa hf;show .O #[a,b,(zQ ox hx).1,(zQ oy hy).1,k _ H rfl rfl x6]
  .cases hf
 |_=>rw[hy]at hf;cases hf
def _gd(h:RepL K H g d v as):decide (v=.ó)=isNon d:=by
 cases d with|non=>unfold RepL at h;rw[h.1];rfl|bl _=>unfold RepL at h;rw[h.1];rfl|int _=>unfold RepL at h;rw[h.1];rfl|str _=>unfold RepL at h;rw[h.1];rfl|tup _=>unfold RepL at h;let#[a,xs,e,_]:=h;rw[e];rfl|lst _=>unfold RepL at h;let#[a,xs,bs,e,_]:=h;rw[e];rfl|dct _=>unfold RepL at h;let#[a,xs,bs,e,_]:=h;rw[e];rfl|obj _ _=>unfold RepL at h;let#[_,x,o,C,e,_]:=h;rw[e];rfl
#where in
def _ge:Ad2 K (λx y H Q=>y=.ó/\Q (.bl (decide (x=.ó))) H) (f2First fIsNon):=by
 intro H x y s Q ox oy hf k;unfold f2First fIsNon at hf
 split at hf
 .revert hy;cases _aa hf;let e:=_gd (RepO.wk oy);rw[hy]at e;show#[Y4 e,?_];rw[_gd (RepO.wk ox)];show k _ H rfl rfl x6
 .grind
#where in
def _gf:Ad2 K (λx y H Q=>y=.ó/\Q (.bl (!decide (x=.ó))) H) (f2First fNotNon):=by
 intro H x y s Q ox oy hf k;unfold f2First fNotNon at hf
 split at hf
 .revert hy;cases _aa hf;let e:=_gd (RepO.wk oy);rw[hy]at e;show#[Y4 e,?_];rw[_gd (RepO.wk ox)];show k _ H rfl rfl x6
 .grind
def _gg n i:_root_.Q.ixN n i=L2.ixN n i:=rfl
def _gh{x y:Sl}(ox:x.ok K H)(oy:y.ok K H)(hf:jW x.d y.d=@d)(k:∀z:Sl,z.o=sub x.o->z.d=d->z.ok K H->(∀b>z.frz,b>x.frz)->(∀b>z.as,b>x.as)->Q z.v H):rIx K x.v y.v H Q:=by
 let seq:∀ds,(x.d=.S ds\/x.d=.X ds)->∀i,y.d=.E i->((_root_.Q.ixN ds.B i).bind λj=>ds[j]?)=@d->rIx K x.v y.v H Q:=by
  intro ds hx i hy hd;let#[l,xs,bs,e3,q3,r3,h3,h4]:=items ox hx;cases hj:_root_.Q.ixN ds.B i with
  | none=>grind
  | some j=>
   rw [hj]at hd;let#[v,cs,e4,r4,h5]:=r3.get (hd);let pj:atI xs i=@v:=by
    ext atI
    rwa [<-r3.len,<-_gg,hj]
   let fin:Q v H:=by
    cases ho:x.o with
    | dp=>
     rw[ho]at r4;show k #[.dp,d,v,cs] (by rw[ho];rfl) rfl r4 (λb hb=>(nomatch hb)) λb hb=>h3 b (h5 b hb)
    | no=>
     rw[ho]at r4;show k #[.r,d,v,cs] (by rw[ho];rfl) rfl r4 (λb hb=>h4 .q b (h5 b hb)) λb hb=>h3 b (h5 b hb)
    | rt=>
     rw[ho]at r4;show k #[.r,d,v,cs] (by rw[ho];rfl) rfl r4 (λb hb=>h4 .q b (h5 b hb)) λb hb=>h3 b (h5 b hb)
   let#[_,z]\/#[_,z]:=q3
   .show .O #[l,xs,i,v,e3,qJ oy hy,J8 z,pj,fin]
   .show .h (.O #[l,xs,i,v,e3,qJ oy hy,z,pj,fin])
 unfold jW at hf;cases hx:x.d with
 | lst ds=>
  rw [hx]at hf;cases hy:y.d with| int i=>rw[hy]at hf;show seq ds (.O hx) i hy hf| _=>rw[hy]at hf;cases hf
 | tup ds=>
  rw [hx]at hf;cases hy:y.d with| int i=>rw[hy]at hf;show seq ds (.h hx) i hy hf| _=>rw[hy]at hf;cases hf
 | str z=>
  rw [hx]at hf;cases hy:y.d with
  | int i=>
   rw [hy]at hf;let hf:((_root_.Q.ixN z.cps.L i).bind λj=>(z.cps.R[j]?).C λc=>D.x #[%[c|0]])=@d:=hf;cases hj:_root_.Q.ixN z.cps.L i with
   | none=>grind
   | some j=>
    rw[hj]at hf;cases hc:z.cps.R[j]? with
    | none=>rw[Option.bind_some,hc]at hf;cases hf
    | some c=>
     rw[Option.bind_some,hc]at hf;cases _aa hf;let pj:atI z.cps.R i=@c:=by
      ext atI
      rwa [Xk,<-_gg,hj]
     let#[e1,hz]:=zQ ox hx;show .h (.h #[z,i,c,e1,qJ oy hy,hz,pj,?_]);let rp:∀g,RepL K H g _ (.x #[%[c|0]]) []:=λg=>ZK (show 1<=sizeLine by decide)
     cases ho:x.o with|dp=>show k #[.dp,.x #[%[c|0]],.x #[%[c|0]],[]] (by rw[ho];rfl) rfl (rp false) (λb hb=>(nomatch hb)) λb hb=>(nomatch hb)|no=>show k #[.r,.x #[%[c|0]],.x #[%[c|0]],[]] (by rw[ho];rfl) rfl (rp true) (λb hb=>(nomatch hb)) λb hb=>(nomatch hb)|rt=>show k #[.r,.x #[%[c|0]],.x #[%[c|0]],[]] (by rw[ho];rfl) rfl (rp true) (λb hb=>(nomatch hb)) λb hb=>(nomatch hb)
  |_=>rw[hy]at hf;cases hf
 |non=>rw[hx]at hf;cases hf|bl _=>rw[hx]at hf;cases hf|int _=>rw[hx]at hf;cases hf|dct _=>symm|obj _ _=>rw[hx]at hf;cases hf
def q_ix(ha:QV X Z qa a ea)(hb:QV X Z true b eb)(hs:_bM eb)(hK:X.K=Z.K<|>Ŕ):QV X Z qa (j8 a b) (.Subscript ea eb pos):=
 qj (_bN (hK▸_bS) ha hb hs) fun σ H Q ai=>ex8 ai λE L r m w hc xc k=>by
  show qV m w (hc) xc λE1 s h1 x L1 H1 e1 e2 m1 w1 ok fr sr st sm=>(qV m1 w1 h1 (xc.step st) λE2 s2 h2 y L2 H2 e3 e4 m2 w2 ib rh rz bu dw=>?_)
  let#[z,hz,rfl]:=xw h2;cases hf:jW s.2 s2.2 with
  |none=>symm
  |some d=>
   rw[hf]at hz;cases _aa hz;let kx:=Qk ok fr bu (dw rfl);show _gh kx.1 ib (by rw[e2,e4];show hf) λz zo zd wg zf za=>k _ _ rfl z L2 H2 (by symm) zd m2 w2 wg (λb hb=>kx.2 b (zf b hb)) (V4 sr za) (st.J bu) λhq=>kQ (sm hq) (dw rfl)
def Q3(ht:QT X Z q u e)(ha:QE X Z q a ea)(hb:QE X Z q b eb):QE X Z q (cIf u a b) (.IfExp e ea eb pos):=qj (_aF ht ha hb) fun σ H Q ai=>ex8 ai λE L r m w hc xc k=>
 _eH m w (hc) xc λE1 s h1 L1 H1 m1 w1 st sm=>by
  let fin:∀{c},c E1=@r->tQ Z q c σ H1 Q:=λhc=>#[E1,L1,r,m1,w1,hc,xc.step st,λE' a z x L' H' e1 e2 m' w' fm uj=>k E' a z x L' H' e1 e2 m' w' (st.J fm) λhq=>#[kQ (sm hq) (uj hq).1,λb hb=>JY (sm hq) ((uj hq).2 b hb)]]
  cases s with|true=>symm|false=>rw[Xd (by simp)]at h1 ⊢;show fin h1
def _gi(h:QE X Z q a ea):QE X Z q a (.BoolOp op [ea] pos):=_aD h
def _gj(ha:QV X Z q a ea)(hb:QE X Z q b (.BoolOp .And (eb::es) pos)):QE X Z q (W7 a b) (.BoolOp .And (ea::eb::es) pos):=qj (_aE ha hb) fun σ H Q ai=>ex8 ai λE L r m w hc xc k=>
 qV m w (hc) xc λE1 s h1 x L1 H1 e1 e2 m1 w1 ok fr sr st sm=>by
  cases hs:s.2 with
  | bl kk=>
   rw[hs]at h1;show#[kk,Vz ok (e2.J hs),?_];cases kk with
   |true=>
    show#[E1,L1,r,m1,w1,h1,xc.step st,λE' a z x L' H' e1 e2 m' w' fm uj=>k E' a z x L' H' e1 e2 m' w' (st.J fm) λhq=>#[kQ (sm hq) (uj hq).1,λb hb=>JY (sm hq) ((uj hq).2 b hb)]]
   |false=>
    cases _aa h1;let#[w3,fh]:=W3 w1 st (x6 (fr:=[])) (λ_ z=>(nomatch z)) (λ_ z=>(nomatch z)) (λ_ z=>(nomatch z));show k _ _ rfl _ L1 H1 rfl rfl m1 w3 fh λhq=>#[sm hq,λ_ z=>(nomatch z)]
  |_=>rw[hs]at h1;cases h1
def truV{x:Sl}(ok:x.ok K H)(h:truth x.d=@k)(hd:∀kvs,x.d≠.dct kvs):_bh K x.v H k:=by
 cases hx:x.d with
 |non=>rw[hx]at h;rw[_er ok hx];show(_aa h).à|bl b=>rw[hx]at h;rw[Vz ok hx];show(_aa h).à|int i=>rw[hx]at h;rw[qJ ok hx];show(_aa h).à
 |str z=>
  rw[hx]at h;let#[e,hz]:=zQ ok hx;rw[e];show#[hz,?_];rw[<-_aa h];change _=(((z.cps.L:Nat):Int) != 0);rw[Bool.eq_iff_iff];simp
 |lst ds=>
  rw[hx]at h;let#[a,xs,bs,e,q,r,_]:=items ok (.O hx);rw[e];let q':LsR K H a xs:=by let#[_,z]\/#[z,_]:=q;show z;rw[hx]at z;cases z
  show .O #[xs,J8 q',?_];rw[<-_aa h];let:=r.len;cases ds<;>cases xs<;>symm
 |tup ds=>
  rw[hx]at h;let#[a,xs,bs,e,q,r,_]:=items ok (.h hx);rw[e];let q':SqT K H a xs:=by let#[z,_]\/#[_,z]:=q;rw[hx]at z;cases z;show z
  show .h (.O #[xs,q',?_]);rw[<-_aa h];let:=r.len;cases ds<;>cases xs<;>symm
 |dct kvs=>show absurd hx (hd kvs)|obj c f=>rw[hx]at h;cases h
def _gk(h:truthQ d=@k):truth d=@k/\∀kvs,d≠.dct kvs:=by
 cases d<;>first|show#[h,nofun]|cases h
def x5(h:QV X Z q a ea)(he:(∀gz,isTrue ea X.Y gz=(do let v <-gz;standAt ea.pos;holding [v] (truthy v)))<|>Ŗ)(hK:X.K=Z.K<|>Ŕ):QT X Z q (tEQ a) ea:=_ef (_bm h he) fun σ H Q ai=>ex8 ai λE L r m w hc xc k=>
 qV m w (show bnd (a E) _=@r from hc) xc λE1 s h1 x L1 H1 e1 e2 m1 w1 ok fr sr st sm=>by
  let#[kk,hk,rfl]:=xw h1;let#[h2,h3]:=_gk hk;show#[kk,hK▸truV ok (by rw[e2];show h2) (by rw[e2];show h3),k _ _ rfl L1 H1 m1 w1 st sm]
end
def V2:∀{L i} {q:α},L[i]?=@q->∃A B,L=A++q::B/\∀q',L.ç i q'=A++q'::B
 |[],_,_,h=>by simp at h
 |a::L,0,q,h=>by
  let e:a=q:= ~~~h
  subst e;show#[[],L,rfl,λ_=>rfl]
 |a::L,i+1,q,h=>by
  let#[A,B,e,f]:=V2 (~~~h);show#[a::A,B,by rw[e];rfl,λq'=>by rw[List.ÿ,f];rfl]
section
variable {K:Frag}{H:Hp}{M T L:Ls}{y y':Sl}{l:Addr}{ob:HO}
def World.write(w:World K H (@y::(T++M)))(hl:l>y.ë)(ok':y'.ok K (upd H l ob))(nd:y'.ë.V)(h1:∀a>y'.ë,a>y.ë\/a>jk T)(h2:∀a>y'.frz,a>y.as\/a>jk T\/a>k6 T)(h3:∀a>y'.ë,a∉y'.frz):
  World K (upd H l ob) (@y'::M)/\Step H (@y::(T++M)) (upd H l ob) (@y'::M):=by
 let wn:=w.nd;rw [jK,k7,Xa,Xa]at wn;let#[n1,#[n2,n3,n4],n5]:=wn;let oy:l>jk (@y::(T++M)):=_ac _ hl;let mr:=w.own_al oy;let ds:∀a,(a>y.ë\/a>jk T\/a>jk M)->¬(a>y.frz\/a>k6 T\/a>k6 M):=λa ha hf=>by
  show w.ds a ?_ ?_
  .rw[jK,k7];let z\/z\/z:=ha
   .show _ac _ z
   .show _ab _ (_ac _ z)
   .show _ab _ (_ab _ z)
  .rw[vW,qK];let z\/z\/z:=hf
   .show _ac _ z
   .show _ab _ (_ac _ z)
   .show _ab _ (_ab _ z)
 let noM:∀z,@z>M->l∉z.as:=λz hz ha=>by
  let q\/q:=Sl.as_of ha
  .show n5 l hl l (_ab _ (mem_owned.s #[z,hz,q])) rfl
  .show ds l (.O hl) (.h (.h (mem_frozen.s #[z,hz,q])))
 let ke:∀a o,H a=@o->a≠l->upd H l ob a=@o:=λa o e ne=>by rw[qk ne];show e
 let kp:∀as,l∉as->Kp H _ as:=λas hn=>by
  show#[λa xs e=>ke a _ e λz=>?_,λa o u e=>ke a _ e λz=>?_,λa ha o e=>ke a o e λz=>hn (z▸ha)]
  .lia
  .subst z;let#[_,q]\/#[_,q]\/#[_,q]:=mr<;>(rw[e]at q;cases q)
 let wM:World K (upd H l ob) M:=by
  let w1:=w.tail.right;show#[λz hz=>RepO.kp (w1.ok z hz) (kp _ (noM z hz)),w1.nd,w1.ds]
 show#[wM.æ ok' nd (λa ha hM=>?_) (λa ha hM=>?_) (λa ha hM=>?_) h3,λa o e hn=>ke a o e λz=>hn (z▸oy),λa ha=>?_,λa ha=>?_]
 .let z\/z:=h1 a ha
  .show n5 a z a (_ab _ hM) rfl
  .show n4 a z a hM rfl
 .let z\/z:=h1 a ha
  .show ds a (.O z) (.h (.h hM))
  .show ds a (.h (.O z)) (.h (.h hM))
 .let z\/z\/z:=h2 a ha
  .let z\/z:=Sl.as_of z
   .show n5 a z a (_ab _ hM) rfl
   .show ds a (.h (.h hM)) (.O z)
  .show n4 a z a hM rfl
  .show ds a (.h (.h hM)) (.h (.O z))
 .rw[jK,k7];let z\/z:=aA ha
  .let z\/z:=h1 a z
   .show .O (_ac _ z)
   .show .O (_ab _ (_ac _ z))
  .show .O (_ab _ (_ab _ z))
 .rw[jK,k7,vW,qK];let z\/z:=aA ha
  .let z\/z\/z:=h2 a z
   .let z\/z:=Sl.as_of z
    .show .h (.O (_ac _ z))
    .show .O (_ac _ z)
   .show .h (.O (_ab _ (_ac _ z)))
   .show .O (_ab _ (_ac _ z))
  .show .O (_ab _ (_ab _ z))
def World.writeAt(w:World K H (T++L))(hy:L[i]?=some @y)(hl:l>y.ë)(ok':y'.ok K (upd H l ob))(nd:y'.ë.V)(h1:∀a>y'.ë,a>y.ë\/a>jk T)(h2:∀a>y'.frz,a>y.as\/a>jk T\/a>k6 T)(h3:∀a>y'.ë,a∉y'.frz):
  World K (upd H l ob) (L.ç i @y')/\Step H (T++L) (upd H l ob) (L.ç i @y'):=by
 let#[A,B,e,f]:=V2 hy;rw[f];subst e;let p:(T++(A++@y::B)).á (@y::(T++(A++B))):=by
  show(List.á.append_left T (List.perm_middle)).J List.perm_middle
 let#[w2,s2]:=World.write (w.perm p) hl ok' nd h1 h2 h3;show#[w2.perm List.perm_middle.à,s2.perm p.à List.perm_middle.à]
end
def RepA.snoc{K}(h:RepL K H g d x cs)(r:RepA K H g ds xs bs):RepA K H g (ds++[d]) (xs++[x]) (bs++cs):=by
 show RepA.app ?_ r;show#[x,[],cs,[],rfl,by simp,h,by ext RepA;show#[rfl,rfl]]
def _gl{K}{y:Sl}(ok:y.ok K H)(hd:y.d=.S ds)(ho:y.o≠.r):∃l xs bs,y.v=.I l/\H l=@(.S xs)/\y.as=l::bs/\l>y.ë/\RepA K H (y.o != .dp) ds xs bs:=by
 let#[o,d,v,as]:=y;dsimp only at hd ho;subst hd;cases o with
 |no=>show absurd rfl ho
 |rt=>
  let#[a,xs,bs,rfl,r,q,rfl]:=(ok);show#[a,xs,bs,rfl,q,rfl,by simp[Sl.ë],r]
 |dp=>
  let ok:RepL K H false _ v as:=ok;let#[a,xs,bs,rfl,r,q]:=ok;let#[q,rfl]\/#[z,_]:=q
  .show#[a,xs,bs,rfl,q,rfl,by simp[Sl.ë],r]
  .symm
def _gm{K}(w:World K H (T++L))(hy:L[i]?=some @y)(hH:H l=@(.S xs))(ha:y.as=l::bs)(hl:l>y.ë)(hv:y.v=.I l)
  (r:RepA K H (o' != .dp) ds' xs' cs) (hc:(o'=.rt/\∀a>cs,a>bs\/a>jk T\/a>k6 T)\/(o'=.dp/\y.o=.dp/\cs.V/\∀a>cs,a>bs\/a>jk T)):
  World K (upd H l (.S xs')) (L.ç i @#[o',.S ds',y.v,l::cs])/\Step H (T++L) (upd H l (.S xs')) (L.ç i @#[o',.S ds',y.v,l::cs]):=by
 let oL:=mem_owned.s #[y,qX hy,hl];let oy:l>jk (T++L):=by rw[k7];show _ab _ oL
 let nd:=w.nd;rw [k7,Xa]at nd;let nT:=λz=>nd.2.2 l z l oL rfl
 let yn:y.ë.V:=by
  let#[A,B,e,_]:=V2 hy;let:=nd.2.1;rw[e,k7,Xa]at this;show(List.nodup_append.mp this.2.1).1
 let nb:l∉bs:=λz=>by
  cases ho:y.o with
  | no=>unfold Sl.ë at hl;rw[ho]at hl;show nomatch hl
  | rt=>
   let:l>y.frz:=by ext Sl.frz;rw[ho,ha];show z
   show w.ds l oy (by rw[qK];show _ab _ (mem_frozen.s #[y,qX hy,this]))
  | dp=>
   unfold Sl.ë at yn;rw[ho,ha]at yn;show(List.ø.mp yn).1 z
 let nc:l∉cs:=λz=>by
  let#[_,hc]\/#[_,_,_,hc]:=hc
  .let q\/q\/q:=hc l z
   .show nb q
   .show nT q
   .show(λz=>w.ds l oy (by rw[qK];show _ac _ z)) q
  .let q\/q:=hc l z
   .show nb q
   .show nT q
 let kp:Kp H (upd H l (.S xs')) cs:=by
  let k2:∀a o,H a=@o->a≠l->upd H l (.S xs') a=@o:=λa o e ne=>by rw[qk ne];show e
  show#[λa zs e=>k2 a _ e λz=>?_,λa o u e=>k2 a _ e λz=>?_,λa ha o e=>k2 a o e λz=>nc (z▸ha)]
  .symm
  .symm
 let r':=r.kp kp;let#[rfl,hc]\/#[rfl,mf,dy,hc]:=hc
 .show World.writeAt w hy hl (y':=_) #[l,xs',cs,hv,r',vQ,rfl] (by simp[Sl.ë]) (λa h=>?_) (λa h=>?_) (λa h z=>?_)
  .let:a=l:=by simpa [Sl.ë]using h
   grind
  .let q\/q:=hc a (by simpa [Sl.frz]using h)
   .show .O (ha▸_ad _ q)
   .show .h q
  .let:a=l:=by simpa [Sl.ë]using h
   subst this;show nc (by simpa [Sl.frz]using z)
 .let oa:y.ë=y.as:=by ext Sl.ë;rw[mf]
  show World.writeAt w hy hl (y':=_) ?_ (List.ø.s #[nc,dy]) (λa h=>?_) (λa h=>(nomatch h)) (λa h z=>(nomatch z))
  .change RepL K _ false _ y.v _;show#[l,xs',cs,hv,r',.O #[vQ,rfl]]
  .let q\/q:=aD (h)
   .grind
   .let q\/q:=hc a q
    .show .O (by rw[oa,ha];show _ad _ q)
    .show .h q
section
def _gn{K}{x:Sl}(ok:x.ok K H)(hd:x.d=.S ds):tyV K "list" x.v H:=by
 let#[a,xs,bs,e1,q1,_]:=items ok (.O hd);rw[e1];let#[_,z]\/#[z,_]:=q1
 .show .O #[rfl,xs,z.sq]
 .symm
def _go{K}{x:Sl}(ok:x.ok K H) b (hb:b=false->qW x.sd=true):∃cs,RepL K H b x.d x.v cs/\(∀a>cs,a>x.as)/\(b=false->∀a>cs,a>x.ë)/\(b=false->x.ë.V->cs.V):=by
 cases b with
 | true=>show#[x.as,RepO.wk ok,λ_ h=>h,(λz=>by cases z),(λz=>by cases z)]
 | false=>
  by_cases ho:x.o=.dp
  .let e:x.ë=x.as:=by ext Sl.ë;rw[ho]
   show#[x.as,?_,λ_ h=>h,λ_ a h=>by rw[e];show h,λ_ n=>by rw[e]at n;show n];let:=ok;unfold Sl.ok at this;rw[ho]at this;show this
  .let hp:x.d.pure=true:=by
    let z\/z:=Bool.or_eq_true_iff.mp (hb rfl)
    .show absurd (~~~z) ho
    .show z
   let#[z,rp]:=RepL.pu (g':=false) (RepO.wk ok) hp;show#[[],rp,λ_ h=>(nomatch h),λ_ _ h=>(nomatch h),λ_ _=>Xy]
def Q8{l:List α}(h:l[i]?=@x):l.ç i x=l:=by
 let#[h1,h2]:=aF h;rw[<-h2];simp
def mut1 {D' f i} {G:V->V->Hp->Prop} (m:Mt E σ L) (w:World Z.K H L) (hc:vq f i c E=@r) (k:FlP Z pn D' σ H L r)
  (g:∀ l (x) (xs) (ds ds') (d) (bs cs) (H1) (gg),f ds d=@ds'->H1 l=@(.S xs)->RepA Z.K H1 gg ds xs bs->RepL Z.K H1 gg d x cs ->
   (∀ xs' es,RepA Z.K H1 gg ds' xs' es->(∀a>es,a>bs\/a>cs)->((bs++cs).V->es.V)->D'.nx σ (upd H1 l (.S xs')))->G (.I l) x H1):
  ∃ v,σ[i]?=some @v/\tyV Z.K "list" v H/\tQ Z q c σ H (G v):=by
 unfold vq at hc;cases h0:E[i]? with
 | none=>rw[h0]at hc;cases hc
 | some s0 =>
  cases s0 with
  | none=>rw[h0]at hc;cases hc
  | some s0=>
   let#[o0,d0]:=s0;cases d0 with
   | lst ds0=>
    rw [h0]at hc;let#[x0,a1,a2,a3,a4]:=m.get h0;show #[x0.v,a4,_gn (w.ok x0 (qX a1)) a3,(KJ m w hc k λE1 s h1 x L1 H1 e1 e2 m1 w1 st _=>?_)];cases hE:E1[i]? with
    | none=>rw[hE]at h1;cases h1
    | some s1=>
     cases s1 with
     | none=>rw[hE]at h1;cases h1
     | some s1=>
      let#[oo,dd]:=s1;rw [hE]at h1;cases dd with
      | lst ds=>
       dsimp only at h1
       by_cases ju:oo=.r
       .rw [X7 ju]at h1;cases h1
       .rw [Xd ju]at h1;cases hfd:f ds s.2 with
        | none=>rw[hfd]at h1;cases h1
        | some ds'=>
         rw[hfd]at h1;let#[y,b1,b2,b3,b4]:=m1.get hE;let hv:y.v=x0.v:=by rw[a4]at b4;show(_aa (_aa b4)).à
         let#[l,xs,bs,c1,c2,c3,c4,c5]:=_gl (w1.ok y (_ad _ (qX b1))) b3 (b2▸ju);let wm:=hv▸c1;rw[wm];let wT:=w1;let pc:=w1.head;let nd:=w1.nd;rw[jK,Xa]at nd;let oT:jk [@x]=x.ë:=by simp
         let fT:k6 [@x]=x.frz:=by simp
         by_cases hd:oo=.dp/\qW s=true
         .rw[X7 hd]at h1;cases _aa h1;let hyo:=b2.J hd.1;rw[hyo]at c5;let#[cs,r1,h3,h4,h5]:=_go pc false λ_=>by rw[show x.sd=s from by simp[Sl.sd,e1,e2]];show hd.2
          show g l x.v xs ds ds' s.2 bs cs H1 false hfd c2 c5 (e2▸r1) λxs' es re he hn=>?_
          let ynd:(bs++cs).V:=by
           let yo:y.ë=l::bs:=by ext Sl.ë;rw[hyo,c3]
           let#[A,B,e,_]:=V2 b1;let q:=nd.2.1;rw[e,k7,jK,Xa]at q;let q2:=(List.nodup_append.mp q.2.1).1;rw[yo]at q2;rw[Xa];show#[(List.ø.mp q2).2,h5 rfl nd.1,λa ha b hb ku=>?_];subst ku;show nd.2.2 a (h4 rfl a hb) a (mem_owned.s #[y,qX b1,by rw[yo];show _ad _ ha]) rfl
          let#[w3,s3]:=_gm (o':=.dp) (ds':=ds') (xs':=xs') wT b1 c2 c3 c4 c1 re (.h #[rfl,hyo,hn ynd,λa ha=>(he a ha).imp id λz=>by rw[oT];show h4 rfl a z]);show k σ _ _ Pn.ò ?_ w3 (st.J s3);let:=m1.ç (x:=#[.dp,.S ds',y.v,l::es]) i;rw[Q8 b4]at this;show this
         .rw[Xd hd]at h1;cases _aa h1;let c6:RepA Z.K H1 true ds xs bs:=by
           cases hb:(y.o != .dp)with|true=>rw[hb]at c5;show c5|false=>rw[hb]at c5;show c5.wk
          show g l x.v xs ds ds' s.2 bs x.as H1 true hfd c2 c6 (e2▸RepO.wk pc) λxs' es re he hn=>?_
          let#[w3,s3]:=_gm (o':=.rt) (ds':=ds') (xs':=xs') wT b1 c2 c3 c4 c1 re (.O #[rfl,λa ha=>(he a ha).imp id λz=>by rw[oT,fT];show Sl.as_of z]);show k σ _ _ Pn.ò ?_ w3 (st.J s3);let:=m1.ç (x:=#[.rt,.S ds',y.v,l::es]) i;rw[Q8 b4]at this;show this
      |_=>cases h1
   |_=>rw[h0]at hc;cases hc
def _gp(hb:PE X (.ù (.Attribute o "append" ay) [e] [] ah) (tBM Z.K "list" _b3 (xk i) (vx6 (tQ Z q c) xwa)))(hs:swapsWith (.ù (.Attribute o "append" ay) [e] [] ah) none pos.line X.Y=pure false<|>Ŕ):
  QS X Z pn (vq vk i c) (.Expr (.ù (.Attribute o "append" ay) [e] [] ah) pos):=zV (_aJ hb hs) λD σ H ai=>ex7 ai λE L r m w hc k=>
 mut1 m w hc k λl x xs ds ds' d bs cs H1 gg hf hH ra rx fin=>by
  unfold vk at hf
  by_cases hl:ds.B<big
  .rw[X7 hl]at hf;cases _aa hf;show#[l,xs,x,rfl,rfl,hH,by rw[<-ra.len];show hl,fin _ _ (RepA.snoc rx ra) (λa ha=>aA ha) λh=>h]
  .rw[Xd hl]at hf;cases hf
end
section
variable {X:Cx}{Z:Fx0}{pn:List Nat}{q:Bool}{kc vc:Ex}{e ke ve:Expr}{st:Stmt}
#where in
def _gq{i:Nat}{W:V->V->V->Hp->(Hp->Prop)->Prop}(hp:PS X st λD σ H=>tQ Z q vc σ H λv H1=>xk i σ H1 λo H2=>tV Z true kc σ H2 λy H3=>W o y v H3 λH4=>D.nx σ H4)(hg:g0 none=false/\g0 @none=false)
  (spec:∀{H L} {y x z:Sl} {d} {C:Hp->Prop},L[i]?=@(@y)->World Z.K H (@x::L)->z.ok Z.K H->g (y.o,y.d) z.d x.d=@d->(∀H' as,World Z.K H' (L.ç i @#[.rt,d,y.v,as])->Step H (@x::L) H' (L.ç i @#[.rt,d,y.v,as])->C H')->W y.v z.v x.v H C):
  QS X Z pn (_dS g0 g i kc vc) st:=zV hp λD σ H ai=>ex7 ai λE L r m w hr k=>
 KJ m w hr k λE1 s1 h1 x L1 H1 e1 e2 m1 w1 jt _=>by
  split at h1
  .revert hd
   match h0:E1[i]? with
   |none=>rw[h0,hg.1]at hd;cases hd|some none=>rw[h0,hg.2]at hd;cases hd
   |some @s0=>
   let#[y0,a1,a2,a3,a4]:=m1.get h0;show#[y0.v,a4,?_];let#[E2,ky,hk1,ic]\/#[E2,c,hk1,rfl]:=_eI h1
   .show#[E1,L1,_,m1,w1.tail,hk1,(λ_ _ z=>by cases z),λE' s' z zk L2 H2 f1 f2 m2 w2 t4 frz _ bu sm=>?_];injection z with z1 z2;subst z1 z2
    match hE:E2[i]? with
    |none=>rw[hE]at ic;cases ic|some none=>rw[hE]at ic;cases ic
    |some @s2=>
    rw[hE]at ic;let#[d,mw,rfl]:=Option.map_eq_some_iff.mp ic;let#[y,b1,b2,b3,b4]:=m2.get hE;let hyv:y.v=y0.v:=by rw[a4]at b4;show(_aa (_aa b4)).à
    let#[w3,fh]:=_ee (T:=[@x]) w1 bu w2;rw[<-hyv];show spec (d:=d) b1 w3 t4 (by rw[b2,b3,f2,e2];show mw) λH' as w4 kg=>k σ _ _ Pn.ò ?_ w4 ((jt.J fh).J kg)
    let:=m2.ç (x:=#[.rt,d,y.v,as]) i;rw[Q8 b4]at this;show this
   .show#[E1,L1,_,m1,w1.tail,hk1,(λE' c' e C L' H' hm m' w' st=>by injection e with z1 z2;subst z1 z2;show k C σ L' H' hm Pn.ò m' w' ((jt.J Step.ý).J st)),λE' s' z=>by cases z]
  .cases h1
end
section
def _gr(I1:L2.Inv X a8 σ H1 s1)(q:R (Its x) H1):∅ (pyIter (.x x t)) (PIE X a8 σ tg R) X.xe s1:=by
 let fp:∀b>[↥s1],wW X a8 H1 b:=λb hb=>by
  let e:b=↥s1:= ~~~hb
  subst e;show I1.fpOk (Xb _) (I1.hok.fresh (Xb _))
 cases ha:x.cps.all _
 .show wpAny_pyIter_wide ha #[↥s1,[↥s1],_,_,H1,rfl,I1.kept (t':=s1.toks) λb o e=>X2 _ e,_cU (λA' hA=>PySem.Walks.strWide hA _ x t) (λ_ _ _ _ _ st h=>wpAny_pyIter_striter_wide st h) (by rfl),#[_,X9 _ rfl,rfl,rfl],fp,q]
 .show wpAny_pyIter_ascii ha #[↥s1,[↥s1],_,_,H1,rfl,I1.kept (t':=s1.toks) λb o e=>X2 _ e,_cU (λA' hA=>PySem.Walks.strAscii hA _ x t) (λ_ _ _ _ _ st h=>wpAny_pyIter_striter_ascii st h) (by rfl),#[_,X9 _ rfl,rfl,rfl],fp,q]
def _gs{K} c:Sl.ok K H #[.r,.x #[%[c|0]],.x #[%[c|0]],[]]:=by
 change RepL K H true _ _ _;show ZK (show 1<=sizeLine by decide)
def _gt{K} i:Sl.ok K H #[.r,.E i,.E i,[]]:=by
 change RepL K H true _ _ _;show wQ
def iAny(K:Frag)(tl:TE):TI:=fun σ H R=>tl σ H λx H1=>(∃a xs,x=.I a/\SqL K H1 a xs/\(xs.B<=sizeLine->R (Itl K a) H1))\/(∃a xs,x=.I a/\SqT K H1 a xs/\(xs.B<=sizeLine->R (Itt K a) H1))\/∃z,x=.x z/\R (Its z) H1
def _gu(hl:PE X l tl):PI X tg l (iAny X.K tl):=by
 intro a8 s σ H R I h;show thn (hl a8 s σ H _ I h) λv s1 hz=>?_
 let#[x,H1,I1,r1,q1]:=hz;let#[a,xs,rfl,hq,q]\/#[a,xs,rfl,hq,q]\/#[z,rfl,q]:=q1
 .cases r1;let#[aa,rv,p,hz]:=I1.list hq;show Zf p.isList (#[↥s1,[↥s1],_,_,H1,rfl,I1.kept (t':=s1.toks) λb o e=>X2 _ e,_aT a _,#[_,X9 _ rfl,rfl,rfl],λb hb=>?_,q hz]);let e:b=↥s1:= ~~~hb
  subst e;show I1.fpOk (Xb _) (I1.hok.fresh (Xb _))
 .cases r1;let#[aa,rv,p,hz]:=I1.tuple hq;show wpAny_pyIter_tuple (p) (#[↥s1,[↥s1],_,_,H1,rfl,I1.kept (t':=s1.toks) λb o e=>X2 _ e,_aU a _,#[_,X9 _ rfl,rfl,rfl],λb hb=>?_,q hz]);let e:b=↥s1:= ~~~hb
  subst e;show I1.fpOk (Xb _) (I1.hok.fresh (Xb _))
 .let#[t,rfl]:=r1;show _gr I1 q
def _gv{K}{x:Sl}(hx:x.d=.S es)(ev:x.v=.I l):∀H2,x.let.ok K H2->∃ys cs,SqL K H2 l ys/\RepA K H2 true es ys cs/\∀b>cs,b>x.as:=λH2 hok=>by
 let#[a',ys,cs,ya,q4,r4,h4,_]:=items hok (.O hx);cases V.I.inj (ya.à.J ev);let#[_,z]\/#[z,_]:=q4
 .show#[ys,cs,z.sq,r4,h4]
 .rw[show x.let.d=D.S es from hx]at z;cases z
def _gw{K}{x:Sl}(hx:x.d=.X es)(ev:x.v=.I l):∀H2,x.let.ok K H2->∃ys cs,SqT K H2 l ys/\RepA K H2 true es ys cs/\∀b>cs,b>x.as:=λH2 hok=>by
 let#[a',ys,cs,ya,q4,r4,h4,_]:=items hok (.h hx);cases V.I.inj (ya.à.J ev);let#[z,_]\/#[_,z]:=q4
 .rw[show x.let.d=D.X es from hx]at z;cases z
 .show#[ys,cs,z,r4,h4]
def _gx{K}(w1:World K H1 (@x::L1))(st:Step H L H1 (@x::L1)):World K H1 (L1++[x.let].C some)/\Step H L H1 (L1++[x.let].C some):=by
 show#[World.comm (w1.tail.consNo (JJ w1.head) rfl λb hb=>w1.apart b hb),st.keep,λb hb=>?_,λb hb=>?_]
 .let:b>jk L1:=by simpa [_d3]using hb
  show st.ë b (_ab _ this)
 .let:b>k6 L1\/b>x.as:=by simpa [_d3]using hb
  let z\/z:=this
  .show st.frz b (_ab _ z)
  .show _eh st b z
abbrev ItS(S:Hp->List V->Prop):It:=#[λi H=>∃xs x,S H xs/\xs[i]?=@x,λi H x H'=>H'=H/\∀xs,S H xs->xs[i]?=@x,λi H=>∃xs,S H xs/\xs.B<=i]
def _gy{K}{x:Sl}(ag:∀H2,x.let.ok K H2->∃ys cs,S H2 ys/\RepA K H2 true es ys cs/\∀b>cs,b>x.as):Walks K (ItS S) [x.let] es:=by
 show#[λt ht=>by rw[aC ht];rfl,λi H2 hok hi=>?_,λH2 hok=>?_,λi H2 v H3 d hok hy jf=>?_]
 all_goals let#[ys,cs,s1,s2,s3]:=ag H2 (hok _ (aB rfl))
 .let hl:=s2.len;show#[ys,ys[i]'_,s1,X1 (by symm)]
 .show#[ys,s1,by rw[s2.len];show Xb _]
 .let#[rfl,hy]:=hy;let#[v',bz,f1,f2,f3]:=s2.get jf;let:=hy ys s1;rw[f1]at this;cases _aa this;show#[#[.r,d,v,bz],rfl,rfl,rfl,xj,f2,λb hb=>#[x.let,aB rfl,s3 b (f3 b hb)]]
#where in
def wK(h:QE X Z q c e)(hK:X.K=Z.K<|>Ŕ):QI X Z q tg (itS c) e:=λa8 s σ H R I ai=>ex8 ai λE L r m w hc xc k=>by
 show(hK▸_gu h) a8 s σ H R I (VQ m w (hc) xc λE1 s h1 x L1 H1 e1 e2 m1 w1 st sm=>?_);let#[ds,hd,rfl]:=xw h1;let ok:=w1.head;let#[wT,sT]:=_gx w1 st;cases hx:x.d with
 | lst es=>
  rw[<-e2,hx]at hd;cases _aa hd;let#[a,_,_,ev,_]:=items ok (.O hx);let ag:=_gv (K:=Z.K) hx ev;let#[xs,bs,q3,r3,_]:=ag H1 (JJ ok);show .O #[a,xs,ev,q3,λaf=>k _ _ rfl _ [x.let] L1 H1 m1 wT sT (r3.len▸af) (λhq=>(sm hq).1) (_gy ag)]
 | tup es=>
  rw[<-e2,hx]at hd;cases _aa hd;let#[a,_,_,ev,_]:=items ok (.h hx);let ag:=_gw (K:=Z.K) hx ev;let#[xs,bs,q3,r3,_]:=ag H1 (JJ ok);show .h (.O #[a,xs,ev,q3,λaf=>k _ _ rfl _ [x.let] L1 H1 m1 wT sT (r3.len▸af) (λhq=>(sm hq).1) (_gy ag)])
 | str z=>
  rw[<-e2,hx]at hd;let hd:(if z.cps.L<=big then @_ else none)=@ds:=hd
  split at hd
  .revert hz;cases _aa hd;show .h (.h #[z,(zQ ok hx).1,k _ _ rfl _ [] L1 H1 m1 (~~~w1.tail) (~~~(st.J Step.ý)) (by rw[X5];show hz) (λhq=>(sm hq).1) #[λt ht=>(nomatch ht),λi H2 _ hi=>?_,λH2 _=>?_,λi H2 v H3 d _ hy jf=>?_]])
   .change i<z.cps.L
    symm
   .change(z.cps.R.C λc=>D.x #[%[c|0]]).B=z.cps.L;simp
   .let#[e3,cc,hc,rfl]:=hy;subst e3;rw[Xf,Xr,hc]at jf;cases _aa jf;show#[_,rfl,rfl,rfl,xj,_gs cc,λb hb=>(nomatch hb)]
  .cases hd
 |_=>rw[<-e2,hx]at hd;cases hd
def _gz{K}(lo hi):Walks K (Itr lo (hi - lo).M) [] (jZ lo hi):=by
 let hl:(jZ lo hi).B=(hi - lo).M:=by simp[jZ]
 show#[λt ht=>(nomatch ht),λi H _ jh=>by rw[hl]at jh;show jh,λH _=>by rw[hl];show Xb _,λi H v H' d _ hy hd=>?_];let#[e,rfl]:=hy;subst e;unfold jZ at hd;rw[Xf]at hd;cases hr:(List.ä (hi - lo).M)[i]? with
 | none=>symm
 | some j=>
  rw[hr]at hd;let:j=i:=by
   let#[_,h2]:=aF hr
   simpa using h2.à
  subst this;cases _aa hd;show#[_,rfl,rfl,rfl,xj,_gt _,λb hb=>(nomatch hb)]
def _gA(h:wv i=true):-(2 ^ 62)<=i/\i<2 ^ 62:=by
 unfold wv at h
 simpa using h
#where in
def wX(ha:QV X Z q a ea)(hg:Gl X "range")(hm:X.mg "range"=none)(av:starEach [ea] X.Y=[(false,eval ea X.Y)]<|>Ŕ):QI X Z q tg (v9 a) (.ù (.é "range" p) [ea] [] pos):=λa8 s σ H R I ai=>ex8 ai λE L r m w hc xc k=>by
 show(_aX hg hm (qZ ha vJ av) av) a8 s σ H R I (qV m w (hc) xc λE1 s h1 x L1 H1 e1 e2 m1 w1 ok fr sr st sm=>?_);cases hx:s.2 with
 | int j=>
  rw[hx]at h1;dsimp only at h1
  split at h1
  .revert hj;cases _aa h1;let#[j1,j2]:=_gA hj.1;show#[j,by rw[(qJ ok (e2.J hx))],j1,j2,?_];let wk:=_gz (K:=Z.K) 0 j;rw[Int.sub_zero]at wk;show k _ _ rfl _ [] L1 H1 m1 (by symm) (by symm) (by dsimp[jZ,X5,Xz,Int.sub_zero];show hj.2) sm wk
  .symm
 |_=>symm
def Mt.clr:∀{R E L},Mt E σ L->Mt (Q.clr R E) σ (Q.clr R L)
 | [],_,_,m=>m
 | j::R,E,L,m=>by
  let un:∀{E σ} {L} j,Mt E σ L->Mt (E.ç j none) σ (L.ç j none):=by
   intro E σ L j m
   induction m generalizing j with
   |nil=>show .nil
   |un m ih=>cases j with|zero=>show .un m|succ j=>show .un (ih j)
   |cons m ih=>cases j with|zero=>show .un m|succ j=>show .æ (ih j)
  change Mt (Q.clr R _) σ _;show Mt.clr (un j m)
def Mt.ý:∀{E σ L} (k),Mt E σ L->Mt (E.ý k) (σ.ý k) (L.ý k)
 |_,_,_,0,m=>m|_,_,_,k+1,.nil=>.nil|_,_,_,k+1,.un m=>m.ý k|_,_,_,k+1,.æ m=>m.ý k
def Mt.none_at:∀{E σ L} {j:Nat},Mt E σ L->E[j]?=@none->L[j]?=@none
 |_,_,_,_,.nil,h=>by symm|_,_,_,0,.un _,_=>by rfl|_,_,_,j+1,.un m,h=>by simpa using m.none_at (~~~h)|_,_,_,j+1,.æ m,h=>by simpa using m.none_at (~~~h)
def Mt.pick:∀{R:List Nat},Mt E σ L->Mt (R.C (at' E)) (R.C (at' σ)) (R.C (at' L))
 | [],_=>.nil
 | j::R,m=>by
  rw[List.Z,List.Z,List.Z];cases hE:E[j]? with
  | none=>
   let hl:=m.len;let:L[j]?=none:=by rw[List.getElem?_eq_none_iff]at hE ⊢;symm
   rw[show at' E j=none from by ext at';rw[hE];rfl,show at' L j=none from by ext at';rw[this];rfl];show .un m.pick
  | some s=>
   cases s with
   |none=>
    let:L[j]?=@none:=m.none_at hE;rw[show at' E j=none from by ext at';rw[hE];rfl,show at' L j=none from by ext at';rw[this];rfl];show .un m.pick
   |some s=>
    let#[x,h1,h2,h3,h4]:=m.get hE;rw[show at' E j=@(x.o,x.d)from by ext at';rw[hE,h2,h3];rfl,show at' L j=@x from by ext at';rw[h1];rfl,show at' σ j=@x.v from by ext at';rw[h4];rfl];show .æ m.pick
def Mt.rep:∀{k},Mt E σ L->Mt (List.ß k none++E) (List.ß k none++σ) (List.ß k none++L)
 |0,m=>by symm
 |k+1,m=>by
  show .un m.rep
def Mt.back:∀{R B τ M E L},Mt E σ L->Mt B τ M->(∀(i j:Nat) (v),R[i]?=@j->τ[i]?=@(@v)->σ[j]?=some @v)->Mt (Q.back R B E) σ (Q.back R M L)
 | [],B,τ,M,E,L,m,_,_=>by simpa [Q.back]using m| j::R,_,_,_,E,L,m,.nil,_=>by simpa [Q.back]using m
 | j::R,_,_,_,E,L,m,.un mB,h=>by
  let un:∀{E σ} {L} j,Mt E σ L->Mt (E.ç j none) σ (L.ç j none):=by
   intro E σ L j m
   induction m generalizing j with
   |nil=>show .nil
   |un m ih=>cases j with|zero=>show .un m|succ j=>show .un (ih j)
   |cons m ih=>cases j with|zero=>show .un m|succ j=>show .æ (ih j)
  change Mt _ σ (Q.back R _ _);show Mt.back (un j m) mB λi jj v e1 e2=>h (i+1) jj v (~~~e1) (~~~e2)
 |j::R,_,_,_,E,L,m,.æ (x:=x) mB,h=>by
  let m1:=m.ç (x:=x) j;rw[Q8 (h 0 j x.v (by rfl) (by rfl))]at m1;change Mt _ σ (Q.back R _ _);show Mt.back m1 mB λi jj v e1 e2=>h (i+1) jj v (~~~e1) (~~~e2)
section
def _gB:JV k R σ=List.ß k none++R.C (at' σ):=rfl
def _gC{K}(hR:R.V)(w:World K H (L++M)):World K H ((List.ß k none++R.C (at' L))++(Q.clr R L++M))/\Step H (L++M) H ((List.ß k none++R.C (at' L))++(Q.clr R L++M)):=by
 let p:(sls (L++M)).á (sls ((List.ß k none++R.C (at' L))++(Q.clr R L++M))):=by
  let:=_d8 (L:=L) hR;rw[W5]at this;simp;rw[<-Y3];show(this.append_right _).à
 show#[w.same p,Step.ò.same (List.á.ò _) p]
def _gD{K}(hR:R.V)(hr:∀j>R,j<L.B)(hB:B.B=k+R.B)(w:World K H2 (B++(Q.clr R L++M))):World K H2 (Q.back R (B.ý k) (Q.clr R L)++M)/\Step H2 (B++(Q.clr R L++M)) H2 (Q.back R (B.ý k) (Q.clr R L)++M):=by
 let p2:(sls (Q.back R (B.ý k) (Q.clr R L)++M)).á (sls (B.ý k++(Q.clr R L++M))):=by
  rw[W5,<-Y3,W5 _];show(_eb hR (λj hj=>_ea hj) (λj hj=>by rw[_d9];show hr j hj) (by symm)).append_right _
 let sub:(sls (B.ý k++(Q.clr R L++M))).Sublist (sls (B++(Q.clr R L++M))):=by
  rw[W5,W5 B];show List.Sublist.append ((List.drop_sublist k B).filterMap _) (Z2 _)
 show#[(w.sub sub).same p2.à,(Step.ò.sub sub).same (List.á.ò _) p2.à]
def _gE:∀{is es E E'},setAll is es E=@E'->E'.B=E.B
 |[],[],_,_,h=>by cases _aa h;rfl|i::is,d::es,E,E',h=>by rw[_gE (E:=E.ç i _) h,List.length_set]
def _gF{t:Tg}(h:t.put d E=@E'):E'.B=E.B:=by
 cases t with
 |n i=>cases _aa h;rw[List.length_set]
 |t is=>
  cases d with|tup es=>show _gE (h)|lst es=>show _gE (h)|_=>cases h
structure LcC (Z:Fx0)(q:Bool)(tt:Tg)(u:Ts)(c:Ex)(H:Hp)(L F:Ls)(ds:List Q.D)(rB:Res (List Sd))(B:En)(LB:Ls)(ae:List Sl)(j:Nat)(τ:L2.St)(H2:Hp):Prop where
 m:Mt B τ LB
 w:World Z.K H2 (LB++(ae.C some++F))
 s:Step H L H2 (LB++(ae.C some++F))
 f:lcL tt u c (ds.ý j) B (ae.C Sl.sd)=@rB
 e:q=true->kJ H H2/\∀b>jk (ae.C some),H b=none
inductive LcI (Z:Fx0)(q:Bool)(tt:Tg)(u:Ts)(c:Ex)(H:Hp)(L F:Ls)(ds:List Q.D)(rB:Res (List Sd))(k:Nat)(R:List Nat)(σ:L2.St):Nat->Nat->List V->L2.St->Hp->Prop
 |mk {i τ H2} (B:En) (LB:Ls) (ae:List Sl) (h:LcC Z q tt u c H L F ds rB B LB ae i τ H2) (h1:τ.B=k+R.B) (h2:Pn ((List.ä R.B).C (k + ·)) (JV k R σ) τ) (h3:i<=ds.B) (h4:ae.B<=i):LcI Z q tt u c H L F ds rB k R σ i (ds.B - i) (ae.C Sl.v) τ H2
inductive LcP (Z:Fx0)(q:Bool)(tt:Tg)(u:Ts)(c:Ex)(H:Hp)(L F:Ls)(ds:List Q.D)(rB:Res (List Sd))(ae:List Sl)(j:Nat)(τ:L2.St)(y:V)(H2:Hp):Prop
 |mk (B:En) (LB:Ls) (u9:List Sl) (h:LcC Z q tt u c H L F ds rB B LB u9 j τ H2) (h1:ae.C Sl.v++[y]=u9.C Sl.v) (h2:u9.B=ae.B+1)
inductive LcN (Z:Fx0)(q:Bool)(tt:Tg)(u:Ts)(c:Ex)(H:Hp)(L F:Ls)(ds:List Q.D)(rB:Res (List Sd))(ae:List Sl)(j:Nat)(τ:L2.St)(H2:Hp):Prop
 |mk (B:En) (LB:Ls) (h:LcC Z q tt u c H L F ds rB B LB ae j τ H2)
def _gG(hσ:σ.B=nN)(hR:R.V)(hr:∀j>R,j<nN)(h:tQ Z q (cLC o k R it tt u c) σ H Q):tLC (tIS Z q it) (tG Z ((List.ä R.B).C (k + ·)) tt) (tT Z q u) (tQ Z q c) k R σ H Q:=by
 let#[E,L,r,m,w,i6,xc,kk]:=h;let i6:bnd (it E) (λE ds=>match lcL tt u c ds (_dR k R E) []with
  | some (.ok B xs)=>mkL o (zj k R B E) xs| some (.exc B e)=>@(.exc (zj k R B E) e)
  | none=>none)=@r:=i6
 let#[E1,ds,h1,h2]\/#[E1,cc,h1,h2]:=wq i6
 rotate_left
 .show⟨E,L,_,m,w,h1,xc.C h2,λE' s' z=>by cases z⟩
 show⟨E,L,_,m,w,h1,(λ_ _ z=>by cases z),λE' ds' z J T L1 H1 m1 w1 st hz sm wk=>?_⟩;injection z with z1 z2;subst z1 z2;let hL1:∀j>R,j<L1.B:=λj hj=>by let:=m1.len;let:=hr j hj;symm
 let#[wB,sB]:=_gC (k:=k) hR w1;cases hrB:lcL tt u c ds (_dR k R E1) []with
 | none=>symm
 | some rB=>
  rw [hrB]at h2;let okT:∀{H2 A B},World Z.K H2 (A++(B++(_root_.Q.clr R L1++T.C some)))->∀t>T,t.ok Z.K H2:=λw2 t ht=>w2.ok t (_ab _ (_ab _ (_ab _ (Yc ht))))
  let mB0:Mt (_dR k R E1) (JV k R σ) (List.ß k none++R.C (at' L1)):=(m1.pick (R:=R)).rep;let wb:∀{B LB τ H2 A},Mt B τ LB->τ.B=k+R.B->Pn ((List.ä R.B).C (k + ·)) (JV k R σ) τ->World Z.K H2 (LB++(A++(_root_.Q.clr R L1++T.C some))) ->
    Mt (zj k R B E1) σ (_root_.Q.back R (LB.ý k) (_root_.Q.clr R L1))/\World Z.K H2 (A++_root_.Q.back R (LB.ý k) (_root_.Q.clr R L1))/\Step H2 (LB++(A++(_root_.Q.clr R L1++T.C some))) H2 (A++_root_.Q.back R (LB.ý k) (_root_.Q.clr R L1)):=fun {B LB τ H2 A} mB lB pB wB2=>by
   let hl:LB.B=k+R.B:=by rw[mB.len.2];show lB
   let pm:(LB++(A++(_root_.Q.clr R L1++T.C some))).á (LB++(_root_.Q.clr R L1++(A++T.C some))):=by
    show List.á.append_left _ ?_;rw [<-Y3,<-Y3];show List.á.append_right _ List.perm_append_comm
   let#[w3,s3]:=_gD (k:=k) hR hL1 hl (wB2.perm pm);let vo:(_root_.Q.back R (LB.ý k) (_root_.Q.clr R L1)++(A++T.C some)).á ((A++_root_.Q.back R (LB.ý k) (_root_.Q.clr R L1))++T.C some):=by
    rw [<-Y3];show List.á.append_right _ List.perm_append_comm
   show#[(Mt.back (m1.clr) (mB.ý k) λi j v e1 e2=>?_),(w3.perm vo).left,(s3.perm pm.à vo).J Step.dropT];let hi:=(aF e1).1;rw [List.getElem?_drop,(pB (k+i) (List.mem_map.s #[i,List.å.s hi,rfl])),_gB,Yk (by simp),Zs,show k+i - k=i from by simp,Xf,e1]at e2;let e4:at' σ j=@v:= ~~~e2
   unfold at' at e4;cases hh:σ[j]? with| none=>symm| some s=>symm
  show#[LcI Z q tt u c H L (_root_.Q.clr R L1++T.C some) ds rB k R σ,#[_,.mk (_dR k R E1) _ [] #[mB0,wB,st.J sB,hrB,λhq=>#[sm hq,λ_ z=>(nomatch z)]] (by simp[JV]) Pn.ò (Y9 _) (Y9 _)],?_];rintro i n ys τ H2 ⟨B,LB,ae,⟨mB,wB2,sB2,f1,smB⟩,lB,pB,hi,au⟩
  by_cases bf:i<ds.B
  rotate_left
  .let e:i=ds.B:=.q
   subst e;rw [List.drop_length]at f1;cases _aa f1;let#[m3,w3,s3]:=wb mB lB pB wB2;show .O #[wk.stop H2 (okT wB2) (λhq=>(smB hq).1),by rw[X5];lia,(_fL (σ:=σ) (Q:=Q) (o:=o) (xs:=ae) h2 rfl w3 (sB2.J s3) smB kk m3)]
  .let hd:ds.ý i=ds[i]::ds.ý (i+1):=Z8 bf;rw [hd]at f1;unfold lcL at f1;cases cp:tt.put ds[i] B with
   | none=>rw[cp]at f1;cases f1
   | some B2=>
    rw [cp]at f1;dsimp only at f1;show .h #[wk.go i H2 (okT wB2) (λhq=>(smB hq).1) bf,λv H3 hy=>?_];let#[z,zo,zd,zv,smz,wg,zas]:=wk.yld i H2 v H3 ds[i] (okT wB2) (λhq=>(smB hq).1) hy (X1 bf);let pm:(LB++(ae.C some++(_root_.Q.clr R L1++T.C some))).á ((LB++(ae.C some++_root_.Q.clr R L1))++T.C some):=by
     rw[<-Y3 (ae.C some),<-Y3]
    let#[wz,sz]:=_e2 (wB2.perm pm) wk.r smz wg zo zas;let wz':World Z.K H3 ((@z::LB)++(ae.C some++(_root_.Q.clr R L1++T.C some))):=wz.perm (by
     rw[List.cons_append,List.cons_append];show List.á.æ _ pm.à)
    let sz':Step H2 (LB++(ae.C some++(_root_.Q.clr R L1++T.C some))) H3 ((@z::LB)++(ae.C some++(_root_.Q.clr R L1++T.C some))):=sz.perm pm.à (by
     rw[List.cons_append,List.cons_append];show List.á.æ _ pm.à)
    show#[B,LB,z,B2,mB,wz'.left,zo,zv,by rw[zd];show cp,fun τ2 LB2 p2 mB2 wB3 sB3=>?_];let#[w4,s4]:=stay wz' sB3 wB3;let lB2:τ2.B=k+R.B:=by
     let h1:=mB2.len.1;let h2:=mB.len.1;let h3:=_gF cp
     symm
    let p3:=pB.J p2;let yj:Step H L H3 (LB2++(ae.C some++(_root_.Q.clr R L1++T.C some))):=sB2.J (sz'.J s4);let jy:q=true->kJ H H3/\∀b>jk (ae.C some),H b=none:=λhq=>#[kQ (smB hq).1 smz,(smB hq).2]
    show#[LcP Z q tt u c H L (_root_.Q.clr R L1++T.C some) ds rB ae (i+1) τ2,LcN Z q tt u c H L (_root_.Q.clr R L1++T.C some) ds rB ae (i+1) τ2,
     λy H5 #[B5,LB5,acc5,c1,c4,c5]=>#[by rw[X5];lia,ds.B - (i+1),.q,c4▸.mk B5 LB5 acc5 c1 lB2 p3 bf (by symm)],
     λH5 #[B5,LB5,c1]=>#[ds.B - (i+1),.q,.mk B5 LB5 ae c1 lB2 p3 bf .q],?_]
    let xcB:∀{α H6 L6 B6 cc A},rB=.exc B6 cc->World Z.K H6 (L6++(A++(_root_.Q.clr R L1++T.C some)))->Step H L H6 (L6++(A++(_root_.Q.clr R L1++T.C some)))->Xc Z τ2 H6 L6 (.exc B6 cc:Res α):=fun {α H6 L6 B6 cc A} er w6 s6 E7 c7 e7 C L7 H7 hm m7 w7 s7=>by
     injection e7 with e8 e9;subst e8 e9;subst er;cases _aa h2;let#[w8,s8]:=stay w6 s7 w7;let#[m9,w9,s9]:=wb m7 lB2 p3 w8;show xc _ _ rfl C _ H7 hm m9 w9.right ((s6.J (s8.J s9)).J #[λ_ _ h _=>h,λa ha=>.O (by rw[k7];show _ab _ ha),λa ha=>.O (by rw[qK];show _ab _ ha)])
    let#[B4,kb,g1,g2]\/#[B4,cc,g1,g2]:=wq f1
    rotate_left
    .show#[B2,LB2,_,mB2,wB3,g1,xcB g2 w4 yj,λE' s' z=>by cases z]
    show#[B2,LB2,_,mB2,wB3,g1,(λ_ _ z=>by cases z),λE' s' z LB4 H4 mB4 wB4 sB4 ud=>?_];injection z with z1 z2;subst z1 z2;let#[w5,s5]:=stay w4 sB4 wB4;let oe:=yj.J s5;cases kb with
    | false=>
     rw[Xd .q]at g2 ⊢;show#[B4,LB4,mB4,w5,oe,g2,λhq=>#[kQ (jy hq).1 (ud hq),(jy hq).2]]
    | true=>
     rw[X7 rfl]at g2 ⊢;let#[B6,y,g3,g4]\/#[B6,cc,g3,g4]:=wq g2
     rotate_left
     .show#[B4,LB4,_,mB4,wB4,g3,xcB g4 w5 oe,λE' s' z=>by cases z]
     show#[B4,LB4,_,mB4,wB4,g3,(λ_ _ z=>by cases z),λE' s' z x LB6 H6 ex ey mB6 wB6 sB6 sm6=>?_];injection z with z1 z2;subst z1 z2;let#[w7,s7]:=stay w5 sB6 wB6;let pm3:((@x::LB6)++(ae.C some++(_root_.Q.clr R L1++T.C some))).á (LB6++((ae++[x]).C some++(_root_.Q.clr R L1++T.C some))):=by
      rw[Xg,List.cons_append];let:(LB6++(ae.C some++[x].C some++(_root_.Q.clr R L1++T.C some)))=(LB6++ae.C some)++@x::(_root_.Q.clr R L1++T.C some):=by simp
      rw[this];show List.á.J ?_ List.perm_middle.à;rw[Y3]
     show#[B6,LB6,ae++[x],#[mB6,w7.perm pm3,(oe.J s7).perm (List.á.ò _) pm3,?_,λhq=>#[kQ (jy hq).1 (kQ (ud hq) (sm6 hq).1),λb hb=>?_]],by simp,by simp]
     .rwa [Xg,show[x].C Sl.sd=[y]from by simp[Sl.sd,ex,ey]]
     .rw[Xg,k7]at hb;let hb\/hb:=aA hb
      .show(jy hq).2 b hb
      .let hb:b>x.ë:= ~~~hb
       show JY (kQ (jy hq).1 (ud hq)) ((sm6 hq).2 b hb)
def _gH(N)(hi:QI X Z q tg it iter)
  (hg:∀cl C s0 H0 fp,QG (lcE X scope N cl C s0 H0 fp Z.EX) Z ((List.ä R.B).C (k + ·)) tt tg) (ht:∀cl C s0 H0 fp,PTs (lcE X scope N cl C s0 H0 fp Z.EX) gi (tT Z q u)) (he:∀cl C s0 H0 fp,QE (lcE X scope N cl C s0 H0 fp Z.EX) Z q c elt)
  (gx:xq X Z.EX) (top:Jz X) (hR:R.V) (hr:∀j>R,j<X.N.B) (hc:X.calm=true<|>Ŕ) (hk:scope.kind=.function<|>Ŕ) (lg:K8 X.N X.Y.ú scope N k R=true<|>Ŕ) (hs:(∀x,foldedSetIterable iter X.Y x=pure x)<|>Ŗ):
  QE X Z q (cLC o k R it tt u c) (.ListComp elt [#[tg,iter,gi,0]] scope pos):=λa8 s σ H Q I hw=>
 _dG N k R (_eT hi) hg ht he gx top hc hk lg hs a8 s σ H Q I (_gG I.len hR hr hw)
def _gI(N)(hi:QIS X Z q tg it iter)
  (hg:∀cl C s0 H0 fp,QG (lcE X scope N cl C s0 H0 fp Z.EX) Z ((List.ä R.B).C (k + ·)) tt tg) (ht:∀cl C s0 H0 fp,PTs (lcE X scope N cl C s0 H0 fp Z.EX) gi (tT Z q u)) (he:∀cl C s0 H0 fp,QE (lcE X scope N cl C s0 H0 fp Z.EX) Z q c elt)
  (gx:xq X Z.EX) (top:Jz X) (hR:R.V) (hr:∀j>R,j<X.N.B) (hc:X.calm=true<|>Ŕ) (hk:scope.kind=.function<|>Ŕ) (lg:K8 X.N X.Y.ú scope N k R=true<|>Ŕ) (hs:(∀x,foldedSetIterable iter X.Y x=pure x)<|>Ŗ):
  QE X Z q (cLC o k R it tt u c) (.ListComp elt [#[tg,iter,gi,0]] scope pos):=λa8 s σ H Q I hw=>
 _dG N k R hi hg ht he gx top hc hk lg hs a8 s σ H Q I (_gG I.len hR hr hw)
def _gJ(N)(k)(R)(hN:X.N.V)(hy:X.N[i]?=@y)(hx:Loc X.Y.ú y)(hi:PI X tg iter wi)
  (hg:∀cl C s0 H0 fp,PG (lcE X scope N cl C s0 H0 fp EX) tg g) (ht:∀cl C s0 H0 fp,PTs (lcE X scope N cl C s0 H0 fp EX) gi tte) (he:∀cl C s0 H0 fp,PE (lcE X scope N cl C s0 H0 fp EX) elt te) (gx:xq X EX) (top:Jz X)
  (nh:swapsWith (.ListComp elt [#[tg,iter,gi,0]] scope pos) @(.é y py) spos.line X.Y=pure true<|>Ŕ)
  (hc:X.calm=true<|>Ŕ) (hk:scope.kind=.function<|>Ŕ) (lg:K8 X.N X.Y.ú scope N k R=true<|>Ŕ) (hs:(∀x,foldedSetIterable iter X.Y x=pure x)<|>Ŗ)
  (hf:X.fn y=true\/X.Y.ú.ð.U y=@.local<|>ś):
  PS X (.Assign [.é y py] (.ListComp elt [#[tg,iter,gi,0]] scope pos) spos) (λD σ H=>tLC wi g tte te k R σ H λv H1=>D.nx (σ.ç i @v) H1):=by
 intro a8 s σ H D I h;let sc:=_cB hk lg;let#[cl,n6,de,ci]:=_cA λy hy e=>I.ok.has y.1 (sc.caps y hy e)
 rw[exec_Assign_Name_used _ _ _ _ nh];show X0 (wpAny_standAt (X0 ?_));show X0 (thn (wpAny_comprehension_free rfl hs n6 sc.kind sc.ð
  (thn (hi a8 s σ H _ I h) λv s1 h1=>thn h1 λitv s2 h2=>?_)) λ_ s' hq=>X4 (X4 hq))
 let#[it,fp,tn,J,H2,e,I2,T,bu,f2,W,w0,gy]:=h2;subst e;show _dF hc top sc de ci (hg cl) (ht cl) (he cl) I2 T bu f2 w0 gy ?_ ?_
 rotate_left
 .intro D' C s' dz σ' H' x T Cc fl hC t q;show _dE gx I2 f2 hC t q
 intro L C oC m ys H' s' I' eC nC fC q;show wpAny_assign_Name (_ar I' hN hy hx (v:=.I L) rfl (λlq I''=>?_) hf);let pC:=I''.pin _ (_ab _ (_ab _ (aB rfl)));show#[m,nC.at' λo e=>?_,λh' sb=>#[_,_,I''.unpinned.turned (t':=lq.toks) (λb o hb e=>(sb.2 b hb).J e) fC.1 fC.2.1 fC.2.2.2.1 fC.2.2.2.2.1 fC.2.2.2.2.2,q]]
 symm
def XW(N)(hN:X.N.V)(hy:X.N[i]?=@y)(hx:Loc X.Y.ú y)(hi:QI X Z q tg it iter)
  (hg:∀cl C s0 H0 fp,QG (lcE X scope N cl C s0 H0 fp Z.EX) Z ((List.ä R.B).C (k + ·)) tt tg) (ht:∀cl C s0 H0 fp,PTs (lcE X scope N cl C s0 H0 fp Z.EX) gi (tT Z q u)) (he:∀cl C s0 H0 fp,QE (lcE X scope N cl C s0 H0 fp Z.EX) Z q c elt)
  (gx:xq X Z.EX) (top:Jz X) (hR:R.V) (hr:∀j>R,j<X.N.B) (hp:i∉pn<|>ŕ)
  (nh:swapsWith (.ListComp elt [#[tg,iter,gi,0]] scope pos) @(.é y py) spos.line X.Y=pure true<|>Ŕ)
  (hc:X.calm=true<|>Ŕ) (hk:scope.kind=.function<|>Ŕ) (lg:K8 X.N X.Y.ú scope N k R=true<|>Ŕ) (hs:(∀x,foldedSetIterable iter X.Y x=pure x)<|>Ŗ)
  (hf:X.fn y=true\/X.Y.ú.ð.U y=@.local<|>ś):
  QS X Z pn (jv i (cLC o k R it tt u c)) (.Assign [.é y py] (.ListComp elt [#[tg,iter,gi,0]] scope pos) spos):=
 _eP hp λa8 s σ H D I hw=>_gJ N k R hN hy hx (_eT hi) hg ht he gx top nh hc hk lg hs hf a8 s σ H D I (_gG I.len hR hr hw)
end
end
section
variable {X:Cx}{Z:Fx0}{K:Frag}{q qa qb:Bool}{a b c:Ex}{u:Ts}{tg e ea eb:Expr}{σ:L2.St}{H:Hp}{pos p:Pos}{x:Str}{id T:String}{r:List V->Hp->VK->Prop}{f:Sd->Option Sd}{g:Sd->Sd->Option Sd}
def WQ:PTs X [] (tT Z q _root_.Q.tYes):=λa8 s σ H Q I ai=>ex8 ai λE L r m w hc xc k=>by
 cases _aa hc;show _cI a8 s σ H Q I (k _ _ rfl L H m w Step.ò λ_=>xj)
def KZ(h:QT X Z q u e):PTs X [e] (tT Z q u):=_cJ h
def _gK(hc:CallR X (.u id) r)(ad:Ad1 Z.K (λv H Q=>r [v] H Q) f)(ha:QV X Z q a ea)(hm:X.mg x=none)(hv:bootBuiltins x=@(.u id))(hg:Gl X x<|>Ŕ)(hn:x≠"__name__"<|>ŕ)(gf:Abd x<|>ŕ)
  (he:Abs ea [] X<|>Ŕ) (bj:Abb pos [] X<|>Ŕ):QE X Z q (cF1 f a) (.ù (.é x p) [ea] [] pos):=
 qj (_bF hc hg hm hv (qZ ha vJ he) hn gf he bj) fun σ H Q h=>XY ad h
def Wj(hc:CallR X (.l T) r)(ad:Ad1 Z.K (λv H Q=>r [v] H Q) f)(ha:QV X Z q a ea)(hm:X.mg x=none)(hv:bootBuiltins x=@(.l T))(hg:Gl X x<|>Ŕ)(hn:x≠"__name__"<|>ŕ)(gf:Abd x<|>ŕ)
  (he:Abs ea [] X<|>Ŕ) (bj:Abb pos [] X<|>Ŕ):QE X Z q (cF1 f a) (.ù (.é x p) [ea] [] pos):=
 qj (_bG hc hg hm hv (qZ ha vJ he) hn gf he bj) fun σ H Q h=>XY ad h
def q_b2(hc:CallR X (.u id) r)(ad:Ad2 Z.K (λv w H Q=>r [v,w] H Q) g)(ha:QV X Z q a ea)(hb:QV X Z true b eb)(hm:X.mg x=none)(hv:bootBuiltins x=@(.u id))(hg:Gl X x<|>Ŕ)(hn:x≠"__name__"<|>ŕ)(gf:Abd x<|>ŕ)
  (he:starEach [ea,eb] X.Y=(false,eval ea X.Y)::starEach [eb] X.Y<|>Ŕ) (he2:Abs eb [] X<|>Ŕ) (bj:(backTo pos (starEach [eb] X.Y)).any (·.1)=false<|>Ŕ):QE X Z q (cF2 g a b) (.ù (.é x p) [ea,eb] [] pos):=
 qj (_bF hc hg hm hv (qZ ha (qZ hb vJ he2) he) hn gf he bj) fun σ H Q h=>_ep ad h
def _gL:Ad1 K (λv H Q=>_c0 K [v] H Q) (pu1 v6):=by
 intro H x s Q ok hf k;unfold pu1 at hf;let fin:∀n,v6 x.d=@(.E n)->Q (.E n) H:=λn e=>by
  rw[e]at hf;cases _aa hf;show k _ H rfl rfl QX
 cases hx:x.d with
 |lst ds=>
  let#[l,xs,bs,e,q,r,_]:=items ok (.O hx);show .O #[l,xs,by rw[e],?_,by rw[<-r.len];show fin ds.B (by rw[hx];rfl)];let#[_,z]\/#[_,z]:=q
  .show .O (J8 z)
  .show .h z
 |tup ds=>
  let#[l,xs,bs,e,q,r,_]:=items ok (.h hx);show .O #[l,xs,by rw[e],?_,by rw[<-r.len];show fin ds.B (by rw[hx];rfl)];let#[_,z]\/#[_,z]:=q
  .show .O (J8 z)
  .show .h z
 |str z=>
  let#[e,hz]:=zQ ok hx;show .h (.O #[z,by rw[e],hz,fin z.B (by rw[hx];rfl)])
 |_=>rw[hx]at hf;cases hf
def _gM(K:Frag):List V->Hp->VK->Prop:=λxs H Q=>_cO K xs H Q\/(∃p ys U,xs=[.I p,.ty U]/\SqT K H p ys/\U>kinds.tail/\Q (.bl (_cM "tuple" U)) H)\/∃p ys U,xs=[.I p,.ty U]/\SqL K H p ys/\U>kinds.tail/\Q (.bl (_cM "list" U)) H
def _gN(hK:X.K=K<|>Ŕ):CallR X (.u "isinstance") (_gM K):=by
 subst hK;intro a8 s σ H xs us Q I r h;let h\/#[p,ys,U,rfl,hq,hU,q]\/#[p,ys,U,rfl,hq,hU,q]:=h
 .show _cP a8 s σ H xs us Q I r h
 .let#[u,w',rfl,r1,r2]:=_bn r;cases(show w'=Value.l U from r2);cases r1;let#[aa,_,#[o,h1,h2,_],_]:=I.tuple hq;show Yi PySem.W.kitx_tuple I.kIn #[o,h1,h2] (_cN .q hU) (nofun) λtk=>#[.bl _,H,I.tok _,rfl,q]
 .let#[u,w',rfl,r1,r2]:=_bn r;cases(show w'=Value.l U from r2);cases r1;let#[aa,_,#[o,n,h1,h2,_],_]:=I.list hq;show Yi PySem.W.kitx_list I.kIn #[o,h1,h2] (_cN .q hU) (nofun) λtk=>#[.bl _,H,I.tok _,rfl,q]
def _gO(hU:U>kinds.tail):Ad1 K (λv H Q=>_gM K [v,.ty U] H Q) (pu1 (wZ U)):=by
 intro H x s Q ok hf k;unfold pu1 wZ at hf;let fin:∀T,kind x.d=T->(∀c f,x.d≠.obj c f)->Q (.bl (_cM T U)) H:=λT e ho=>by
  cases hx:x.d with
  |obj c f=>show absurd hx (ho c f)|dct kvs=>symm
  |_=>
   rw[hx]at hf;cases _aa hf;rw[<-e,hx];show k _ H rfl rfl x6
 cases hx:x.d with
 |non=>show .O #[x.v,"NoneType",U,rfl,by rw[_er ok hx];show .ó,.q,hU,fin _ (by rw[hx];rfl) (by symm)]|bl k=>show .O #[x.v,"bool",U,rfl,by rw[Vz ok hx];show .bl _,.q,hU,fin _ (by rw[hx];rfl) (hx▸nofun)]|int k=>show .O #[x.v,"int",U,rfl,by rw[qJ ok hx];show .E _,.q,hU,fin _ (by rw[hx];rfl) (hx▸nofun)]|str k=>show .O #[x.v,"str",U,rfl,by rw[(zQ ok hx).1];show .x _,.q,hU,fin _ (by rw[hx];rfl) (hx▸nofun)]
 |lst ds=>
  let#[l,xs,bs,e,q,r,_]:=items ok (.O hx);let f:=fin "list" (by rw[hx];rfl) (hx▸nofun);let#[_,z]\/#[z,_]:=q
  .show .h (.h #[l,xs,U,by rw[e],z.sq,hU,f])
  .symm
 |tup ds=>
  let#[l,xs,bs,e,q,r,_]:=items ok (.h hx);let f:=fin "tuple" (by rw[hx];rfl) (hx▸nofun);let#[z,_]\/#[_,z]:=q
  .symm
  .show .h (.O #[l,xs,U,by rw[e],z,hU,f])
 |dct kvs=>symm|obj c f=>symm
def VZ(ha:QV X Z q a ea)(hm:X.mg "isinstance"=none)(hmy:X.mg y=none)(hy:bootBuiltins y=@(.l U))(hK:X.K=Z.K)(hU:U>kinds.tail<|>ŕ)(hg:Gl X "isinstance"<|>Ŕ)(hgy:Gl X y<|>Ŕ)(hny:y≠"__name__"<|>ŕ)(hdy:Abd y<|>ŕ)
  (he:starEach [ea,.é y p2] X.Y=(false,eval ea X.Y)::starEach [.é y p2] X.Y<|>Ŕ) (he2:starEach [.é y p2] X.Y=(false,eval (.é y p2) X.Y)::starEach [] X.Y<|>Ŕ) (bj:(backTo pos (starEach [.é y p2] X.Y)).any (·.1)=false<|>Ŕ):
  QE X Z q (cF1 (pu1 (wZ U)) a) (.ù (.é "isinstance" p) [ea,.é y p2] [] pos):=
 qj (_bF (_gN hK) hg hm _c6 (qZ ha (qZ (_az (v:=.ty U) hgy hmy hy rfl hny hdy) vJ he2) he) .q (by rfl) he bj) fun σ H Q h=>XY (_gO hU) h
#where in
def _gP:Ad1 K (λv H Q=>_dm [v] H Q) (pu1 _dT):=by
 intro H x s Q ok hf k;unfold pu1 _dT at hf;dsimp only at hf
 split at hf
 .revert i e;cases _aa hf;show .O #[i,by rw[qJ ok e],k _ H rfl rfl QX]
 .revert i e;cases _aa hf;show .h (.O #[i,by rw[Vz ok e],k _ H rfl rfl QX])
 .revert z e
  split at hf
  .revert hz;cases ht:PySem.intText? z with
   |none=>symm
   |some n=>
    rw[ht]at hf;cases _aa hf;show .h (.h #[z,n,by rw[(zQ ok e).1],ht,hz,k _ H rfl rfl QX])
  .grind
 .grind
#where in
def _gQ:Ad1 K (λv H Q=>_di K [v] H Q) _dU:=by
 intro H x s Q ok hf k;unfold _dU at hf;dsimp only at hf
 split at hf
 .revert ds e
  split at hf
  .revert hl;cases _aa hf;let#[l,xs,bs,ev,q3,r3,h3]:=JZ ok (.O e) hl;let q3:LsR K H l xs:=by let#[_,z]\/#[z,_]:=q3;show z;rw[e]at z;cases z
   show#[l,xs,by rw[ev],.O (J8 q3),λp hp=>k _ _ rfl rfl (K6 hp r3 h3)]
  .cases hf
 .revert ds e
  split at hf
  .revert hl;cases _aa hf;let#[l,xs,bs,ev,q3,r3,h3]:=JZ ok (.h e) hl;let q3:SqT K H l xs:=by let#[z,_]\/#[_,z]:=q3;rw[e]at z;cases z;show z
   show#[l,xs,by rw[ev],.h q3,λp hp=>k _ _ rfl rfl (K6 hp r3 h3)]
  .cases hf
 .cases hf
def _gR(K:Frag):List V->Hp->VK->Prop:=λxs H Q=>∃p ys,xs=[.I p]/\((SqL K H p ys/\∀l,H l=none->Q (.I l) (upd H l (.X ys)))\/(SqT K H p ys/\Q (.I p) H))
def _gS(hK:X.K=K):CallR X (.l "tuple") (_gR K):=by subst hK;show _bV
#where in
def _gT:Ad1 K (λv H Q=>_gR K [v] H Q) xJ:=by
 intro H x s Q ok hf k;unfold xJ at hf;dsimp only at hf
 split at hf
 .revert ds e
  split at hf
  .revert hl;cases _aa hf;let#[l,xs,bs,ev,q3,r3,h3]:=JZ ok (.O e) hl;let q3:LsR K H l xs:=by let#[_,z]\/#[z,_]:=q3;show z;rw[e]at z;cases z
   show#[l,xs,by rw[ev],.O #[J8 q3,λp hp=>k _ _ rfl rfl (_eE hp r3 h3)]]
  .cases hf
 .revert ds e
  split at hf
  .revert hl;cases _aa hf;let#[l,xs,bs,ev,q3,r3,h3]:=JZ ok (.h e) hl;let q3:SqT K H l xs:=by let#[z,_]\/#[_,z]:=q3;rw[e]at z;cases z;show z
   show#[l,xs,by rw[ev],.h #[q3,k #[.r,.X ds,.I l,bs] H rfl rfl #[xj,(#[l,xs,rfl,q3,r3]),λb hb=>(nomatch hb),Xy,λb hb=>h3 b hb]]]
  .cases hf
 .cases hf
#where in
def _gU{h:Int->Int->Int}{f}(hh:∀i j,f i j=@(h i j)):Ad2 K (λv w H Q=>(λxs H Q=>∃i j,xs=[.E i,.E j]/\Q (.E (h i j)) H:List V->Hp->VK->Prop) [v,w] H Q) (pu2 (i2 f)):=by
 intro H x y s Q ox oy hf k;unfold pu2 i2 at hf;dsimp only at hf
 split at hf
 .revert i j e1 e2;rw[hh]at hf;cases _aa hf;show#[i,j,by rw[qJ ox e1,qJ oy e2],k _ H rfl rfl QX]
 .cases hf
def _gV{g}:∀{ds bs xs as},bls ds=@bs->RepA K H g ds xs as->xs=bs.C V.bl
 | [],bs,xs,as,h,r=>by
  cases _aa h;show r.1
 | d::ds,bs,xs,as,h,r=>by
  cases d with
  | bl b=>
   unfold bls at h;cases hb:bls ds with
   |none=>grind
   |some bz=>
    rw[hb]at h;cases _aa h;let#[x,rr,c1,c2,rfl,rfl,h1,h2]:=r;rw[h1.1,_gV hb h2];rfl
  |_=>unfold bls at h;cases h
#where in
def _gW:Ad1 K (λv H Q=>_cS K [v] H Q) (pu1 _dW):=by
 intro H x s Q ok hf k;unfold pu1 _dW at hf;dsimp only at hf
 split at hf
 .revert ds e;cases hb:bls ds with
  |none=>symm
  |some bs=>
   rw[hb]at hf;cases _aa hf;let#[l,xs,cs,ev,q3,r3,_]:=items ok (.O e);let q3:LsR K H l xs:=by let#[_,z]\/#[z,_]:=q3;show z;rw[e]at z;cases z
   show#[l,bs,by rw[ev],by rw[<-_gV hb r3];show J8 q3,k _ H rfl rfl x6]
 .cases hf
def _gX{g}:∀x y s,pu2 (c2 g) x y=@s->∃k,s.2=.bl k:=by
 intro x y s h;unfold pu2 c2 at h
 split at h
 .grind
 .symm
def _gY:∀x y s,pu2 fEq x y=@s->∃k,s.2=.bl k:=by
 intro x y s h;unfold pu2 fEq at h
 split at h
 .grind
 .symm
def _gZ:∀x y s,pu2 fNe x y=@s->∃k,s.2=.bl k:=by
 intro x y s h;unfold pu2 fNe at h
 split at h
 .grind
 .symm
def _g0{x y d}(h:fIn x y=@d):∃k,d=.bl k:=by
 unfold fIn at h
 split at h
 .split at h
  .grind
  .grind
 .grind
 .split at h
  .grind
  .grind
 .grind
 .grind
def _g1:∀x y s,pu2 x8 x y=@s->∃k,s.2=.bl k:=by
 intro x y s h;unfold pu2 x8 at h
 split at h
 .symm
 .cases hf:fIn x.2 y.2 with
  |none=>symm
  |some d=>
   rw[hf]at h;cases _aa h;show _g0 hf
def _g2:∀x y s,pu2 Kq x y=@s->∃k,s.2=.bl k:=by
 intro x y s h;unfold pu2 Kq Qz at h
 split at h
 .symm
 .cases hf:fIn x.2 y.2 with
  |none=>rw[hf]at h;cases h
  |some d=>
   let#[k,rfl]:=_g0 hf;rw[hf]at h;cases _aa h;show#[_,rfl]
def _g3:∀x y s,f2First fIsNon x y=@s->∃k,s.2=.bl k:=by
 intro x y s h;unfold f2First fIsNon at h
 split at h
 .grind
 .symm
def _g4:∀x y s,f2First fNotNon x y=@s->∃k,s.2=.bl k:=by
 intro x y s h;unfold f2First fNotNon at h
 split at h
 .grind
 .grind
def _g5:∀{xs us},xs.B=us.B->(∀(i:Nat) (x) (u),xs[i]?=@x->us[i]?=@u->RelV x u)->Vals xs us
 |[],[],_,_=>.nil|[],_::_,h,_=>by symm|x::xs,u::us,h,f=>.æ (f 0 x u (by rfl) (by rfl)) (_g5 (~~~h) λi x u e1 e2=>f (i+1) x u (~~~e1) (~~~e2))
def _g6(ha:QV X Z q a ea)(qe:X.mg "range"=none)(qr:Gl X "range")(av:starEach [ea] X.Y=(false,eval ea X.Y)::starEach [] X.Y)(bj:(backTo be (starEach [] X.Y)).any (·.1)=false):PE X (.ù (.é "range" p2) [ea] [] be) (fun σ H Q=>tV Z q a σ H λv H1=>∃j,v=.E j/\∀pp,H1 pp=none->Q (.I pp) (upd H1 pp (.rng 0 j))):=by
 intro a8 s σ H Q I h;show Call_ (xQ I qr qe boot_range (Y0 (thn (qZ ha vJ av be a8 s σ H (λvs H1=>∃j,vs=[.E j]/\∀pp,H1 pp=none->Q (.I pp) (upd H1 pp (.rng 0 j))) I ?_) λus s1 #[vs,H1,I1,r1,j,e,q1]=>?_) av bj))
 .grind
 .subst e;let#[u,rfl,t,rfl]:=r1.one;show call_range_1 #[.I ↥s1,_,I1.laid (o:=.rng 0 j) (λb o e=>X2 _ e) (Xb _) #[_,_,_,X9 _ rfl],rfl,q1 _ I1.fresh]
def _g7(ns:List Nat):RepA K H true (ns.C λ(i:Nat)=>D.E (0+i)) (ns.C λ(i:Nat)=>V.E (0+i)) []:=by
 induction ns with
 |nil=>ext RepA;show#[rfl,rfl]
 |cons i ns ih=>
  show#[_,_,[],[],rfl,rfl,wQ,ih]
def _g8{ae:Array Value}(hs:ae.L=n)(hg:∀(i:Nat) u,ae[i]?=@u->∃t,u=.E (0+i*1) t):Vals ((List.ä n).C λ(i:Nat)=>V.E (0+i)) ae.R:=_g5 (by simp[hs]) λi x u ex eu=>by
 rw[Xr]at eu;let#[t,rfl]:=hg i u eu;rw[Xf]at ex;let#[m,hr,rfl]:=Option.map_eq_some_iff.mp ex;let#[_,h2]:=aF hr;rw[List.getElem_range]at h2;subst h2;show#[t,by rw[Int.mul_one]]
#where in
def _g9(ha:QV X Z q a ea)(qe:X.mg "range"=none)(ql:X.mg "list"=none)(hc:X.calm=true<|>Ŕ)(qr:Gl X "range"<|>Ŕ)(pe:Gl X "list"<|>Ŕ)
  (av:Abs ea [] X<|>Ŕ) (bj:Abb be [] X<|>Ŕ)
  (ik:starEach [.ù (.é "range" p2) [ea] [] be] X.Y=(false,eval (.ù (.é "range" p2) [ea] [] be) X.Y)::starEach [] X.Y<|>Ŕ) (lf:Abb pos [] X<|>Ŕ):
  QE X Z q (WZ a) (.ù (.é "list" p) [.ù (.é "range" p2) [ea] [] be] [] pos):=by
 intro a8 s σ H Q I h;let#[E,L,r,m,w,i6,xc,k]:=h;show Yp (xQ I pe ql Vk (Y0 (thn (qZ (_g6 ha qe qr av bj) vJ ik pos a8 s σ H (λvs H1=>∃pp j,vs=[.I pp]/\H1 pp=@(.rng 0 j)/\wv j=true/\j.M<=big/\∀l,H1 l=none->Q (.I l) (upd H1 l (.S ((List.ä j.M).C λ(i:Nat)=>V.E (0+(i)))))) I ?_) λus s1 h=>?_) ik lf))
 .show qV m w (i6) xc λE1 s h1 x L1 H1 e1 e2 m1 w1 ok fr sr st sm=>?_
  cases hx:s.2 with
  | int j=>
   rw[hx]at h1;dsimp only at h1
   split at h1
   .revert hj;cases _aa h1;show#[j,qJ ok (e2.J hx),λpp hpp=>#[pp,j,rfl,vQ,hj.1,hj.2,λl hl=>?_]];let s1:kJ H1 (upd H1 pp (.rng 0 j)):=vK hpp;let w2:World Z.K _ L1:=#[λx hx=>RepO.kp (w1.ok x hx) (Kp.of_same s1),w1.nd,w1.ds];let o:=K6 (K:=Z.K) (fr:=[]) hl (_g7 (List.ä j.M)) (λ_ z=>(nomatch z));let#[w3,fh]:=W3 w2 (st.J #[λb ob z _=>s1 b ob z,λb z=>.O z,λb z=>.O z]) o (λ_ z=>(nomatch z)) (λ_ z=>(nomatch z)) (λ_ z=>(nomatch z));show k _ _ rfl #[.rt,.S _,.I l,[l]] L1 _ rfl rfl m1 (by simpa [jZ]using w3) (by simpa [jZ]using fh) λhq=>#[kQ (sm hq) (kQ s1 o.same),λb hb=>?_]
    let:b=l:=by simpa [Sl.ë]using hb
    subst this;show JY (kQ (sm hq) s1) hl
   .cases h1
  |_=>rw[hx]at h1;cases h1
 .let#[vs,H1,I1,r1,pp,j,rfl,hp,h62,mi,q1]:=h;let#[u,rfl,rx]:=r1.one;cases rx;let#[t1,t2,t3,hg]:=(I1.hok pp _ hp);let#[j1,j2]:=_gA h62;let e2:Builtin.Range.rangeSize 0 j 1=((j.M:Nat):Int):=by rw[rangeSize_one];split<;>grind
  show call_list_range (I1.ok.hd hc) (hg) (small_one .q .q j1 j2) e2 mi λh' tk fu c' kp e4 fv=>?_
  let#[hs,ll]:=fv;show#[.I ↥s1,_,I1.laid (o:=.S _) (t':=tk) kp (Xb _) #[by rw[X5,Xz];show mi,fu.R,c',_g8 hs ll,~~~e4],rfl,q1 _ I1.fresh]
end
end Q
namespace Q
open PySem
def _ha:Sm:=λ_=>none
def xV:Nat->List D->List D
 |_,[]=>[]|k,d::ds=>.X [.E k,d]::xV (k+1) ds
def lstOf:D->Option (List D)
 |.S xs=>@xs|_=>none
noncomputable def xqc(c:Ex):Ev (List D):=λE=>bnd (c E) λE x=>val E ((lstOf x.2).C (xV 0))
def zX:List D->Option (List Str)
 |[]=>⇑[]|.x z::ds=>(zX ds).C (z :: ·)|_=>none
def K5:List D->Option (List Int)
 |[]=>⇑[]|.E z::ds=>(K5 ds).C (z :: ·)|_=>none
def zx(a:Str):List Str->List Str
 |[]=>[a]|b::r=>if Spec.ltCps b.cps.R a.cps.R then b::zx a r else a::b::r
def vY:List Str->List Str
 |[]=>[]|a::r=>zx a (vY r)
def Wq(a:Int):List Int->List Int
 |[]=>[a]|b::r=>if b<a then b::Wq a r else a::b::r
def _hb:List Int->List Int
 |[]=>[]|a::r=>Wq a (_hb r)
def _hc:Sd->Option Sd:=λx=>match x.2 with
 | .S ds=>(match zX ds with
  |some ss=>if ss.B<64 then @(.rt,.S ((vY ss).C .x))else none
  |none=>(match K5 ds with
   |some is=>if is.B<64 then @(.rt,.S ((_hb is).C .E))else none
   |none=>none))
 |_=>none
def _hd:D->D->Option D:=λxs x=>match xs with
 |.S ys=>if x.flat 30&&D.flats 30 ys then(ys.findIdx? λz=>peq z x).C λ(j:Nat)=>D.E (j:Int)else none|.X ys=>if x.flat 30&&D.flats 30 ys then(ys.findIdx? λz=>peq z x).C λ(j:Nat)=>D.E (j:Int)else none|_=>none
def isSq:D->Bool
 |.S _=>true|.X _=>true|_=>false
def QZ(a b:Ex):Ex:=λE=>bnd (a E) λE x=>if isSq x.2 then bnd (b E) λE y=>val E (pu2 _hd x y)else none
def _he(i:Nat)(c:Ex):Ex:=λE=>if V7 E[i]? then bnd (c E) λE x=>match E[i]?,x.2 with
 | some @(o,.S xs),.E k=>if o=.r then none else(match ixN xs.B k with
  |some j=>(match xs[j]? with
   |some d=>if d.pure&&wv k then @(.ok (E.ç i @(o,.S (xs.eraseIdx j))) (.dp,d))else none
   |none=>none)
  |none=>none)
 |_,_=>none
 else none
def _hf(f:Fn)(cs:List Ex):Ex:=λE=>bnd (wJ cs E) λE xs=>match f (letAll xs)with
 |some (.ok _ y)=>if y.2.pure then @(.ok E (.dp,y.2))else none|some (.exc _ c)=>@(.exc E c)|none=>none
def xK:Sd->Sd->Option Sd:=λx y=>match x.2,y.2 with
 |.X a,.E k=>if -(2 ^ 63)<=k/\k<2 ^ 63/\a.B*k.M<=big/\qY x then @(.r,.X (List.ß k.M a).flatten)else none|_,_=>Jj x y
def _hg(f g:D->D->Option D)(a b c:Ex):Ex:=λE=>bnd (a E) λE x=>bnd (b E) λE y=>match f x.2 y.2 with
 |some (.bl true)=>bnd (c E) λE z=>val E ((g y.2 z.2).C λd=>(.dp,d))|some (.bl false)=>@(.ok E (.dp,.bl false))|_=>none
def _hh:D->Bool
 |.X _=>true|_=>false
def kj(x:D):Bool:=k5 6 x&&_hh x
def V3:D->D->Option D:=λx y=>match y with
 |.dct kvs=>if kj x=true/\unm kvs=true then @(.bl (decide (x>kvs.C (·.1))))else none|_=>none
def Q0:D->D->Option D:=λx y=>match y with
 |.dct kvs=>if kj x=true/\unm kvs=true then @(.bl (!decide (x>kvs.C (·.1))))else none|_=>none
def W4(kvs:List (D×D))(k v:D):List (D×D):=if k>kvs.C (·.1)then kvs.C λe=>if e.1=k then(k,v)else e else kvs++[(k,v)]
def _hi:Option (Option Sd)->Bool
 |some @(.rt,.dct _)=>true|_=>false
def _hj : Sd -> D -> D -> Option D:= λs k v=>match s with
  |(.rt,.dct kvs)=>if kj k = true /\ kvs.B<big /\ unm kvs = true then @(.dct (W4 kvs k v))else none|_=>none
def _hk:Nat->Ex->Ex->Sm:=_dS _hi _hj
def _hl(kc vc:Ex):Ex:=λE=>bnd (kc E) λE k=>bnd (vc E) λE v=>if kj k.2=true then @(.ok E (.rt,.dct [(k.2,v.2)]))else none
def ZV:Sd->Option Sd:=λx=>match x.2 with
 |.dct kvs=>if kvs.B<=big/\unm kvs=true then @(.rt,.S (kvs.C (·.1)))else none|_=>none
def XJ(f:Int->Int->Int)(i:Nat)(c:Ex):Sm:=λE=>match E[i]? with
 |some @(_,.E a)=>ofE (c E) λE x=>(match x.2 with
  |.E b=>@(.nx (E.ç i @(.dp,.E (f a b))))
  |_=>none)
 |_=>none
noncomputable def mkD:D×D:=(.x "",.ó)
def Q6(kv:List (Int×Int)):D:=.dct (mkD::kv.C λp=>(.E p.1,.E p.2))
def XV : List (D × D) -> Option (List (Int × Int))
  |[]=>⇑[]|(.E k,.E v)::r=>(XV r).C ((k,v):: ·)|_=>none
def QJ:D->Option (List (Int×Int)):=λd=>match d with
 |.dct ((.x _,.ó)::kvs)=>XV kvs|_=>none
def k9(kv:List (Int×Int))(k:Int):Option Int:=(kv.find? λp=>decide (p.1=k)).C (·.2)
def v4(kv:List (Int×Int))(k v:Int):List (Int×Int):=if(kv.any λp=>decide (p.1=k))=true then kv.C (λp=>if p.1=k then(p.1,v)else p)else kv++[(k,v)]
def W9:D->D->Option D:=λx y=>match x,QJ y with
 |.E k,@kv=>@(.bl (k9 kv k).isSome)|_,_=>none
def _hm:D->D->Option D:=λy x=>match x,QJ y with
 |.E k,@kv=>(k9 kv k).C .E|_,_=>none
def _hn(a b:Ex):Ex:=λE=>bnd (a E) λE x=>bnd (b E) λE y=>val E ((_hm x.2 y.2).C λd=>(.dp,d))
def V0:List D->Option (List (Int×Int))
 |[]=>⇑[]|.X [.E a,.E b]::r=>(V0 r).C ((a,b):: ·)|_=>none
def YX:Sd->Option Sd:=λx=>match x.2 with
 |.S ds=>(match V0 ds with
  |some ps=>if ps.B<big then @(.rt,Q6 (ps.foldl (λkv p=>v4 kv p.1 p.2) []))else none
  |none=>none)
 |_=>none
def _ho(z:Str):D->Option D:=λd=>match d with
 |.S ds=>(match zX ds with
  |some ys=>if(ys.C (·.B)).sum+ys.B*z.B<=100000 then @(.x (Txt.join z ys))else none
  |none=>none)
 |_=>none
def _hp(z:Str)(c:Ex):Ex:=λE=>bnd (c E) λE x=>val E ((_ho z x.2).C λd=>(.dp,d))
def _hq:D->Option (List D)
 |.X xs=>@xs|_=>none
noncomputable def vzl(c:Ex):Ev (List D):=λE=>bnd (c E) λE x=>val E ((_hq x.2).C (xV 0))
noncomputable def itV(i:Nat):Ev (List D):=λE=>match E[i]? with
 |some @(_,.S ds)=>if D.pures ds=true then @(.ok E ds)else none|_=>none
def Qx(x:Sd):Bool:=qW x||(x.1 == .rt&&(match x.2 with
 |.S ds=>D.pures ds
 |_=>false))
def _hr:Option (Option Sd)->Bool
 |some @(.dp,.dct _)=>true|_=>false
def _hs(i:Nat)(kc vc:Ex):Sm:=λE=>ofE (vc E) λE v=>if _hr E[i]?=true then ofE (kc E) λE k=>(match E[i]? with
 |some @(.dp,.dct kvs)=>if kj k.2=true/\kvs.B<big/\unm kvs=true/\Qx v=true/\k.2∉kvs.C (·.1)then @(.nx (E.ç i @(.dp,.dct (kvs++[(k.2,v.2)]))))else none
 |_=>none)else none
def _ht(c:Ex):Ex:=λE=>bnd (c E) λE x=>if Qx x=true then @(.ok E (.dp,x.2))else none
def qw(kvs:List (D×D))(k:D):Option D:=(kvs.find? λp=>decide (p.1=k)).C (·.2)
def _hu(c:Ex):Ex:=λE=>bnd (c E) λE x=>match x.2 with
 |.E j=>if wv j/\j.M<=big then @(.ok E (.r,.X (jZ 0 j)))else none|_=>none
end Q
namespace Q
open PySem PySem.Spec PyProof.Rows L2 L3
section
variable {X:Cx}{Z:Fx0}{K:Frag}{pn:List Nat}{q qa qb:Bool}{a b c:Ex}{u:Ts}{tg e ea eb:Expr}{st:Stmt}{σ:L2.St}{H:Hp}{L:Ls}{E:En}{pos p p2:Pos}
def _hv:QS X Z pn _ha st:=λa8 s σ H D I ai=>ex7 ai λE L r m w hc k=>by cases hc
def _hw(a):∀r,(zx a r).á (a::r)
 |[]=>List.á.ò _
 |b::r=>by
  ext zx
  split
  .show((_hw a r).æ b).J (List.á.swap ..)
  .simp
def W0:∀r,(vY r).á r
 |[]=>List.á.ò _|a::r=>(_hw a _).J ((W0 r).æ a)
def leS(a b:Str):Prop:=Spec.ltCps b.cps.R a.cps.R=false
def leS_iff{a b}:leS a b↔a.cps.R<=b.cps.R:=by
 ext leS;rw[ltCps_eq,decide_eq_false_iff_not,List.not_lt]
def _hx{a b c}(h:leS a b)(h':leS b c):leS a c:=leS_iff.s (List.le_trans (leS_iff.mp h) (leS_iff.mp h'))
def _hy{a b}(h:leS a b)(h':leS b a):a=b:=by
 let:=List.le_antisymm (leS_iff.mp h) (leS_iff.mp h');cases a
 symm
def _hz{a b}(h:¬leS a b):leS b a:=by
 rw[leS_iff]at h ⊢;show List.le_of_lt (List.not_le.mp h)
def _hA:∀{a r},risingS a r=true->(a::r).ñ leS
 |a,[],_=>by simp
 |a,b::r,h=>by
  let h:(!_&&risingS b r)=true:=h;rw[Bool.â,Bool.not_eq_true']at h;let ih:=_hA h.2;show List.pairwise_cons.s #[λc hc=>?_,ih];let rfl\/hc:=aD hc
  .show h.1
  .show _hx h.1 ((List.pairwise_cons.mp ih).1 c hc)
def _hB(h:sortedS r=true):r.ñ leS:=by
 cases r with|nil=>show .nil|cons a r=>show _hA h
def _hC{a}:∀{r},r.ñ leS->(zx a r).ñ leS
 | [],_=>by simp[zx]
 | b::r,h=>by
  rw[List.pairwise_cons]at h;ext zx
  by_cases hl:Spec.ltCps b.cps.R a.cps.R=true
  .rw[X7 hl];show List.pairwise_cons.s #[λc hc=>?_,_hC h.2];let rfl\/hc:=aD ((_hw a r).ê.mp hc)
   .show _hz (by ext leS;rw[hl];show nofun)
   .symm
  .rw[Xd hl];let ku:leS a b:=Bool.eq_false_iff.s hl;show List.pairwise_cons.s #[λc hc=>?_,List.pairwise_cons.s h];let rfl\/hc:=aD hc
   .symm
   .show _hx ku (h.1 c hc)
def _hD:∀{r},(vY r).ñ leS
 |[]=>.nil|a::r=>_hC _hD
def _hE(p:s.á r)(h:sortedS s=true):s=vY r:=
 List.á.eq_of_pairwise (λa b _ _ h1 h2=>_hy h1 h2) (_hB h) _hD (p.J (W0 r).à)
def _hF(a):∀r,(Wq a r).á (a::r)
 |[]=>List.á.ò _
 |b::r=>by
  ext Wq
  split
  .show((_hF a r).æ b).J (List.á.swap ..)
  .symm
def _hG:∀r,(_hb r).á r
 |[]=>List.á.ò _|a::r=>(_hF a _).J ((_hG r).æ a)
def _hH{a}:∀{r},r.ñ (·<=·)->(Wq a r).ñ (·<=·)
 | [],_=>by simp[Wq]
 | b::r,h=>by
  rw[List.pairwise_cons]at h;ext Wq
  by_cases hl:b<a
  .rw[X7 hl];show List.pairwise_cons.s #[λc hc=>?_,_hH h.2];let rfl\/hc:=aD ((_hF a r).ê.mp hc)
   .show Int.le_of_lt hl
   .show h.1 c hc
  .rw[Xd hl];show List.pairwise_cons.s #[λc hc=>?_,List.pairwise_cons.s h];let rfl\/hc:=aD hc
   .lia
   .let:=h.1 c hc;lia
def _hI:∀{r},(_hb r).ñ (·<=·)
 |[]=>.nil|a::r=>_hH _hI
def _hJ(p:s.á r)(h:s.ñ (·<=·)):s=_hb r:=
 List.á.eq_of_pairwise (λa b _ _ h1 h2=>Int.le_antisymm h1 h2) h _hI (p.J (_hG r).à)
def _hK:∀{us},Vals (ns.C V.x) us->StrsAre us ns:=by
 induction ns with
 | nil=>intro us r;cases r;show .nil
 | cons n ns ih=>
  intro us r;cases r with
  |cons r1 r2=>
   let#[t,e]:=r1;subst e;show .æ n t (ih r2)
def _hL(h:StrsAre us ns):Vals (ns.C V.x) us:=by
 induction h with|nil=>show .nil|cons y t _ ih=>show .æ #[t,rfl] ih
def _hM(h:IntsAre us ns):Vals (ns.C V.E) us:=by
 induction h with|nil=>show .nil|cons y t _ ih=>show .æ #[t,rfl] ih
def _hN(K:Frag):List V->Hp->VK->Prop:=λxs H Q=>
 (∃p ss,xs=[.I p]/\SqL K H p (ss.C V.x)/\ss.B<64/\∀l,H l=none->Q (.I l) (upd H l (.S ((vY ss).C V.x)))) \/
 ∃p ss,xs=[.I p]/\SqL K H p (ss.C V.E)/\ss.B<64/\∀l,H l=none->Q (.I l) (upd H l (.S ((_hb ss).C V.E)))
def _hO(hK:X.K=K):CallR X (.u "sorted") (_hN K):=by
 subst hK;intro a8 s σ H xs us Q I r h;let#[p,ss,rfl,hq,hl,q]\/#[p,ss,rfl,hq,hl,q]:=h
 .let#[u,rfl,rx]:=wj r;cases rx;let#[aa,r',pl,hz]:=I.list hq;let af:=r'.B;rw[X5]at af hz;show sorted_strs pl.isList (_hK r') .q λout ss' h1 h2 h3=>?_
  let e:=_hE h2 h3;subst e;let#[n,hn]:=sortedAll_at s.H aa out;let ij:↥s<=↥s+1:=Nat.le_succ _;show#[.I _,_,I.laid (t':=s.toks) (λb o e=>sortedAll_old e) ij ?_,rfl,q _ (I.hok.fresh ij)];show#[by rw[X5,(W0 ss).length_eq];show hz,out.R,n,_hL h1,~~~hn]
 .let#[u,rfl,rx]:=wj r;cases rx;let#[aa,r',pl,hz]:=I.list hq;let af:=r'.B;rw[X5]at af hz;show sorted_ints pl.isList (_bH r') .q λout ss' h1 h2 h3=>?_
  let e:=_hJ h2 h3;subst e;let#[n,hn]:=sortedAll_at s.H aa out;let ij:↥s<=↥s+1:=Nat.le_succ _;show#[.I _,_,I.laid (t':=s.toks) (λb o e=>sortedAll_old e) ij ?_,rfl,q _ (I.hok.fresh ij)];show#[by rw[X5,(_hG ss).length_eq];show hz,out.R,n,_hM h1,~~~hn]
def _hP:∀{ds bs xs as},zX ds=@bs->RepA K H g ds xs as->xs=bs.C V.x/\∀z>bs,z.B<=sizeLine
 | [],bs,xs,as,h,r=>by
  cases _aa h;unfold RepA at r
  symm
 | d::ds,bs,xs,as,h,r=>by
  cases d with
  | str b=>
   unfold zX at h;cases hb:zX ds with
   |none=>grind
   |some bz=>
    rw[hb]at h;cases _aa h;let#[x,rr,c1,c2,rfl,rfl,h1,h2]:=r;unfold RepL at h1;obtain _:=_hP hb h2
    symm
  |_=>unfold zX at h;cases h
def _hQ:∀{ds bs xs as},K5 ds=@bs->RepA K H g ds xs as->xs=bs.C V.E
 | [],bs,xs,as,h,r=>by
  cases _aa h;show r.1
 | d::ds,bs,xs,as,h,r=>by
  cases d with
  | int b=>
   unfold K5 at h;cases hb:K5 ds with
   |none=>grind
   |some bz=>
    rw[hb]at h;cases _aa h;let#[x,rr,c1,c2,rfl,rfl,h1,h2]:=r;rw[h1.1,_hQ hb h2];rfl
  |_=>unfold K5 at h;cases h
def _hR:∀{bs:List Str},(∀z>bs,z.B<=sizeLine)->RepA K H g (bs.C D.x) (bs.C V.x) []
 |[],_=>#[rfl,rfl]
 |b::bs,h=>by
  show#[_,_,[],[],rfl,rfl,ZK (h b X3),_hR λz hz=>h z (_ad _ hz)]
def _hS:∀{bs:List Int},RepA K H g (bs.C D.E) (bs.C V.E) []
 |[]=>#[rfl,rfl]
 |b::bs=>by
  show#[_,_,[],[],rfl,rfl,wQ,_hS]
#where in
def _hT:Ad1 K (λv H Q=>_hN K [v] H Q) _hc:=by
 intro H x s Q ok hf k;unfold _hc at hf;dsimp only at hf;cases hx:x.d with
 | lst ds=>
  rw [hx]at hf;dsimp only at hf;let#[l,xs,bs,ev,q3,r3,_]:=items ok (.O hx);let q3:LsR K H l xs:=by let#[_,z]\/#[z,_]:=q3;show z;rw[hx]at z;cases z
  cases hs:zX ds with
  | some ss=>
   rw[hs]at hf;dsimp only at hf
   split at hf
   .revert hl;cases _aa hf;let#[e1,e2]:=_hP hs r3;subst e1;show .O #[l,ss,by rw[ev],J8 q3,hl,λp hp=>(k _ _ rfl rfl (K6 hp (_hR λz hz=>e2 z ((W0 ss).ê.mp hz)) nofun))]
   .cases hf
  | none=>
   rw[hs]at hf;cases hi:K5 ds with
   | none=>symm
   | some ss=>
    rw[hi]at hf;dsimp only at hf
    split at hf
    .revert hl;cases _aa hf;let e1:=_hQ hi r3;subst e1;show .h #[l,ss,by rw[ev],J8 q3,hl,λp hp=>(k _ _ rfl rfl (K6 hp _hS nofun))]
    .cases hf
 |_=>symm
def tAV(Z:Fx0)(cs:List Ex):TA:=fun σ H Q=>∃E L r,Mt E σ L/\World Z.K H L/\wJ cs E=@r/\Xc Z σ H L r /\
 ∀E' ys,r=.ok E' ys->∀(xs:List Sl) L' H',xs.C Sl.sd=ys->Mt E' σ L'->World Z.K H' L'->(∀x>xs,x.ok Z.K H')->Step H L H' L'->kJ H H'->Q (xs.C Sl.v) H'
def QAV(X:Cx)(Z:Fx0)(cs:List Ex)(es:List Expr):Prop:=PA X es (tAV Z cs)
def _hU:QAV X Z [] []:=_fB vJ fun σ H Q ai=>ex8 ai λE L r m w hc xc k=>by
 cases _aa hc;show k _ _ rfl [] L H rfl m w (nofun) Step.ò xj
def _hV(h:QV X Z true c e)(hs:QAV X Z cs es)(av:Abs e es X<|>Ŕ):QAV X Z (c::cs) (e::es):=
 _fB (qZ h hs av) fun σ H Q ai=>ex8 ai λE L r m w hc xc k=>by
  show qV m w (hc) xc λE1 s h1 x L1 H1 e1 e2 m1 w1 ok fr sr st sm=>?_
  let#[E2,ys,h2,h3]\/#[E2,cc,h2,h3]:=wq h1
  .cases _aa h3;show#[E1,L1,_,m1,w1,h2,(λ_ _ z=>by cases z),λE' ys' z xs L2 H2 e3 m2 w2 ib bu dw=>?_];injection z with z1 z2;subst z1 z2;show k _ _ rfl (x::xs) L2 H2 (by rw[List.Z,e3];simp[Sl.sd,e1,e2]) m2 w2 (λy hy=>?_) (st.J bu) (kQ (sm rfl) dw);let rfl\/hy:=aD hy
   .show(Qk ok fr bu dw).1
   .show ib y hy
  .show#[E1,L1,_,m1,w1,h2,(xc.step st).C h3,λE' s' z=>by cases z]
#where in
def _hW(D:kz X.î X.w X.K X.mg X.base k x ps (spF Z.K Z.mg n f))(hr:Room k X.A)(g:xq X Z.EX)(ha:QAV X Z cs (e::es))(hn:cs.B=n<|>Ŕ)(hg:Gl X x<|>Ŕ)(gf:Abd x<|>ŕ)
  (he:Abs e es X<|>Ŕ) (bj:Abb pos es X<|>Ŕ):
  QE X Z true (_hf f cs) (.ù (.é x p) (e::es) [] pos):=qj (_dC D hr g ha hg gf he bj) fun σ H Q ai=>ex8 ai λE L r m w hc xc kk=>by
 let#[E1,ys,h1,h2]\/#[E1,cc,h1,h2]:=wq hc
 rotate_left
 .show#[E,L,_,m,w,h1,xc.C h2,λE' s' z=>by cases z]
 show#[E,L,_,m,w,h1,(λ_ _ z=>by cases z),λE' ys' z xs L1 H1 e1 m1 w1 ok1 st sm=>?_];injection z with z1 z2;subst z1 z2;rw [Xx];let af:xs.B=n:=by rw[<-hn,<-_fC h1,<-e1,X5]
 cases hf:f _ with
 | none=>rw[hf]at h2;cases h2
 | some fr=>
  rw[hf]at h2;let ev:xs.C Sl.v=(xs.C Sl.let).C Sl.v:=by rw[Xp];rfl
  let wl:World Z.K H1 ((xs.C Sl.let).C some):=by
   show#[λy hy=>?_,by rw[Kj];show Xy,λa ha=>by rw[Kj]at ha;show nomatch ha];let#[y',hy',e]:=aE hy;cases e;let#[t,ht,rfl]:=aE hy';show JJ (ok1 t ht)
  rw[ev];show#[xs.C Sl.let,fr,rfl,by rw[X5];show af,wl,by rw[<-e1]at hf;rw[_fS];show hf,λE' c ee C H' hm s'=>?_,λE' a ee y H' e2 e3 w' s'=>?_]
  .subst ee;cases _aa h2;let kt:=λb ob hb=>s'.keep b ob hb λz=>by rw[Kj]at z;show nomatch z
   show xc _ _ rfl C L1 H' hm m1 #[λy hy=>RepO.kp (w1.ok y hy) (Kp.of_same kt),w1.nd,w1.ds] (st.J #[λb ob hb _=>kt b ob hb,λ_ h=>.O h,λ_ h=>.O h])
  .subst ee;dsimp only at h2
   split at h2
   .revert hp;cases _aa h2;let kt:=λb ob hb=>s'.keep b ob hb λz=>by rw[Kj]at z;show nomatch z
    let w2:World Z.K H' L1:=#[λy hy=>RepO.kp (w1.ok y hy) (Kp.of_same kt),w1.nd,w1.ds];let#[z,rp]:=RepL.pu (g':=false) (RepO.wk (w'.ok y X3)) (e3▸hp);show kk _ _ rfl #[.dp,y.d,y.v,[]] L1 H' rfl e3 m1 (w2.consPu rp rfl) (JW (st.J #[λb ob hb _=>kt b ob hb,λ_ h=>.O h,λ_ h=>.O h]) (nofun) rfl) λ_=>#[kQ sm kt,λ_ z=>(nomatch z)]
   .cases h2
end
def _hX{items}{e:Value->Bool}
  (ht:IsTup s.H t items) (he:∀y>items,SeqAt.EqAt A.in1 s y x (e y)) (hj) (h1:e items[j]=true) (h2:∀m (hm:m<items.L),m<j->e items[m]=false)
  (h:Q (.E j s.toks) {s with toks:=s.toks+1}):wpAny (model prog w) A (call (.u "tuple.index") [.I t,x]) Q E s:=by
 show Y8 PySem.F.slot_tuple_index ht.typeIs PySem.F.entry_tuple_index ?_ (PySem.F.args_tuple_index_2 _ _);change wpAny _ _ (Builtin.Tuple.tupleItemsOf _ >>= _) _ _ s;show X0 (tupleItemsOf_ ht ?_);right;show X0 (X4 (X0 (X4 ?_)));rw[Std.Legacy.Range.forIn_eq_forIn_range'];show X0 (Zz _ (λac b s'=>b=_/\s'=s/\∃k,k<=j/\ac=List.range' k (items.L - k)) _ ?_ ?_ _ _ #[rfl,rfl,0,Y9 _,?_])
 .rintro i ac b s' ⟨rfl,rfl,k,hk,hr⟩;obtain⟨n,hn⟩:∃n,items.L - k=n+1:=#[items.L - k - 1,by grind];rw[hn]at hr;injection hr with hi ly;subst hi;let hi:i<items.L:=.q
  rw[show items[i]?=@items[i]from Xq hi];show X0 (he items[i] (Array.getElem_mem hi) _ _ _ _ ?_)
  by_cases lm:i=j
  .subst lm;rw[h1];show X0 (X0 (wpAny_mkInt (X4 (X4 (X4 #[_,rfl,h])))))
  .rw[h2 i hi .q];show X4 #[rfl,rfl,i+1,.q,?_]
   grind
 .rintro b s' ⟨rfl,rfl,k,hk,hr⟩
  grind
 .simp
def _hY{items}
  (ht:IsTup s.H l items) (h:Q .notImplemented s):wpAny (model prog w) A (call (.u "int.__rmul__") [.E k t,.I l]) Q E s:=by
 show Y8 PySem.F.slot_int_rmul (typeIs_int s k t) PySem.F.entry_int_rmul ?_ (PySem.F.args_int_rmul_2 _ _);let#[o,e,c,n,hd]:=ht;change wpAny _ _ (asInt? _ >>= _) _ _ s;show X0 (X0 (wpAny_load e ?_));rw[hd];show X4 (X0 (Zp (X4 #[_,rfl,h])))
def mulT{items}
  (ht:IsTup s.H l items) (h1:-(2 ^ 63)<=k) (h2:k<2 ^ 63) (hz:items.L*k.M<=sizeLine)
  (xl:(items.û=true\/k=1)->Q (.I l) s)
  (hsz:(List.foldl (λx1 x2=>x1++x2) (List.G []) (List.ß k.M items)).L<=sizeLine)
  (db:Q (.I ↥s) {s with heap:=s.H.í {cls:=.l "tuple",data:=.seq (List.foldl (λx1 x2=>x1++x2) (List.G []) (List.ß k.M items))}})
  : wpAny (model prog w) A (call (.u "tuple.__mul__") [.I l,.E k t]) Q E s:=by
 show Y8 PySem.F.slot_tuple_mul ht.typeIs PySem.F.entry_tuple_mul ?_ (PySem.F.args_tuple_mul_2 _ _);change wpAny _ _ (if _=true then _ else _) _ _ s;rw[Xd (by symm)];show X0 (tupleItemsOf_ ht ?_)
 by_cases hs:(items.û||k==1)=true
 .rw[X7 hs];show X0 (X0 (J6 ht.typeIs (X4 (X0 (Zp (X4 #[_,rfl,xl ?_]))))))
  simpa using hs
 .rw[Xd hs];let bc:items.û=false:=by
   grind
  let hm:((items.L:Int)*k)<=sizeLine\/k<=0:=by
   by_cases hk:k<=0
   .show .h hk
   .grind
  right
  by_cases hk:k<=0
  .rw[X7 (by simp[hk])];let e:k.M=0:=by symm
   rw[e]at db;show X0 (Ya (X4 #[_,rfl,db]) (Y9 _))
  .rw[Xd (by simp[hk,bc])];let hm:=hm.resolve_right hk;let ou:(sizeLine:Int)=16777216:=.q
   rw[Xd .q,Xd (by ext Builtin.Tuple.tupleTooMany;symm)];show X0 (Ya (X4 #[_,rfl,db]) hsz)
section
variable {K:Frag}
def _hZ(K:Frag):R2:=λx y H Q=>∃l k xs,x=.I l/\y=.E k/\SqT K H l xs/\-(2 ^ 63)<=k/\k<2 ^ 63/\xs.B*k.M<=sizeLine/\((xs=[]\/k=1)->Q (.I l) H)/\∀p,H p=none->Q (.I p) (upd H p (.X (List.ß k.M xs).flatten))
def op_repT:OpR X (binaryOp .Mult) (_hZ X.K):=by
 rintro a8 s σ H x y v u Q I rx ry ⟨l,k,xs,rfl,rfl,hq,h1,h2,hz,q1,q2⟩;cases rx;let#[t,rfl]:=ry;let#[aa,r,ht,hl]:=I.tuple hq;let af:=r.B;let f0:List.foldl (λx1 x2=>x1++x2) (List.G []) (List.ß k.M aa.G)=(List.ß k.M aa).flatten.G:=by
  let:=_b1 aa k.M [];show this
 let tw:(List.ß k.M xs).flatten.B<=sizeLine:=by rw[_cb,Nat.mul_comm];show hz
 show wpAny_binaryOp_repeat_ref (by rfl) ht.typeIs (λs'=>typeIs_int s' k t) rfl F.fills_int_mul F.slot_int_rmul (rfl) F.slot_int_index.U
  (_hY ht #[rfl,ht.typeIs,mulT ht h1 h2 (by rw[Xe,<-af];show hz) (λhs=>?_) ?_ ?_])
 .show#[.I l,H,I,rfl,q1 ?_];let hs\/hs:=hs
  .symm
  .show .h hs
 .rwa [f0,Xe,<-(r.rep k.M).B]
 .rw[f0];show#[.I _,_,I.laid (t':=s.toks) (o:=.X _) (λb o e=>X2 _ e) (Xb _) #[tw,_,r.rep k.M,IsTupD.new _ _],rfl,q2 _ (I.hok.fresh (Xb _))]
def _h0(K:Frag):R2:=λx y H Q=>_hZ K x y H Q\/_fW K x y H Q
def _h1(hK:X.K=K<|>Ŕ):OpR X (binaryOp .Mult) (_h0 K):=by subst hK;show op_repT.or _fX
#where in
def _h2:Ad2 K (_h0 K) xK:=by
 intro H x y s Q ox oy hf k;cases hx:x.d with
 | tup ds=>
  cases hy:y.d with
  | int n=>
   unfold xK at hf;rw [hx,hy]at hf;dsimp only at hf
   split at hf
   .revert hc;cases _aa hf;let#[l,xs,bs,e3,q3,r3,h3]:=JZ ox (.h hx) (hx▸hc.2.2.2);let q3:SqT K H l xs:=by let#[z,_]\/#[_,z]:=q3;rw[hx]at z;cases z;show z
    let#[cs,r4,h4]:=r3.reps n.M;show .O #[l,n,xs,e3,qJ oy hy,q3,hc.1,hc.2.1,by rw[<-r3.len];show hc.2.2.1,λhs=>?_,λp hp=>?_]
    .show k #[.r,.X _,.I l,cs] H rfl rfl #[xj,(#[l,xs,rfl,q3,?_]),λb hb=>(nomatch hb),Xy,λb hb=>_ac _ (h3 b (h4 b hb))];let e:(List.ß n.M xs).flatten=xs:=by
      let hs\/hs:=hs
      .subst hs;simp
      .subst hs;simp
     rw[e]at r4;show r4
    .show k _ _ rfl rfl (_eE hp r4 λb hb=>_ac _ (h3 b (h4 b hb)))
   .symm
  |_=>
   show .h (_fZ H x y s Q ox oy ?_ k);rw[hx,hy]at hf;rw[hx];show hf
 |_=>
  show .h (_fZ H x y s Q ox oy ?_ k);unfold xK at hf;rw[hx]at hf;rw[hx];show hf
def _h3:∀{ds us},CReps h ds us->us.C (dec h)=ds
 |[],_,r=>by rw[r];rfl
 |z::ds,_,r=>by
  let#[u,rr,rfl,h1,h2]:=r;rw[List.Z,_f0 h1,_h3 h2]
def _h4(K:Frag)(C:Hp->List V->Prop):List V->Hp->VK->Prop:=λvs H Q=>∃v d ds as bs xs j,vs=[v]/\RepL K H true d v as/\C H xs/\RepA K H true ds xs bs/\d.flat 30=true/\D.flats 30 ds=true/\(ds.findIdx? λz=>peq z d)=@j/\Q (.E j) H
def _h5(hu:X.A.y+64<cLine)(ho:PE X o to)(ha:PA X [e] t)
  (b8:attributeBase o "index" X.Y (eval o X.Y)=eval o X.Y<|>Ŕ)
  (dj:autoParam (((backTo ah (starEach [e] X.Y)).all (λx=>!x.1)&&(backToKw ah (keywordEach [] X.Y)).all (λx=>x.1.isSome)
   && decide ([e].B+([]:List Keyword).B+(if([]:List Keyword).û then 0 else 1)<30))=true) Ŕ)
  (b9:Abe ay ah<|>Ŕ) (hs:Abs e [] X<|>Ŕ) (b7:Abb ah [] X<|>Ŕ):
  PE X (.ù (.Attribute o "index" ay) [e] [] ah) (fun σ H Q=>to σ H λx H1=>(∃p xs,x=.I p/\LsR X.K H1 p xs/\t σ H1 λvs H2=>_h4 X.K (λH xs=>LsR X.K H p xs) vs H2 Q)\/∃p xs,x=.I p/\SqT X.K H1 p xs/\t σ H1 λvs H2=>_h4 X.K (λH xs=>SqT X.K H p xs) vs H2 Q):=by
 intro a8 s σ H Q I h;show wpAny_Call_method_late b8 dj b9 rfl (thn (ho a8 s σ H _ I h) λv s1 hz=>?_);let#[x,H1,I1,r1,qq]:=hz;let eqs:∀{s2 H2 d v as w us ds},L2.Inv X a8 σ H2 s2->RepL X.K H2 true d v as->RelV v w->d.flat 30=true->D.flats 30 ds=true->CReps s2.H ds us->∀y>us.G,SeqAt.EqAt X.A.in1 s2 y w (peq (dec s2.H y) d):=fun {s2 H2 d v as w us ds} I2 rd rw f1 f2 cr y hy=>by
  let#[d',hd,c]:=_f2 cr (~~~hy);rw[_f0 c];show WX 30 (_f3 f2 hd) c (Vv I2 rd f1 rw) .q
 let idx:∀{h ds us d j},CReps h ds us->(ds.findIdx? λz=>peq z d)=@j->∃hj,peq (dec h us.G[j]) d=true/\∀m hm,m<j->peq (dec h us.G[m]) d=false:=fun {h ds us d j} cr hf=>by
  let e:=_h3 cr;subst e;rw[List.findIdx?_eq_some_iff_getElem]at hf;let#[hj,h1,h2]:=hf;let p8:j<us.B:= ~~~hj
  show#[~~~p8,~~~h1,λm hm hmj=>?_];let:=h2 m hmj
  simpa using this
 let#[pp,zs,rfl,ty,q1]\/#[pp,zs,rfl,ty,q1]:=qq
 .cases r1;let hA:=ha ah a8 s1 σ H1 _ I1 q1;rw[hs]at hA ⊢;let#[z,aa,n,r,e0]:=ty.is I1;show#["list","list.index",F.plainAttrs_list,F.slot_list_index,F.type_list_index,#[_,e0,rfl],λa e2=>?_,?_]
  .cases e2;show#[_,e0,rfl]
  show Calls.callWith_builtin (by change(false||(backTo ah _).any _)=false;rw[b7]<;>rfl) (Calls.evalArgs_plain (thn hA λus s2 #[vs,H2,I2,r2,d2]=>?_));let#[v,d,ds,as,bs,xs,j,rfl,rd,hq,ra,f1,f2,hf,q2]:=d2;let#[w,rfl,rw1]:=r2.one;let#[z2,fj,n2,r3,e3]:=hq.is I2;let cr:=creps_of I2 ra f2 r3;let#[hj,h1,h2]:=idx cr hf;let hsz:fj.G.L<=16777216:=by rw[Xe,<-r3.B];show z2
  show call_meets F.slot_list_index #[_,e3,rfl] F.entry_list_index (F.args_list_index_2 _ _) (SeqAt.list_indexAt pp fj.G n2 none (List.G []) w (λy=>peq (dec s2.H y) d) j hj .q h1 h2) #[e3,eqs I2 rd rw1 f1 f2 cr,.E _,H2,I2.tok _,#[_,rfl],q2]
 .cases r1;let hA:=ha ah a8 s1 σ H1 _ I1 q1;rw[hs]at hA ⊢;let#[aa,r,ht,hz]:=I1.tuple ty;show#["tuple","tuple.index",F.plainAttrs_tuple,F.slot_tuple_index,F.type_tuple_index,ht.typeIs,λa e2=>?_,?_]
  .cases e2;show(I1.tupleD ty)
  show Calls.callWith_builtin (by change(false||(backTo ah (starEach [] X.Y)).any (·.1))=false;rw[b7]<;>rfl) (Calls.evalArgs_plain (thn hA λus s2 #[vs,H2,I2,r2,d2]=>?_));let#[v,d,ds,as,bs,xs,j,rfl,rd,hq,ra,f1,f2,hf,q2]:=d2;let#[w,rfl,rw1]:=r2.one;let#[fj,r3,ht2,tw]:=I2.tuple hq;let cr:=creps_of I2 ra f2 r3;let#[hj,h1,h2]:=idx cr hf;show _hX (e:=λy=>peq (dec s2.H y) d) ht2 (eqs I2 rd rw1 f1 f2 cr) hj h1 h2 #[.E _,H2,I2.tok _,#[_,rfl],q2]
#where in
def _h6(hu:X.A.y+64<cLine)(ha:QV X Z q a ea)(hb:QV X Z true b eb)(hK:X.K=Z.K<|>Ŕ)
  (b8:attributeBase ea "index" X.Y (eval ea X.Y)=eval ea X.Y<|>Ŕ)
  (dj:autoParam (((backTo ah (starEach [eb] X.Y)).all (λx=>!x.1)&&(backToKw ah (keywordEach [] X.Y)).all (λx=>x.1.isSome)
   && decide ([eb].B+([]:List Keyword).B+(if([]:List Keyword).û then 0 else 1)<30))=true) Ŕ)
  (b9:Abe ay ah<|>Ŕ) (hs:Abs eb [] X<|>Ŕ) (b7:Abb ah [] X<|>Ŕ):
  QE X Z q (QZ a b) (.ù (.Attribute ea "index" ay) [eb] [] ah):=qj (_h5 hu ha (qZ hb vJ hs) b8 dj b9 hs b7) fun σ H Q ai=>ex8 ai λE L r m w hc xc k=>by
 show qV m w (hc) xc λE1 s h1 x L1 H1 e1 e2 m1 w1 ok fr sr st sm=>?_
 split at h1
 rotate_left
 .symm
 revert hsq;rw [hK];let fin:∀{ds},(x.d=.S ds\/x.d=.X ds)->∀C,(∀H2,x.ok Z.K H2->∃xs bs,C H2 xs/\RepA Z.K H2 true ds xs bs)->tV Z true b σ H1 λv H2=>_h4 Z.K C [v] H2 Q:=fun {ds} hx C hC=>by
  show qV m1 w1 h1 (xc.step st) λE2 s2 h2 y L2 H2 e3 e4 m2 w2 ib rh rz bu dw=>?_
  let#[z,hz,rfl]:=xw h2;let#[xs,bs,c1,c2]:=hC H2 (Qk ok fr bu (dw rfl)).1;let key:∃j,y.d.flat 30=true/\D.flats 30 ds=true/\(ds.findIdx? λz=>peq z y.d)=@j/\z=(.dp,.E j):=by
   unfold pu2 _hd at hz;rw[<-e2,<-e4]at hz;let mo:(if y.d.flat 30&&D.flats 30 ds then(ds.findIdx? λz=>peq z y.d).C λ(j:Nat)=>D.E (j)else none).C (λd=>((Own.dp,d):Sd))=@z:=by
    let hx\/hx:=hx<;>(rw[hx]at hz;show hz)
   split at mo
   .revert hf;rw[Bool.â]at hf;cases hj:ds.findIdx? λz=>peq z y.d with|none=>rw[hj]at mo;cases mo|some j=>rw[hj]at mo;show#[j,hf.1,hf.2,rfl,(_aa mo).à]
   .cases mo
  let#[j,f1,f2,f3,rfl]:=key;show#[y.v,y.d,ds,y.as,bs,xs,j,rfl,RepO.wk ib,c1,c2,f1,f2,f3,(k _ _ rfl _ L2 H2 rfl rfl m2 (w2.consPu (x:=#[.dp,.E j,.E j,[]]) (show RepL Z.K H2 false _ _ []from wQ) rfl) (JW (st.J bu) (nofun) rfl) λhq=>#[(λhq=>kQ (sm hq) (dw rfl)) hq,λ_ z=>(nomatch z)])]
 let wkA:∀{ds xs bs H2},RepA Z.K H2 (x.o != .dp) ds xs bs->RepA Z.K H2 true ds xs bs:=fun {ds xs bs H2} r=>by
  cases ho:(x.o != .dp)with|true=>rw[ho]at r;show r|false=>rw[ho]at r;show r.wk
 cases hx:x.d with
 |lst ds=>
  let#[l,xs,bs,ev,q3,r3,h3,_]:=items ok (.O hx);let q3:LsR Z.K H1 l xs:=by let#[_,z]\/#[z,_]:=q3;show z;rw[hx]at z;cases z
  show .O #[l,xs,ev,q3,fin (.O hx) _ λH2 ib=>?_];let#[l2,ys,cs,ev2,q4,r4,_]:=items ib (.O hx);let:l2=l:=by let:=ev2.à.J ev;show V.I.inj this
  subst this;let#[_,z]\/#[z,_]:=q4
  .show#[ys,cs,z,wkA r4]
  .grind
 |tup ds=>
  let#[l,xs,bs,ev,q3,r3,h3,_]:=items ok (.h hx);let q3:SqT Z.K H1 l xs:=by let#[z,_]\/#[_,z]:=q3;rw[hx]at z;cases z;show z
  show .h #[l,xs,ev,q3,fin (.h hx) _ λH2 ib=>?_];let#[l2,ys,cs,ev2,q4,r4,_]:=items ib (.h hx);let:l2=l:=by let:=ev2.à.J ev;show V.I.inj this
  subst this;let#[z,_]\/#[_,z]:=q4
  .grind
  .show#[ys,cs,z,wkA r4]
 |_=>rw[<-e2,hx]at hsq;cases hsq
end
noncomputable def ItE(S:Hp->List V->Prop):It:=#[λi H=>∃xs x,S H xs/\xs[i]?=@x,
 λi H v H'=>∃T x,H T=none/\v=.I T/\H'=upd H T (.X [.E i,x])/\∀xs,S H xs->xs[i]?=@x,
 λi H=>∃xs,S H xs/\xs.B=i]
abbrev Ite(K:Frag)(l:Addr):It:=ItE (SqL K · l)
def _h7{P w K elts k1 pos}{IS:Heap->Array Value->Prop}(n1:e≠it)(n2:l≠e)
  (D:∀A:Around,A.õ=none->∀aa:Array Value,Draws P w A it [it,l] aa.L (λi v=>aa[i]?=@v) λi h=>(∃o,h.get? it=@o/\o.cls=.l n/\o.data=.fields %[.I l,.E i 0|0])/\IS h aa)
  (G:∀(X:Cx) a8 (s:Shared) σ H,X.K=K->L2.Inv X a8 σ H s->∀xs,S H xs->(∃aa,Vals xs aa/\IS s.H aa.G)/\∀zs,S H zs->zs=xs):
  Turn P w K (.Tuple elts k1 pos) (ItE S) [e,it] e (λi h=>(∃cf,IsEnum h e it i cf)/\∃o,h.get? it=@o/\o.cls=.l n/\o.data=.fields %[.I l,.E i 0|0]) where
 mem:=by simp
 obj:=λi h st b hb=>by
  let#[#[cf,h1],o4,e4,c4,d4]:=st;simp at hb;let rfl\/rfl:=hb
  .show#[_,h1,λv z=>by cases z]
  .show#[_,e4,λv z=>by rw[d4]at z;cases z]
 keep:=λi h h' st k=>by
  let#[#[cf,h1],o4,e4,c4,d4]:=st;show#[#[cf,k _ (by simp) _ h1],o4,k _ (by simp) _ e4,c4,d4]
 item:=by
  intro X hP hw hK hc i a8 s σ H E I hf st hg;subst hP hw;let#[xs,x,q1,hx]:=hg;let#[#[jn,wu,p1],inj]:=G X a8 s σ H hK I xs q1;let#[u1,hu1,ru1]:=wu.get hx;let#[#[cf,t1],t2]:=st;let hi:i<jn.G.L:=(aF hu1).1;show wpAny_pyNext_enum_itemD (D X.A.in1 (by let:=I.ok.hd hc;simpa using this) jn.G) t1 #[t2,p1] hi n1 (by simp;show#[n1,n2.à]) λu2 h1 tk hP2 g1 g2 gT gs gk=>?_
  let e2:u2=u1:=by
   let:jn[i]?=@u2:= ~~~hP2
   rw[hu1]at this;show(_aa this).à
  subst e2;show#[_,rfl,wpAny_letOwnedTupleGo_enum (s:={s with heap:=h1,toks:=tk+1}) g1 λh2 f1 sb=>?_];let fT:=I.fpOk (Xb _) (I.hok.fresh (Xb _));let nT:∀b>[e,it],b≠↥s:=λb hb ee=>by
   obtain⟨o,eo,_⟩:∃o,s.H.get? b=@o/\True:=by
    simp at hb;let#[o4,e4,_]:=t2;let rfl\/rfl:=hb
    .show#[_,t1,trivial]
    .show#[_,e4,trivial]
   show absurd (Xh eo) (ee▸Yt _)
  let kk:∀b o,b∉[e,it]->s.H.get? b=@o->h2.get? b=@o:=λb o hb ee=>by
   simp at hb;show(sb.2 b hb.1).J (gk b o hb.1 hb.2 ee)
  let I1:L2.Inv X a8 σ H {s with heap:=h2,toks:=tk+1}:=_dl [e,it] I kk hf;let I2:=_cH (a:=↥s) (o:=.X [.E i,x]) I1 fT.1 fT.2.1 fT.2.2.2.1 fT.2.2.2.2.1 fT.2.2.2.2.2
   (show ObjOk X.î X.w _ h2 _ (.X [.E i,x])from#[by change(2:Nat)<=sizeLine;decide,[.E i tk,u2],.æ #[_,rfl] (.æ ru1 .nil),#[_,(sb.2 _ λee=>nT e (by simp) ee.à).J gT,rfl,rfl,0,rfl]])
  let#[o4,e4,c4,d4]:=g2.1;show#[.I ↥s,_,I2,rfl,#[_,x,fT.1,rfl,rfl,λzs hzs=>by rw[inj zs hzs];show hx],#[#[u2,f1],o4,(sb.2 _ n1.à).J e4,c4,d4],λb hb=>by rw[qk (nT b hb)];show(hf b hb).1]
 done:=by
  intro X hP hw hK hc i a8 s σ H E I hf st hg;subst hP hw;let#[xs,q1,hx]:=hg;let#[#[jn,wu,p1],_]:=G X a8 s σ H hK I xs q1;let#[#[cf,t1],t2]:=st;let hsz:jn.G.L=i:=by rw[Xe,<-wu.B];show hx
  show wpAny_pyNext_enum_endD (D X.A.in1 (by let:=I.ok.hd hc;simpa using this) jn.G) t1 (hsz▸#[t2,p1]) λh' kk=>#[rfl,_dl (t':=s.toks) [it] I (λb o hb ee=>kk b o (~~~hb) ee) λb hb=>hf b (by
   simp at hb ⊢;show .h hb)]
 self:=λ_ _ _ _ _ st h=>by let#[#[cf,h1],_]:=st;show wpAny_pyIter_enum h1 h
def _h8{P w K elts k1 pos}(n1:e≠it)(n2:l≠e)(n3:l≠it):Turn P w K (.Tuple elts k1 pos) (Ite K l) [e,it] e (λi h=>(∃cf,IsEnum h e it i cf)/\h.IsListIter it l i):=
 _h7 (K:=K) (IS:=λh aa=>h.IsList l aa) n1 n2 (λA hh aa=>Draws.list hh it l n3 aa) λX a8 s σ H hK I xs q=>by
  subst hK;let#[aa,rv,p,_]:=I.list q;show#[#[aa,rv,p.isList],λzs hz=>I.list_inj hz q]
abbrev xzu(K:Frag)(ta:TA):TI:=fun σ H R=>ta σ H λvs H1=>∃l,vs=[.I l]/\(∃xs,SqL K H1 l xs/\(xs.B<=sizeLine->R (Ite K l) H1))
def _h9:bootBuiltins "enumerate"=@(.l "enumerate"):=boot_enumerate
section
variable {K:Frag}{st:Stmt}
def _ia K (hg:Gl X "enumerate")(hm:X.mg "enumerate"=none)(ha:PA X [e] ta)(hK:X.K=K<|>Ŕ)
  (hs:starEach [e] X.Y=[(false,eval e X.Y)]<|>Ŕ):PI X (.Tuple elts k1 pi) (.ù (.é "enumerate" p) [e] [] pos) (xzu K ta):=by
 subst hK;intro a8 s σ H R I h;show Call_ (xQ I hg hm _h9 (Y0 (thn (ha pos a8 s σ H _ I h) λus s1 hz=>?_) (by rw[hs];rfl) rfl));let#[vs,H1,I1,r1,q1]:=hz;let#[l,rfl,xs,q1,q]:=q1;let#[u1,rfl,e1]:=wj r1;cases e1;let#[jn,wu,p1,ro]:=I1.list q1;let lt:l<↥s1:=by let#[_,ee,_]:=p1.isList;show Xh ee
 show call_enumerate_list p1.isList λh' g1 g2 gs gk=>?_
 show wpAny_pyIter_enum g1 #[_,[_,↥s1],_,_,H1,rfl,I1.kept (t':=s1.toks) gk,
  _h8 (Nat.succ_ne_self _) (Xl (Z3 lt)) (Xl lt),#[#[_,g1],g2],λb hb=>?_,q ro]
 let ij:↥s1<=b:=by
  simp at hb;let rfl\/rfl:=hb<;>simp
 show I1.fpOk ij (I1.hok.fresh ij)
def _ib:∀(ds:List D) (k:Nat),(xV k ds).B=ds.B
 |[],_=>rfl|d::ds,k=>by rw[xV,Xn,Xn,_ib ds]
def _ic:∀(ds:List D) (k i:Nat),(xV k ds)[i]?=(ds[i]?).C λd=>.X [.E ((k+i:Nat):Int),d]
 |[],_,_=>by rfl|d::ds,k,0=>by rfl
 |d::ds,k,i+1=>by
  rw[xV,List.getElem?_cons_succ,List.getElem?_cons_succ,_ic ds,show k+1+i=k+(i+1)from by lia]
def _id(hT:H2 T=none)(r1:RepL K H2 true d1 v1 b1)(r2:RepL K H2 true d2 v2 b2):RepL K (upd H2 T (.X [v1,v2])) true (.X [d1,d2]) (.I T) (b1++b2):=by
 let sm:kJ H2 (upd H2 T (.X [v1,v2])):=vK hT;show#[T,[v1,v2],rfl,.O (.O vQ),?_];show#[v1,[v2],b1,b2,rfl,rfl,r1.kp (Kp.of_same sm),?_];show#[v2,[],b2,[],rfl,by simp,r2.kp (Kp.of_same sm),?_];show#[rfl,rfl]
def _ie{x:Sl}(ag:∀H2,x.let.ok K H2->∃ys cs,S H2 ys/\RepA K H2 true es ys cs/\∀b>cs,b>x.as):Walks K (ItE S) [x.let] (xV 0 es):=by
 show#[λt ht=>by rw[aC ht];rfl,λi H2 hok hi=>?_,λH2 hok=>?_,λi H2 v H3 d hok hy jf=>?_]
 all_goals let#[ys,cs,s1,s2,s3]:=ag H2 (hok _ (aB rfl))
 .let hl:=s2.len;rw[_ib]at hi;show#[ys,ys[i]'⋯,s1,X1 .q]
 .show#[ys,s1,by rw[_ib,s2.len]]
 .let#[T,x',hT,rfl,rfl,hy]:=hy;rw[_ic]at jf;cases ma:es[i]? with
  |none=>rw[ma]at jf;cases jf
  |some d0=>
   rw[ma]at jf;cases _aa jf;let#[v',bz,f1,f2,f3]:=s2.get ma;let:=hy ys s1;rw[f1]at this;cases _aa this;let rp:=_id (v1:=.E ((0+i:Nat):Int)) hT wQ f2;rw[show((0+i:Nat):Int)=i by lia]at rp ⊢;show#[#[.r,_,.I T,[]++bz],rfl,rfl,rfl,vK hT,rp,λb hb=>#[x.let,aB rfl,s3 b (f3 b (~~~hb))]]
def _if(h:QE X Z q c e)(hg:Gl X "enumerate")(hm:X.mg "enumerate"=none)(hK:X.K=Z.K<|>Ŕ)(hs:starEach [e] X.Y=[(false,eval e X.Y)]<|>Ŕ):QI X Z q (.Tuple elts k1 pi) (xqc c) (.ù (.é "enumerate" p) [e] [] pos):=λa8 s σ H R I ai=>ex8 ai λE L r m w hc xc k=>by
 show(_ia Z.K hg hm (qZ h vJ hs) hK hs) a8 s σ H R I (VQ m w (show bnd (c E) _=@r from hc) xc λE1 s h1 x L1 H1 e1 e2 m1 w1 st sm=>?_);let#[ds,hd,rfl]:=xw h1;let#[wT,sT]:=_gx w1 st;cases hx:x.d with
 |lst es=>
  rw[<-e2,hx]at hd;cases _aa hd;let#[a,_,_,ev,_]:=items w1.head (.O hx);let ag:=_gv (K:=Z.K) hx ev;let#[xs,bs,q3,r3,_]:=ag H1 (JJ w1.head);show#[a,by rw[ev],xs,q3,λaf=>k _ _ rfl (Ite Z.K a) [x.let] L1 H1 m1 wT sT (by rw[_ib,r3.len];show af) (λhq=>(sm hq).1) (_ie ag)]
 |_=>rw[<-e2,hx]at hd;cases hd
end
def RepA.erase{K}:∀{j ds xs as},RepA K H g ds xs as->∃bs,RepA K H g (ds.eraseIdx j) (xs.eraseIdx j) bs/\bs.Sublist as
 |j,[],xs,as,h=>by
  let#[rfl,rfl]:=h;show#[[],#[rfl,rfl],Z2 _]
 |0,d::ds,xs,as,h=>by
  let#[x,r,bs,cs,rfl,rfl,h1,h2]:=h;show#[cs,h2,List.sublist_append_right _ _]
 |j+1,d::ds,xs,as,h=>by
  let#[x,r,bs,cs,rfl,rfl,h1,h2]:=h;let#[es,r2,hs]:=RepA.erase h2;show#[bs++es,?_,List.Sublist.append (Z2 _) hs];ext RepA;show#[x,r.eraseIdx j,bs,es,rfl,rfl,h1,r2]
def _ig(h:_root_.Q.ixN n i=@j):seqIndex? i n=@j/\j<n/\-n<=i/\i<n:=by
 let e:L2.ixN n i=@j:=by
  unfold _root_.Q.ixN at h;ext L2.ixN
  by_cases h0:0<=i
  .show h
  .rw[Xd h0]at h ⊢;show h
 show _bK e
section
variable {K:Frag}
#where in
def _ih (hb:PE X (.ù (.Attribute o "pop" ay) [e] [] ah) (tBM Z.K "list" _b9 (xk i) (vx6 (tV Z q c) xwa))):QE X Z false (_he i c) (.ù (.Attribute o "pop" ay) [e] [] ah):=qj hb fun σ H Q ai=>ex8 ai λE L r m w hc xc k=>by
 unfold _he at hc;cases h0:E[i]? with
 | none=>rw [h0]at hc;cases hc
 | some s0 =>
  cases s0 with
  | none=>rw [h0]at hc;cases hc
  | some s0 =>
   let#[o0,d0]:=s0;cases d0 with
   | lst ds0 =>
    rw [h0,X7 (show V7 @(@(o0,D.S ds0))=true from rfl)]at hc;let#[x0,a1,a2,a3,a4]:=m.get h0;show #[x0.v,a4,_gn (w.ok x0 (qX a1)) a3,(qV m w hc xc λE1 s h1 x L1 H1 e1 e2 m1 w1 pc fr sr st sm=>?_)];cases hE:E1[i]? with
    | none=>rw[hE]at h1;cases h1
    | some s1=>
     cases s1 with
     | none=>rw[hE]at h1;cases h1
     | some s1=>
      let#[oo,dd]:=s1;rw [hE]at h1;cases dd with
      | lst ds=>
       cases hs:s.2 with
       | int kk=>
        rw [hs]at h1;dsimp only at h1
        by_cases ju:oo=.r
        .rw [X7 ju]at h1;cases h1
        .rw [Xd ju]at h1;cases hj:_root_.Q.ixN ds.B kk with
         | none=>rw[hj]at h1;cases h1
         | some j=>
          rw [hj]at h1;dsimp only at h1;cases hd:ds[j]? with
          | none=>rw[hd]at h1;cases h1
          | some d=>
           rw[hd]at h1;dsimp only at h1
           split at h1
           rotate_left
           .cases h1
           revert hp;rw[Bool.â]at hp;let#[hp,hsm]:=hp;let#[kt,dw]:=_gA hsm;cases _aa h1;let#[y,b1,b2,b3,b4]:=m1.get hE;let hv:y.v=x0.v:=by rw[a4]at b4;show(_aa (_aa b4)).à
           let#[l,xs,bs,c1,c2,c3,c4,c5]:=_gl (w1.ok y (qX b1)) b3 (b2▸ju);let wm:x0.v=.I l:=hv▸c1;rw[wm];let#[vv,bz,f1,f2,f3]:=c5.get hd;let#[g1,g2,g3,g4]:=_ig hj;let mi:(2:Int) ^ 63=9223372036854775808:=.q
           let#[_,rp]:=RepL.pu (g':=false) f2 hp;let#[cs,r6,bw]:=c5.erase (j:=j);show#[l,xs,kk,j,vv,rfl,by rw[qJ pc (e2.J hs)],c2,?_,?_,by rw[<-c5.len];show g1,f1,?_]
           .let:(2:Int) ^ 62=4611686018427387904:=.q
            omega
           .let:(2:Int) ^ 62=4611686018427387904:=.q
            omega
           let yn:y.ë.V:=by
            let#[A,B,e,_]:=V2 b1;let:=w1.nd;rw[e,k7,jK,Xa]at this;show(List.nodup_append.mp this.2.1).1
           let hoo:y.o=.rt\/y.o=.dp:=by
            rw[b2];cases oo with|no=>show absurd rfl ju|rt=>show .O rfl|dp=>show .h rfl
           let#[w3,s3]:=_gm (T:=[]) (o':=y.o) (ds':=ds.eraseIdx j) (xs':=xs.eraseIdx j) (~~~w1) b1 c2 c3 c4 c1 r6 (by
            let hoo\/hoo:=hoo
            .show .O #[hoo,λa ha=>.O (bw.subset ha)]
            .show .h #[hoo,hoo,?_,λa ha=>.O (bw.subset ha)];unfold Sl.ë at yn;rw[hoo,c3]at yn;show bw.nodup (List.ø.mp yn).2)
           let ke:∀a o,H1 a=@o->a≠l->upd H1 l (.S (xs.eraseIdx j)) a=@o:=λa o e ne=>by rw[qk ne];show e
           let rp2:RepL Z.K (upd H1 l (.S (xs.eraseIdx j))) false d vv []:=by
            show rp.kp #[λa zs e=>ke a _ e λz=>?_,λa o u e=>ke a _ e λz=>?_,nofun]
            .subst z;rw[c2]at e;cases e
            .subst z;rw[c2]at e;cases e
           let mm:=m1.ç (x:=#[y.o,.S (ds.eraseIdx j),y.v,l::cs]) i;rw[Q8 b4]at mm;show k _ _ rfl #[.dp,d,vv,[]] _ _ rfl rfl (b2▸mm) (w3.consPu rp2 rfl) (JW (x:=#[.dp,d,vv,[]]) (st.J (~~~s3)) (nofun) rfl) nofun
       |_=>rw[hs]at h1;cases h1
      |_=>cases h1
   |_=>rw[h0]at hc;cases hc
def _ii{y:Sl}(ok:y.ok K H)(hd:y.d=.S ds)(ho:y.o=.dp):∃l xs bs,y.v=.I l/\H l=@(.S xs)/\y.as=l::bs/\y.ë=l::bs/\RepA K H false ds xs bs:=by
 let#[l,xs,bs,c1,c2,c3,c4,c5]:=_gl ok hd (by rw[ho];show nofun);rw[ho]at c5;show#[l,xs,bs,c1,c2,c3,by ext Sl.ë;rw[ho,c3],c5]
end
section
variable {X:Cx}{Z:Fx0}{q:Bool}{a b c:Ex}{ea eb ec:Expr}{σ:L2.St}{H:Hp}{pos:Pos}
def _ij{r r' f g}(ad:Ad2 Z.K r (pu2 f))(ad':Ad2 Z.K r' (pu2 g)){Q}(h:tQ Z q (_hg f g a b c) σ H Q):wjn r r' (tV Z q a) (tV Z true b) (tV Z true c) σ H Q:=by
 let#[E,L,R,m,w,hc,xc,k]:=h;show qV m w hc xc λE1 s h1 x L1 H1 e1 e2 m1 w1 ok fr sr st sm=>(qV m1 w1 h1 (xc.step st) λE2 s2 h2 y L2 H2 e3 e4 m2 w2 ib rh rz bu dw=>?_)
 cases hf:f s.2 s2.2 with
 | none=>rw[hf]at h2;cases h2
 | some d=>
  rw [hf]at h2;cases d with
  | bl kb=>
   show ad H2 x y _ _ (Qk ok fr bu (dw rfl)).1 ib (by change(f x.d y.d).C _=_;rw[e2,e4,hf];rfl) λz H' zo zd o=>(#[kb,Vz o.ok zd,?_])
   let w3:World Z.K H' L2:=#[λt ht=>RepO.kp (w2.ok t ht) (Kp.of_same o.same),w2.nd,w2.ds];let fh:=(st.J bu).J #[λb ob h _=>o.same b ob h,λ_ h=>.O h,λ_ h=>.O h];let sm3:=λhq=>kQ (sm hq) (kQ (dw rfl) o.same)
   cases kb with
   | false=>
    cases _aa h2;show k _ _ rfl _ L2 H' rfl rfl m2 (w3.consPu (x:=#[.dp,.bl false,.bl false,[]]) (show RepL Z.K H' false _ _ []from _es) rfl) (JW fh (nofun) rfl) λhq=>#[sm3 hq,λ_ z=>(nomatch z)]
   | true=>
    rw[X7 rfl];show qV m2 w3 h2 (xc.step fh) λE3 s3 h3 v L3 H3 e5 e6 m3 w4 ok3 t6 sr3 kg ud=>?_
    let#[zz,hz,rfl]:=xw h3;let ky:=Qk (RepO.kp ib (Kp.of_same o.same)) rh kg (ud rfl);show ad' H3 y v zz Q ky.1 ok3 (by change(g y.d v.d).C _=_;rw[e4,e6];show hz) λt H5 to td ot=>?_
    let#[w5,n8]:=W3 w4 (fh.J kg) ot (λb hb=>(aA hb).è (ky.2 b) (t6 b)) (λb hb=>(aA hb).è (λz=>ky.1.some (Sl.frz_as z)) λz=>ok3.some (Sl.frz_as z))
     (_eo (V4 (rz.back st) λb hb=>Sl.frz_as hb) (V4 (sr3.back fh) λb hb=>Sl.frz_as hb))
    show k _ _ rfl t L3 H5 to td m3 w5 n8 λhq=>#[kQ (sm3 hq) (kQ (ud rfl) ot.same),λb hb=>JY (kQ (sm3 hq) (ud rfl)) (ot.new b hb)]
  |_=>cases h2
def _ik {op op' r r' f g} (ho:OpR X (compareOp op) r) (ad:Ad2 Z.K r (pu2 f)) (iq:OpR X (compareOp op') r') (ad':Ad2 Z.K r' (pu2 g)) (ha:QV X Z q a ea) (hb:QV X Z true b eb) (hc:QV X Z true c ec) (hg:∀x y s,pu2 g x y=@s->∃k,s.2=.bl k)
  (hm:lastMarks [op,op'] [eb,ec]=false:=by ac_rfl):QT X Z q (_root_.Q.tE (_hg f g a b c)) (.Compare ea [op,op'] [eb,ec] pos):=
 _ef (_bg ho iq ha hb hc hm) fun σ H Q ai=>ex8 ai λE L r m w i6 xc k=>by
  show _ij ad ad' ?_;let#[E1,s,h1,h2]\/#[E1,cx,h1,h2]:=wq i6
  .show#[E,L,_,m,w,h1,(λ_ _ z=>by cases z),λE' s' z x L' H' e1 e2 m' w' st sm=>?_];injection z with z1 z2;subst z1 z2;obtain⟨kk,hk⟩:∃k,s.2=.bl k:=by
    let#[E2,s2,h3,h4]\/#[_,_,_,z]:=wq h1
    .let#[E3,s3,h5,h6]\/#[_,_,_,z]:=wq h4
     .split at h6
      .let#[E4,s4,h7,h8]\/#[_,_,_,z]:=wq h6
       .let#[y,hy,z]:=xw h8;cases z;show hg s3 s4 _ hy
       .cases z
      .grind
      .grind
     .cases z
    .cases z
   rw[hk]at h2;cases _aa h2;show#[kk,Vz w'.head (e2.J hk),k _ _ rfl L' H' m' w'.tail (st.J Step.ý) λhq=>(sm hq).1]
  .show#[E,L,_,m,w,h1,xc.C h2,λE' s' z=>by cases z]
end
section
variable {X:Cx}{a8:LA9}{σ:L2.St}{H:Hp}{s:Shared}{a b:Addr}{A:Around}{k:Kd}
mutual
theorem KQ(I:Inv X a8 σ H s):∀{d v u},PuR X.K H d v->RelV v u->jX s.heap d u
 |.non,_,_,h,r=>by rw[h]at r;exact r|.int _,_,_,h,r=>by rw[h]at r;exact r
 |.tup ds,_,_,h,r=>by
  obtain⟨a,xs,rfl,q,ra⟩:=h;cases r;obtain⟨aa,rv,p,_⟩:=I.tuple q;exact#[a,aa,rfl,p,_Pc I ra rv]
 |.bl _,_,_,h,_=>h.elim|.str _,_,_,h,r=>by unfold PuR at h;rw[h.1]at r;exact r|.lst _,_,_,h,_=>h.elim|.dct _,_,_,h,_=>by unfold PuR at h;exact h.elim|.obj _ _,_,_,h,_=>h.elim
theorem _Pc(I:Inv X a8 σ H s):∀{ds xs us},PuRs X.K H ds xs->Vals xs us->CReps s.heap ds us
 | [],_,_,h,r=>by unfold PuRs at h;rw[h]at r;cases r;rfl
 | d::ds,_,_,h,r=>by
  obtain⟨x,rr,rfl,h1,h2⟩:=h;cases r with
  |cons r1 r2=>
   exact#[_,_,rfl,KQ I h1 r1,_Pc I h2 r2]
end
mutual
theorem _il{K g}:∀{n d v as},k5 n d=true->RepL K H g d v as->PuR K H d v
 |_,.non,_,_,_,h=>h.1|_,.int _,_,_,_,h=>by unfold RepL at h;exact h.1|0,.tup _,_,_,hk,_=>by cases hk
 |n+1,.tup ds,_,_,hk,h=>by
  unfold RepL at h;obtain⟨a,xs,e,q,ra⟩:=h;exact#[a,xs,e,q,purs_of hk ra]
 |n,.bl _,_,_,hk,_=>by cases n<;>(unfold k5 at hk;cases hk)|_,.str _,_,_,_,h=>by unfold RepL at h;exact#[h.1,h.2.2]|n,.lst _,_,_,hk,_=>by cases n<;>(unfold k5 at hk;cases hk)|n,.dct _,_,_,hk,_=>by cases n<;>(unfold k5 at hk;cases hk)|n,.obj _ _,_,_,hk,_=>by cases n<;>(unfold k5 at hk;cases hk)
theorem purs_of{K g}:∀{n ds xs as},keyDs n ds=true->RepA K H g ds xs as->PuRs K H ds xs
 |_,[],_,_,_,h=>h.1
 |n,d::ds,_,_,hk,h=>by
  unfold keyDs at hk;rw[Bool.and_eq_true]at hk;obtain⟨x,r,bs,cs,rfl,rfl,h1,h2⟩:=h;exact#[x,r,rfl,_il hk.1 h1,purs_of hk.2 h2]
end
def _im(I:Inv X a8 σ H s)(h:H a=@(kK a es ep))(hn:(es.C (·.1)).V)(hk:∀x>es,PuR X.K H x.1.1 (.I x.2.1)):s.H.DictOfH (Kz X.î X.w) a es:=by
 let#[#[o,ds,h1,h2,h3,h4],_]:=(show ObjOk X.î X.w H s.H a (kK a es ep)from I.hok a _ h);show#[o,ds,ep,h1,h2,h3,h4,λx hx=>KQ I (hk x hx) rfl,hn]
def _in:∀(es:List Ent) (k:Kd),(atKey es k).isSome=decide (k.1>es.C (·.1.1))
 | [],k=>by simp[atKey]
 | x::es,k=>by
  let ih:=_in es k
  by_cases h:x.1=k
  .let:k.1>(x::es).C (·.1.1):=by rw[<-h];simp
   rw[X8 this];simp[atKey,List.find?_cons,h]
  .let e1:atKey (x::es) k=atKey es k:=by simp[atKey,List.find?_cons,h]
   let e2:(k.1>(x::es).C (·.1.1))↔k.1>es.C (·.1.1):=by
    rw[List.Z,Zy];show#[λz=>z.è (λq=>absurd (J1 q.à) h) id,.h]
   rw[e1,ih];show decide_eq_decide.s e2.à
def _io(hu:A.y+64<cLine):(Kz X.î X.w).room A.in1:=by change A.y+1+40<cLine;lia
def _ip(hu:A.y+64<cLine)(I:Inv X a8 σ H s)(d:DcN X.K H a ks vs)(hk:PuR X.K H k.1 (.I b))(h:∀s',Inv X a8 σ H s'->Q (.bool (decide (k.1>ks))) s'):wpAny (model X.î X.w) A (compareOp .In (.I b) (.I a)) Q E s:=by
 let#[es,ep,e,h1,h2,h3,rfl,h5,h6]:=d;show wpAny_in_heap (knd:=Kz X.î X.w) (_io hu) (KQ I hk rfl) h1 (_im I e h3 h5) ?_;rw[_in];show h _ (I.tok _)
def _iq(hu:A.y+64<cLine)(I:Inv X a8 σ H s)(d:DcN X.K H a ks vs)(hk:PuR X.K H k.1 (.I b))(h:∀s',Inv X a8 σ H s'->Q (.bool (!decide (k.1>ks))) s'):wpAny (model X.î X.w) A (compareOp .NotIn (.I b) (.I a)) Q E s:=by
 let#[es,ep,e,h1,h2,h3,rfl,h5,h6]:=d;show wpAny_notIn_heap (knd:=Kz X.î X.w) (_io hu) (KQ I hk rfl) h1 (_im I e h3 h5) ?_;rw[_in];show h _ (I.tok _)
end
def _ir(K:Frag)(mn:Bool):R2:=λx y H Q=>∃(k:Kd) (b a:Addr) (ks:List D) (vs:List V),x=.I b/\y=.I a/\PuR K H k.1 (.I b)/\DcN K H a ks vs/\Q (.bl (if mn then !decide (k.1>ks)else decide (k.1>ks))) H
def _is{K:Frag}(hu:X.A.y+64<cLine)(hK:X.K=K<|>Ŕ):OpR X (compareOp .In) (_ir K false):=by
 subst hK;intro a8 s σ H x y u v Q I rx ry h;let#[k,b,a,ks,vs,rfl,rfl,hk,hd,q]:=h;cases rx;cases ry;show _ip hu I hd hk λs' I'=>#[.bl _,H,I',rfl,q]
def _it{K:Frag}(hu:X.A.y+64<cLine)(hK:X.K=K<|>Ŕ):OpR X (compareOp .NotIn) (_ir K true):=by
 subst hK;intro a8 s σ H x y u v Q I rx ry h;let#[k,b,a,ks,vs,rfl,rfl,hk,hd,q]:=h;cases rx;cases ry;show _iq hu I hd hk λs' I'=>#[.bl _,H,I',rfl,q]
def _iu{K:Frag}{y:Sl}(ok:y.ok K H)(hd:y.d=.dct kvs)(hu:unm kvs=true):∃a xs,y.v=.I a/\DcN K H a (kvs.C (·.1)) xs:=by
 let h:=RepO.wk ok;rw[hd]at h;unfold RepL at h;let#[a,xs,bs,e,_,q,_]:=h;show#[a,xs,e,DcA.un q hu]
def V1{K:Frag}{x:Sl}(ok:x.ok K H)(hk:kj x.d=true):∃b,x.v=.I b/\PuR K H x.d (.I b):=by
 unfold kj at hk;rw[Bool.â]at hk;let h:=_il hk.1 (RepO.wk ok);cases hd:x.d with
 |tup ds=>
  rw[hd]at h;let h':=h;unfold PuR at h;let#[a,xs,e,_]:=h;show#[a,e,e▸h']
 |_=>rw[hd]at hk;cases hk.2
def _iv{K:Frag}:Ad2 K (_ir K false) (pu2 V3):=by
 intro H x y s Q ox oy hf k;unfold pu2 V3 at hf;dsimp only at hf;cases hy:y.d with
 | dct kvs=>
  rw[hy]at hf;dsimp only at hf
  by_cases hk:kj x.d=true/\unm kvs=true
  .rw[X7 hk]at hf;cases _aa hf;let#[a,xs,e,q]:=_iu oy hy hk.2;let#[b,eb,pb]:=V1 ox hk.1;let gj:k5 6 x.d=true:=by let hk:=hk.1;unfold kj at hk;rw[Bool.â]at hk;show hk.1
   show#[#[x.d,gj],b,a,_,xs,eb,e,pb,q,k #[.dp,.bl _,.bl _,[]] H rfl rfl x6]
  .rw[Xd hk]at hf;cases hf
 |_=>rw[hy]at hf;cases hf
def _iw{K:Frag}:Ad2 K (_ir K true) (pu2 Q0):=by
 intro H x y s Q ox oy hf k;unfold pu2 Q0 at hf;dsimp only at hf;cases hy:y.d with
 | dct kvs=>
  rw[hy]at hf;dsimp only at hf
  by_cases hk:kj x.d=true/\unm kvs=true
  .rw[X7 hk]at hf;cases _aa hf;let#[a,xs,e,q]:=_iu oy hy hk.2;let#[b,eb,pb]:=V1 ox hk.1;let gj:k5 6 x.d=true:=by let hk:=hk.1;unfold kj at hk;rw[Bool.â]at hk;show hk.1
   show#[#[x.d,gj],b,a,_,xs,eb,e,pb,q,k #[.dp,.bl _,.bl _,[]] H rfl rfl x6]
  .rw[Xd hk]at hf;cases hf
 |_=>rw[hy]at hf;cases hf
def _ix(x y s:Sd)(h:pu2 V3 x y=@s):∃k,s.2=.bl k:=by
 unfold pu2 V3 at h;cases hy:y.2 with
 |dct kvs=>
  rw[hy]at h;dsimp only at h
  by_cases hk:kj x.2=true/\unm kvs=true
  .rw[X7 hk]at h;cases _aa h;show#[_,rfl]
  .rw[Xd hk]at h;cases h
 |_=>rw[hy]at h;cases h
def _iy(x y s:Sd)(h:pu2 Q0 x y=@s):∃k,s.2=.bl k:=by
 unfold pu2 Q0 at h;cases hy:y.2 with
 |dct kvs=>
  rw[hy]at h;dsimp only at h
  by_cases hk:kj x.2=true/\unm kvs=true
  .rw[X7 hk]at h;cases _aa h;show#[_,rfl]
  .rw[Xd hk]at h;cases h
 |_=>rw[hy]at h;cases h
def _iz(h:Heap):ObjOk P w H (h.í {cls:=.l "dict",data:=.dict (List.G [])}) h.objs.L (kK h.objs.L [] 0):=
 #[#[_,(List.G []),X9 _ rfl,#[rfl,rfl,rfl],rfl,rfl],#[_,X9 _ rfl],λh1 h2 hz k=>by let#[o,ds,a1,a2]:=hz;show#[o,ds,k o a1,a2]]
section
variable {K:Frag}{k:Kd}
def _iA (hx : RepL K H g d x cs) (hr : RelV x r): ∀{kvs xs bs} {es : List Ent},RepP K H g kvs xs bs -> kvs.C (·.1) = es.C (·.1.1) -> Vals xs (es.C (·.2.2)) ->
    ∃ xs' bz,RepP K H g (kvs.C λe=>if e.1 = k.1 then(k.1,d)else e) xs' bz /\ Vals xs' ((es.C (putAt k r)).C (·.2.2)) /\ ∀a > bz,a > bs \/ a > cs
  | [],_,_,[],h,_,_=>#[[],[],#[rfl,rfl],Paired.nil,nofun]| [],_,_,_::_,_,h,_=>by simp at h| _ :: _,_,_,[],_,h,_=>by simp at h
  | (q,e)::kvs,_,_,n::es,h,hk,hv=>by
    let#[y,rr,b1,b2,rfl,rfl,h1,h2]:= h;injection hk with k1 k2;cases hv with
    | cons v1 v2=>
      let#[xs',bz,i1,i2,i3]:= _iA hx hr h2 k2 v2
      by_cases hq : q = k.1
      . let hn : n.1 = k:= J1 (hq▸k1.à)
        show#[x::xs',cs ++ bz,?_,?_,λa ha=> ?_]
        . rw[List.Z,X7 hq]
          show#[x,xs',cs,bz,rfl,rfl,hx,i1]
        . show .æ ?_ i2
          ext putAt
          rwa [X7 hn]
        . let z\/z:=aA ha
          . show .h z
          . show(i3 a z).imp (_ab _) id
      . let hn : ¬n.1 = k:= λz=>hq (z▸k1)
        show#[y::xs',b1 ++ bz,?_,?_,λa ha=> ?_]
        . rw[List.Z,Xd hq]
          show#[y,xs',b1,bz,rfl,rfl,h1,i1]
        . show .æ ?_ i2
          ext putAt
          rwa [Xd hn]
        . let z\/z:=aA ha
          . show .O (_ac _ z)
          . show(i3 a z).imp (_ab _) id
def _iB(hx : RepL K H g d x cs): ∀{kvs xs bs},RepP K H g kvs xs bs -> RepP K H g (kvs ++ [(q,d)]) (xs ++ [x]) (bs ++ cs)
  | [],_,_,h=>by
    let#[rfl,rfl]:= h;ext RepP;show#[x,[],cs,[],rfl,by simp,hx,by ext RepP; show#[rfl,rfl]]
  | (p,e)::kvs,_,_,h=>by
    let#[y,rr,b1,b2,rfl,rfl,h1,h2]:= h;ext RepP;show#[y,rr ++ [x],b1,b2 ++ cs,rfl,by rw[Y3],h1,_iB hx h2]
def _iC:∀{xs us},Vals xs us->RelV x r->Vals (xs++[x]) (us++[r])
 |_,_,.nil,h=>.æ h .nil|_,_,.æ a t,h=>.æ a (_iC t h)
def _iD(hx:RepL K H g d x cs)(hr:RelV x r)(h:RepP K H g kvs xs bs)(hk:kvs.C (·.1)=es.C (·.1.1))(hv:Vals xs (es.C (·.2.2)))(hn:(es.C (·.1)).V)(hp:∀n>es,PuR K H n.1.1 (.I n.2.1))(hb:PuR K H k.1 (.I b)):
  ∃ xs' bz,RepP K H g (W4 kvs k.1 d) xs' bz/\(W4 kvs k.1 d).C (·.1)=(storedH es k b r).C (·.1.1)/\Vals xs' ((storedH es k b r).C (·.2.2))/\((storedH es k b r).C (·.1)).V/\(∀n>storedH es k b r,PuR K H n.1.1 (.I n.2.1))/\(storedH es k b r).B<=es.B+1/\∀a>bz,a>bs\/a>cs:=by
 let hm:=_in es k;rw [<-hk]at hm;cases ha:atKey es k with
 | some p=>
  rw[ha]at hm;let ff:=Y4 hm.à;rw[storedH_old ha];ext W4;rw[X7 ff];let#[xs',bz,i1,i2,i3]:=_iA hx hr h hk hv;show#[xs',bz,i1,?_,i2,by rw[keys_map_putAt];show hn,λn sy=>?_,by rw[X5];omega,i3]
  .let e1:(es.C (putAt k r)).C (·.1.1)=es.C (·.1.1):=by
    rw[Xp];show Y1 λn _=>?_
    change(putAt k r n).1.1=n.1.1;ext putAt
    by_cases z:n.1=k
    .rw[X7 z]
    .rw[Xd z]
   rw[e1,<-hk,Xp];show Y1 λe _=>?_
   change(if e.1=k.1 then _ else e).1=e.1
   by_cases z:e.1=k.1
   .rw[X7 z];show z.à
   .rw[Xd z]
  .let#[m,ia,rfl]:=aE sy;let:=hp m ia;ext putAt
   by_cases z:m.1=k
   .rw[X7 z];show this
   .rw[Xd z];show this
 | none=>
  rw[ha]at hm;let ff:=of_decide_eq_false hm.à;rw[storedH_new ha];ext W4;rw[Xd ff];show#[xs++[x],bs++cs,_iB hx h,by rw[Xg,Xg,hk];rfl,by rw[Xg];show _iC hv hr,?_,λn sy=>?_,by simp,λa z=>aA z]
  .rw[Xg,Xa];show#[hn,by simp,λp my q hq e=>?_]
   grind
  .let z\/z:=aA sy
   .show hp n z
   .rw[aC z];show hb
end
section
def _iE(hu:A.y+64<cLine)(I:Inv X a8 σ H s)(e:H a=@(kK a es ep))(h2:es.B<=sizeLine)(h3:(es.C (·.1)).V)(h5:∀x>es,PuR X.K H x.1.1 (.I x.2.1))(hk:PuR X.K H k.1 (.I b))
  (h:∀ep' s',Inv X a8 σ (upd H a (kK a (storedH es k b r) ep')) s'->Q () s'):wpAny (model X.î X.w) A (setItem (.I a) (.I b) r) Q E s:=by
 show wpAny_setItem_heap (hsz:=h2) (_io hu) (KQ I hk rfl) (_im I e h3 h5) λh' dd hs=>?_
 let#[q,ds,ep',hq,g2,g3,g4,_,_]:=dd;show h ep' _ (_cp I (e▸J4) hs #[q,hq] #[#[q,ds,hq,g2,g3,g4],#[q,hq],λh1 h2 #[o,ds,a1,a2] k=>#[o,ds,k o a1,a2]])
end
def _iF{K}(w:World K H (T++L))(hy:L[i]?=some @y)(hH:H l=@(kK l es ep))(ho:y.o=.rt)(ha:y.as=l::bs)(hv:y.v=.I l)
  (r:RepP K H true kvs' xs' cs) (hc:∀a>cs,a>bs\/a>jk T\/a>k6 T) (hs:(l==sysModules)=false) (h2:es'.B<=sizeLine) (h3:(es'.C (·.1)).V) (h4:kvs'.C (·.1)=es'.C (·.1.1)) (h5:∀n>es',PuR K H n.1.1 (.I n.2.1)) (h6:Vals xs' (es'.C (·.2.2))):
  World K (upd H l (kK l es' ep')) (L.ç i @#[.rt,.dct kvs',y.v,l::cs])/\Step H (T++L) (upd H l (kK l es' ep')) (L.ç i @#[.rt,.dct kvs',y.v,l::cs]):=by
 let hl:l>y.ë:=by ext Sl.ë;rw[ho,ha];simp
 let oL:=mem_owned.s #[y,qX hy,hl];let oy:l>jk (T++L):=by rw[k7];show _ab _ oL
 let nd:=w.nd;rw[k7,Xa]at nd;let nb:l∉bs:=λz=>by
  let:l>y.frz:=by ext Sl.frz;rw[ho,ha];show z
  show w.ds l oy (by rw[qK];show _ab _ (mem_frozen.s #[y,qX hy,this]))
 let nc:l∉cs:=λz=>by
  let q\/q\/q:=hc l z
  .show nb q
  .show(λz=>nd.2.2 l z l oL rfl) q
  .show(λz=>w.ds l oy (by rw[qK];show _ac _ z)) q
 let kp:Kp H (upd H l (kK l es' ep')) cs:=by
  let k2:∀a o,H a=@o->a≠l->upd H l (kK l es' ep') a=@o:=λa o e ne=>by rw[qk ne];show e
  show#[λa zs e=>k2 a _ e λz=>?_,λa o u e=>k2 a _ e λz=>?_,λa ha o e=>k2 a o e λz=>nc (z▸ha)]
  .subst z;rw[hH]at e;cases e
  .subst z;rw[hH]at e;cases e
 show World.writeAt w hy hl (y':=_) #[l,xs',cs,hv,r.kp kp,.O #[es',ep',vQ,hs,h2,h3,h4,λn hn=>PuR.kp kp (h5 n hn),h6],rfl] (by simp[Sl.ë]) (λa h=>?_) (λa h=>?_) (λa h z=>?_)
 .let:a=l:=by simpa [Sl.ë]using h
  grind
 .let q\/q:=hc a (by simpa [Sl.frz]using h)
  .show .O (ha▸_ad _ q)
  .show .h q
 .let:a=l:=by simpa [Sl.ë]using h
  subst this;show nc (by simpa [Sl.frz]using z)
abbrev zjl(K:Frag):V->V->V->Hp->(Hp->Prop)->Prop:=λx y v H C=>∃a b k es ep,x=.I a/\y=.I b/\H a=@(kK a es ep)/\es.B<=sizeLine/\(es.C (·.1)).V/\(∀n>es,PuR K H n.1.1 (.I n.2.1))/\PuR K H k.1 (.I b)/\∀r ep',RelV v r->C (upd H a (kK a (storedH es k b r) ep'))
abbrev wqf(K:Frag)(td ty tv:TE):TS:=λD σ H=>tv σ H λv H1=>td σ H1 λx H2=>ty σ H2 λy H3=>zjl K x y v H3 λH4=>D.nx σ H4
def _iG(hu:X.A.y+64<cLine)(ho:PE X o td)(hi:PE X i ty)(hv:PE X bo tv)(hs:swapsWith bo @(.Subscript o i da) pos.line X.Y=pure false):
  PS X (.Assign [.Subscript o i da] bo pos) (wqf X.K td ty tv):=by
 intro a8 s σ H D I h;show wpAny_Assign_Subscript (thn (hv a8 s σ H _ I h) λr s1 oq=>?_) hs;let#[v,H1,I1,rv,q1]:=oq;show thn (ho a8 s1 σ H1 _ I1 q1) λu s2 sf=>?_
 let#[x,H2,I2,rx,q2]:=sf;show thn (hi a8 s2 σ H2 _ I2 q2) λiv s3 hq3=>?_
 let#[y,H3,I3,ry,a,b,k,es,ep,ex,ey,e,h2,h3,h5,hk,q3]:=hq3;subst ex ey;obtain rfl:u=Value.I a:=rx;obtain rfl:iv=Value.I b:=ry;show _iE hu I3 e h2 h3 h5 hk λep' s4 I4=>#[σ,_,I4,q3 r ep' rv]
section
#where in
def _iH(hu:X.A.y+64<cLine)(hK:X.K=Z.K)(ho:PE X o (xk i))(hk:QV X Z true kc ke)(hv:QE X Z q vc ve)(hs:swapsWith ve @(.Subscript o ke da) pos.line X.Y=pure false<|>Ŕ):
  QS X Z pn (_hk i kc vc) (.Assign [.Subscript o ke da] ve pos):=_gq (W:=zjl X.K) (_iG hu ho hk hv hs) #[rfl,rfl] fun {H L y x z d} {C} hy w t4 mw k=>by
 let#[yo,yd,yv,xu]:=y;unfold _hj at mw
 split at mw
 .revert kvs p9;injection p9 with h1 h2;subst h1 h2
  split at mw
  .revert hc;cases _aa mw;let#[a,xs,bs,e4,rp,q4,e5]:=w.tail.ok _ (qX hy);let#[es,ep,g1,g2,g3,g4,g5,g6,g7]:=DcA.un q4 hc.2.2;let#[b,eb,pb]:=V1 t4 hc.1;let gj:k5 6 z.d=true:=by let:=hc.1;unfold kj at this;rw[Bool.â]at this;show this.1
   let af:es.B<sizeLine:=by
    let:=congrArg List.B g5;rw[X5,X5]at this;rw[<-this];show hc.2.1
   show#[a,b,#[z.d,gj],es,ep,e4,eb,g1,g3,g4,by rw[hK];show g6,by rw[hK];show pb,λrr ep' yw=>?_];let#[xs',bz,p1,p2,p3,p4,p5,p6,p7]:=_iD (k:=#[z.d,gj]) (RepO.wk (w.ok x X3)) yw rp g5 g7 g4 g6 pb;let#[w4,kg]:=_iF (T:=[@x]) (ep':=ep') w hy g1 rfl e5 e4 p1 (λc i5=>(p7 c i5).imp id λz=>by
    let z\/z:=Sl.as_of z
    .show .O (~~~z)
    .show .h (~~~z)) g2 (by omega) p4 p2 p5 p3
   show k _ _ w4 kg
  .cases mw
 .cases mw
end
def QK(h:Heap)(a:Addr)(ts:List DictEntry)(ep:Nat):Prop:=∃ob ko,h.get? a=@ob/\ob.ExactDict/\ob.data=.dict ko ep/\ko.R=ts
def _iI(I:Inv X a8 σ H s)(h:H a=@(kK a es ep)):QK s.H a (es.C λx=>(#[Jq X.w x.1.1,.I x.2.1,x.2.2]:DictEntry)) ep:=by
 let#[#[o,ds,h1,h2,h3,h4],_]:=(I.hok a _ h);show#[o,ds,h1,h2,h3,h4]
mutual
theorem _iJ{K H}:∀{d v},PuR K H d v->RepL K H true d v []
 |.non,_,h=>#[h,rfl]|.int _,_,h=>#[h,rfl]
 |.tup ds,_,h=>by
  obtain⟨a,xs,e,s,r⟩:=h;exact#[a,xs,e,s,rep_purs r]
 |.bl _,_,h=>h.elim|.str _,_,h=>by exact#[h.1,rfl,h.2]|.lst _,_,h=>h.elim|.dct _,_,h=>by exact h.elim|.obj _ _,_,h=>h.elim
theorem rep_purs{K H}:∀{ds xs},PuRs K H ds xs->RepA K H true ds xs []
 |[],_,h=>by unfold PuRs at h;exact#[h,rfl]
 |d::ds,_,h=>by
  obtain⟨x,r,e,h1,h2⟩:=h;exact#[x,r,[],[],e,rfl,_iJ h1,rep_purs h2]
end
def _iK(K:Frag)(p:Addr)(Q:VK)(ps:List (V×V))(H2:Hp):Prop:=∃x y,ps=[(x,y)]/\H2 p=@(kK p [] 0)/\∃(b:Addr) (kd:Kd),x=.I b/\PuR K H2 kd.1 (.I b)/\∀r ep',RelV y r->Q (.I p) (upd H2 p (kK p [(kd,b,r)] ep'))
abbrev xx2(K:Frag)(tk tv:TE):TE:=fun σ H Q=>∀p,H p=none->(p==sysModules)=false->tk σ (upd H p (kK p [] 0)) λx H1=>tv σ H1 λy H2=>_iK K p Q [(x,y)] H2
def _iL{X:Cx}{K:Frag}{pos:Pos}{k v:Expr}{tk tv:TE}(hu:X.A.y+64<cLine)(hk:PE X k tk)(hv:PE X v tv)(hK:X.K=K<|>Ŕ):PE X (.Dict [@k] [v] pos) (xx2 K tk tv):=by
 subst hK;intro a8 s σ H Q I h;let hn:=I.hok.fresh (Xb ↥s);let I1:=I.laid (a:=↥s) (o:=kK ↥s [] 0) (h':=s.H.í {cls:=.l "dict",data:=.dict (List.G [])}) (t':=s.toks) (λ_ _ q=>X2 _ q) (Xb _) (_iz s.H);show wpAny_Dict_any rfl rfl (by simp) (by simp) (thn (_cx hk hv _cw a8 _ σ _ (_iK X.K ↥s Q) I1 (h _ hn (Yj (Zv I.big)))) λvs s2 hz=>?_);let#[ps,H2,I2,km,x,y,ep,e,b,kd,ex,pk,q]:=hz;subst ep ex;cases km with
 |@cons p1 p2 t1 t2 h1 h2=>
  cases h2;let#[u,r]:=p2;obtain rfl:u=Value.I b:=h1.1;let h1:RelV y r:=h1.2;ext storeAll;rw[List.forIn_cons];show X0 (X0 (wpAny_dictSet_heap (knd:=Kz X.î X.w) (xs:=[]) (k:=kd) (by change X.A.y+40<cLine;lia) (KQ I2 pk rfl) (_im I2 e Xy (λ_ z=>absurd z Yv)) (λh' dd hs=>X4 ?_) (Y9 _)));change ∅ (forIn [] PUnit.unit _) _ _ _;rw[List.forIn_nil];show X4 ?_;let#[o,ds,ep',hq,g2,g3,g4,_,_]:=dd;show#[.I ↥s,_,_cp (ob:=kK ↥s [(kd,b,r)] ep') I2 (by rw[e];show J4) hs #[o,hq] #[#[o,ds,hq,g2,g3,g4],#[o,hq],λh1 h2 hz k=>by let#[o,ds,a1,a2]:=hz;show#[o,ds,k o a1,a2]],rfl,q r ep' h1]
section
variable {X:Cx}{Z:Fx0}{q:Bool}{kc vc:Ex}{ke ve:Expr}{pos:Pos}
def _iM(hu:X.A.y+64<cLine)(hk:QE X Z q kc ke)(hv:QE X Z q vc ve)(hK:X.K=Z.K<|>Ŕ):QE X Z q (_hl kc vc) (.Dict [@ke] [ve] pos):=qj (_iL hu hk hv hK) fun σ H Q ai=>ex8 ai λE L r m w hc xc k=>by
 intro p hp hs;let uy:kJ H (upd H p (kK p [] 0)):=vK hp;let st0:Step H L (upd H p (kK p [] 0)) L:=#[λb ob h _=>uy b ob h,λ_ h=>.O h,λ_ h=>.O h];let nL:p∉jk L:=λz=>w.own_some z hp
 let nF:p∉k6 L:=λz=>w.frz_some z hp
 let w0:World Z.K (upd H p (kK p [] 0)) L:=#[λt ht=>RepO.kp (w.ok t ht) (Kp.of_same uy),w.nd,w.ds];let wd:World Z.K (upd H p (kK p [] 0)) ([@#[.rt,.dct [],.I p,[p]]]++L):=by
  show World.æ w0 #[p,[],[],rfl,by ext RepP;show#[rfl,rfl],.O #[[],0,vQ,hs,Y9 _,Xy,rfl,λ_ z=>absurd z Yv,Paired.nil],rfl] (by simp[Sl.ë]) (λb hb ho=>?_) (λb hb ho=>?_) (λb hb=>by simp[Sl.frz]at hb) (λb _ hb=>by simp[Sl.frz]at hb)
  .let:b=p:=by simpa [Sl.ë]using hb
   show nL (this▸ho)
  .let:b=p:=by simpa [Sl.ë]using hb
   show nF (this▸ho)
 show VQ m w0 (show bnd (kc E) _=@r from hc) (xc.step st0) λE1 s1 h1 x L1 H1 e1 e2 m1 w1 jt kt=>?_
 let#[wd1,sd1]:=_ee wd jt w1;let s1':Step H L H1 L1:=(st0.J jt).J Step.ý;show VQ m1 w1.tail (show bnd (vc E1) _=@r from h1) (xc.step s1') λE2 s2 h2 y L2 H2 e3 e4 m2 w2 bu dw=>?_
 let pm:(([@#[.rt,.dct [],.I p,[p]]]:Ls)++(@x::L1)).á (([@x,@#[.rt,.dct [],.I p,[p]]]:Ls)++L1):=List.á.swap _ _ _;let#[wd2,sd2]:=_ee (wd1.perm pm) bu w2;let vo:(([@x,@#[.rt,.dct [],.I p,[p]]]:Ls)++(@y::L2)).á (([@x,@y]:Ls)++(@#[.rt,.dct [],.I p,[p]]::L2)):=List.á.æ _ (List.á.swap _ _ _);let w3:=wd2.perm vo;let fh:Step (upd H p (kK p [] 0)) ([@#[.rt,.dct [],.I p,[p]]]++L) H2 ([@x,@y]++(@#[.rt,.dct [],.I p,[p]]::L2)):=(sd1.perm (List.á.ò _) pm).J (sd2.perm (List.á.ò _) vo)
 by_cases hkt:kj s1.2=true
 .rw [X7 hkt]at h2;cases _aa h2;let pc:x.ok Z.K H2:=w3.ok x (by simp);let qc:kj x.d=true:=by rw[e2];show hkt
  let#[b,eb,pb]:=V1 pc qc;let gj:k5 6 x.d=true:=by unfold kj at qc;rw[Bool.â]at qc;show qc.1
  let#[a,xs0,bs0,ea,_,q4,_]:=(show RepR Z.K H2 (.dct []) (.I p) [p]from w3.ok #[.rt,.dct [],.I p,[p]] (by simp));let#[es,ep,g1,_]:=DcA.un (kvs:=[]) q4 rfl;let hH2:H2 p=@(kK p [] 0):=by
   let n1:p∉jk (@x::L1):=λz=>by
    let z\/z:=jt.ë p z
    .show nL z
    .rw[vQ]at z;cases z
   let hH1:H1 p=@(kK p [] 0):=jt.keep p _ vQ nL;show bu.keep p _ hH1 λz=>n1 (by rw[jK];show _ab _ z)
  let rv:RepL Z.K H2 true s2.2 y.v y.as:=by rw[<-e4];show RepO.wk (w3.ok y (by simp))
  show#[x.v,y.v,rfl,hH2,b,#[x.d,gj],eb,pb,λrr ep' yw=>?_];let#[w4,kg]:=_iF (ep':=ep') (es':=[(#[x.d,gj],b,rr)]) (xs':=[y.v]) (cs:=y.as) (kvs':=[(x.d,s2.2)]) (bs:=[]) (i:=0) (y:=#[.rt,.dct [],.I p,[p]]) w3 rfl hH2 rfl rfl rfl
   (by ext RepP;show#[y.v,[],y.as,[],rfl,by simp,rv,by ext RepP;show#[rfl,rfl]])
   (λc i5=>.h (by
    let z\/z:=Sl.as_of i5
    .show .O (~~~(.h z))
    .show .h (~~~(.h z)))) hs (by change(1:Nat)<=sizeLine;decide) (List.ø.s #[Yv,Xy]) rfl (λn hn=>by rw[aC hn];show pb) (.æ yw .nil)
  let stA:Step (upd H p (kK p [] 0)) ([@#[.rt,.dct [],.I p,[p]]]++L) _ _:=fh.J kg;show k _ _ rfl #[.rt,.dct [(x.d,s2.2)],.I p,p::y.as] L2 _ rfl (congrArg (λd=>D.dct [(d,s2.2)]) e2) m2 w4 ?_ λhq=>?_
  .show#[λc ob h hn=>stA.keep c ob (uy c ob h) λz=>?_,λc i5=>?_,λc i5=>?_]
   .rw[List.singleton_append,jK]at z;let z\/z:=aA z
    .let:c=p:=by simpa [Sl.ë]using z
     rw[this,hp]at h;cases h
    .show hn z
   .let z\/z:=stA.ë c i5
    .rw[List.singleton_append,jK]at z;let z\/z:=aA z
     .let:c=p:=by simpa [Sl.ë]using z
      show .h (this▸hp)
     .show .O z
    .show .h (by
      cases hc0:H c with
      |none=>rfl
      |some ob=>rw[uy c ob hc0]at z;cases z)
   .let hcp:c=p->H c=none:=λz=>z▸hp
    let z\/z\/z:=stA.frz c i5
    .rw[List.singleton_append,vW]at z;let z\/z:=aA z
     .simp[Sl.frz]at z
     .show .O z
    .rw[List.singleton_append,jK]at z;let z\/z:=aA z
     .let:c=p:=by simpa [Sl.ë]using z
      show .h (.h (this▸hp))
     .show .h (.O z)
    .show .h (.h (by
      cases hc0:H c with
      |none=>rfl
      |some ob=>rw[uy c ob hc0]at z;cases z))
  .show#[λc ob h=>?_,λc i5=>?_]
   .let bc:c≠p:=λz=>by rw[z,hp]at h;cases h
    rw[qk bc];show(dw hq).1 c ob ((kt hq).1 c ob (uy c ob h))
   .let:c=p:=by simpa [Sl.ë]using i5
    show this▸hp
 .rw[Xd hkt]at h2;cases h2
end
section
def _iN(hs:(a==sysModules)=false)(hd:QK s.H a ts ep)
  (q:Q (.I ↥s) {s with heap:=s.H.í {cls:=.l "dict_keyiterator",data:=.fields %[.I a,.E 0 0,.E ts.B 0,.E ep 0|0]}}):wpAny (model prog w) A (pyIter (.I a)) Q E s:=by
 let#[ob,ko,g1,g2,g3,g4]:=hd;let ty:s.TypeIs (.I a) "dict":=#[ob,g1,g2.1];let hl:ko.L=ts.B:=by rw[<-g4];rfl
 show wpAny_pyIter_slot ty F.slot_dict_iter (Y8 F.slot_dict_iter ty F.entry_dict_iter ?_ (F.args_dict_iter_1 _));ext Builtin.«dict.__iter__» Builtin.Dict.dictSlotNone;show X0 (X0 (wpAny_notOrdered_dict ty ?_));change wpAny _ _ (pure (Value.I a)) _ _ s;show X4 ?_;change wpAny _ _ (Builtin.Dict.showsAll a >>= _) _ _ s;ext Builtin.Dict.showsAll;rw[Xd (by rw[hs];show Bool.false_ne_true)];show X0 (X4 (X0 (wpAny_dictEntries g1 g3 (X0 (wpAny_dictEpoch g1 g3 ?_)))));show X0 (Ya (X4 #[_,rfl,"dict_keyiterator",_,#[_,X9 _ rfl,rfl],F.slot_dict_keyiterator_next.U,?_]))
 simpa [rawInt,hl]using q
def _iO(hi:s.H.IsKeyIter it a i ts.B ep)(hd:QK s.H a ts ep)(hx:ts[i]?=@en)
  (q:∀h',h'.IsKeyIter it a (i+1) ts.B ep->Heap.SameBut it s.H h'->Q @en.key {s with heap:=h' }):wpAny (model prog w) A (pyNext (.I it)) Q E s:=by
 let ty:=hi.typeIs;let#[o,h1,h2,h3]:=hi;let#[ob,ko,g1,g2,g3,g4]:=hd;let hl:ko.L=ts.B:=by rw[<-g4];rfl
 let bf:i<ko.L:=by rw[hl];show(aF hx).1
 let hen:ko[i]=en:=by
  rw[<-g4,Xr,Xq bf]at hx;show _aa hx
 let ow:Builtin.Dict_items.ownsTuple "dict_keyiterator"=false:=by rfl
 ext pyNext;show X0 (wpAny_attempt (Yl (name:=Str.ofString "__next__") ty F.slot_dict_keyiterator_next (Y8 F.slot_dict_keyiterator_next ty F.entry_dict_keyiterator_next ?_ (F.args_dict_keyiterator_next_1 _))));show X0 (X4 (X0 (X0 ?_)))
 first
  |show X0 (Zd ty (X4 (X0 (Zq h1 h3 ?_))))
  |show X0 (wpAny_typeNameOf_keyiter ty (X4 (X0 (Zq h1 h3 ?_))))
 dsimp[ow,Bool.false_eq_true,if_false];change wpAny _ _ (if(Value.I a==Value.ã)=true then _ else _) _ _ s;rw[Xd (show ¬((Value.I a==Value.ã)=true)from nofun)];show X0 (X4 (X0 (wpAny_dictEntries g1 g3 ?_)));rw[Xd (by rw[hl];simp)];show X0 (X4 (X0 (wpAny_dictEpoch g1 g3 ?_)));rw[Xd (by simp)];show X4 ?_;dsimp[show ¬((i:Int)<0)from by simp,if_false,Xu,Xq bf,hen];show X0 ?_
 first
  |show X0 (Zd ty (X4 (X0 (wpAny_isOneOf_keyiter ty ?_))))
  |show X0 (wpAny_typeNameOf_keyiter ty (X4 (X0 (wpAny_isOneOf_keyiter ty ?_))))
 change wpAny _ _ (setField (.I it) 1 (rawInt ((i:Int)+1)) >>= _) _ _ s;show X0 (Yq h1 h3 (by simp) ?_);let jo:(s.H.update it (Obj.mapFields (·.þ 1 (rawInt ((i:Int)+1))))).IsKeyIter it a (i+1) ts.B ep:=⟨_,Ye _ h1 (Z9 (Yy h3 _)),(Obj.cls_mapFields ..).J h2,by rw[Yy h3];simp[rawInt]⟩;show X0 (Yd (X0 (wpAny_isOneOf_keyiter (s:={s with heap:=s.H.update it (Obj.mapFields (·.þ 1 (rawInt ((i:Int)+1))))}) jo.typeIs ?_)));change wpAny _ _ (pure en.key) _ _ _;show X4 (X4 ⟨_,rfl,X4 (q _ jo (Y7 ..))⟩)
def _iP(hh:A.õ=none)(hi:s.H.IsKeyIter it a i ts.B ep)(hd:QK s.H a ts ep)(hx:ts.B<=i)(q:∀h',Heap.ExtBut it s.H h'->Q none {s with heap:=h' }):wpAny (model prog w) A (pyNext (.I it)) Q E s:=by
 let ty:=hi.typeIs;let#[o,h1,h2,h3]:=hi;let#[ob,ko,g1,g2,g3,g4]:=hd;let hl:ko.L=ts.B:=by rw[<-g4];rfl
 let ow:Builtin.Dict_items.ownsTuple "dict_keyiterator"=false:=by rfl
 ext pyNext;show X0 (wpAny_attempt (Yl (name:=Str.ofString "__next__") ty F.slot_dict_keyiterator_next (Y8 F.slot_dict_keyiterator_next ty F.entry_dict_keyiterator_next ?_ (F.args_dict_keyiterator_next_1 _))));show X0 (X4 (X0 (X0 ?_)))
 first
  |show X0 (Zd ty (X4 (X0 (Zq h1 h3 ?_))))
  |show X0 (wpAny_typeNameOf_keyiter ty (X4 (X0 (Zq h1 h3 ?_))))
 dsimp[ow,Bool.false_eq_true,if_false];change wpAny _ _ (if(Value.I a==Value.ã)=true then _ else _) _ _ s;rw[Xd (show ¬((Value.I a==Value.ã)=true)from nofun)];show X0 (X4 (X0 (wpAny_dictEntries g1 g3 ?_)));rw[Xd (by rw[hl];simp)];show X0 (X4 (X0 (wpAny_dictEpoch g1 g3 ?_)));rw[Xd (by simp)];show X4 ?_;dsimp[show ¬((i:Int)<0)from by simp,if_false,Xu,Array.getElem?_eq_none (show ko.L<=i by symm)];show X0 ?_
 first
  |show X0 (Zd ty (X4 ?_))
  |show X0 (wpAny_typeNameOf_keyiter ty (X4 ?_))
 change wpAny _ _ (setField (.I it) 0 .ã >>= _) _ _ s;show X0 (Yq h1 h3 (by simp) ?_);change wpAny _ _ (newExc (.l "StopIteration") [] >>= _) _ _ _;show X0 ?_;dsimp[newExc,newTuple];show X0 (Ya (X0 (m:=firstArgMember _ _) (wpAny_of_eq (a:=Value.ã) (by first|rfl|(lia;rfl)) (Ya ?_ (by size_fits)))) (by size_fits));dsimp[raiseNew];show X0 (wpAny_handled ?_);rw[show A.in1.õ=none from hh];let tyS:∀(hq:Heap) (ob:Obj),ob.cls=.l "StopIteration"->(hq.í ob).get? hq.objs.L=@ob->Shared.TypeIs {s with heap:=hq.í ob} (.I hq.objs.L) "StopIteration":=λhq ob h1 h2=>#[_,h2,h1]
 show X0 (X4 (wpAny_throw ?_));show X0 (Zn (b:=true) (tyS _ _ rfl (X9 _ rfl)) isSubtype_stop ?_);show X4 (q _ (((Y7 ..).extBut.í _).í _))
def _iQ(hd:QK h a ts ep)(k:∀o,h.get? a=@o->h'.get? a=@o):QK h' a ts ep:=by
 let#[ob,ko,g1,g]:=hd;show#[ob,ko,k ob g1,g]
def _iR(hd:QK h a ts ep):a<h.objs.L:=by
 let#[ob,ko,g1,g]:=hd;show Xh g1
def _iS(hh:A.õ=none)(I:Addr)(bc:a≠I):PySem.Walks prog w A I [I,a] [I] ts.B (λi v=>∃en,ts[i]?=@en/\v=en.key) (λi h=>h.IsKeyIter I a i ts.B ep/\QK h a ts ep) where
 sub:=λb hb=>by simp at hb;simp[hb]
 frame:=λ_ _ _ st hk=>#[st.1.at λo e=>hk I (by simp) o e,_iQ st.2 λo e=>hk a (by simp) o e]
 item:=λi s Q E hi st hQ=>_iO st.1 st.2 (X1 hi) λh' jo iu=>
  hQ _ h' s.toks #[_,X1 hi,rfl] #[jo,_iQ st.2 λo e=>iu.extBut a o bc e] λb o hb e=>iu.extBut b o (λh=>hb (by simp[h])) e
 done:=λs Q E st hQ=>_iP hh st.1 st.2 (Xb _) λh' uu=>hQ h' s.toks λb o hb e=>uu b o (λh=>hb (by simp[h])) e
 self:=λ_ _ _ _ st hQ=>wpAny_pyIter_keyiter st.1 hQ
def _iT(lo:(a==sysModules)=false):PySem.W.KdlSrc prog w "dict" a a ts.B (λi v=>∃en,ts[i]?=@en/\v=en.key) (λh=>QK h a ts ep) where
 type:=λ_ hm=>by let#[ob,ko,g1,g2,_]:=hm;show#[ob,g1,g2.1]
 there:=λ_ hm=>#[_iR hm,_iR hm]
 keep:=λ_ _ hm hk=>_iQ hm λo e=>hk a (.O rfl) o e
 notList:=by rfl
 notTuple:=by rfl
 hint:=λ_ _ _ _ hm hq=>PySem.W.kdl_hint_dict (by let#[ob,ko,g1,g2,_]:=hm;show#[ob,g1,g2.1]) hq
 iter:=λ_ _ hh hm=>#[_,_,(λ_ _ hq=>_iN lo hm hq),_iS hh _ (Xl (_iR hm)),#[#[_,X9 _ rfl,rfl,rfl],_iQ hm λo e=>X2 _ e]]
end
def _iU(K:Frag):List V->Hp->VK->Prop:=λxs H Q=>∃a es ep,xs=[.I a]/\H a=@(kK a es ep)/\(a==sysModules)=false/\es.B<=sizeLine/\∀l,H l=none->Q (.I l) (upd H l (.S (es.C λn=>V.I n.2.1)))
def _iV:∀(es:List Ent),Vals (es.C λn=>V.I n.2.1) (es.C λn=>Value.I n.2.1)
 |[]=>.nil|n::es=>.æ rfl (_iV es)
def _iW{K:Frag}(hc:X.calm=true<|>Ŕ):CallR X (.l "list") (_iU K):=by
 intro a8 s σ H xs us Q I r h;let#[a,es,ep,rfl,hH,hs,hl,q]:=h;let#[u,rfl,rx]:=wj r;cases rx;show PySem.W.kdl_call (_iT (ts:=es.C λx=>(#[Jq X.w x.1.1,.I x.2.1,x.2.2]:DictEntry)) (ep:=ep) hs) (I.ok.hd hc) (_iI I hH) (by rw[X5];show hl) λh' tk ae c kp e au=>?_
 let he:ae.R=es.C λn=>Value.I n.2.1:=by
  show Zg λi=>?_
  rw[Xf];let hn:ae.L=es.B:=by let:=au.1;simpa using this
  cases hv:ae[i]? with
  |none=>rw[Xr,hv,Y5 (by let:=Array.getElem?_eq_none_iff.mp hv;symm)];rfl
  |some v=>
   let#[en,h1,h2]:=au.2 i v hv;rw[Xr,hv,h2];rw[Xf]at h1;cases ma:es[i]? with|none=>rw[ma]at h1;cases h1|some n=>rw[ma]at h1;cases _aa h1;rfl
 show#[.I ↥s,_,I.laid kp (Xb _) (show ObjOk X.î X.w _ h' _ (.S (es.C λn=>V.I n.2.1))from#[by rw[X5];show hl,es.C λn=>Value.I n.2.1,c,_iV es,by rw[<-he];simpa using e]),rfl,q _ (I.hok.fresh (Xb _))]
def _iX{K:Frag}:∀{es:List Ent},(∀n>es,PuR K H n.1.1 (.I n.2.1))->RepA K H true (es.C (·.1.1)) (es.C λn=>V.I n.2.1) []
 |[],_=>by ext RepA;show#[rfl,rfl]
 |n::es,h=>by
  rw[List.Z,List.Z];ext RepA;show#[_,_,[],[],rfl,rfl,_iJ (h n X3),_iX λm hm=>h m (_ad _ hm)]
#where in
def _iY{K:Frag}:Ad1 K (λv H Q=>_iU K [v] H Q) ZV:=by
 intro H x s Q ok hf k;unfold ZV at hf;cases hx:x.d with
 | dct kvs=>
  rw[show(x.o,x.d).2=D.dct kvs from hx]at hf;let hf:(if kvs.B<=big/\unm kvs=true then @(Own.rt,D.S (kvs.C (·.1)))else none)=@s:=hf
  split at hf
  rotate_left
  .cases hf
  revert af;cases _aa hf;let yq:RepL K H true (.dct kvs) x.v x.as:=by rw[<-hx];show JJ ok
  unfold RepL at yq;let#[a,xs,bs,ev,rp,q4,eas]:=yq;let#[es,ep,g1,g2,g3,g4,g5,g6,g7]:=DcA.un q4 af.2;show#[a,es,ep,by rw[ev],g1,g2,g3,λl hl=>k #[.rt,.S (kvs.C (·.1)),.I l,[l]] _ rfl rfl #[vK hl,#[l,_,[],rfl,?_,vQ,rfl],λb hb=>?_,by simp[Sl.ë],λb hb=>?_]]
  .rw[g5];show(_iX g6).kp (Kp.of_same (vK hl))
  .let:b=l:=by simpa [Sl.ë]using hb
   show this▸hl
  .simp[Sl.frz]at hb
 |_=>rw[show(x.o,x.d).2=_ from hx]at hf;cases hf
section
def _iZ(hN:X.N.V)(hi:X.N[i]?=@y)(hx:Loc X.Y.ú y)(ho:PIp X op (ipI f))(h:QE X Z q vc ve)(hp:i∉pn<|>ŕ)(hf:X.fn y=true\/X.Y.ú.ð.U y=@.local<|>Ř):
  QS X Z pn (XJ f i vc) (.AugAssign (.é y da) op ve pos):=zV (_aP hN hi hx h ho hf) λD σ H ai=>ex7 ai λE L r m w hr k=>by
 unfold XJ at hr;cases hE:E[i]? with
 | none=>rw[hE]at hr;cases hr
 | some s0=>
  cases s0 with
  | none=>rw[hE]at hr;cases hr
  | some s0=>
   let#[oo,dd]:=s0;rw [hE]at hr;cases dd with
   | int a=>
    dsimp only at hr;let#[x0,a1,a2,a3,a4]:=m.get hE;let ha:x0.v=.E a:=qJ (w.ok x0 (qX a1)) a3;show#[x0.v,a4,?_];show KJ m w hr k λE1 s h1 x L1 H1 e1 e2 m1 w1 st _=>?_
    cases hs:s.2 with
    | int b=>
     rw[hs]at h1;cases _aa h1;show#[a,b,ha,qJ w1.head (by rw[e2];show hs),?_];let w2:World Z.K H1 (@#[.dp,.E (f a b),.E (f a b),[]]::L1):=w1.tail.æ (show RepL Z.K H1 false (.E (f a b)) (.E (f a b)) []from wQ) Xy (nofun) (nofun) (nofun) (nofun);let s2:Step H L H1 (@#[.dp,.E (f a b),.E (f a b),[]]::L1):=by
      show#[st.keep,λb hb=>st.ë b ?_,λb hb=>st.frz b ?_]
      .rw[jK]at hb ⊢;let z\/z:=aA hb
       .show nomatch z
       .show _ab _ z
      .rw[vW]at hb ⊢;let z\/z:=aA hb
       .show nomatch z
       .show _ab _ z
     show k (σ.ç i @(.E (f a b))) (L1.ç i @#[.dp,.E (f a b),.E (f a b),[]]) H1 (Pn.ò.ç hp) (_eN (x:=#[.dp,.E (f a b),.E (f a b),[]]) m1 rfl rfl) w2.ç (s2.J Step.ç)
    |_=>rw[hs]at h1;cases h1
   |_=>cases hr
end
abbrev dkI(kv:List (Int×Int)):List (Key×V):=kv.C λp=>(Sum.O p.1,V.E p.2)
def _i0 kv k:Jk (dkI kv) (Sum.O k)=(k9 kv k).C V.E:=by
 induction kv with
 | nil=>rfl
 | cons p r ih=>
  unfold Jk k9 at ih ⊢;rw[show dkI _=_::dkI r from rfl,List.find?_cons,List.find?_cons]
  by_cases h:p.1=k
  .let h1:decide ((Sum.O p.1:Key)=Sum.O k)=true:=X8 (by rw[h]);let h2:=X8 h;dsimp[h1,h2];rfl
  .let h1:decide ((Sum.O p.1:Key)=Sum.O k)=false:=Xj λz=>h (Sum.O.inj z)
   let h2:=Xj h;dsimp[h1,h2];show ih
def _i1 kv (k v):_cf (dkI kv) (Sum.O k) (V.E v)=dkI (v4 kv k v):=by
 let ha:((dkI kv).any λp=>decide (p.1=(Sum.O k:Key)))=kv.any λp=>decide (p.1=k):=by
  rw[List.any_map]
  congr 1
  funext p;change decide ((Sum.O p.1:Key)=Sum.O k)=decide _;show decide_eq_decide.s #[λz=>Sum.O.inj z,λz=>by rw[z]]
 ext _cf v4;rw[ha]
 by_cases h:(kv.any λp=>decide (p.1=k))=true
 .rw[X7 h,X7 h];ext dkI;rw[Xp,Xp];show Y1 λp _=>?_
  by_cases z:p.1=k
  .grind
  .lia
 .rw[Xd h,Xd h];ext dkI;rw[Xg];rfl
def _i2:∀{kvs kv},XV kvs=@kv->kvs=kv.C λp=>(D.E p.1,D.E p.2):=by
 intro kvs
 induction kvs with
 |nil=>intro kv h;cases _aa h;rfl
 |cons e r ih=>
  intro kv h;let#[a,b]:=e;cases a<;>first|(cases h;done)|(cases b<;>first|(cases h;done)|skip)
  let#[q,hq,rfl]:=Option.map_eq_some_iff.mp (show(XV r).C _=@kv from h);rw[List.Z,<-ih hq]
def _i3:∀kv,XV (kv.C λp=>(D.E p.1,D.E p.2))=@kv
 |[]=>rfl
 |_::r=>by
  change(XV _).C _=_;rw[_i3 r];rfl
def _i4 kv:QJ (Q6 kv)=@kv:=_i3 kv
def _i5{K}:∀{kv:List (Int×Int)} {xs bs},RepP K H g (kv.C λp=>(D.E p.1,D.E p.2)) xs bs->xs=kv.C λp=>V.E p.2
 |[],_,_,h=>by
  show h.1
 |p::r,_,_,h=>by
  let#[y,rr,b1,b2,rfl,_,h1,h2]:=h;rw[h1.1,_i5 h2,List.Z]
def _i6{K}:∀(kv:List (Int×Int)),RepP K H g (kv.C λp=>(D.E p.1,D.E p.2)) (kv.C λp=>V.E p.2) []
 |[]=>#[rfl,rfl]
 |p::r=>by
  show#[_,_,[],[],rfl,rfl,wQ,_i6 r]
def _i7{K}(kv:List (Int×Int)):RepP K H g (mkD::kv.C λp=>(D.E p.1,D.E p.2)) (V.ó::kv.C λp=>V.E p.2) []:=by
 show#[_,_,[],[],rfl,rfl,#[rfl,rfl],_i6 kv]
def _i8:∀{a:List (Int×V)} {kv},(kv.C λp=>D.E p.1)=a.C (λp=>D.E p.1)->(kv.C λp=>V.E p.2)=a.C (·.2)->(a.C λp=>((Sum.O p.1:Key),p.2))=dkI kv
 |[],[],_,_=>rfl|[],_::_,h,_=>by simp at h
 |p::a,q::kv,h,h'=>by
  rw[List.Z,List.Z]at h h';injection h with h1 h2;injection h' with h3 h4;injection h1 with h1;ext dkI;rw[List.Z,List.Z,_i8 h2 h4,<-h1,<-h3]
def _i9{d kv}(hd:QJ d=@kv):∃m,d=.dct ((.x m,.ó)::kv.C λp=>(.E p.1,.E p.2)):=by
 unfold QJ at hd
 split at hd
 .show#[_,by rw[_i2 hd]]
 .cases hd
def _ja{K}{y:Sl}(ok:y.ok K H)(hd:QJ y.d=@kv):∃a,y.v=.I a/\H a=@(.dK (dkI kv))/\∃bs,y.as=a::bs:=by
 let#[m,e]:=_i9 hd;let h:=RepO.wk ok;rw[e]at h;let#[a,xs,bs,ev,rp,qa,eas]:=h;show#[a,ev,?_,bs,eas];let#[es,ep,_,_,_,_,g5,g6,_]\/#[kvn,mm,g1,g2,g3]:=qa
 .exfalso;rw[List.Z]at g5;cases es with
  |nil=>cases g5
  |cons n es=>
   rw[List.Z]at g5;injection g5 with g5 _;let:=g6 n X3;rw[<-g5]at this;unfold PuR at this
   symm
 .rw[g1]
  congr 2
  let#[y1,rr,_,_,rfl,_,_,r2]:=rp;rw[List.Z,Xp]at g2;injection g2 with _ g2;injection g3 with _ g3;show _i8 g2 ?_
  rwa [<-(_i5 r2)]
section
def _jb(mn:Bool):R2:=λx y H Q=>∃(k:Int) (a:Addr) (kv:List (Int×Int)),x=.E k/\y=.I a/\H a=@(.dK (dkI kv))/\Q (.bl (if mn then !(k9 kv k).isSome else(k9 kv k).isSome)) H
def _jc k (e:H a=@(.dK (dkI kv))):DGet H a (.E k) ((k9 kv k).C V.E):=by
 rw[<-_i0];show DGet.k (k:=Sum.O k) e
def _jd(hu:X.A.y+64<cLine):OpR X (compareOp .In) (_jb false):=by
 intro a8 s σ H x y u v Q I rx ry h;let#[k,a,kv,rfl,rfl,hd,q]:=h;cases ry;show d_in .q I (_jc k hd) rx λs' I'=>#[.bl _,H,I',rfl,?_]
 rwa [Option.isSome_map]
def _je{K}:Ad2 K (_jb false) (pu2 W9):=by
 intro H x y s Q ox oy hf k;unfold pu2 W9 at hf;dsimp only at hf;cases hx:x.d with
 | int j=>
  rw[hx]at hf;cases hi:QJ y.d with
  |none=>rw[hi]at hf;cases hf
  |some kv=>
   rw[hi]at hf;cases _aa hf;let#[a,e,q,_]:=_ja oy hi;show#[j,a,kv,qJ ox hx,e,q,k _ H rfl rfl x6]
 |_=>rw[hx]at hf;cases hf
def _jf(x y s)(h:pu2 W9 x y=@s):∃k,s.2=.bl k:=by
 unfold pu2 W9 at h;cases hx:x.2 with
 |int j=>
  rw[hx]at h;cases hi:QJ y.2 with|none=>rw[hi]at h;cases h|some kv=>rw[hi]at h;cases _aa h;show#[_,rfl]
 |_=>rw[hx]at h;cases h
end
section
def _jg(hu:X.A.y+64<cLine)(ha:QV X Z qa a ea)(hb:QV X Z true b eb)(hs:ZJ eb):QV X Z qa (_hn a b) (.Subscript ea eb pos):=
 qj (_cu .q ha hb hs) fun σ H Q ai=>ex8 ai λE L r m w hc xc k=>by
  show qV m w (hc) xc λE1 s h1 x L1 H1 e1 e2 m1 w1 ok fr sr st sm=>(qV m1 w1 h1 (xc.step st) λE2 s2 h2 y L2 H2 e3 e4 m2 w2 ib rh rz bu dw=>?_)
  let#[z,hz,rfl]:=xw h2;unfold _hm at hz;cases hy:s2.2 with
  | int j=>
   rw [hy]at hz;cases hi:QJ s.2 with
   | none=>rw[hi]at hz;cases hz
   | some kv=>
    rw[hi]at hz;dsimp only at hz;cases hv:k9 kv j with
    | none=>rw[hv]at hz;cases hz
    | some v=>
     rw[hv]at hz;cases _aa hz;let#[l,e,q,_]:=_ja (Qk ok fr bu (dw rfl)).1 (e2▸hi);show#[l,.E v,e,?_,?_]
     .rw[qJ ib (e4▸hy)];let:=_jc j q;rw[hv]at this;show this
     .show k _ _ rfl #[.dp,.E v,.E v,[]] L2 H2 rfl rfl m2 w2 (show RepL Z.K H2 false _ _ []from wQ) (nofun) (nofun) (st.J bu) λhq=>kQ (sm hq) (dw rfl)
  |_=>rw[hy]at hz;cases hz
def _jh kv (k v):(v4 kv k v).B<=kv.B+1:=by
 ext v4
 split
 .rw[X5];simp
 .rw[Xi];simp
end
end Q
namespace PySem
def _ji:typeLookup (.l "list") "keys"=pure none:=am_miss_of_fast (by decide +kernel)
def _jj
  (hx:s.H.get? a=@o) (hc:o.cls=.l "list") (gb:o.data=.seq xs k) (hd:o.dict=none) (hA:A.õ=none)
  (h:∀h' tk,(∀b ob,s.H.get? b=@ob->h'.get? b=@ob)->Q none {s with heap:=h',toks:=tk}):
  wpAny (model prog w) A (getAttr? (.I a) "keys") Q E s:=by
 let#[c,dct,dat,sl]:=o;simp only at hc gb hd;subst hc gb hd;let#[hp,g,d,tk,os]:=s;let hT:∀og,(#[hp,g,d,og,os]:Shared).TypeIs (.I a) "list":=λ_=>#[_,hx,rfl]
 let f1:=sub_AttributeError;let f3:=F.slot_list_getattribute.U;let f4:=F.slot_list_getattribute.bind (.I a);let f5:=am_list_getattr_none;ext getAttr? getAttrBy? getAttrBy
 repeat (any_goals (first|assumption|show hT _|((with_reducible change wpAny _ _ (call (Value.u "list.__getattribute__") _ _) _ _ _);show call_meets F.slot_list_getattribute (hT _) am_entry_list_getattribute (F.args_list_getattribute_2 _ _) (meets_getattribute_miss_list a xs k sl "keys" _ _ji (by rfl) .q) #[hx,hA,λh' og e hx'=>?_])|wp_step))
 let#[t',u',he]:=hx'.there;change wpAny _ _ (getattributeRaised _ _ _ _ _ _ _) _ _ _;ext getattributeRaised
 repeat (any_goals (first|assumption|wp_step))
 show h _ _ hx'.keeps
namespace F
def _Ed:entryFor table "dict.update.loop"=@Builtin.«dict.update.loop»:=entryFor_of_tree (by kernel_rfl)
def _Pd:plainId "dict.update.loop"=true:=by decide +kernel
end F
section
variable [DecidableEq K]{knd:KeyKind prog w K}
def _jk(h:s.H.IsTuple T %[u,v|0])(hq:Q [u,v] s):wpAny (model prog w) A (Builtin.Dict.pairItems (.I T)) Q E s:=by
 let#[o,ho,hc,m,hd]:=h;let#[cls,dct,dat,sl]:=o;subst hc hd
 repeat (any_goals (first|assumption|wp_step))
def _jl(W:WalksS prog w A.in1 I fp wr G n P St)(S)(oz:S∉fp){h₀:Heap}(hn:more.B=n)(hz:n<=sizeLine)
  (fq:∀i v,P i v->∃T u x k,v=.I T/\T∉S::wr/\h₀.IsTuple T %[u,x|0]/\more[i]?=@(k,x)/\knd.is k u=true):
  ∀k i (c) (s),n - i=k->i<=n->St i s->(∀b o,b∉S::wr->h₀.get? b=@o->s.H.get? b=@o) ->
   s.H.DictOf knd S (merged [] (more.take i)) ->
   (∀s',Moved (S::wr) G s s'->s'.H.DictOf knd S (merged [] more)->R (.ok (.ret .ã)) s') ->
   codeAny (model prog w) A (.u "dict.update.loop" #[[.I S,.I I,.E i c,.ã],[]]) R s:=by
 let zb:=λh=>oz (W.sub _ h)
 let bw:∀b>wr,b>S::wr:=λb hb=>_ad _ hb
 intro k
 induction k with
 | zero=>
  intro i c s hk hi av hh hS hR;let ff:i=n:=.q
  subst ff;show Yr F._Ed (X0 (W.done s _ _ av λs' hm=>(X0 (X4 (X4 (hR s' (hm.mono bw) ?_))))));rw[<-hn,List.take_length]at hS;let#[o,es,ep,ho,ac]:=hS;show#[o,es,ep,hm.H S _ zb ho,ac]
 | succ k ih=>
  intro i c s hk hi av hh hS hR;let bf:i<n:=.q
  show Yr F._Ed (X0 (W.item i s _ _ bf av λv s' hP nq hm=>?_));let#[T,u,x,kk,rfl,hTn,hT,hmo,jm]:=fq i v hP;let il:s'.H.DictOf knd S (merged [] (more.take i)):=by
   let#[o,es,ep,ho,ac]:=hS;show#[o,es,ep,hm.H S _ zb ho,ac]
  let u4:s'.H.IsTuple T %[u,x|0]:=by
   let#[o,ho,ac]:=hT;show#[o,hm.H T o (λz=>hTn (_ad _ z)) (hh T o hTn ho),ac]
  let ij:(merged [] (more.take i)).B<=sizeLine:=by
   let e1:=merged_length_le ([]:List _) (more.take i);let e2:(more.take i).B<=more.B:=by rw[Z1];symm
   let e3:([]:List (K×Value)).B=0:=rfl;lia
  show X0 (Yd (X0 (wpAny_tryCatch (_jk u4 (Yd (wpAny_dictSet_pairs jm il λh' xr iu=>(X4 #[Za F._Pd _,(ih (i+1) 0 _ (by grind) bf (W.frame _ s' _ _ nq (Nat.le_succ _) λb hb o e=>?_) (λb o hb e=>?_) (by rw[merged_take_succ [] more i _ hmo];show xr) λlq nz nw=>?_)])))))))
  .rw[iu.2 b (λh:b=S=>oz (h▸hb))];show e
  .let uz:b≠S:=λz=>hb (z▸X3)
   rw[iu.2 b uz];show hm.H b o (λz=>hb (_ad _ z)) (hh b o hb e)
  .show hR lq (Moved.J W.gtrans ((hm.mono bw).then_heap (Nat.le_succ _) λb o hb e=>?_) nz) nw;rw[iu.2 b (λh:b=S=>hb (h▸X3))];show e
def _jm
  (hh:A.õ=none) (ho:s.H.get? l=@o) (hc:o.cls=.l "list") (gb:o.data=.seq items m) (hd:o.dict=none) (hn:more.B=items.L) (hz:items.L<=sizeLine)
  (fq:∀(i:Nat) (v),items[i]?=@v->∃T u x k,v=.I T/\s.H.IsTuple T %[u,x|0]/\more[i]?=@(k,x)/\knd.is k u=true)
  (h:∀h' (tk),h'.DictOf knd ↥s (merged [] more)->(∀b o,b<↥s->s.H.get? b=@o->h'.get? b=@o)->Q (.I ↥s) {s with heap:=h',toks:=tk}):
  wpAny (model prog w) A (call (.l "dict") [.I l]) Q E s:=by
 show callType_codes (Q₁:=λobj s₁=>obj=Value.I ↥s/\s₁={s with heap:=s.H.í {cls:=Value.l "dict",data:=Data.dict (List.G [])}}) F.kt_called_dict (F.kt_typeCall_dict_1 _) F.entry_dict_init (kt_code_dict_new _ #[rfl,rfl]) ?_;rintro obj s₁ ⟨rfl,rfl⟩;let db:(s.H.í {cls:=.l "dict",data:=.dict (List.G [])}).DictOf knd ↥s []:=Heap.DictOf.new s.H;let iq:(s.H.í {cls:=.l "dict",data:=.dict (List.G [])}).get? l=@o:=X2 _ ho;let hT:Shared.TypeIs {s with heap:=s.H.í {cls:=.l "dict",data:=.dict (List.G [])}} (.I l) "list":=#[_,iq,hc];let sj:=Xh ho;show#[db.typeIs,F.args_dict_init_2 _ _,(X0 (X0 (wpAny_notOrdered_dict db.typeIs (X4 (X0 (J6 hT (X0 (_jj iq hc gb hd (by simp[hh]) λh' tk hk=>?_))))))))];let rq:=λb q e=>hk b q (X2 _ e)
 let lh:h'.IsList l items:=#[o,rq _ _ ho,hc,m,gb];let yk:h'.DictOf knd ↥s []:=by
  let#[q,es,ep,hq,ac]:=db;show#[q,es,ep,hk _ _ hq,ac]
 let js:↥s<h'.objs.L:=by
  let#[q,es,ep,hq,ac]:=yk;show Xh hq
 show X0 (Zp (X0 (Zf lh (X4 #[Za F._Pd _,?_]))));show _jl (h₀:=s.H) ((Walks.list (by simp[hh]) h'.objs.L l (Xl (J5 sj js)) items).toS) ↥s ?_ hn hz (λi v hv=>?_) (items.L - 0) 0 0 _ (by simp) (Y9 _)
  #[#[_,X9 _ rfl,rfl,rfl],lh.í _] (λb q hb e=>X2 _ (rq b q e)) (yk.í _) λs' hm il=>?_
 .simp;show#[Xl js,Zv sj]
 .let#[T,u,x,k,e1,e2,e3,e4]:=fq i v hv;show#[T,u,x,k,e1,?_,e2,e3,e4];let#[q,hq,_]:=e2;let:=Xh hq;simp;show#[Xl this,Xl (J5 this js)]
 .let#[h2,g',d',og,qf]:=s';let eg:g'=s.gens:=hm.gens;let ed:d'=s.drawn:=hm.drawn;let eo:qf=s.os:=hm.os;subst eg;subst ed;subst eo;show#[rfl,h h2 og il λb q hb e=>(hm.H b q ?_ (X2 _ (rq b q e)))];simp;show#[Xl hb,Xl (J5 hb js)]
end
end PySem
namespace Q
open PySem PySem.Spec PyProof.Rows L2 L3
def _jn(K:Frag):List V->Hp->VK->Prop:=λxs H Q=>∃(a:Addr) (ts:List V) (ps:List (Int×Int)),xs=[.I a]/\SqL K H a ts/\ts.B=ps.B /\
 (∀i (h:i<ps.B),∃T,ts[i]?=@(.I T)/\SqT K H T [.E ps[i].1,.E ps[i].2])/\ps.B<big/\∀l,H l=none->Q (.I l) (upd H l (.dK (dkI (ps.foldl (λkv p=>v4 kv p.1 p.2) []))))
def _jo:∀(ps kv:List (Int×Int)),(ps.foldl (λkv p=>v4 kv p.1 p.2) kv).B<=kv.B+ps.B
 |[],kv=>by simp
 |p::ps,kv=>by
  rw[Yu,Xn];let:=_jo ps (v4 kv p.1 p.2);let:=_jh kv p.1 p.2;lia
#where in
def _jp:∀ps (more) (kv) (vs),KV (dkI ps) more->KV (dkI kv) vs->KV (dkI (ps.foldl (λkv p=>v4 kv p.1 p.2) kv)) (more.foldl (λae kv=>stored ae kv.1 kv.2) vs)
 | [],_,kv,vs,h,h'=>by cases h;show h'
 | p::ps,_,kv,vs,h,h'=>by
  cases h with
  |cons h1 h2=>
   revert m more;let#[k,x]:=m;let#[e,rx]:=h1;subst e;show _jp ps more _ _ h2 ?_;rw[<-_i1];show KV.put h' _ rx
#where in
def _jq(I:Inv X a8 σ H s):∀ps (ts) (aa),ts.B=ps.B ->
  (∀i (h:i<ps.B),∃T,ts[i]?=@(.I T)/\SqT X.K H T [.E ps[i].1,.E ps[i].2])->Vals ts aa ->
  ∃ more,more.B=aa.B/\KV (dkI ps) more/\∀(i:Nat) (v),aa[i]?=@v->∃T u x k,v=.I T/\s.H.IsTuple T %[u,x|0]/\more[i]?=@(k,x)/\(zZ X.î X.w).is k u=true:=by
 intro ps
 induction ps with
 | nil=>
  intro ts aa hl _ hv;cases ts with| nil=>cases hv;show#[[],rfl,.nil,λi v h=>by simp at h]| cons=>cases hl
 | cons p ps ih=>
  intro ts aa hl hp hv;cases hv with
  | nil=>cases hl
  | cons h1 h2=>
   revert t u ts us;let#[T,e1,e2]:=hp 0 (by simp);let e1:t=.I T:= ~~~e1
   subst e1;cases h1;let#[ii,rv,tp,_]:=I.tuple e2;let#[u1,u2,rfl,r1,r2]:=rv.two;let#[more,m1,m2,m3]:=ih ts us (~~~hl) (λi h=>by
    let#[T,a,b]:=hp (i+1) (~~~h);show#[T,~~~a,~~~b]) h2
   show#[(Sum.O p.1,u2)::more,by rw[Xn,Xn,m1],.æ #[rfl,r2] m2,λi v h=>?_];cases i with
   |zero=>
    let h:Value.I T=v:= ~~~h
    subst h;show#[T,u1,u2,Sum.O p.1,rfl,tp,rfl,_ci r1]
   |succ i=>show m3 i v (~~~h)
def _jr(hc:X.calm=true<|>Ŕ):CallR X (.l "dict") (_jn X.K):=by
 rintro a8 s σ H xs us Q I r ⟨a,ts,ps,rfl,hq,hl,hp,hb,q⟩;let#[u,rfl,rx]:=wj r;cases rx;let#[aa,rv,#[o,n,ho,de,hd,gb],hz]:=I.list hq;let#[more,m1,m2,m3]:=_jq I ps ts aa hl hp rv;show _jm (I.ok.hd hc) ho de gb hd (by rw[m1];rfl) (by rw[Xe,<-rv.B];show hz) (λi v hv=>m3 i v (~~~hv)) λh' tk dd kp=>(#[.I ↥s,_,I.laid (t':=tk) (λb ob e=>kp b ob (Xh e) e) (Xb _) (_cq ?_ (Yj (Zv I.big)) (_jp ps more [] [] m2 .nil) dd),rfl,q _ (I.hok.fresh (Xb _))])
 rw[X5];let:=_jo ps []
 grind
def _js:∀{ds ps},V0 ds=@ps->ds=ps.C λp=>D.X [.E p.1,.E p.2]
 | [],ps,h=>by cases _aa h;rfl
 | .X [.E a,.E b]::r,ps,h=>by
  let h:(V0 r).C _=@ps:=h;cases hr:V0 r with
  |none=>symm
  |some q=>
   rw[hr]at h;cases _aa h;rw[List.Z,<-_js hr]
def _jt:∀ps,V0 (ps.C λp=>D.X [.E p.1,.E p.2])=@ps
 |[]=>rfl
 |_::r=>by
  change(V0 _).C _=_;rw[_jt r];rfl
def _ju{K}:Ad1 K (λv H Q=>_jn K [v] H Q) YX:=by
 intro H x s Q ok hf k;unfold YX at hf;cases hx:x.d with
 | lst ds=>
  rw [show(x.o,x.d).2=D.S ds from hx]at hf;dsimp only at hf;cases hp:V0 ds with
  | none=>rw[hp]at hf;cases hf
  | some ps=>
   rw[hp]at hf;dsimp only at hf
   by_cases hl:ps.B<big
   .rw[X7 hl]at hf;cases _aa hf;let e:=_js hp;subst e;let#[a,xs,bs,ev,q1,ra]:=items ok (.O hx);let hq:SqL K H a xs:=by
     let#[_,z]\/#[z,_]:=q1
     .show z.sq
     .symm
    show#[a,xs,ps,by rw[ev],hq,by rw[<-ra.1.len,X5],λi hi=>?_,hl,λl hl'=>k #[.rt,Q6 _,.I l,[l]] _ rfl rfl #[vK hl',#[l,_,[],rfl,_i7 _,.h #[(ps.foldl (λkv p=>v4 kv p.1 p.2) []).C λp=>(p.1,V.E p.2),"",by rw[vQ,Xp];rfl,by rw[List.Z,Xp,Xp];rfl,by rw[Xp];rfl],rfl],λb hb=>?_,by simp[Sl.ë],λb hb=>?_]]
    .let#[v,cs,g1,g2,_]:=RepA.get ra.1 (by rw[Xf,X1 hi];rfl);let#[T,ys,e1,e2,e3]:=g2;show#[T,by rw[g1,e1],?_];let#[y1,r1,_,_,rfl,_,f1,f2]:=e3;let#[y2,r2,_,_,rfl,_,f3,f4]:=f2;let#[rfl,_]:=f4;rw[f1.1,f3.1]at e2;show e2
    .let:b=l:=by simpa [Sl.ë]using hb
     show this▸hl'
    .simp[Sl.frz]at hb
   .rw[Xd hl]at hf;cases hf
 |_=>rw[show(x.o,x.d).2=_ from hx]at hf;cases hf
def _jv K (hK:X.K=K<|>Ŕ)(hc:X.calm=true<|>Ŕ):CallR X (.l "dict") (_jn K):=by subst hK;show _jr hc
def _jw{X Z q c o e z ay ah}(ho:PE X o (tC (.x z)))(hc:QV X Z q c e)(hK:X.K=Z.K<|>Ŕ)
  (b8:attributeBase o "join" X.Y (eval o X.Y)=eval o X.Y<|>Ŕ)
  (dj:autoParam (((backTo ah (starEach [e] X.Y)).all (λx=>!x.1)&&(backToKw ah (keywordEach [] X.Y)).all (λx=>x.1.isSome)
   && decide ([e].B+([]:List Keyword).B+(if([]:List Keyword).û then 0 else 1)<30))=true) Ŕ)
  (b9:Abe ay ah<|>Ŕ) (hs:Abs e [] X<|>Ŕ) (b7:Abb ah [] X<|>Ŕ):
  QE X Z q (_hp z c) (.ù (.Attribute o "join" ay) [e] [] ah):=
 qj (_bY PySem.F.plainAttrs_str PySem.F.slot_str_join PySem.F.type_str_join _cZ ho (qZ hc vJ hs) b8 dj b9 hs b7) fun σ H Q ai=>ex8 ai λE L r m w i6 xc k=>by
  show#[?_,?_]
  .rfl
  .show qV m w (i6) xc λE1 s h1 x L1 H1 e1 e2 m1 w1 ok fr sr st sm=>?_
   let#[y,hz,rfl]:=xw h1;unfold _ho at hz;cases hx:s.2 with
   | lst ds=>
    rw [hx]at hz;dsimp only at hz;cases hp:zX ds with
    | none=>rw[hp]at hz;cases hz
    | some ys=>
     rw[hp]at hz;dsimp only at hz
     by_cases hl:(ys.C (·.B)).sum+ys.B*z.B<=100000
     .rw[X7 hl]at hz;cases _aa hz;let#[a,xs,bs,ev,q1,ra]:=items ok (.O (e2▸hx));let hq:SqL Z.K H1 a xs:=by
       let#[_,t]\/#[t,_]:=q1
       .show t.sq
       .grind
      let ex:=(_hP hp ra.1).1;subst ex;let af:(Txt.join z ys).B<=sizeLine:=joinOk_length (joinOk_of .q);show#[z,a,ys,rfl,by rw[ev],by rw[hK];show hq,.q,(k _ _ rfl _ L1 H1 rfl rfl m1 (w1.consPu (x:=#[.dp,.x _,.x _,[]]) (show RepL Z.K H1 false _ _ []from ZK af) rfl) (JW st (nofun) rfl) λhq=>#[sm hq,λ_ t=>(nomatch t)])]
     .rw[Xd hl]at hz;cases hz
   |_=>rw[hx]at hz;cases hz
end Q
namespace PySem
section
def _jx(hh:A.õ=none)(it t)(bc:t≠it)(items):Draws prog w A it [it,t] items.L (λi v=>items[i]?=@v) (λi h=>h.IsTupleIter it t i/\h.IsTuple t items) where
 live:=λ_ _ st=>let ⟨o,ho,_⟩:=st.1;#[o,ho]
 frame:=λ_ _ _ st hk=>by
  let#[#[o,ho,r],o2,kh,r2]:=st;show#[#[o,hk it (by simp) o ho,r],o2,hk t (by simp) o2 kh,r2]
 item:=λi s Q E hi st hQ=>by
  let#[fv,ht]:=st;let#[o,ho,hc,hd]:=id fv;let#[o2,kh,qg,n2,jg]:=id ht;let hx:items[i]?=@items[i]:=by simp
  show X0 (Yl (name:=Str.ofString "__next__") fv.typeIs F.slot_tuple_iterator_next (Y8 F.slot_tuple_iterator_next fv.typeIs F.entry_tuple_iterator_next ?_ (F.args_tuple_iterator_next_1 _)));change wpAny _ _ (field (.I it) 0 >>= _) _ _ s;show X0 (Zw ho hd (x:=.I t) rfl (X0 (Zw ho hd (x:=.E i 0) rfl (X0 (Zc kh jg ?_)))));dsimp[Xu,hx];show X0 (Yq ho hd (by simp) (X4 #[items[i],rfl,X4 (hQ _ _ s.toks hx #[#[_,Ye _ ho (Z9 (Yy hd _)),(Obj.cls_mapFields ..).J hc,by rw[Yy hd];simp[rawInt]],o2,(Zm _ _ (Ne.à bc)).J kh,qg,n2,jg] (Y7 ..))]))
 done:=λs Q E st hE=>by
  let#[fv,ht]:=st;let#[o,ho,hc,hd]:=id fv;let#[o2,kh,qg,n2,jg]:=id ht;let hx:items[items.L]?=none:=by simp
  show X0 (Yl (name:=Str.ofString "__next__") fv.typeIs F.slot_tuple_iterator_next (Y8 F.slot_tuple_iterator_next fv.typeIs F.entry_tuple_iterator_next ?_ (F.args_tuple_iterator_next_1 _)));change wpAny _ _ (field (.I it) 0 >>= _) _ _ s;show X0 (Zw ho hd (x:=.I t) rfl ?_);rw[Xd (show ¬((Value.I t==Value.ã)=true)from Bool.false_ne_true)];change wpAny _ _ (field (.I it) 1 >>= _) _ _ s;show X0 (Zw ho hd (x:=.E items.L 0) rfl ?_);change wpAny _ _ (seqItems? (.I t) >>= _) _ _ s;show X0 (Zc kh jg ?_);dsimp[Xu,hx];show X0 (Zp (X0 (Yq ho hd (by simp) ?_)));change wpAny _ _ (newExc (.l "StopIteration") [] >>= _) _ _ _;show X0 ?_;dsimp[newExc,newTuple];show X0 (Ya (X0 (m:=firstArgMember _ _) (wpAny_of_eq (a:=Value.ã) (by first|rfl|(lia;rfl)) (Ya ?_ (by size_fits)))) (by size_fits));dsimp[raiseNew];show X0 (wpAny_handled ?_)
  first|rw[show A.in1.õ=none from hh]|rw[hh]
  show X0 (X4 (wpAny_throw (hE _ _ (((Y7 ..).extBut.í _).í _) #[_,X9 _ rfl,rfl])))
#where in
def _jy(t)(items)(n:Nat)(dct:Option Addr)(sl:Array (Option Value)):
  Meets (Builtin.«enumerate.__new__» #[[.l "enumerate",.I t],[]]) (λ_ R s=>s.H.get? t=some {cls:=.l "tuple",dict:=dct,data:=.seq items n,slots:=sl} /\
   R (.ok (.ret (.I (s.H.í {cls:=.l "tuple_iterator",data:=.fields %[.I t,.E 0 0|0]}).objs.L)))
    {s with heap:=(s.H.í {cls:=.l "tuple_iterator",data:=.fields %[.I t,.E 0 0|0]}).í {cls:=.l "enumerate",data:=.fields %[.ã,.bool false,.I ↥s,rawInt 0,.ã,.ã|0]}}):=
 .of_wp λprog w A R s h=>by
  let#[hp,g,d,tk,os]:=s;let#[hl,h]:=h;let bw:=sub_enumerate;let hL:Heap.IsTuple (Shared.H #[hp,g,d,tk,os]) t items:=#[_,hl,rfl,n,rfl]
  wp_walk using AutoSeq1.wpAny_loadPart' hl
  show wpAny_stack_any λst=>X4 ?_
  split
  .revert c _ _ _ _ _;cases(c==Value.l "enumerate") <;>
   .wp_walk using AutoSeq1.wpAny_loadPart' hl,wpAny_pyIter_tuple hL
    show#[_,rfl,h]
  .wp_walk using AutoSeq1.wpAny_loadPart' hl,wpAny_pyIter_tuple hL
   show#[_,rfl,h]
def _jz(hL:s.H.IsTuple t items)
  (h:∀h',IsEnum h' (↥s+1) ↥s 0 .ã->h'.IsTupleIter ↥s t 0->h'.objs.L=↥s+2 ->
   (∀b o,s.H.get? b=@o->h'.get? b=@o)->Q (.I (↥s+1)) {s with heap:=h' }):
  wpAny (model prog w) A (call (.l "enumerate") [.I t]) Q E s:=by
 let#[#[c,dct,dt,sl],hl,hc,n,hd]:=hL;subst hc hd;show callType_new F.called_enumerate (by rfl) (F.typeCall_enumerate_1 _) (F.newCall_enumerate_1 _) (λobj=>F.args_object_init_2 obj _) F.entry_enumerate_new (_jy t items n dct sl) #[hl,?_];let hz:(s.H.í {cls:=.l "tuple_iterator",data:=.fields %[.I t,.E 0 0|0]}).objs.L=↥s+1:=Zo ..;rw[hz];let he:IsEnum ((s.H.í {cls:=.l "tuple_iterator",data:=.fields %[.I t,.E 0 0|0]}).í {cls:=.l "enumerate",data:=.fields %[.ã,.bool false,.I ↥s,rawInt 0,.ã,.ã|0]}) (↥s+1) ↥s 0 .ã:=by
  let:=X9 (s.H.í {cls:=.l "tuple_iterator",data:=.fields %[.I t,.E 0 0|0]}) (o:={cls:=.l "enumerate",data:=.fields %[.ã,.bool false,.I ↥s,rawInt 0,.ã,.ã|0]}) rfl;rw[hz]at this;show this
 show#[#[_,he,rfl],h _ he #[_,X2 _ (X9 _ rfl),rfl,rfl] (by rw[Zo,hz]) λb o x=>X2 _ (X2 _ x)]
end
end PySem
namespace Q
open PySem PySem.Spec PyProof.Rows L2 L3
abbrev ItT(K:Frag)(l:Addr):It:=ItE (SqT K · l)
def _jA{P w K elts k1 pos}(n1:e≠it)(n2:l≠e)(n3:l≠it):Turn P w K (.Tuple elts k1 pos) (ItT K l) [e,it] e (λi h=>(∃cf,IsEnum h e it i cf)/\h.IsTupleIter it l i):=
 _h7 (K:=K) (IS:=λh aa=>h.IsTuple l aa) n1 n2 (λA hh aa=>_jx hh it l n3 aa) λX a8 s σ H hK I xs q=>by
  subst hK;let#[aa,rv,p,_]:=I.tuple q;show#[#[aa,rv,p],λzs hz=>I.tuple_inj hz q]
abbrev iEnT(K:Frag)(ta:TA):TI:=fun σ H R=>ta σ H λvs H1=>∃l,vs=[.I l]/\(∃xs,SqT K H1 l xs/\(xs.B<=sizeLine->R (ItT K l) H1))
section
def _jB K (hg:Gl X "enumerate")(hm:X.mg "enumerate"=none)(ha:PA X [e] ta)(hK:X.K=K<|>Ŕ)
  (hs:starEach [e] X.Y=[(false,eval e X.Y)]<|>Ŕ):PI X (.Tuple elts k1 pi) (.ù (.é "enumerate" p) [e] [] pos) (iEnT K ta):=by
 subst hK;intro a8 s σ H R I h;show Call_ (xQ I hg hm _h9 (Y0 (thn (ha pos a8 s σ H _ I h) λus s1 hz=>?_) (by rw[hs];rfl) rfl));let#[vs,H1,I1,r1,q1]:=hz;let#[l,rfl,xs,q1,q]:=q1;let#[u1,rfl,e1]:=wj r1;cases e1;let#[jn,wu,p1,ro]:=I1.tuple q1;let lt:l<↥s1:=by let#[_,ee,_]:=p1;show Xh ee
 show _jz p1 λh' g1 g2 gs gk=>?_
 show wpAny_pyIter_enum g1 #[_,[_,↥s1],_,_,H1,rfl,I1.kept (t':=s1.toks) gk,
  _jA (Nat.succ_ne_self _) (Xl (Z3 lt)) (Xl lt),#[#[_,g1],g2],λb hb=>?_,q ro]
 let ij:↥s1<=b:=by
  simp at hb;let rfl\/rfl:=hb<;>simp
 show I1.fpOk ij (I1.hok.fresh ij)
def _jC(h:QE X Z q c e)(hg:Gl X "enumerate")(hm:X.mg "enumerate"=none)(hK:X.K=Z.K<|>Ŕ)(hs:starEach [e] X.Y=[(false,eval e X.Y)]<|>Ŕ):QI X Z q (.Tuple elts k1 pi) (vzl c) (.ù (.é "enumerate" p) [e] [] pos):=λa8 s σ H R I ai=>ex8 ai λE L r m w hc xc k=>by
 show(_jB Z.K hg hm (qZ h vJ hs) hK hs) a8 s σ H R I (VQ m w (show bnd (c E) _=@r from hc) xc λE1 s h1 x L1 H1 e1 e2 m1 w1 st sm=>?_);let#[ds,hd,rfl]:=xw h1;let#[wT,sT]:=_gx w1 st;cases hx:x.d with
 |tup es=>
  rw[<-e2,hx]at hd;cases _aa hd;let#[a,_,_,ev,_]:=items w1.head (.h hx);let ag:=_gw (K:=Z.K) hx ev;let#[xs,bs,q3,r3,_]:=ag H1 (JJ w1.head);show#[a,by rw[ev],xs,q3,λaf=>k _ _ rfl (ItT Z.K a) [x.let] L1 H1 m1 wT sT (by rw[_ib,r3.len];show af) (λhq=>(sm hq).1) (_ie ag)]
 |_=>rw[<-e2,hx]at hd;cases hd
end
def _jD:∀{ds} {i:Nat} {d},D.pures ds=true->ds[i]?=@d->d.pure=true
 |[],_,_,_,h=>by simp at h
 |a::ds,0,d,h,e=>by
  let e:a=d:= ~~~e
  subst e;unfold D.pures at h;rw[Bool.â]at h;show h.1
 |a::ds,i+1,d,h,e=>by
  unfold D.pures at h;rw[Bool.â]at h;show _jD h.2 (~~~e)
def _jE(h:PE X e (xk i))(hK:X.K=Z.K<|>Ŕ):QIS X Z true tg (itV i) e:=λa8 s σ H R I ai=>ex8 ai λE L r m w hc xc k=>by
 show(hK▸_gu h) a8 s σ H R I ?_;unfold itV at hc;cases hE:E[i]? with
 | none=>rw[hE]at hc;cases hc
 | some s0=>
  cases s0 with
  | none=>rw[hE]at hc;cases hc
  | some s0=>
   let#[oo,dd]:=s0;rw [hE]at hc;cases dd with
   | lst ds=>
    dsimp only at hc
    by_cases hp:D.pures ds=true
    .rw[X7 hp]at hc;cases _aa hc;let#[x,a1,a2,a3,a4]:=m.get hE;let pc:=w.ok x (qX a1);let#[a,xs,bs,ev,q3,r3,h3,_]:=items pc (.O a3);let q3:LsR Z.K H a xs:=by let#[_,z]\/#[z,_]:=q3;show z;rw[a3]at z;cases z
     let again:∀H2,kJ H H2->∃g ys cs,SqL Z.K H2 a ys/\RepA Z.K H2 g ds ys cs:=λH2 hs=>by
      let#[a',ys,cs,ya,q4,r4,h4,_]:=items (RepO.kp pc (Kp.of_same hs):x.ok Z.K H2) (.O a3);let:a'=a:=by let:=ya.à.J ev;show V.I.inj this
      subst this;let#[_,z]\/#[z,_]:=q4
      .show#[_,ys,cs,z.sq,r4]
      .symm
     show#[x.v,a4,.O #[a,xs,ev,q3.sq,λaf=>k _ _ rfl _ [] L H m (by rw[List.map_nil,Xx];show w) (by rw[List.map_nil,Xx];show Step.ò) (r3.len▸af) (λ_=>xj) #[λt ht=>(nomatch ht),λj H2 _ hs hj=>?_,λH2 _ hs=>?_,λj H2 v H3 d _ hs hy jf=>?_]]]
     .let#[g,ys,cs,s1,s2]:=again H2 (hs rfl);let hl:=s2.len;show#[ys,ys[j]'_,s1,X1 (by symm)]
     .let#[g,ys,cs,s1,s2]:=again H2 (hs rfl);show#[ys,s1,by rw[s2.len];show Xb _]
     .let#[g,ys,cs,s1,s2]:=again H2 (hs rfl);let#[e3,hy]:=hy;subst e3;let#[v',bz,f1,f2,f3]:=s2.get jf;let:v'=v:=by let:=hy ys s1;rw[f1]at this;show _aa this
      subst this;show#[#[.r,d,v',[]],rfl,rfl,rfl,xj,(RepL.pu (g':=true) f2 (_jD hp jf)).2,λb hb=>(nomatch hb)]
    .rw[Xd hp]at hc;cases hc
   |_=>cases hc
def _jF{K}{x:Sl}(ok:x.ok K H)(ht:Qx x.sd=true)(nd:x.ë.V):∃cs,RepL K H false x.d x.v cs/\(∀a>cs,a>x.ë)/\cs.V:=by
 let#[o,d,v,as]:=x;unfold Qx at ht;rw [Bool.or_eq_true]at ht;let ht\/ht:=ht
 .unfold qW at ht;rw[Bool.or_eq_true]at ht;let ht\/ht:=ht
  .let ho:o=.dp:=by
    cases o with|dp=>rfl|no=>cases ht|rt=>cases ht
   subst ho;show#[as,ok,λa h=>h,nd]
  .let#[_,r]:=RepL.pu (g':=false) (RepO.wk ok) ht;show#[[],r,λ_ h=>(nomatch h),Xy]
 .rw[Bool.â]at ht;let ho:o=.rt:=by
   let ht:(o==Own.rt)=true:=ht.1;cases o with|rt=>rfl|no=>cases ht|dp=>cases ht
  subst ho;cases d with
  | lst ds=>
   let#[a,xs,bs,e,r,h,e2]:=(show RepR K H (.S ds) v as from ok);let#[_,r2]:=RepA.pu (g':=false) r ht.2;show#[[a],?_,λb hb=>?_,by simp]
   .show#[a,xs,[],e,r2,.O #[h,rfl]]
   .rw[aC hb,e2];show X3
  |_=>symm
def _jG{K}(w:World K H (T++L))(hy:L[i]?=some @y)(hH:H l=@(kK l es ep))(ho:y.o=.dp)(ha:y.as=l::bs)(hv:y.v=.I l)
  (r:RepP K H false kvs' xs' cs) (hc:∀a>cs,a>bs\/a>jk T) (qy:cs.V) (hs:(l==sysModules)=false) (h2:es'.B<=sizeLine) (h3:(es'.C (·.1)).V) (h4:kvs'.C (·.1)=es'.C (·.1.1)) (h5:∀n>es',PuR K H n.1.1 (.I n.2.1)) (h6:Vals xs' (es'.C (·.2.2))):
  World K (upd H l (kK l es' ep')) (L.ç i @#[.dp,.dct kvs',y.v,l::cs])/\Step H (T++L) (upd H l (kK l es' ep')) (L.ç i @#[.dp,.dct kvs',y.v,l::cs]):=by
 let ey:y.ë=l::bs:=by ext Sl.ë;rw[ho,ha]
 let hl:l>y.ë:=by rw[ey];show X3
 let oL:=mem_owned.s #[y,qX hy,hl];let nd:=w.nd;rw[k7,Xa]at nd;let nT:=λz=>nd.2.2 l z l oL rfl
 let yn:y.ë.V:=by
  let#[A,B,e,_]:=V2 hy;let:=nd.2.1;rw[e,k7,Xa]at this;show(List.nodup_append.mp this.2.1).1
 let nb:l∉bs:=by rw[ey]at yn;show(List.ø.mp yn).1
 let nc:l∉cs:=λz=>by
  let q\/q:=hc l z
  .show nb q
  .show nT q
 let kp:Kp H (upd H l (kK l es' ep')) cs:=by
  let k2:∀a o,H a=@o->a≠l->upd H l (kK l es' ep') a=@o:=λa o e ne=>by rw[qk ne];show e
  show#[λa zs e=>k2 a _ e λz=>?_,λa o u e=>k2 a _ e λz=>?_,λa ha o e=>k2 a o e λz=>nc (z▸ha)]
  .subst z;rw[hH]at e;cases e
  .subst z;rw[hH]at e;cases e
 show World.writeAt w hy hl (y':=_) ?_ (List.ø.s #[nc,qy]) (λa h=>?_) (λa h=>by simp[Sl.frz]at h) (λa h z=>by simp[Sl.frz]at z)
 .show#[l,xs',cs,hv,r.kp kp,.O #[es',ep',vQ,hs,h2,h3,h4,λn hn=>PuR.kp kp (h5 n hn),h6],rfl]
 .let rfl\/h:=aD h
  .show .O hl
  .let q\/q:=hc a h
   .symm
   .show .h q
section
def _jH (hu:X.A.y+64<cLine) (hK:X.K=Z.K) (ho:PE X o (xk i)) (hk:QV X Z true kc ke) (hv:QE X Z q vc ve) (hs:swapsWith ve @(.Subscript o ke da) pos.line X.Y=pure false<|>Ŕ):
  QS X Z pn (_hs i kc vc) (.Assign [.Subscript o ke da] ve pos):=zV (_iG hu ho hk hv hs) λD σ H ai=>ex7 ai λE L r m w hr k=>
 KJ m w hr k λE1 s1 h1 x L1 H1 e1 e2 m1 w1 jt _=>by
  by_cases hd:_hr E1[i]?=true
  .rw [X7 hd]at h1;obtain ⟨s0,hd0⟩:∃s0,E1[i]?=@(@s0):=by
    cases h0:E1[i]? with
    | none=>rw[h0]at hd;cases hd
    | some s0=>
     cases s0 with| none=>rw[h0]at hd;cases hd| some s0=>show#[s0,rfl]
   let#[y0,a1,a2,a3,a4]:=m1.get hd0;show #[y0.v,a4,?_];let stL:=jt.J Step.ý;let#[E2,ky,hk1,ic]\/#[E2,c,hk1,rfl]:=_eI h1
   .show #[E1,L1,_,m1,w1.tail,hk1,(λ_ _ z=>by cases z),λE' s' z zk L2 H2 f1 f2 m2 w2 t4 frz _ bu sm=>?_];injection z with z1 z2;subst z1 z2;cases hE:E2[i]? with
    | none=>rw[hE]at ic;cases ic
    | some s2=>
     cases s2 with
     | none=>rw[hE]at ic;cases ic
     | some s2=>
      let#[oo,dd]:=s2;rw [hE]at ic;cases oo with
      | no=>cases dd<;>cases ic| rt=>cases dd<;>cases ic
      | dp =>
       cases dd with
       | dct kvs=>
        dsimp only at ic
        by_cases hc:kj ky.2=true/\kvs.B<big/\unm kvs=true/\Qx s1=true/\ky.2∉kvs.C (·.1)
        .rw[X7 hc]at ic;cases _aa ic;let#[y,b1,b2,b3,b4]:=m2.get hE;let hyv:y.v=y0.v:=by rw[a4]at b4;show(_aa (_aa b4)).à
         let#[w3,fh]:=_ee (T:=[@x]) w1 bu w2;let oky:=w2.ok y (qX b1);let#[yo,yd,yv,xu]:=y;dsimp only at b2 b3 hyv;subst b2 b3;let oky:RepL Z.K H2 false (.dct kvs) yv xu:=oky;let#[a,xs,bs,e4,rp,q4,e5]:=oky;let#[es,ep,g1,g2,g3,g4,g5,g6,g7]:=DcA.un q4 hc.2.2.1;let qc:kj zk.d=true:=by rw[f2];show hc.1
         let#[b,eb,pb]:=V1 t4 qc;let gj:k5 6 zk.d=true:=by unfold kj at qc;rw[Bool.â]at qc;show qc.1
         let af:es.B<sizeLine:=by
          let:=congrArg List.B g5;rw[X5,X5]at this;rw[<-this];show hc.2.1
         let xn:x.ë.V:=by
          let:=w3.nd;show(List.nodup_append.mp this).1
         let#[cs,rx,jl,qy]:=_jF (w3.ok x X3) (by ext Sl.sd;rw[e1,e2];show hc.2.2.2.1) xn;rw[e2]at rx;show#[a,b,#[zk.d,gj],es,ep,hyv▸e4,eb,g1,g3,g4,by rw[hK];show g6,by rw[hK];show pb,λrr ep' yw=>?_];let wo:atKey es (#[zk.d,gj]:Kd)=none:=by
          let hm:=_in es (#[zk.d,gj]:Kd);rw[<-g5,Xj (show zk.d∉kvs.C (·.1)by rw[f2];show hc.2.2.2.2)]at hm;cases h:atKey es (#[zk.d,gj]:Kd)with|none=>rfl|some p=>rw[h]at hm;cases hm
         let bf:∀a>cs,a>jk [@x]:=λa h=>by rw[jK];show _ac _ (jl a h)
         let hbn:(bs++cs).V:=by
          let nd:=w3.nd;rw[k7,Xa]at nd;let yb:∀a>bs,a>jk L2:=λa h=>mem_owned.s #[_,qX b1,by change a>xu;rw[e5];show _ad _ h]
          let yn:xu.V:=by
           let#[A,B,e,_]:=V2 b1;let:=nd.2.1;rw[e,k7,jK,Xa]at this;show(List.nodup_append.mp this.2.1).1
          rw[e5]at yn;rw[Xa];show#[(List.ø.mp yn).2,qy,λp hp q hq e=>nd.2.2 q (bf q hq) p (yb p hp) e.à]
         rw[storedH_new wo];let#[w4,kg]:=_jG (ep':=ep') (T:=[@x]) (i:=i) (y:=#[.dp,.dct kvs,yv,xu]) (es':=es++[(#[zk.d,gj],b,rr)]) (xs':=xs++[x.v]) (cs:=bs++cs) (kvs':=kvs++[(zk.d,s1.2)]) w3 b1 g1 rfl e5 e4
          (_iB rx rp) (λa h=>(aA h).imp id (bf a)) hbn g2 (by rw[Xi,Xv];omega) (by
           rw[Xg,Xa];show#[g4,List.ø.s #[Yv,Xy],λp my q hq e=>?_];let:q=#[zk.d,gj]:=aC hq;subst this e;let#[n,sk,nr]:=aE my;show hc.2.2.2.2 (by rw[g5,<-f2];show List.mem_map.s #[n,sk,by rw[nr]])) (by rw[Xg,Xg,g5];rfl) (λn sy=>by
           let z\/z:=aA sy
           .show g6 n z
           .rw[aC z];show pb) (by rw[Xg];show _iC g7 yw)
         let n8:Step H L _ _:=(jt.J fh).J kg;show k σ _ _ Pn.ò ?_ w4 n8;let:=m2.ç (x:=#[.dp,.dct (kvs++[(zk.d,s1.2)]),yv,a::(bs++cs)]) i;rw[Q8 b4]at this;rw[<-f2];show this
        .rw[Xd hc]at ic;cases ic
       |_=>cases ic
   .show#[E1,L1,_,m1,w1.tail,hk1,(λE' c' e C L' H' hm m' w' st=>by injection e with z1 z2;subst z1 z2;show k C σ L' H' hm Pn.ò m' w' (stL.J st)),λE' s' z=>by cases z]
  .rw[Xd hd]at h1;cases h1
end
section
variable {K:Frag}{H:Hp}
structure Kx (H H':Hp)(as bs:List Addr):Prop where
 tup:∀a xs,H a=@(.X xs)->H' a=@(.X xs)
 frz:∀a o u,H a=@(.frz o u)->H' a=@(.frz o u)
 out:∀b>as,b∉bs->∀ob,H b=@ob->H' b=@ob
def Kx.kp(k:Kx H H' as bs)(h:∀b>cs,b>as/\b∉bs):Kp H H' cs:=#[k.X,k.frz,λa ha=>k.out a (h a ha).1 (h a ha).2]
def z6{y:Sl}(h:y.o=.dp):y.ë=y.as:=by ext Sl.ë;rw[h]
def World.holeG{L:Ls}{Pv:V->Prop}{pt:D->D}(w:World K H (@y::L))(ho:y.o=.dp)(h:RepL K H false y.d y.v y.as->y.as.V->∃v1 mj,Pv v1/\RepL K H false d1 v1 mj/\mj.V/\(∀b>mj,b>y.as) /\
  ∀ (H':Hp) (d':D) (bz:List Addr),Kx H H' y.as mj->RepL K H' false d' v1 bz->bz.V->(∀b>y.as,b∉mj->b∉bz)->∃i9,RepL K H' false (pt d') y.v i9/\i9.V/\∀b>i9,(b>y.as/\b∉mj)\/b>bz):∃y1:Sl,y1.o=.dp/\y1.d=d1/\Pv y1.v/\World K H (@y1::L) /\
  ∀ (He:Hp) (Le:Ls) (z:Sl),World K He (@z::Le)->Step H (@y1::L) He (@z::Le)->z.o=.dp->z.v=y1.v->∃y':Sl,y'.o=.dp/\y'.d=pt z.d/\y'.v=y.v/\World K He (@y'::Le)/\Step H (@y::L) He (@y'::Le):=by
 let ok:RepL K H false y.d y.v y.as:=by
  let:=w.ok y X3;unfold Sl.ok at this;rw[ho]at this;show this
 let nd:=w.nd;rw [jK,z6 ho,Xa]at nd;let ds:=w.ds;let#[v1,mj,p1,p2,p3,p4,p5]:=h ok nd.1;let al:∀b>y.as,H b≠none:=λb hb z=>by
  let#[_,q]\/#[_,q]\/#[_,q]:=w.own_al (a:=b) (by rw[jK,z6 ho];show _ac _ hb)<;>· rw[z]at q;cases q
 show#[#[.dp,d1,v1,mj],rfl,rfl,p1,#[λx hx=>?_,?_,λa ha=>?_],λHe Le z wz st zo zv=>?_]
 .let e\/hx:=aD hx
  .cases e;show p2
  .show w.ok x (_ad _ hx)
 .rw[jK,Xa];show#[p3,nd.2.1,λa ha b hb=>nd.2.2 a (p4 a ha) b hb]
 .let ha2:a>jk (@y::L):=by
   rw[jK]at ha ⊢;let ha\/ha:=aA ha
   .show _ac _ (by rw[z6 ho];show p4 a ha)
   .show _ab _ ha
  let:=ds a ha2;rw[vW]at this ⊢;intro q;let q\/q:=aA q
  .cases q
  .show this (_ab _ q)
 .let t4:RepL K He false z.d v1 z.as:=by
   let:=wz.ok z X3;unfold Sl.ok at this;rw[zo,zv]at this;show this
  let ndz:=wz.nd;rw[jK,z6 zo,Xa]at ndz;let no1:∀b>y.as,b∉mj->b∉jk (@(#[.dp,d1,v1,mj]:Sl)::L):=λb hb hn q=>by
   rw[jK]at q;let q\/q:=aA q
   .show hn q
   .show nd.2.2 b hb b q rfl
  let noz:∀b>y.as,b∉mj->b∉jk (@z::Le):=λb hb hn q=>by
   let q\/q:=st.ë b q
   .show no1 b hb hn q
   .show al b hb q
  let nof:∀b>y.as,b∉mj->b∉k6 Le:=λb hb hn q=>by
   let q\/q\/q:=st.frz b (by rw[vW];show _ab _ q)
   .rw[vW]at q;let q\/q:=aA q
    .cases q
    .show ds b (by rw[jK,z6 ho];show _ac _ hb) (by rw[vW];show _ab _ q)
   .show no1 b hb hn q
   .show al b hb q
  let tupk:∀a xs,H a=@(.X xs)->He a=@(.X xs):=λa xs e=>st.keep a _ e λq=>by
   let q2:a>jk (@y::L):=by
    rw[jK]at q ⊢;show List.mem_append.s ((aA q).imp (λq=>by rw[z6 ho];show p4 a q) id)
   let#[_,q]\/#[_,q]\/#[_,q]:=w.own_al q2<;>· rw[e]at q;cases q
  let frzk:∀a o u,H a=@(.frz o u)->He a=@(.frz o u):=λa o u e=>st.keep a _ e λq=>by
   let q2:a>jk (@y::L):=by
    rw[jK]at q ⊢;show List.mem_append.s ((aA q).imp (λq=>by rw[z6 ho];show p4 a q) id)
   let#[_,q]\/#[_,q]\/#[_,q]:=w.own_al q2<;>· rw[e]at q;cases q
  let#[i9,a1,a2,a3]:=p5 He z.d z.as #[tupk,frzk,λb hb hn ob e=>st.keep b ob e (no1 b hb hn)] t4 ndz.1 (λb hb hn q=>noz b hb hn (by rw[jK,z6 zo];show _ac _ q));let sub:∀b>jk (@z::Le),b>jk (@y::L)\/H b=none:=λb hb=>(st.ë b hb).imp (λq=>by
   rw[jK]at q ⊢;show List.mem_append.s ((aA q).imp (λq=>by rw[z6 ho];show p4 b q) id)) id
  show#[#[.dp,pt z.d,y.v,i9],rfl,rfl,rfl,#[λx hx=>?_,?_,λa ha q=>?_],#[λa ob e hn=>st.keep a ob e λq=>hn ?_,λa ha=>?_,λa ha=>?_]]
  .let e\/hx:=aD hx
   .cases e;show a1
   .show wz.ok x (_ad _ hx)
  .rw[jK,Xa];show#[a2,ndz.2.1,λa ha b hb ku=>?_];subst ku;let q\/q:=a3 a ha
   .show noz a q.1 q.2 (by rw[jK];show _ab _ hb)
   .show ndz.2.2 a q a hb rfl
  .let q:a>k6 Le:=by
    rw[vW]at q;let q\/q:=aA q
    .cases q
    .show q
   rw[jK]at ha;let fz:a>k6 (@z::Le):=by rw[vW];show _ab _ q
   let ha\/ha:=aA ha
   .let r\/r:=a3 a ha
    .show nof a r.1 r.2 q
    .show wz.ds a (by rw[jK,z6 zo];show _ac _ r) fz
   .show wz.ds a (by rw[jK];show _ab _ ha) fz
  .rw[jK]at q ⊢;show List.mem_append.s ((aA q).imp (λq=>by rw[z6 ho];show p4 a q) id)
  .rw[jK]at ha;let ha\/ha:=aA ha
   .let q\/q:=a3 a ha
    .show .O (by rw[jK,z6 ho];show _ac _ q.1)
    .show sub a (by rw[jK,z6 zo];show _ac _ q)
   .show sub a (by rw[jK];show _ab _ ha)
  .let q:a>k6 Le:=by
    rw[vW]at ha;let q\/q:=aA ha
    .cases q
    .show q
   let r\/r\/r:=st.frz a (by rw[vW];show _ab _ q)
   .show .O ?_;rw[vW]at r ⊢;let r\/r:=aA r
    .cases r
    .show _ab _ r
   .show .h (.O ?_);rw[jK]at r ⊢;show List.mem_append.s ((aA r).imp (λq=>by rw[z6 ho];show p4 a q) id)
   .show .h (.h r)
end
section
def _jI{K}(w:World K H L)(h:L[i]?=some @y):World K H (@y::L.ç i none)/\Step H L H (@y::L.ç i none):=by
 let wn:World K H (none::L):=#[λy hy=>w.ok y (~~~hy),~~~w.nd,~~~w.ds];let sn:Step H L H (none::L):=#[λ_ _ z _=>z,λa z=>.O (~~~z),λa z=>.O (~~~z)];show#[wn.perm (_em h),sn.J (Step.ò.perm (List.á.ò _) (_em h))]
def _jJ{K}{x:Sl}(ok:x.ok K H)(h:x.d.pure=true):RepL K H false x.d x.v []:=(RepL.pu (g':=false) (RepO.wk ok) h).2
def _jK(h:H l=@(.S xs))(hn:l∉as):Kp H (upd H l ob) as:=by
 let ke:∀a o,H a=@o->a≠l->upd H l ob a=@o:=λa o e ne=>by rw[qk ne];show e
 show#[λa xs e=>ke a _ e λz=>?_,λa o u e=>ke a _ e λz=>?_,λa ha o e=>ke a o e λz=>hn (z▸ha)]
 .symm
 .symm
def World.app{K ds}(w:World K H (@y::@x::M))(ho:y.o=.dp)(hd:y.d=.S ds)(hp:x.d.pure=true):∃l xs,y.v=.I l/\H l=@(.S xs)/\xs.B=ds.B /\
  ∃z,z.o=.dp/\z.d=.S (ds++[x.d])/\z.v=y.v/\World K (upd H l (.S (xs++[x.v]))) (@z::M)/\Step H (@y::@x::M) (upd H l (.S (xs++[x.v]))) (@z::M):=by
 let#[l,xs,bs,c1,c2,c3,c4,c5]:=_ii (w.ok y X3) hd ho;let nd:=w.nd;rw[jK,Xa,c4,Yh]at nd;show#[l,xs,c1,c2,c5.len.à,#[.dp,.S _,y.v,l::bs],rfl,rfl,rfl,World.write (T:=[@x]) w (c4▸X3) ?_ (List.ø.s nd.1) (λa ha=>.O (c4▸ha)) (nofun) (nofun)];let hr:=RepA.snoc ((_jJ (w.ok x (_ad _ X3)) hp).kp (_jK c2 (nofun))) (c5.kp (_jK (ob:=.S (xs++[x.v])) c2 nd.1.1));rw[Xx]at hr;show#[l,_,bs,c1,hr,.O #[vQ,rfl]]
def _jL{K}(h:H l=@(.S xs)):tyV K "list" (.I l) H:=.O #[rfl,xs,.O (.O h)]
#where in
def _jM(hc:QE X Z q c e):QE X Z q (_ht c) e:=qj hc fun σ H Q ai=>ex8 ai λE L r m w hr xc k=>by
 let#[E1,s,h1,h2]\/#[E1,cc,h1,h2]:=wq hr
 .show#[E,L,_,m,w,h1,(λ_ _ z=>by cases z),λE' s' z x L' H' e1 e2 m' w' st sm=>?_];injection z with z1 z2;subst z1 z2
  split at h2
  rotate_left
  .symm
  revert ld;cases _aa h2;let xn:x.ë.V:=by
   let:=w'.nd;show(List.nodup_append.mp this).1
  let#[cs,rx,jl,qy]:=_jF w'.head (by ext Sl.sd;rw[e1,e2];show ld) xn;let nd:=w'.nd;rw[jK,Xa]at nd;show k _ _ rfl #[.dp,x.d,x.v,cs] L' H' rfl e2 m' #[λy hy=>?_,?_,λa ha=>?_] #[st.keep,λa ha=>?_,λa ha=>?_] λhq=>#[(sm hq).1,λb hb=>(sm hq).2 b (jl b hb)]
  .let z\/z:=aD hy
   .cases z;show rx
   .show w'.ok y (_ad _ z)
  .rw[jK,Xa];show#[qy,nd.2.1,λa ha b hb=>nd.2.2 a (jl a ha) b hb]
  .let ha2:a>jk (@x::L'):=by
    rw[jK]at ha ⊢;show List.mem_append.s ((aA ha).imp (jl a) id)
   intro q2;rw[vW]at q2;show w'.ds a ha2 (_ab _ ((aA q2).è (nofun) id))
  .show st.ë a ?_;rw[jK]at ha ⊢;show List.mem_append.s ((aA ha).imp (jl a) id)
  .show st.frz a ?_;rw[vW]at ha ⊢;show _ab _ ((aA ha).è (nofun) id)
 .show#[E,L,_,m,w,h1,xc.C h2,λE' s' z=>by cases z]
end
def _jN {K H k}: ∀{kvs xs bs} {es : List Ent},RepP K H true kvs xs bs -> kvs.C (·.1) = es.C (·.1.1) -> Vals xs (es.C (·.2.2)) -> D.pures (kvs.C (·.2)) = true ->
    (∀ p,atKey es k = @p -> ∃d v,qw kvs k.1 = @d /\ RelV v p.2 /\ RepL K H false d v [] /\ d.pure = true) /\ (atKey es k = none -> qw kvs k.1 = none)
  | [],_,_,[],_,_,_,_=>#[λp h=>(by cases h),λ_=>rfl]| [],_,_,_::_,_,h,_,_=>by cases h| _ :: _,_,_,[],_,h,_,_=>by cases h
  | (q,d)::kvs,xs,bs,e::es,hr,hk,hv,hp=>by
    let#[x,r,b1,c1,rfl,_,h1,h2]:= hr;injection hk with k1 k2;rw [List.Z]at hv hp;cases hv with
    | cons v1 v2=>
      unfold D.pures at hp;rw [Bool.â]at hp;let k1 : q = e.1.1:= k1
      by_cases he : e.1 = k
      . let hq : q = k.1:= by rw[k1,he]
        let hg : qw ((q,d)::kvs) k.1 = @d:= by ext qw; rw[List.find?_cons_of_pos (by simp[hq])]; rfl
        let ha : atKey (e::es) k = @e.2:= by
          let#[ek,ev]:= e;let he : ek = k:= he;simp[atKey,he]
        show#[λp my=> ?_,λhn=> ?_]
        . rw[ha]at my
          cases _aa my;show#[d,x,hg,v1,(RepL.pu (g':= false) h1 hp.1).2,hp.1]
        . grind
      . let hq : q≠k.1:= λz=>he (J1 (k1▸z))
        let hg : qw ((q,d)::kvs) k.1 = qw kvs k.1:= by ext qw; rw[Z4 (by simp[hq])]
        let ha : atKey (e::es) k = atKey es k:= by
          simp[atKey,he]
        rw[hg,ha];show(_jN h2 k2 v2 hp.2)
end Q
namespace PySem
open Sem (wp)
section
def _jO{n:Nat}(hh:A.õ=none)(hr:IsRange s.H r a b c t u v)(fc:Builtin.Range.small a b c=true)
  (hn:Builtin.Range.rangeSize a b c=n) (af:n<=2 ^ 24)
  (hR:∀h' tk ae c',(∀b o,s.H.get? b=@o->h'.get? b=@o)->h'.get? ↥s=some {cls:=.l "list",dict:=none,data:=.seq ae c',slots:=(List.G [])}->ItemsOf (λi v=>∃t,v=.E (a+i*c) t) ae n->R (.ok (.ret (.I ↥s))) {s with heap:=h',toks:=tk}):
  codeAny (model prog w) A (.u "proto.collect" #[[.I r],[]]) R s:=by
 show Yr F.entry_proto_collect ?_;rw[Ze F.plain_proto_collect _];show X0 (Ya ?_);show X4 #[Za F.plain_list_iadd _,Yr F.entry_list_iadd ?_];rw[Ze F.plain_list_iadd _];show wpAny_extend_range (s:={s with heap:=s.H.í {cls:=.l "list",data:=.seq ([]:List Value).G}}) hh (X2 _ hr) fc hn af ↥s _ 0 (X9 _ rfl) λh' tk fu c' hk il au=>hR h' tk fu c' (λb o e=>hk b o (Xl (Xh e)) (X2 _ e)) il au
def _jP{n:Nat}(hh:A.õ=none)(hr:IsRange s.H r a b c t u v)(fc:Builtin.Range.small a b c=true)
  (hn:Builtin.Range.rangeSize a b c=n) (af:n<=2 ^ 24)
  (hQ:∀h' tk ae,(∀b o,s.H.get? b=@o->h'.get? b=@o)->ItemsOf (λi v=>∃t,v=.E (a+i*c) t) ae n->Q ae.R {s with heap:=h',toks:=tk}):
  wpAny (model prog w) A (collect (.I r)) Q E s:=by
 show X0 (wpAny_runValue (_jO hh hr fc hn af λh' tk fu c' hk il au=>?_));show X0 (wpAny_load il ?_);show X4 (hQ h' tk fu hk au)
def _jQ(r:Addr)(a b c:Int)(n:Nat)(fc:Builtin.Range.small a b c=true)(hn:Builtin.Range.rangeSize a b c=n)(af:n<=2 ^ 24):
  Meets (Builtin.«tuple.__new__» #[[.l "tuple",.I r],[]])
   (λA R s=>A.õ=none/\(∃t u v,IsRange s.H r a b c t u v)/\∀(h':Heap) (tk:Nat) (ae:Array Value),(∀b o,s.H.get? b=@o->h'.get? b=@o)->ItemsOf (λi v=>∃t,v=.E (a+i*c) t) ae n ->
    R (.ok (.ret (.I h'.objs.L))) {s with heap:=h'.í {cls:=.l "tuple",data:=.seq ae},toks:=tk}):=
 .of_wp λprog w A R s h=>by
  let#[hh,#[t,u,v,hr],h]:=h;let bw:=sub_tuple_self;let hinit:=init_tuple_lookup;let hmh:=madeHere_tuple;let hT:s.TypeIs (.I r) "range":=#[_,hr,rfl];let hh1:A.in1.õ=none:=hh
  wp_walk using J6 hT,_jP hh1 hr fc hn af
  intro h' tk ae hk au;change wpAny _ _ (Builtin.Tuple.tupleExact ae.R.G >>= λv=>ret v) _ _ _;ext Builtin.Tuple.tupleExact;show X0 (Ya ?_ (show ae.R.G.L<=sizeLine by simp;rw[au.1,Z0];omega));show X4 #[_,rfl,?_];let e:ae.R.G=ae:=by rfl
  rw[e];show h h' tk ae hk au
def _jR{n:Nat}(hh:A.õ=none)(hr:IsRange s.H r a b c t u v)(fc:Builtin.Range.small a b c=true)(hn:Builtin.Range.rangeSize a b c=n)(af:n<=2 ^ 24)
  (h:∀(h':Heap) tk ae,(∀b o,s.H.get? b=@o->h'.get? b=@o)->ItemsOf (λi v=>∃t,v=.E (a+i*c) t) ae n->Q (.I h'.objs.L) {s with heap:=h'.í {cls:=.l "tuple",data:=.seq ae},toks:=tk}):
  wpAny (model prog w) A (call (.l "tuple") [.I r]) Q E s:=by
 show callType_new F.called_tuple (by rfl) (F.typeCall_tuple_1 _) (F.newCall_tuple_1 _) (λobj=>F.args_object_init_2 obj _) F.entry_tuple_new
  (_jQ r a b c n fc hn af) #[hh,#[t,u,v,hr],λh' tk ae hk au=>#[#[_,X9 _ rfl,rfl],?_]]
 show h h' tk ae hk au
end
end PySem
namespace Q
open PySem PySem.Spec PyProof.Rows L2 L3
section
#where in
def _jS(ha:QV X Z q a ea)(qe:X.mg "range"=none)(ql:X.mg "tuple"=none)(hc:X.calm=true<|>Ŕ)(qr:Gl X "range"<|>Ŕ)(pe:Gl X "tuple"<|>Ŕ)
  (av:Abs ea [] X<|>Ŕ) (bj:Abb be [] X<|>Ŕ)
  (ik:starEach [.ù (.é "range" p2) [ea] [] be] X.Y=(false,eval (.ù (.é "range" p2) [ea] [] be) X.Y)::starEach [] X.Y<|>Ŕ) (lf:Abb pos [] X<|>Ŕ):
  QE X Z q (_hu a) (.ù (.é "tuple" p) [.ù (.é "range" p2) [ea] [] be] [] pos):=by
 intro a8 s σ H Q I h;let#[E,L,r,m,w,i6,xc,k]:=h;show Yp (xQ I pe ql _de ?_);show Y0 (thn (qZ (_g6 ha qe qr av bj) vJ ik pos a8 s σ H (λvs H1=>∃pp j,vs=[.I pp]/\H1 pp=@(.rng 0 j)/\wv j=true/\j.M<=big/\∀l,H1 l=none->Q (.I l) (upd H1 l (.X ((List.ä j.M).C λ(i:Nat)=>V.E (0+(i:Int)))))) I ?_) λus s1 h=>?_) ik lf
 .show qV m w (show bnd (a E) _=@r from i6) xc λE1 s h1 x L1 H1 e1 e2 m1 w1 ok fr sr st sm=>?_
  cases hx:s.2 with
  | int j=>
   rw[hx]at h1;dsimp only at h1
   split at h1
   .revert hj;cases _aa h1;show#[j,qJ ok (e2.J hx),λpp hpp=>#[pp,j,rfl,vQ,hj.1,hj.2,λl hl=>?_]];let s1:kJ H1 (upd H1 pp (.rng 0 j)):=vK hpp;let w2:World Z.K (upd H1 pp (.rng 0 j)) L1:=#[λx hx=>RepO.kp (w1.ok x hx) (Kp.of_same s1),w1.nd,w1.ds];let bu:=st.J #[λb ob z _=>s1 b ob z,λb z=>.O z,λb z=>.O z];let o:=_eE (K:=Z.K) (H:=upd H1 pp (.rng 0 j)) (fr:=[]) hl (_g7 (List.ä j.M)) (λ_ z=>(nomatch z));let#[w3,fh]:=W3 w2 bu o (λ_ z=>(nomatch z)) (λ_ z=>(nomatch z)) (λ_ z=>(nomatch z));show k _ _ rfl #[.r,.X (jZ 0 j),.I l,[]] L1 _ rfl rfl m1 (by simpa [jZ]using w3) (by simpa [jZ]using fh) λhq=>#[kQ (sm hq) (kQ s1 o.same),nofun]
   .cases h1
  |_=>rw[hx]at h1;cases h1
 .let#[vs,H1,I1,r1,pp,j,rfl,hp,h62,mi,q1]:=h;let#[u,rfl,rx]:=r1.one;cases rx;let#[t1,t2,t3,hg]:=(show ObjOk X.î X.w H1 s1.H pp (.rng 0 j)from I1.hok pp _ hp);let#[j1,j2]:=_gA h62;let e2:Builtin.Range.rangeSize 0 j 1=((j.M:Nat):Int):=by rw[rangeSize_one];split<;>grind
  show _jR (n:=j.M) (I1.ok.hd hc) (show IsRange s1.H pp 0 j 1 t1 t2 t3 from hg) (small_one .q .q j1 j2) e2 (by unfold big at mi;omega) λh' tk fu kp fv=>?_
  let#[hs,ll]:=fv;let I2:=I1.kept (t':=tk) kp;let I3:=I2.laid (t':=tk) (λb o e=>X2 _ e) (Xb _) (show ObjOk X.î X.w _ _ _ (.X ((List.ä j.M).C λ(i:Nat)=>V.E (0+(i:Int))))from#[by rw[X5,Xz];show mi,fu.R,_g8 hs ll,~~~(IsTupD.new h' fu)]);show#[.I h'.objs.L,_,I3,rfl,q1 _ (I2.hok.fresh (Xb _))]
end
#where in
def _jT{K}
  (KX:K.In s₁.H) (hns:s₁.H.Ns mainGlobals mg) (hb:s₁.H.Ns builtinsNs mb) (hbb:∀x:Str,x≠"__name__"->mb x=bootBuiltins x) (hlim:s₁.H.NoLimit) (hg:s₁.gens=(List.G []))
  (ha:s₁.H.get? a=some {cls:=.l "list",data:=.seq vs.G}) (hi:IntsAre vs ns) (hl:ns.B<=sizeLine) (hr:Room k callerA)
  (F:∀base,K.In base->base.Ns mainGlobals mg->FnOk P w K mg base CX k fa fd [x] sp) (zc:∀s u,BindsTo s fd #[[u],[]] [(x,u)])
  (oh:∀H,_cd H->LsR K H a (ns.C V.E)->sp [.I a] H (λv _=>v=.bl true) λ_ _ _=>False)
  (hCX:∀H e s',CX [] H s₁ (λ_ _ _=>False) e s'->False):
  codeAny (model P w) callerA (.call (.I fa) #[[.I a],[]]) (λr s'=>r=.ok (.ret (.bool true))/\OldK s₁.H s'.H/\s'.os=s₁.os/\AllBare s'.gens) s₁:=by
 let rv:=_hM hi;let xy:∀H,_cd H->LsR K H a (ns.C V.E)->HOk P w H s₁.H->(∀b,H b≠none->b=a)->(H a≠none->K.U a=none) ->
   codeAny (model P w) callerA (.call (.I fa) #[[.I a],[]]) (λr s'=>r=.ok (.ret (.bool true))/\OldK s₁.H s'.H/\s'.os=s₁.os/\AllBare s'.gens) s₁:=by
  intro H hO hS hok hA hK;let lx:∀{b o},s₁.H.get? b=@o->H b=none->(Ww s₁.H H).get? b=@o:=λe n=>_an e n
  let we:∀{b o es ep},s₁.H.get? b=@o->o.data=.dict es ep->H b=none:=fun {b o es ep} e d=>by
   cases q:H b with| none=>rfl| some u=>grind
  let nsK:∀{b m},s₁.H.Ns b m->(Ww s₁.H H).Ns b m:=fun {b m} ⟨o,es,ep,e,d,r⟩=>#[o,es,ep,lx e (we e d),d,r]
  let hKb:=λb o e=>lx (KX b o e) (by
   cases q:H b with
   | none=>rfl
   | some u=>
    let e':=hA b (by rw[q];simp);subst e';rw[hK .q]at e;cases e)
  let hM:Mod K mg (Ww s₁.H H):=#[hKb,nsK hns,#[mb,nsK hb,hbb],let ⟨mc,h1,h2⟩:=hlim;#[mc,nsK h1,h2]];let e0:Env0 P w K mg _ callerA [] s₁ H:=#[rfl,hM,λb o e=>_ao e,Nat.le_of_eq (_am _ _),trivial,λb hb=>absurd (show b>([]:List Addr)from hb) (by simp),hok,.of_eq hg];show codeAny_mono ((F _ hKb (nsK hns)).run callerA [] s₁ H _ [.I a] [.I a] _ _ hr e0 (zc s₁ _) (.æ rfl .nil) (oh H hO hS)) λr s' h=>?_
  cases r with
  | error e=>show(hCX H e s' h).è
  | ok fl=>
   cases fl with
   | next=>show False.è h| brk=>show False.è h| cont=>show False.è h
   | ret u=>
    let#[v,H',os,bare,un,hok',r',q]:=h;subst q;obtain rfl:u=Value.bool true:=r';show#[rfl,OldK.of_keep λb o e=>?_,os,bare];cases q:H b with
    | none=>show un.keep b o e q (by intro z;show absurd (show b>([]:List Addr)from z) (by simp)) (by simp)
    | some u=>
     let z\/#[ob,xs,z]:=hO b
     .grind
     .let z2:=un.frzs b ob _ z;let#[e1,_]:=hok b _ z;let#[e2,_]:=hok' b _ z2
      grind
 cases hk:K.U a with
 | some o=>
  let e:=KX a o hk;rw[ha]at e;cases e;show xy (λ_=>none) (λ_=>.O rfl) (.h #[vs.G,_,hk,by rw[Xe,hi.B];show hl,~~~rv]) (λb u z=>by let z':(none)=@u:=z;cases z') (λb z=>absurd rfl z) λz=>absurd rfl z
 | none=>
  show xy (λb=>if b=a then @(.frz {cls:=.l "list",data:=.seq vs.G} (.S (ns.C V.E)))else none) (λb=>?_) (.O (.h #[{cls:=.l "list",data:=.seq vs.G},X7 rfl])) (λb u z=>?_) (λb z=>?_) λ_=>hk
  .by_cases hb:b=a
   .show .h #[_,_,X7 hb]
   .show .O (Xd hb)
  .by_cases hb:b=a
   .let z':=(X7 hb).à.J z;cases z';subst hb;show#[ha,by rw[X5];show hl,vs,_,rv,ha]
   .let z':=(Xd hb).à.J z;cases z'
  .by_cases hb:b=a
   .show hb
   .show absurd (Xd hb) z
@[elab_as_elim] theorem len1 {P:List Value->Prop} us (e:us.length=1)(h:∀a,P [a]):P us:=by
 cases us with|nil=>cases e|cons a us=>cases List.eq_nil_of_length_eq_zero (Zx e);exact h a
@[elab_as_elim] theorem len2 {P:List Value->Prop} us (e:us.length=2)(h:∀a b,P [a,b]):P us:=by
 cases us with|nil=>cases e|cons a us=>exact len1 us (Zx e) λb=>h a b
@[elab_as_elim] theorem len3 {P:List Value->Prop} us (e:us.length=3)(h:∀a b c,P [a,b,c]):P us:=by
 cases us with|nil=>cases e|cons a us=>exact len2 us (Zx e) λb c=>h a b c
@[elab_as_elim] theorem len4 {P:List Value->Prop} us (e:us.length=4)(h:∀a b c d,P [a,b,c,d]):P us:=by
 cases us with|nil=>cases e|cons a us=>exact len3 us (Zx e) λb c d=>h a b c d
@[elab_as_elim] theorem len5 {P:List Value->Prop} us (e:us.length=5)(h:∀a b c d f,P [a,b,c,d,f]):P us:=by
 cases us with|nil=>cases e|cons a us=>exact len4 us (Zx e) λb c d f=>h a b c d f
@[elab_as_elim] theorem len6 {P:List Value->Prop}(us:List Value)(e:us.length=6)(h:∀a b c d f g,P [a,b,c,d,f,g]):P us:=by
 cases us with|nil=>cases e|cons a us=>exact len5 (P:=λl=>P (a::l)) us (Zx e) λb c d f g=>h a b c d f g
def _jU{K}:∀(ns:List Int),RepA K H g (ns.C D.E) (ns.C V.E) []
 |[]=>#[rfl,rfl]
 |n::ns=>by
  ext RepA;show#[_,_,[],[],rfl,rfl,wQ,_jU ns]
def _jV{K}{ns:List Int}(h:∃E o,f [(.r,.S (ns.C D.E))]=@(.ok E (o,.bl true)))(hs:LsR K H a (ns.C V.E))(hO:_cd H):
  spF K mg 1 f [.I a] H (λv _=>v=.bl true) λ_ _ _=>False:=by
 let#[E,o,h]:=h;let key:∃as,RepL K H true (.S (ns.C D.E)) (.I a) as/\(∀b>as,False):=by
  let(hs\/#[ob,hs])\/hs:=hs
  .let z\/#[_,_,z]:=hO a<;>(rw[hs]at z;cases z)
  .show#[[],(#[a,ns.C V.E,[],rfl,_jU ns,.h #[rfl,.O #[ob,hs],rfl]]),nofun]
  .show#[[],(#[a,ns.C V.E,[],rfl,_jU ns,.h #[rfl,.h hs,rfl]]),nofun]
 let#[as,r,hn]:=key;show#[[#[.r,.S _,.I a,as]],_,rfl,rfl,?_,h,(λE' c z=>by cases z),λE' s z x H' e1 e2 w' st=>?_]
 .show#[λx hx=>by rw[_aa (aC hx)];show r,by simp[Sl.ë],λb hb=>by simp[Sl.ë]at hb]
 .injection z with z1 z2;subst z2;show Vz w'.head e2
section
open PySem.W PySem.Calls
def walkQ{l:OpenLaw}{q qY}{K:Params->Frag}
  (hn:l.most=@n) (nr:n<=sizeLine) (hdf:d.params.defaults=[]) (hr:Room k callerA)
  (hY:∀w (h),YP w h->(K w.params).In h)
  (F:∀w (mg) (fa) (h),(K w.params).In h->h.Ns mainGlobals mg->mg d.name=@(.I fa) ->
   ∃fd,(∀s (u),BindsTo s fd #[[u],[]] [(x,u)])/\∀base,(K w.params).In base->base.Ns mainGlobals mg->FnOk l.î w (K w.params) mg base (CXE l.î w) k fa fd [x] (spF (K w.params) mg 1 f))
  (oh:∀(ns:List Int),ns.B<=n->(∀i>ns,Builtin.Int.intBits i<=1048576)->∃E o,f [(.r,.S (ns.C D.E))]=@(.ok E (o,.bl true))):
  WalkO q qY XP YP l.row.toRowW d [] (λf vs=>PySem.call f vs):=by
 intro w s0 s1 mg mb G Y fa o pm cd im dV kV ho hd ja hD hmg hg args dv as pd hlay hrd hwl hlo;let#[a,vs,ns,rfl,rfl,hobj,vy,af]:=Att.script_of hn pd hwl;let KX:=hY w _ Y;let#[fd,hb,hF]:=F w mg fa _ KX G.T.g hmg;show enter_call (codeAny_mono (_jT KX G.T.g G.T.b G.T.builtins G.T.nolimit hg hobj vy (Yw af nr) hr hF hb (λH hO hS=>_jV (oh ns af (_dh hlay)) hS hO) (λ_ _ _ h=>by let#[_,_,_,_,_,_,_,_,_,_,_,_,_,_,_,z]:=h;show z)) λr s' hq=>?_);let#[rfl,h2,h3,h4]:=hq;show#[.O #[.bool true,.bool true,[],rfl,λ_=>rfl,.bool true,Att.post_true l _,λ_=>#[List.ñ.nil,λ_ hm=>(nomatch hm)]],h2,h3,h4]
end
def _jW:Nat->(List Value->Prop)->Prop
 |0,p=>p []|n+1,p=>∀a,_jW n λus=>p (a::us)
@[elab_as_elim] theorem allN us (e:us.length=n)(h:_jW n p):p us:=by
 induction us generalizing n p with|nil=>subst e;exact h|cons a us ih=>subst e;exact ih (p:=λus=>p (a::us)) rfl (h a)
section
variable {K:Frag}{x:Str}{st:Stmt}{k:Nat}
def Gf(K:Frag)(x:Str)(st:Stmt):Prop:=∃(f:Addr) (oc:Value) (od:Option Addr) (kV dc pm:Value) (an:Option Addr) (cd ct:Value) (sl:Array (Option Value)),nsIn K mainGlobals x=some @(.I f)/\K.U f=@#[oc,od,.func (PySem.W.fnOf x x (x9 st) (z8 st) (jJ st) .ã kV dc pm an cd ct),sl]/\PySem.W.codeIn K cd x=true/\PySem.W.keepIn K (.I f)=true
def Gf.mk{f oc od kV dc pm an cd ct sl}(a:nsIn K mainGlobals x=some @(.I f))(l:K.U f=@#[oc,od,.func (PySem.W.fnOf x x (x9 st) (z8 st) (jJ st) .ã kV dc pm an cd ct),sl])(c:PySem.W.codeIn K cd x=true)(k:PySem.W.keepIn K (.I f)=true):Gf K x st:=#[f,oc,od,kV,dc,pm,an,cd,ct,sl,a,l,c,k]
def Gf.d(g:Gf K x st)(X:K.In h)(G:h.Ns mainGlobals mg)(ok:∀{f fd},Fun K x x st f fd->FnOk P w K mg base (CXE P w) k f fd ps sp)
  (hb:∀kV im pm an (ce ct) us,us.B=ps.B->bindArgs (PySem.W.fnOf x x (x9 st) (z8 st) (jJ st) .ã kV im pm an ce ct) #[us,[]]=pure (ps.zip us):=by
   intro _ _ _ _ _ _ us hl;show allN us hl ?_
   repeat intro _
   show rfl):kz P w K mg base k x ps sp:=by
 let#[f,oc,od,kV,dc,pm,an,cd,ct,sl,a,l,c,kp]:=g;show#[f,_,ok (_ce l c kp),(_ce l c kp).binds hb,kp,PySem.W.mg_of X G a]
def Gf.law(g:Gf K "law" st)(X:K.In h)(G:h.Ns mainGlobals mg)(hfa:mg "law"=@(.I fa))(ok:∀{base f fd},Fun K "law" "law" st f fd->FnOk P w K mg base (CXE P w) k f fd [y] sp)
  (hb:∀kV im pm an (ce ct) s v,BindsTo s (PySem.W.fnOf "law" "law" (x9 st) (z8 st) (jJ st) .ã kV im pm an ce ct) #[[v],[]] [(y,v)]:=by
   intros
   show .of_eq rfl):
  ∃fd,(∀s v,BindsTo s fd #[[v],[]] [(y,v)])/\∀base,K.In base->base.Ns mainGlobals mg->FnOk P w K mg base (CXE P w) k fa fd [y] sp:=by
 let#[f,oc,od,kV,dc,pm,an,cd,ct,sl,a,l,c,kp]:=g;let e:=hfa.à.J (PySem.W.mg_of X G a);cases e;show#[_,hb kV dc pm an cd ct,λbase _ _=>ok (_ce l c kp)]
end
end Q
namespace Q
open PySem L2
def mkS(h1:sc.kind=.function<|>Ŕ)(h2:sc.isCoroutine=false<|>Ŕ)(h3:sc.isGenerator=false<|>Ŕ)(h4:N.V<|>ŗ)(h5:N.take P.B=P<|>Ŕ)(h6:(∀x>P,sc.ð.U x=@.local\/sc.ð.U x=@.cell)<|>ŗ)(h7:(∀y>sc.ð,y.2≠.free)<|>ŗ):FnScope N P sc:=#[h1,h2,h3,h4,h5,h6,h7]
end Q
namespace Q
open PySem PySem.Spec PyProof.Rows L2 L3
section
def kI:QE X Z true (cC (.E z)) (.Constant (.E z) j p):=q_C _at λ_=>wQ
def ki:QV X Z true (vE (cC (.E z))) (.Constant (.E z) j p):=j9 kI
def kN:QE X Z true (cC .ó) (.Constant .ã j p):=q_C _av λ_=>_et
def kn:QV X Z true (vE (cC .ó)) (.Constant .ã j p):=j9 kN
def kS(h:(z.B<=sizeLine)<|>ŕ):QE X Z true (cC (.x z)) (.Constant (.x z) j p):=q_C _aw λ_=>ZK h
def kSv(h:(z.B<=sizeLine)<|>ŕ):QV X Z true (vE (cC (.x z))) (.Constant (.x z) j p):=j9 (kS h)
def vv i (hN:X.N[i]?=@x<|>Ŕ)(hv:Vis X.Y.ú x<|>ř)(hd:Abd x<|>ŕ)
  (ja:(x==("__classdict__":Str))=false<|>ŕ):QV X Z true (vV i) (.é x pos):=q_vV (pv i hN hv hd ja)
def cv i (hN:X.N[i]?=@x<|>Ŕ)(hv:Vis X.Y.ú x<|>ř)(hd:Abd x<|>ŕ)
  (ja:(x==("__classdict__":Str))=false<|>ŕ):QE X Z true (cV i) (.é x pos):=q_V (pv i hN hv hd ja)
def kx(ha:QV X Z qa a ea)(hb:QV X Z true b eb)(hs:_bM eb:=by show λ_ _=>rfl)(hK:X.K=Z.K<|>Ŕ):QV X Z qa (j8 a b) (.Subscript ea eb pos):=q_ix ha hb hs hK
def qA(hN:X.N.V)(h:QE X Z q a ea)(hi:X.N[i]?=@y<|>Ŕ)(hx:Loc X.Y.ú y<|>Ś)(hp:i∉pn<|>ŕ)(hs:swapsWith ea @(.é y da) pos.line X.Y=pure false<|>Ŕ)(hf:X.fn y=true\/X.Y.ú.ð.U y=@.local<|>Ř):
  QS X Z pn (jv i a) (.Assign [.é y da] ea pos):=_eO hN hi hx h hp hs hf
def gn(hN:X.N.V)(hi:X.N[i]?=@x<|>Ŕ)(hx:Loc X.Y.ú x<|>Ś)(hf:X.fn x=true\/X.Y.ú.ð.U x=@.local<|>Ř):PG X (.é x pos) (vvb i):=_aM hN hi hx hf
def gN(hN:X.N.V)(hi:X.N[i]?=@x<|>Ŕ)(hx:Loc X.Y.ú x<|>Ś)(hf:X.fn x=true\/X.Y.ú.ð.U x=@.local<|>Ř)(hp:i∉pn<|>ŕ):QG X Z pn (.n i) (.é x pos):=zw (_aM hN hi hx hf) hp
def qC(D:kz X.î X.w X.K X.mg X.base k x ps (spF Z.K Z.mg n f))(hr:Room m X.A)(ha:QA X Z q cs (e::es))(g:xq X Z.EX:=by show zJ)(ij:(k<=m)<|>ŕ)(hn:cs.B=n<|>Ŕ)(hg:Gl X x<|>Ŕ)(gf:Abd x<|>ŕ)
  (he:Abs e es X<|>Ŕ) (bj:Abb pos es X<|>Ŕ):
  QE X Z q (jx f cs) (.ù (.é x p) (e::es) [] pos):=_fU D (hr.mono ij) g ha hn hg gf he bj
def qF(hi:QI X Z q tg it iter)(hg:QG X Z pn t tg)(hb:QSs X Z pn B ss)(hp:PassesOwn (model X.î X.w) X.A X.Y X.xe:=by show _dx #[_,_,rfl,rfl])(hc:X.calm=true<|>Ŕ)(hs:(∀x,foldedSetIterable iter X.Y x=pure x)<|>Ŗ):QS X Z pn (v5 it t B) (.For tg iter ss [] pos):=_e5 hp hc hi hg hb hs
def oA(ha:QV X Z qa a ea)(hb:QV X Z true b eb)(hK:X.K=Z.K<|>Ŕ):QE X Z qa (cF2 qv a b) (.BinOp ea .Add eb pos):=ZY (_eD hK) _eF ha hb
def oX(ha:QV X Z qa a ea)(hb:QV X Z true b eb)(hK:X.K=Z.K<|>Ŕ):QE X Z qa (cF2 xK a b) (.BinOp ea .Mult eb pos):=ZY (_h1 hK) _h2 ha hb
def oM(ha:QV X Z qa a ea)(hb:QV X Z true b eb):QE X Z qa (cF2 (pu2 vx) a b) (.BinOp ea .Mod eb pos):=ZY _a5 _ey ha hb
def qP(h:QE X Z q c e)(hN:X.N[i]?=@x<|>Ŕ)(hv:Vis X.Y.ú x<|>ř)(hd:Abd x<|>ŕ)
  (ja:(x==("__classdict__":Str))=false<|>ŕ) (b8:attributeBase (.é x xp) "append" X.Y (eval (.é x xp) X.Y)=eval (.é x xp) X.Y<|>Ŕ)
  (dj:autoParam (((backTo ah (starEach [e] X.Y)).all (λx=>!x.1)&&(backToKw ah (keywordEach [] X.Y)).all (λx=>x.1.isSome)
   && decide ([e].B+([]:List Keyword).B+(if([]:List Keyword).û then 0 else 1)<30))=true) Ŕ)
  (b9:Abe ay ah<|>Ŕ) (hs:Abs e [] X<|>Ŕ) (b7:Abb ah [] X<|>Ŕ) (hK:X.K=Z.K<|>Ŕ)
  (nh:swapsWith (.ù (.Attribute (.é x xp) "append" ay) [e] [] ah) none pos.line X.Y=pure false<|>Ŕ):
  QS X Z pn (vq vk i c) (.Expr (.ù (.Attribute (.é x xp) "append" ay) [e] [] ah) pos):=_gp (_c4 Z.K Zh PySem.F.slot_list_append PySem.F.type_list_append _b4 (pv i hN hv hd ja) (qZ h vJ hs) b8 dj b9 hs b7 hK) nh
def qL(ha:QV X Z q a ea)(hm:X.mg "len"=none)(hK:X.K=Z.K<|>Ŕ)(hg:Gl X "len"<|>Ŕ)(he:Abs ea [] X<|>Ŕ)(bj:Abb pos [] X<|>Ŕ):QE X Z q (cF1 (pu1 v6) a) (.ù (.é "len" p) [ea] [] pos):=_gK (hK▸_c1 X.K) _gL ha hm _c5 hg .q (by rfl) he bj
def qT(ha:QV X Z q a ea)(hm:X.mg "tuple"=none)(hK:X.K=Z.K<|>Ŕ)(hg:Gl X "tuple"<|>Ŕ)(he:Abs ea [] X<|>Ŕ)(bj:Abb pos [] X<|>Ŕ):QE X Z q (cF1 xJ a) (.ù (.é "tuple" p) [ea] [] pos):=Wj (_gS hK) _gT ha hm _de hg .q (by rfl) he bj
def qm(o)(k)(R)(m)(N)(hi:QI X Z q tg it iter)
  (hg:N.V->∀cl C s0 H0 fp,QG (lcE X scope N cl C s0 H0 fp Z.EX) Z ((List.ä R.B).C (k + ·)) tt tg) (ht:∀cl C s0 H0 fp,PTs (lcE X scope N cl C s0 H0 fp Z.EX) gi (tT Z q u)) (he:∀cl C s0 H0 fp,QE (lcE X scope N cl C s0 H0 fp Z.EX) Z q c elt)
  (hN:N.V<|>ŗ) (gx:xq X Z.EX:=by show zJ) (top:Jz X:=by show#[_,_,rfl,rfl]) (hR:R.V<|>ŕ) (hm:X.N.B=m<|>Ŕ) (hr:(∀j>R,j<m)<|>ŕ) (hc:X.calm=true<|>Ŕ) (hk:scope.kind=.function<|>Ŕ) (lg:K8 X.N X.Y.ú scope N k R=true<|>Ŕ) (hs:(∀x,foldedSetIterable iter X.Y x=pure x)<|>Ŗ):
  QE X Z q (cLC o k R it tt u c) (.ListComp elt [#[tg,iter,gi,0]] scope pos):=_gH N hi (hg hN) ht he gx top hR (hm▸hr) hc hk lg hs
def qM(o)(k)(R)(m)(N)(hi:QI X Z q (.é x p') it iter)(he:∀cl C s0 H0 fp,QE (lcE X scope N cl C s0 H0 fp Z.EX) Z q c elt)
  (hN:N.V<|>ŗ) (gx:xq X Z.EX:=by show zJ) (top:Jz X:=by show#[_,_,rfl,rfl]) (hR:R.V<|>ŕ) (hm:X.N.B=m<|>Ŕ) (hr:(∀j>R,j<m)<|>ŕ) (hc:X.calm=true<|>Ŕ) (hk:scope.kind=.function<|>Ŕ) (lg:K8 X.N X.Y.ú scope N k R=true<|>Ŕ) (hs:(∀x,foldedSetIterable iter X.Y x=pure x)<|>Ŗ)
  (h1:N[0]?=@x<|>Ŕ) (h2:scope.ð.U x=@.local<|>Ŕ) (h3:0∉(List.ä R.B).C (k + ·)<|>ŕ):
  QE X Z q (cLC o k R it (.n 0) tYes c) (.ListComp elt [#[.é x p',iter,[],0]] scope pos):=_gH N hi (λ_ _ _ _ _=>zw (_aM (i:=0) hN h1 (.O (lookup_relabel_local h2)) (.h (lookup_relabel_local h2))) h3) (λ_ _ _ _ _=>WQ) he gx top hR (hm▸hr) hc hk lg hs
end
end Q
namespace Q
def ddS(ss:List PySem.Str):List PySem.Str:=ss.foldl (λl k=>if l.any (· == k)then l else l++[k]) []
def _jX:Sd->Option Sd:=λx=>match x.2 with
 |.S ds=>(match zX ds with
  |some ss=>if ss.B<64 then @(.rt,.S ((vY (ddS ss)).C .x))else none
  |none=>none)
 |_=>none
end Q
namespace Tb
open PySem PySem.SetTable
noncomputable def it(f:α->α):Nat->α->α
 |0,a=>a|n+1,a=>it f n (f a)
def QY(f):∀m n (a:α),it f (m+n) a=it f n (it f m a)
 |0,n,a=>by rw[Nat.zero_add];rfl|m+1,n,a=>by rw[Nat.succ_add];show QY f m n _
def _jY f n (a:α):it f (n+1) a=f (it f n a):=QY f n 1 a
noncomputable def lp(mask:Nat)(q:Nat×Nat):Nat×Nat:=leap mask q.1 q.2
def f5(mask:Nat)(i:Nat):Nat:=(i*5+1) % (mask+1)
def _jZ(mask):∀k (q),(it (lp mask) k q).2=q.2 / 32 ^ k
 |0,q=>by rw[Nat.div_one];rfl
 |k+1,q=>by
  change(it _ k (lp mask q)).2=_;rw[_jZ mask k];change q.2 / 32 / 32 ^ k=_;rw[Nat.div_div_eq_div_mul,Nat.pow_succ,Nat.mul_comm]
def _j0(mask):∀k i,it (lp mask) k (i,0)=(it (f5 mask) k i,0)
 |0,i=>rfl
 |k+1,i=>by
  change it _ k (leap mask i 0)=_;let:leap mask i 0=(f5 mask i,0):=by ext leap f5;rfl
  rw[this,_j0 mask k];rfl
def xv(mask:Nat):Prop:=mask=7\/mask=31\/mask=127
def ZX(mask:Nat):Nat->Nat->List Nat
 |0,_=>[]|n+1,i=>i::ZX mask n (f5 mask i)
def _j1{mask}:∀{n i e},e>ZX mask n i->∃k,k<n/\it (f5 mask) k i=e
 | n+1,i,e,h=>by
  let rfl\/h:=aD h
  .show#[0,Nat.succ_pos _,rfl]
  .let#[k,hk,e]:=_j1 h;show#[k+1,Nat.succ_lt_succ hk,e]
def _j2:(List.ä 32).all (λe=>(ZX 31 32 0).contains e)=true/\it (f5 31) 32 0=0:=by decide +kernel
def _j3:(List.ä 8).all (λe=>(ZX 7 8 0).contains e)=true/\it (f5 7) 8 0=0:=by decide +kernel
def _j4:(List.ä 128).all (λe=>(ZX 127 128 0).contains e)=true/\it (f5 127) 128 0=0:=by decide +kernel
def cyc{mask}(h:(List.ä (mask+1)).all (λe=>(ZX mask (mask+1) 0).contains e)=true/\it (f5 mask) (mask+1) 0=0)(hi:i<=mask)(he:e<=mask):∃k,k<=mask/\it (f5 mask) k i=e:=by
 let#[h1,h2]:=h;rw[Yb]at h1;let g:∀e,e<=mask->∃k,k<mask+1/\it _ k 0=e:=λe he=>_j1 (~~~(h1 e (List.å.s .q)))
 let#[a,ha,ea]:=g i hi;let#[b,hb,eb]:=g e he
 by_cases ku:a<=b
 .show#[b - a,.q,?_]
  rwa [<-ea,<-QY,show a+_=b by lia]
 .show#[mask+1 - a+b,.q,?_]
  rwa [<-ea,<-QY,show a+_=mask+1+b by lia,QY,h2]
def cyc'{mask}(hm:xv mask)(hi:i<=mask)(he:e<=mask):∃k,k<=mask/\it (f5 mask) k i=e:=by
 let rfl\/rfl\/rfl:=hm
 .show cyc _j3 hi he
 .show cyc _j2 hi he
 .show cyc _j4 hi he
def _j5{mask i b e}(hm:xv mask)(hi:i<=mask)(hb:b<2 ^ 64)(he:e<=mask):∃k,k<mask+15/\(it (lp mask) k (i,b)).1=e:=by
 let hp:(it (lp mask) 13 (i,b)).2=0:=by
  rw[_jZ];show Nat.div_eq_of_lt (Xs hb .q)
 let hl:(it (lp mask) 13 (i,b)).1<=mask:=by
  change((it (lp mask) 12 _).1*5+1+(it (lp mask) 12 _).2 / 32) % _<=mask;let:=Nat.mod_lt ((it (lp mask) 12 (i,b)).1*5+1+(it (lp mask) 12 (i,b)).2 / 32) (show 0<mask+1 by simp);lia
 let#[k,hk,e1]:=cyc' hm hl he;show#[13+k,.q,?_];rw[QY];let:it _ 13 _=((it _ 13 (i,b)).1,0):=Prod.ext rfl hp
 rwa [this,_j0]
def adv(mask:Nat)(p:Probe):Probe:=
 if 0<p.more then {p with j:=p.j+1,more:=p.more - 1}else {p with j:=(leap mask p.i p.perturb).1,more:=runEnd mask (leap mask p.i p.perturb).1 - (leap mask p.i p.perturb).1,i:=(leap mask p.i p.perturb).1,perturb:=(leap mask p.i p.perturb).2}
def _j6(t:SetTable) p:t.advance p=adv t.ô p:=rfl
def rs(mask:Nat)(q:Nat×Nat):Probe:=#[q.1,runEnd mask q.1 - q.1,q.1,q.2,none]
noncomputable def st0(mask:Nat)(h:Int):Nat×Nat:=(bits h % (mask+1),bits h)
def len9(mask i):runEnd mask i - i<=9:=by ext runEnd;split<;>simp
def _j7(mask)(q):∀r,r<=runEnd mask q.1 - q.1->it (adv mask) r (rs mask q)=#[q.1+r,runEnd mask q.1 - q.1 - r,q.1,q.2,none]
 |0,_=>rfl
 |r+1,h=>by
  rw[_jY,_j7 mask q r .q];ext adv
  grind
def _j8 mask q:it (adv mask) (runEnd mask q.1 - q.1+1) (rs mask q)=rs mask (lp mask q):=by
 rw[_jY,_j7 mask q _ (Xb _)];ext adv;rw[Xd (by simp)];rfl
def _j9(mask):∀k (q),∃s,s<=10*k/\it (adv mask) s (rs mask q)=rs mask (it (lp mask) k q)
 |0,q=>#[0,Xb _,rfl]
 |k+1,q=>by
  let#[s,hs,e]:=_j9 mask k _;show#[runEnd mask q.1 - q.1+1+s,by let:=len9 mask q.1;lia,?_];rw[QY,_j8,e];rfl
def jV(mask:Nat)(h:Int)(m:Nat):Nat:=(it (adv mask) m (rs mask (st0 mask h))).j
def _ka h:bits h<2 ^ 64:=by
 ext bits;lia
def _kb{mask}(hm:xv mask) h (he:e<=mask):∃m,m<10*turns mask/\jV mask h m=e:=by
 let hi:(st0 mask h).1<=mask:=by
  let:=Nat.mod_lt (bits h) (show 0<mask+1 by simp);change bits h % _<=mask;lia
 let#[k,hk,e1]:=_j5 hm hi (_ka h) he;let#[s,hs,e2]:=_j9 mask k _;show#[s,by ext turns;lia,?_];ext jV
 rwa [e2]
def _kc{P:Nat->Prop}:∀{N},(∃m,m<N/\P m)->∃M,M<N/\P M/\∀m,m<M->¬P m:=by
 rintro N ⟨m,hm,hp⟩
 induction m using Nat.strongRecOn with
 | _ m ih=>
  by_cases c:∃m',m'<m/\P m'
  .let#[m',h1,h2]:=c;show ih m' h1 .q h2
  .show#[m,hm,hp,λm' h1 h2=>c #[m',h1,h2]]
def _kd{mask}{oc:Nat->Prop}(hm:xv mask) h (hf:∃e,e<=mask/\¬oc e):∃M,M<10*turns mask/\¬oc (jV mask h M)/\∀m,m<M->oc (jV mask h m):=by
 let#[e,he,hn]:=hf;let#[m,h1,h2]:=_kb hm h he;let#[M,a,b,c]:=_kc (P:=λm=>¬oc (jV mask h m)) #[m,h1,by rw[h2];show hn];show#[M,a,b,λm hm=>Classical.not_not.mp (c m hm)]
def _ke:∀N (xs:List Nat),xs.B<N->∃j,j<N/\j∉xs
 | 0,_,h=>by grind
 | N + 1,xs,h=>by
  by_cases c:N>xs
  .let hl:(xs.ö (λx=>x != N)).B<N:=by
    let:(xs.ö (λx=>x != N)).B<xs.B:=by
     show List.length_filter_lt_length_iff_exists.s #[N,c,by simp]
    lia
   let#[j,h1,h2]:=_ke N _ hl;show#[j,.q,λz=>h2 (List.mem_filter.s #[z,?_])];simp;lia
  .show#[N,by simp,c]
#where in
def _kf{mask}:∀{fuel q j},layClean.free mask owner fuel q.1 q.2=@j ->
  ∃ m,(it (adv mask) m (rs mask q)).j=j/\(owner.p j @0).isNone=true/\∀m',m'<m->(owner.p (it (adv mask) m' (rs mask q)).j @0).isNone=false
 | 0,q,j,h=>by cases h
 | fuel+1,q,j,h=>by
  unfold layClean.free at h;let run:∀r,r<=runEnd mask q.1 - q.1->(it (adv mask) r (rs mask q)).j=q.1+r:=λr hr=>by rw[_j7 mask q r hr]
  let qo:runEnd mask q.1+1 - q.1=runEnd mask q.1 - q.1+1:=by
   let:q.1<=runEnd mask q.1:=by ext runEnd;split<;>simp
   grind
  split at h
  .revert k hk;cases _aa h;let#[h1,as,bs,h2,h3]:=List.find?_eq_some_iff_append.mp hk;let ri:k<runEnd mask q.1 - q.1+1:=by
    let:k>List.ä (runEnd mask q.1+1 - q.1):=List.mem_of_find?_eq_some hk;rw[qo]at this;show List.å.mp this
   show#[k,run k .q,h1,λm' ia=>?_];rw[run m' .q];let hl:as.B=k:=by
    let e:(List.ä (runEnd mask q.1+1 - q.1))[as.B]?=(as++k::bs)[as.B]?:=by rw[h2]
    rw[Yk (Xb _),Nat.sub_self,List.getElem?_cons_zero]at e;let bf:as.B<runEnd mask q.1+1 - q.1:=by
     let:=congrArg List.B h2;rw[Xz,Xi,Xn]at this;lia
    rw[Z7 bf]at e;show _aa e
   let hm:m'>as:=by
    let e:(List.ä (runEnd mask q.1+1 - q.1))[m']?=(as++k::bs)[m']?:=by rw[h2]
    rw[Xw (by symm),Z7 .q]at e;show Y2 e.à
   show Bool.eq_false_iff.s λz=>by
    let:=h3 m' hm;rw[z]at this
    grind
  .revert hk;rw[List.find?_eq_none]at hk;let h:layClean.free mask owner fuel (lp mask q).1 (lp mask q).2=@j:=h;let#[m,h1,h2,h3]:=_kf h;show#[runEnd mask q.1 - q.1+1+m,by rw[QY,_j8];show h1,h2,λm' ia=>?_]
   by_cases c:m'<runEnd mask q.1 - q.1+1
   .rw[run m' .q];show Bool.eq_false_iff.s (hk m' (List.å.s (by symm)))
   .let:=h3 (m' - (runEnd mask q.1 - q.1+1)) (by grind);rw[<-_j8,<-QY,show runEnd mask q.1 - q.1+1+(m' - (runEnd mask q.1 - q.1+1))=m' by lia]at this;show this
#where in
def _kg{mask}:∀{fuel q},layClean.free mask owner fuel q.1 q.2=none->∀k,k<fuel->(owner.p (it (lp mask) k q).1 @0).isNone=false
 | fuel+1,q,h,k,hk=>by
  unfold layClean.free at h
  split at h
  .cases h
  .revert hn;rw[List.find?_eq_none]at hn;cases k with
   | zero=>
    let qo:0<runEnd mask q.1+1 - q.1:=by
     let:q.1<=runEnd mask q.1:=by ext runEnd;split<;>simp
     omega
    show Bool.eq_false_iff.s (hn 0 (List.å.s qo))
   |succ k=>show _kg h k (by symm)
def _kh{mask}(hm:xv mask)(h)(hf:∃e,e<=mask/\(owner.p e @0).isNone=true):
  ∃j m,layClean.free mask owner (turns mask) (bits h % (mask+1)) (bits h)=@j/\jV mask h m=j/\(owner.p j @0).isNone=true/\∀m',m'<m->(owner.p (jV mask h m') @0).isNone=false:=by
 cases hj:layClean.free mask owner _ _ _ with
 | none=>
  let#[e,he,hn]:=hf;let hi:bits h % (mask+1)<=mask:=by
   let:=Nat.mod_lt (bits h) (show 0<mask+1 by simp);lia
  let#[k,hk,e1]:=_j5 hm hi (_ka h) he;let:=_kg (q:=(bits h % _,bits h)) hj k (by ext turns;omega);rw[e1,hn]at this
  grind
 |some j=>
  let#[m,h1,h2,h3]:=_kf (q:=(bits h % _,bits h)) hj;show#[j,m,rfl,h1,h2,h3]
def _ki(xs)(j)(hp:xs.R.ñ (· < ·)):∀fuel lo hi,lo<=hi->hi<=xs.L->hi - lo<=fuel->(∀i (h),i<lo->xs[i]<j)->(∀i (h),hi<=i->j<=xs[i]) ->
  below.go xs j fuel lo hi<=xs.L/\(∀i (h),i<below.go xs j fuel lo hi->xs[i]<j)/\(∀i (h),below.go xs j fuel lo hi<=i->j<=xs[i])
 | 0,lo,hi,h1,h2,h3,h4,h5=>by
  let:lo=hi:=.q
  subst this;show#[h2,h4,h5]
 | fuel+1,lo,hi,h1,h2,h3,h4,h5=>by
  ext below.go
  by_cases hl:lo<hi
  .rw[X7 hl];let hm:(lo+hi) / 2<xs.L:=.q
   let mono:∀i k (hi) (hk:k<xs.L),i<k->xs[i]<xs[k]:=λi k hi hk hik=>by
    let:=List.pairwise_iff_getElem.mp hp i k (~~~hi) (~~~hk) hik
    simpa using this
   by_cases hc:xs.p ((lo+hi) / 2) j<j
   .rw[X7 hc];let i5:xs[(lo+hi) / 2]<j:=by simpa [Array.p,hm]using hc
    show _ki xs j hp fuel _ hi .q h2 (by omega) (λi h jh=>?_) h5
    by_cases e:i=(lo+hi) / 2
    .subst e;show i5
    .let:=mono i ((lo+hi) / 2) h hm .q;lia
   .rw[Xd hc];let i5:j<=xs[(lo+hi) / 2]:=by
     let:¬xs[(lo+hi) / 2]<j:=by simpa [Array.p,hm]using hc
     symm
    show _ki xs j hp fuel lo _ .q .q (by omega) h4 (λi h jh=>?_)
    by_cases e:i=(lo+hi) / 2
    .subst e;show i5
    .let:=mono ((lo+hi) / 2) i hm h .q;lia
  .rw[Xd hl];let:lo=hi:=.q
   subst this;show#[h2,h4,h5]
def _kj j (hp:xs.R.ñ (· < ·)):below xs j<=xs.L/\(∀i h,i<below xs j->xs[i]<j)/\(∀i h,below xs j<=i->j<=xs[i]):=
 _ki xs j hp xs.L 0 xs.L (by simp) (Xb _) (by simp) (λi _ h=>absurd h (by simp)) (λi h hi=>absurd h .q)
def _kk{t:SetTable}(hp:t.ï.R.ñ (· < ·))(hd:t.dummies=(List.G [])) j:(∃i,t.slot j=.live i/\t.ï[i]?=@j)\/(t.slot j=.empty/\j∉t.ï.R):=by
 ext slot
 by_cases h:(t.ï[below t.ï j]? == @j)=true
 .rw [X7 h];show .O #[_,rfl,~~~h]
 .rw [Xd h,hd];let:has (List.G []) j=false:=by
   ext has;rfl
  show .h #[rfl,λhj=>h ?_];let#[i,hi,e]:=List.mem_iff_getElem.mp hj;let hi:i<t.ï.L:= ~~~hi
  let e:t.ï[i]=j:= ~~~e
  let#[b1,b2,b3]:=_kj j hp;let hb:below t.ï j=i:=by
   by_cases c:i<below t.ï j
   .let:=b2 i hi c;symm
   .by_cases c2:below t.ï j<i
    .let h1:=b3 _ .q (Xb _);let h2:=List.pairwise_iff_getElem.mp hp _ i (by simp;lia) (~~~hi) c2
     grind
    .lia
  rw[hb,Xq hi,e];simp
def _kl xs p (x:α):(insertAt xs p x).R=xs.R.take p++x::xs.R.ý p:=by
 ext insertAt;simp;show List.take_of_length_le (by simp)
def _km xs p (x:α):(xs.take p++x::xs.ý p).á (x::xs):=by
 show List.perm_middle.J (.of_eq ?_);rw[List.take_append_drop]
def _kn(hp:xs.R.ñ (· < ·))(hj:j∉xs.R):(insertAt xs (below xs j) j).R.ñ (· < ·):=by
 rw[_kl];let#[b1,b2,b3]:=_kj j hp;let h1:∀a>xs.R.take (below xs j),a<j:=λa ha=>by
  let#[i,hi,rfl]:=List.mem_iff_getElem.mp ha;rw[Z1]at hi;let:=b2 i (by simp at hi;lia) (by grind)
  simpa using this
 let h2:∀a>xs.R.ý (below xs j),j<a:=λa ha=>by
  let hm:=List.mem_of_mem_drop ha;let#[i,hi,rfl]:=List.mem_iff_getElem.mp ha;rw[List.length_drop]at hi;let:=b3 (below xs j+i) (by simp at hi;grind) (by simp);let e:(xs.R.ý (below xs j))[i]=xs[below xs j+i]'(by simp at hi;lia):=by simp
  grind
 show List.pairwise_append.s #[hp.sublist (List.take_sublist _ _),List.pairwise_cons.s #[h2,hp.sublist (List.drop_sublist _ _)],λa ha b hb=>?_];let rfl\/hb:=aD hb
 .show h1 a ha
 .show J5 (h1 a ha) (h2 b hb)
def _ko{xs:List α} p x y (hl:xs.B=ys.B):((xs.take p++x::xs.ý p).zip (ys.take p++y::ys.ý p)).á ((x,y)::xs.zip ys):=by
 let hz:(xs.take p++x::xs.ý p).zip (ys.take p++y::ys.ý p)=(xs.zip ys).take p++(x,y)::(xs.zip ys).ý p:=by
  rw[List.zip_append (by rw[Z1,Z1,hl]),List.zip_cons_cons];ext List.zip;rw[List.take_zipWith,List.drop_zipWith]
 rw[hz];show _km _ p _
abbrev Ent:=Int×Value
def Z(t:SetTable)(es:Array Ent):List (Nat×Ent):=t.ï.R.zip es.R
structure TOk (t:SetTable)(es:Array Ent):Prop where
 m:xv t.ô
 d:t.dummies=(List.G [])
 sz:t.ï.L=es.L
 pw:t.ï.R.ñ (· < ·)
 le:∀j>t.ï.R,j<=t.ô
 few:es.L*5<t.ô*3
 good:∀z>Z t es,∃m,jV t.ô z.2.1 m=z.1/\∀m',m'<m->jV t.ô z.2.1 m'>t.ï.R
def TOk.empty(h:TOk t es):∃e,e<=t.ô/\¬e>t.ï.R:=by
 let hs:t.ï.R.B<t.ô+1:=by
  rw[Xk,h.sz];let:=h.few;lia
 let#[j,h1,h2]:=_ke _ _ hs;show#[j,.q,h2]
def pr(mask:Nat)(h:Int)(m:Nat):Probe:=it (adv mask) m (rs mask (st0 mask h))
def _kp mask h m:adv mask (pr mask h m)=pr mask h (m+1):=(_jY _ _ _).à
def _kq(mask)(h):∀m,(pr mask h m).dummy=none
 |0=>rfl
 |m+1=>by
  rw[<-_kp];let:=_kq mask h m;ext adv
  split<;>show this
def _kr(ok:TOk t es)(hM:jV t.ô h M∉t.ï.R)(hb:∀m,m<M->jV t.ô h m>t.ï.R):
  ∀ F m,m<=M->M - m<F ->
   (probe.go t g h F (pr t.ô h m)=@(.empty (jV t.ô h M) none)/\∀m' i,m<=m'->m'<M->t.ï[i]?=@(jV t.ô h m')->g i≠h) \/
   ∃ m' i,m<=m'/\m'<M/\t.ï[i]?=@(jV t.ô h m')/\g i=h/\probe.go t g h F (pr t.ô h m)=@(.candidate (jV t.ô h m') i (pr t.ô h (m'+1)))/\∀nu i',m<=nu->nu<m'->t.ï[i']?=@(jV t.ô h nu)->g i'≠h
 | 0,m,_,h2=>absurd h2 .q
 | F + 1,m,h1,h2=>by
  let hj:(pr t.ô h m).j=jV t.ô h m:=rfl;ext probe.go;rw [hj];let#[i,e1,e2]\/#[e1,e2]:=_kk ok.pw ok.d (jV t.ô h m)
  .rw [e1];right;let hmM:m<M:=by
    let c\/c:=Nat.lt_or_ge m M
    .show c
    .let:m=M:=.q
     subst this;show absurd (Y2 (Xr▸e2)) hM
   let uni:∀i',t.ï[i']?=@(jV t.ô h m)->i'=i:=λi' e3=>by
    show(List.getElem?_inj (~~~(((Array.getElem?_eq_some_iff.mp e3).1))) (ok.pw.imp λh=>Xl h)).mp ?_;rw[Xr,Xr,e3,e2]
   by_cases hg:g i=h
   .rw[X7 (~~~hg),_j6,_kp];show .h #[m,i,Xb _,hmM,e2,hg,rfl,λnu i' a b=>absurd a .q]
   .rw[Xd (~~~hg),_j6,_kp];let#[q1,q2]\/#[m',i',q1,q2,q3,q4,q5,q6]:=_kr ok hM hb F (m+1) .q .q
    .show .O #[q1,λm' i' a b c=>?_]
     by_cases e:m'=m
     .subst e
      rwa [uni i' c]
     .show q2 m' i' .q b c
    .show .h #[m',i',.q,q2,q3,q4,q5,λnu i'' a b c=>?_]
     by_cases e:nu=m
     .subst e
      rwa [uni i'' c]
     .show q6 nu i'' .q b c
  .rw[e1];right;let hmM:m=M:=by
    let c\/c:=Nat.lt_or_ge m M
    .show absurd (hb m c) e2
    .lia
   subst hmM;rw[_kq];show .O #[rfl,λm' i a b=>absurd a .q]
end Tb
namespace Sw
open PySem PyProof.Rows
section
variable {prog:Program}{w:World}{A:Around}{E:VP9}{s:Shared}
def tx(w:World):Bool:=w.params.followText "set-order"
structure Ok (prog:Program)(w:World)(o:Obj)(es:Array (Int×Value))(ep:Nat)(t:SetTable):Prop where
 ex:o.ExactSet
 d:o.data=.ç es ep t
 el:ElemsOf (PySem.strKind prog w) es.R
 b:es.L<scanBound
 f:t.fits es.L=true
 led:t.led=!tx w
 pl:t.plain=false\/es.L=0
def YJ(es:List (Int×Value)):List Str:=es.C λe=>strOf e.2
def Has(prog:Program)(w:World)(h:Heap)(a:Addr)(ls:List Str):Prop:=∃o es ep t,h.get? a=@o/\Ok prog w o es ep t/\(YJ es.R).á ls
def _ks{l}(h:ElemsOf (PySem.strKind prog w) l){e}(he:e>l):∃k t,e.2=.x k t:=by
 let#[#[k,hk,_],_]:=h e he;let#[t,ht]:=Value.isStrOf_shape hk;show#[k,t,ht]
def _kt{l}(h:ElemsOf (PySem.strKind prog w) l) k:(∃e>l,(PySem.strKind prog w).is k e.2=true)↔k>YJ l:=by
 ext YJ;rw[List.mem_map];constructor
 .rintro ⟨e,he,hk⟩;let#[t,ht]:=Value.isStrOf_shape hk;show#[e,he,by rw[ht];rfl]
 .rintro ⟨e,he,hk⟩;let#[k',t,ht]:=_ks h he;rw[ht]at hk;cases(hk);show#[e,he,by rw[ht];show strKind_is _ _ _ _]
#where in
def _ku t es h x:(layNew t es h x).2.1.led=t.led/\((layNew t es h x).2.1.plain=true->t.plain=true):=by
 ext layNew
 split
 .revert slot wd _;change((t.put slot).1.orStandIn _).led=_/\(((t.put slot).1.orStandIn _).plain=true->_);ext SetTable.orStandIn
  split
  .show#[rfl,λh=>h]
  .show#[rfl,nofun]
 .show#[rfl,nofun]
#where in
def _kv t es n:(relayAll t es n).2.1.led=t.led/\((relayAll t es n).2.1.plain=true->t.plain=true):=by
 ext relayAll
 split
 .revert t' i8 hr;right
  split
  .unfold SetTable.relaid SetTable.laid at hr;rw[Option.bind_eq_bind,Option.bind_eq_some_iff]at hr
   grind
  .show#[rfl,nofun]
 .show#[rfl,nofun]
def _kw{h:Heap}{a o es es' ep t t'}(ho:h.get? a=@o)(hd:o.data=.ç es ep t):(h.update a (Obj.putSet es' t')).get? a=some {o with data:=.ç es' (ep+1) t' }:=by
 let:=Ye (Obj.putSet es' t') ho (by rw[putSet_of es' t' hd];rfl)
 rwa [putSet_of es' t' hd]at this
def tail{g:Bool->Sem Unit}(hg:∀b (s₁) (Q'),Q' () s₁->wpAny (model prog w) A (g b) Q' E s₁)
  {a o es d9 ep t t2 ls wasDummy R} (ho:s.H.get? a=@o) (hd:o.data=.ç es ep t) (hex:o.ExactSet)
  (hel:ElemsOf (PySem.strKind prog w) d9.R) (hb:d9.L<scanBound) (hf:t2.fits d9.L=true) (yr:t2.led=!tx w) (bj:t2.plain=false) (hp:(YJ d9.R).á ls)
  (h:∀h',Heap.SameBut a s.H h'->Has prog w h' a ls->R @true {s with heap:=h' }):
  wpAny (model prog w) A (do
    storeSet a d9 t2
    if(!wasDummy&&t2.tooFull)=true then do
      g (relayAll t2 d9 (SetTable.grown d9.L)).2.2
      storeSet a (relayAll t2 d9 (SetTable.grown d9.L)).1 (relayAll t2 d9 (SetTable.grown d9.L)).2.1
      pure @true
     else pure @true) R E s:=by
 show X0 (wpAny_storeSet_of ho hd ?_ (fits_of_scanBound hb));let gu:=_kw (es':=d9) (t':=t2) ho hd;let ux:=Y7 s.H a (Obj.putSet d9 t2)
 split
 .let r1:=relayAll_perm t2 d9 (SetTable.grown d9.L);let r2:=relayAll_fits t2 d9 (SetTable.grown d9.L);let#[r3,r4]:=_kv t2 d9 _;generalize relayAll t2 d9 _=V at r1 r2 r3 r4 ⊢;let#[es2,t3,gv]:=V;let hz:es2.L=d9.L:=by rw[<-Xk,r1.length_eq,Xk]
  show X0 (hg _ _ _ (X0 (wpAny_storeSet_of gu rfl (X4 (h _ (ux.J (Y7 _ a _)) #[_,es2,_,t3,_kw gu rfl,#[hex,rfl,hel.perm r1,by rw[hz];show hb,r2,r3.J yr,.O ?_],(r1.C _).J hp])) (fits_of_scanBound (hz▸hb)))));cases hq:t3.plain with|false=>rfl|true=>symm
 .show X4 (h _ ux #[_,d9,_,t2,gu,#[hex,rfl,hel,hb,hf,yr,.O bj],hp])
#where in
def add{a k tk ls Q}(hS:Has prog w s.H a ls)(hl:ls.B+1<scanBound)
  (h:∀b h',Heap.SameBut a s.H h'->Has prog w h' a (step_dedup ls k)->Q b {s with heap:=h' }):wpAny (model prog w) A (setAddHashed a (.x k tk) ((PySem.strKind prog w).hash k)) Q E s:=by
 let#[o,es,ep,t,ho,hk,hp]:=hS;let hsz:es.L=ls.B:=by rw[<-hp.length_eq];ext YJ;rw[X5,Xk]
 let jm:(PySem.strKind prog w).is k (.x k tk)=true:=strKind_is _ _ _ _;let hmk:=(_kt hk.el k).J hp.ê;show Yd (X0 (Yn ho hk.d hk.f ?_));right;rw[byScan_of rfl hk.b hk.el];show X0 (X0 (Zp (X0 (wpAny_setScan_of jm ho hk.d hk.f hk.el ?_))));cases hr:List.findIdx? _ es.R with
 | some j=>
  right;let#[hj,hpj,_]:=List.findIdx?_eq_some_iff_getElem.mp hr;let ff:=hmk.mp #[_,Xm hj,hpj];let av:step_dedup ls k=ls:=by ext step_dedup;rw[X7 (List.any_eq_true.s #[k,ff,by simp])]
  show X4 (X4 ?_);let:=h false s.H (Heap.SameBut.ò a s.H) (by rw[av];show#[o,es,ep,t,ho,hk,hp])
  symm
 | none=>
  let hni:k∉ls:=λff=>by
   let#[e,he,hq]:=hmk.s ff
   grind
  let av:step_dedup ls k=ls++[k]:=by
   ext step_dedup
   symm
  rw[av]at h;let hgw:∀b {s₁ Q'},Q' () s₁->wpAny (model prog w) A (match b with|true=>PySem.rule "set.scan.the-table-gave-way" | false=>pure ()) Q' E s₁:=
   λb s₁ Q' hq=>by cases b<;>first|show X4 hq|show Zp hq
  let l1:=layNew_perm t es ((PySem.strKind prog w).hash k) (.x k tk);let l2:=layNew_fits t es ((PySem.strKind prog w).hash k) (.x k tk);let#[l3,l4]:=_ku t es _ _;generalize layNew t es _ _=V at l1 l2 l3 l4 ⊢;let#[d9,t1,wd,gv]:=V;rw[Array.toList_push]at l1;let vn:=(hk.el.í jm rfl).perm l1;let ro:d9.L=ls.B+1:=by rw[<-Xk,l1.length_eq,Xi,Xk,hsz];rfl
  let hp1:(YJ d9.R).á (ls++[k]):=by
   show(l1.C λe=>strOf e.2).J ?_;rw[Xg];show hp.append (List.á.ò _)
  show X0 (hgw _ ?_)
  split
  .show X0 (X4 (tail ?_ ho hk.d hk.ex vn (ro▸hl) (SetTable.fits_plain_off l2) (l3.J hk.led) rfl hp1 λh' a1 a2=>?_))
   .intro b s₁ Q' hq;cases b<;>first|show X4 hq|show Zp hq
   .show X4 (h true h' a1 a2)
  .revert bj;show X0 (X4 (tail ?_ ho hk.d hk.ex vn (ro▸hl) l2 (l3.J hk.led) (Bool.eq_false_iff.s bj) hp1 λh' a1 a2=>?_))
   .intro b s₁ Q' hq;cases b<;>first|show X4 hq|show Zp hq
   .show X4 (h true h' a1 a2)
def dd(ss:List Str):List Str:=ss.foldl step_dedup []
def _kx{ss:List Str}{i x}(h:ss[i]?=@x):dd (ss.take (i+1))=step_dedup (dd (ss.take i)) x:=by
 ext dd;rw[List.take_succ,h,List.foldl_append];rfl
def _ky ss:(dd ss).B<=ss.B:=foldl_step_dedup_nil_length_le ss
def _kz:∀{vs ss},StrsAre vs ss->∀(i:Nat) (v),vs[i]?=@v->∃x t,v=.x x t/\ss[i]?=@x
 |_,_,.nil,i,v,h=>by cases i<;>cases h|_,_,.æ x t r,0,v,h=>by cases _aa h;show#[x,t,rfl,rfl]|_,_,.æ x t r,i+1,v,h=>_kz r i v h
def _kA:∀{vs ss},StrsAre vs ss->vs.B=ss.B
 |_,_,.nil=>rfl|_,_,.æ x t r=>congrArg _ (_kA r)
def Has.same'{h h' a ls}(x:Has prog w h a ls)(e:∀b o,h.get? b=@o->o.cls≠.l "list_iterator"->h'.get? b=@o):Has prog w h' a ls:=by
 let#[o,es,ep,t,ho,r]:=x;show#[o,es,ep,t,e _ _ ho (by rw[r.1.ex.1];decide),r]
def fresh(w:World):Obj:={cls:=.l "set",dict:=none,data:=.ç (List.G []) 0 (.fresh 0 0 (!tx w))}
def _kB{h a}(e:h.get? a=@(fresh w)):Has prog w h a []:=
 #[_,(List.G []),0,.fresh 0 0 _,e,#[#[rfl,rfl,rfl],rfl,(nofun),.q,by rfl,rfl,.h rfl],.ò _]
def made(a){Q₁}(h:Q₁ (.I ↥s) {s with heap:=s.H.í (fresh w)}):
  codeAny (model prog w) A (.call (.u "set.__new__") #[[.l "set",a],[]]) (wants Q₁ E) s:=by
 show codeAny_of_tree (X0 (wpAny_of_eq (F.newCall_set_1 a) (X4 #[Za F.plain_set_new _,Yr F.entry_set_new ?_])));ext Builtin.«set.__new__» Builtin.Frozenset.newClass;let bw:=sub_set_self
 wp_walk
 show wpAny_askSetting (X4 (X0 (wpAny_alloc (X4 (X4 h)))))
def _kC{R I fp wr G n P St}{C:Nat->Heap->Prop}(W:WalksS prog w A.in1 I fp wr G n P St)(S)(oz:S∉fp)
  (yg:∀i s,St i s->∀b>wr,∀ob,s.H.get? b=@ob->ob.cls=.l "list_iterator")
  (same:∀{i h h'},C i h->(∀b o,h.get? b=@o->o.cls≠.l "list_iterator"->h'.get? b=@o)->C i h')
  (step:∀{i v} {s:Shared} {Q E},P i v->i<n->C i s.H->(∀b h' tk,s.toks<=tk->Heap.SameBut S s.H h'->C (i+1) h'->Q b {s with heap:=h',toks:=tk})->wpAny (model prog w) A.in1 (setAdd S v) Q E s):
  ∀k i (s),n - i=k->i<=n->St i s->C i s.H->(∀s',Moved (S::wr) G s s'->C n s'.H->R (.ok (.ret .ã)) s')->codeAny (model prog w) A (.u "set.update.loop" #[[.I S,.I I],[]]) R s:=by
 let bw:∀b>wr,b>S::wr:=λb hb=>_ad _ hb
 intro k
 induction k with
 | zero=>
  intro i s hk hi av hS hR;cases(show i=n by lia);show Yr F.entry_set_update_loop (X0 (W.done s _ _ av λs' hm=>(X4 (hR s' (hm.mono bw) (same hS λb o e c=>hm.H b o (λz=>c (yg _ _ av b z o e)) e)))))
 | succ k ih=>
  intro i s hk hi av hS hR;show Yr F.entry_set_update_loop (X0 (W.item i s _ _ .q av λv s' hP nq hm=>?_));show X0 (Yd (step hP .q (same hS λb o e c=>hm.H b o (λz=>c (yg _ _ av b z o e)) e) λb h' tk ht a1 a2=>?_));show X4 #[Za F.plain_set_update_loop _,ih _ _ (by omega) .q (W.frame _ s' _ _ nq ht λb hb o e=>?_) a2 λlq nz nw=>?_]
  .rw[a1.2 b (λh:b=S=>oz (h▸hb))];show e
  .show hR lq (Moved.J W.gtrans ((hm.mono bw).then_heap ht λb o hb e=>?_) nz) nw;rw[a1.2 b (λh:b=S=>hb (h▸X3))];show e
set_option maxHeartbeats 8000000 in
def _kD{l}{items:Array Value}{C:Nat->Heap->Prop}{Q}(hh:A.õ=none)(hl:s.H.IsList l items)
  (h0:∀h',(∀b o,s.H.get? b=@o->h'.get? b=@o)->h'.get? ↥s=@(fresh w)->C 0 h')
  (same:∀{i h h'},C i h->(∀b o,h.get? b=@o->o.cls≠.l "list_iterator"->h'.get? b=@o)->C i h')
  (step:∀{i v} {s':Shared} {Q E},items[i]?=@v->i<items.L->C i s'.H->(∀b h' tk,s'.toks<=tk->Heap.SameBut ↥s s'.H h'->C (i+1) h'->Q b {s' with heap:=h',toks:=tk})->wpAny (model prog w) A.in1.in1.in1 (setAdd ↥s v) Q E s')
  (h:∀h' (tk:Nat),C items.L h'->(∀b o,b<↥s->s.H.get? b=@o->h'.get? b=@o)->Q (.I ↥s) {s with heap:=h',toks:=tk}):
  wpAny (model prog w) A (call (.l "set") [.I l]) Q E s:=by
 let#[c,tl,hmro]:=F.called_set.mro;let hmade:=F.called_set.made;let bw:=F.called_set.sub;show wpAny_call (codeAny_of_tree ?_);change wpAny _ _ (callAny (.l "set") _) _ _ _;show X4 #[Code.quiet_builtin _ (by decide +kernel),Yr F.entry_type_call ?_];rw [Around.under_plain (weight_type_call_type "set" [.I l] []) rfl];let h1:=F.called_set.notType;let h2:=F.called_set.canCreate;let hct:=F.typeCall_set_1 (.I l)
 repeat (any_goals (first|assumption|wp_step))
 show codeAny_mono (made (.I l) (E:=E) (Q₁:=λobj s₁=>obj=.I ↥s/\s₁={s with heap:=s.H.í (fresh w)}) #[rfl,rfl]) λr s₁ hr=>?_
 cases r with
 | error e=>show hr
 | ok fl=>
 cases fl with
 | ret obj=>
  let#[rfl,rfl]:=hr;let hS:(s.H.í (fresh w)).get? ↥s=@(fresh w):=X9 _ rfl;let hT:Shared.TypeIs {s with heap:=s.H.í (fresh w)} (.I ↥s) "set":=#[_,hS,rfl];let hli:=F.called_set.init.U;let hbi:=F.called_set.init.bind (.I ↥s)
  repeat (any_goals (first|assumption|wp_step))
  show codeAny_mono (codeAny_call_builtin (R:=wants (λr s₂=>r=.ã/\∃h' tk,s₂={s with heap:=h',toks:=tk}/\C items.L h' /\
    (∀b o,b<↥s->s.H.get? b=@o->h'.get? b=@o)) E) F.called_set.init.plain F.entry_set_init (check_set_init_1 hT ?_)) λr₂ s₂ hr₂=>?_
  .let#[ol,hol,de,nl,u6]:=hl;let#[ocls,vf,odata,t7]:=ol;simp only at de u6;subst de;subst u6;let hol':(s.H.í (fresh w)).get? l=some {cls:=.l "list",dict:=vf,data:=.seq items nl,slots:=t7}:=X2 _ hol;let hsls:=F.sub_list_set;let hslf:=F.sub_list_frozenset;let bc:(Value.l "list" == Value.l "dict")=false:=by rfl
   let lh:(s.H.í (fresh w)).IsList l items:=#[_,hol',rfl,nl,rfl];let sj:l<↥s:=Xh hol;let uo:({cls:=.l "set",dict:=none,data:=.ç (List.G []) 0 (.fresh 0 0 (!tx w))}:Obj)=fresh w:=rfl;ext Builtin.«set.__init__» noKeywords Builtin.Frozenset.updateFrom;generalize hPI:pyIter=PI
   wp_walk
   subst hPI;show Zf lh ?_;show X0 (wpAny_runValue ?_);let hh3:A.in1.in1.in1.õ=none:=by simp[hh]
   let hsz:(s.H.í (fresh w)).objs.L=↥s+1:=Zo ..;show _kC (C:=C) ((Walks.list hh3 _ l (by rw[hsz];show Xl (Z3 sj)) items).toS) ↥s (by rw[hsz];dsimp[Zy,Yv,or_false,not_or];show#[Xl (J0 _),Zv sj]) (λi s av b hbm ob jc=>?_) same step (items.L - 0) 0 _ (by simp) (Y9 _)
    #[#[_,X9 _ rfl,rfl,rfl],lh.í _] (h0 _ (λb o e=>X2 _ (X2 _ e)) (X2 _ hS)) ?_
   .rw[aC hbm]at jc;let#[#[o',iq,i5,_],_]:=av;rw[iq]at jc;cases jc;show i5
   .intro s' hm il;let#[h',g',d',og,qf]:=s';let eg:g'=s.gens:=hm.gens;let ed:d'=s.drawn:=hm.drawn;let eo:qf=s.os:=hm.os;subst eg;subst ed;subst eo;change wpAny _ _ _ _ _ _;show X4 ?_;change wpAny _ _ (ret Value.ã) _ _ _;show X4 #[rfl,h',og,rfl,il,λb o hb e=>?_];show hm.H b o (by dsimp[Zy,Yv,or_false,not_or];rw[hsz];show#[Xl hb,Xl (Z3 hb)]) (X2 _ (X2 _ e))
  .cases r₂ with
   | error e=>show hr₂
   | ok fl₂=>
    cases fl₂ with
    |ret r=>
     let#[rfl,h',tk,rfl,il,aq]:=hr₂
     repeat (any_goals (first|assumption|wp_step))
     show h _ _ il aq
    |_=>show hr₂.è
 |_=>show hr.è
def _kE{l items ss Q}(hh:A.õ=none)(hl:s.H.IsList l items)(hi:StrsAre items.R ss)(hb:items.L+1<scanBound)
  (h:∀h' (tk:Nat),Has prog w h' ↥s (dd ss)->(∀b o,b<↥s->s.H.get? b=@o->h'.get? b=@o)->Q (.I ↥s) {s with heap:=h',toks:=tk}):
  wpAny (model prog w) A (call (.l "set") [.I l]) Q E s:=by
 show _kD (C:=λi h=>Has prog w h ↥s (dd (ss.take i))) hh hl (λh' _ e=>_kB e) (λhS e=>hS.same' e) (fun {i v s'} {Q E} hv jh hS hQ=>?_) λh' tk hS=>h h' tk ?_
 .let#[x,t,rfl,hx]:=_kz hi i v (by rw[Xr];show hv);show Yd (X0 ((PySem.strKind prog w).pyHash (strKind_is _ _ _ _) ?_));let ij:(dd (ss.take i)).B+1<scanBound:=by let:=_ky (ss.take i);rw[Z1]at this;lia
  show add hS ij λb h' a1 a2=>?_
  rw[<-_kx hx]at a2;show hQ b h' _ (Nat.le_succ _) a1 a2
 .rwa [show items.L=ss.B by rw[<-_kA hi,Xk],List.take_length]at hS
end
def slot_next:Slot "set_iterator" "__next__" "set_iterator.__next__" :=
 .of (owner:="set_iterator") (n:="__next__") (by kernel_rfl) (by decide +kernel) (by decide +kernel) (by decide +kernel)
  (by first|show .O (by decide +kernel)|show .h (by decide +kernel)) (by kernel_rfl)
def _kF:Slot "set_iterator" "__iter__" "set_iterator.__iter__" :=
 .of (owner:="set_iterator") (n:="__iter__") (by kernel_rfl) (by decide +kernel) (by decide +kernel) (by decide +kernel)
  (by first|show .O (by decide +kernel)|show .h (by decide +kernel)) (by kernel_rfl)
def _kG:entryFor table "set_iterator.__next__"=@Builtin.«set_iterator.__next__»:=entryFor_of_tree (by kernel_rfl)
def _kH:entryFor table "set_iterator.__iter__"=@Builtin.«dict_keyiterator.__iter__»:=entryFor_alias (id':="dict_keyiterator.__iter__") (by kernel_rfl) rfl (by decide +kernel) (by kernel_rfl)
def _kI:entryFor table "set.__iter__"=@Builtin.«frozenset.__iter__»:=entryFor_alias (id':="frozenset.__iter__") (by kernel_rfl) rfl (by decide +kernel) (by kernel_rfl)
def _kJ(a):argsOk "set_iterator.__next__" #[[a],[]]:=by kernel_rfl
def _kK(a):argsOk "set_iterator.__iter__" #[[a],[]]:=by kernel_rfl
def _kL(a):argsOk "set.__iter__" #[[a],[]]:=by kernel_rfl
section
def _kM(hn:n≠0)(h:∀i d,i<n->Q i {s with drawn:=d}):wpAny (model prog w) A (choose src n) Q E s:=
 λ_ _ _=>#[hn,h _ _ (Nat.mod_lt _ (Nat.pos_of_ne_zero hn))]
def _kN:∀{l:List α} {i} (h),(l[i]::l.eraseIdx i).á l
 |a::l,0,h=>List.á.ò _
 |a::l,i+1,h=>by
  show(List.á.swap a _ _).J ((_kN (Nat.lt_of_succ_lt_succ h)).æ a)
def drawn:∀n xs s {Q:List α->Shared->Prop},xs.B=n->(∀ys d,ys.á xs->Q ys {s with drawn:=d})->wpAny (model prog w) A (drawOrder n xs) Q E s
 | 0,xs,s,Q,hl,h=>by
  cases xs with|nil=>show X4 (h [] s.drawn (.ò _))|cons=>cases hl
 | n+1,xs,s,Q,hl,h=>by
  cases xs with
  |nil=>cases hl
  |cons x xs=>
   ext drawOrder;show X0 (_kM (by simp) λi d hi=>?_);rw[X1 hi];show X0 (drawn n _ _ (by rw[List.length_eraseIdx,X7 hi];show Zx hl) λys d' hp=>(X4 (h _ d' ((hp.æ _).J (_kN hi)))))
def _kO(f):∀n k (l) (out:Array α),l.B=n->(pickOrder.go f n k l out).R.á (out.R++l)
 |0,k,l,out,hl=>by
  cases l with|nil=>ext pickOrder.go;simp|cons=>cases hl
 |n+1,k,l,out,hl=>by
  let hi:f k % l.B<l.B:=Nat.mod_lt _ (by symm);ext pickOrder.go;rw[X1 hi];show(_kO f n _ _ _ (by rw[List.length_eraseIdx,X7 hi];symm)).J ?_;rw[Array.toList_push,Y3];show(List.á.ò _).append (_kN hi)
def _kP f (xs:Array α):(pickOrder f xs).R.á xs.R:=by
 show _kO f _ 0 _ (List.G []) (by rfl)
end
section
def It(h:Heap)(I a:Addr)(f:Value)(i n ep:Nat):Prop:=∃o,h.get? I=@o/\o.cls=.l "set_iterator"/\o.data=.fields %[f,.E i 0,.I a,.E n 0,.E ep 0|0]
def It.at'(x:It h I a f i n ep)(e:∀o,h.get? I=@o->h'.get? I=@o):It h' I a f i n ep:=by
 let#[o,ho,r]:=x;show#[o,e _ ho,r]
def Stn(h:Heap)(a:Addr)(n ep:Nat):Prop:=∃o es t,h.get? a=@o/\o.data=.ç es ep t/\t.fits es.L=true/\es.L=n
def _kQ(fv:It s.H I a f i n ep)(h:Q (.I I) s):wpAny (model prog w) A (pyIter (.I I)) Q E s:=by
 let#[o,ho,hc,hd]:=fv;let hT:s.TypeIs (.I I) "set_iterator":=#[o,ho,hc];show wpAny_pyIter_slot hT _kF (Y8 _kF hT _kH ?_ (_kK _));show X4 #[_,rfl,"set_iterator",_,hT,slot_next.U,h]
def _kR{sl nx i n ep:Nat}(fv:It s.H I a (.E sl 0) i n ep)(hs:Stn s.H a n ep)
  (hN:∀(A':Around) (E':VP9) (R:Option (Value×Nat)->Shared->Prop),R @(v,nx) s->wpAny (model prog w) A' (setNext a sl i ep) R E' s)
  (hQ:∀h',It h' I a (.E nx 0) (i+1) n ep->Heap.SameBut I s.H h'->Q @v {s with heap:=h' }):wpAny (model prog w) A (pyNext (.I I)) Q E s:=by
 let#[o,ho,hc,hd]:=fv;let#[os,es,t,t8,bv,hf,hn]:=hs;let hT:s.TypeIs (.I I) "set_iterator":=#[o,ho,hc];show X0 (wpAny_attempt (Yl hT slot_next (Y8 slot_next hT _kG ?_ (_kJ _))));change wpAny _ _ (fieldsOf _ >>= _) _ _ s;show X0 (Zq ho hd ?_);show X0 (wpAny_setEntries_of t8 bv hf ?_);rw[Xd (by rw[hn];simp)];change wpAny _ _ _ _ _ s;show X0 (hN _ _ _ ?_);show X0 (Yq ho hd (by simp) ?_);let rn:=Yy hd (·.þ 0 (rawInt nx));let gu:=Ye _ ho (Z9 rn);show X0 (Yq gu rn (by simp) (X4 #[v,rfl,X4 (hQ _ ?_ ((Y7 ..).J (Y7 ..)))]));let jg:=Yy rn (·.þ 1 (rawInt (i+1)));show#[_,Ye _ gu (Z9 jg),(Obj.cls_mapFields ..).J ((Obj.cls_mapFields ..).J hc),?_];rw[jg];rfl
def _kS{pl:List Nat}(fv:It s.H I a (.I T) i n ep)(hs:Stn s.H a n ep)(u4:∃o k,s.H.get? T=@o/\o.data=.seq (pl.C λ(j:Nat)=>rawInt j).G k)
  (hp:pl[i]?=@p)
  (hN:∀(A':Around) (E':VP9) (R:VP9),R v s->wpAny (model prog w) A' (setNextDrawn a p ep) R E' s)
  (hQ:∀h',It h' I a (.I T) (i+1) n ep->Heap.SameBut I s.H h'->Q @v {s with heap:=h' }):wpAny (model prog w) A (pyNext (.I I)) Q E s:=by
 let#[o,ho,hc,hd]:=fv;let#[os,es,t,t8,bv,hf,hn]:=hs;let#[oT,kT,hoT,va]:=u4;let hT:s.TypeIs (.I I) "set_iterator":=#[o,ho,hc];show X0 (wpAny_attempt (Yl hT slot_next (Y8 slot_next hT _kG ?_ (_kJ _))));change wpAny _ _ (fieldsOf _ >>= _) _ _ s;show X0 (Zq ho hd ?_);show X0 (wpAny_setEntries_of t8 bv hf ?_);rw[Xd (by rw[hn];simp)];show X0 (Zc hoT va ?_);let hg:(pl.C λ(j:Nat)=>rawInt j).G[((i:Int)).M]?=@(.E p 0):=by
  rw[Xu,List.getElem?_toArray,Xf,hp];rfl
 right;rw[hg];change wpAny _ _ _ _ _ s;show X0 (hN _ _ _ ?_);let jg:=Yy hd (·.þ 1 (rawInt (i+1)));show X0 (Yq ho hd (by simp) (X4 #[v,rfl,X4 (hQ _ ?_ (Y7 ..))]));show#[_,Ye _ ho (Z9 jg),(Obj.cls_mapFields ..).J hc,?_];rw[jg];rfl
def _kT{sl i n ep:Nat}(hh:A.õ=none)(fv:It s.H I a (.E sl 0) i n ep)(hs:Stn s.H a n ep)
  (hN:∀(A':Around) (E':VP9) (R:Option (Value×Nat)->Shared->Prop),R none s->wpAny (model prog w) A' (setNext a sl i ep) R E' s)
  (hQ:∀h',Heap.ExtBut I s.H h'->Q none {s with heap:=h' }):wpAny (model prog w) A (pyNext (.I I)) Q E s:=by
 let#[o,ho,hc,hd]:=fv;let#[os,es,t,t8,bv,hf,hn]:=hs;let hT:s.TypeIs (.I I) "set_iterator":=#[o,ho,hc];show X0 (wpAny_attempt (Yl (name:=Str.ofString "__next__") hT slot_next (Y8 slot_next hT _kG ?_ (_kJ _))));change wpAny _ _ (fieldsOf (.I I) >>= _) _ _ s;show X0 (Zq ho hd ?_);show X0 (wpAny_setEntries_of t8 bv hf ?_);rw[Xd (by rw[hn];simp)];change wpAny _ _ (setNext a ((sl:Int)).M ((i:Int)).M ((ep:Int)).M >>= _) _ _ s;show X0 (hN _ _ _ ?_);show X0 (Yq ho hd (by simp) ?_);show X0 ?_;show X0 (m:=firstArgMember _ _) (wpAny_of_eq (a:=Value.ã) (by first|rfl|(lia)) ?_);show Ya ?_ (by size_fits);show X0 (wpAny_handled ?_);rw[show A.in1.õ=none from hh];show X0 (X4 (wpAny_throw ?_));show X0 (Zn (T:="StopIteration") (b:=true) #[_,X9 _ rfl,rfl] isSubtype_stop ?_);show X4 (hQ _ (((Y7 ..).extBut.í _).í _))
def _kU{pl:List Nat}(hh:A.õ=none)(fv:It s.H I a (.I T) i n ep)(hs:Stn s.H a n ep)(u4:∃o k,s.H.get? T=@o/\o.data=.seq (pl.C λ(j:Nat)=>rawInt j).G k)
  (hp:pl[i]?=none) (hQ:∀h',Heap.ExtBut I s.H h'->Q none {s with heap:=h' }):wpAny (model prog w) A (pyNext (.I I)) Q E s:=by
 let#[o,ho,hc,hd]:=fv;let#[os,es,t,t8,bv,hf,hn]:=hs;let#[oT,kT,hoT,va]:=u4;let hT:s.TypeIs (.I I) "set_iterator":=#[o,ho,hc];show X0 (wpAny_attempt (Yl (name:=Str.ofString "__next__") hT slot_next (Y8 slot_next hT _kG ?_ (_kJ _))));change wpAny _ _ (fieldsOf (.I I) >>= _) _ _ s;show X0 (Zq ho hd ?_);show X0 (wpAny_setEntries_of t8 bv hf ?_);rw[Xd (by rw[hn];simp)];show X0 (Zc hoT va ?_);let hg:(pl.C λ(j:Nat)=>rawInt j).G[((i:Int)).M]?=none:=by
  rw[Xu,List.getElem?_toArray,Xf,hp];rfl
 right;rw[hg];let rn:=Yy hd (·.þ 0 (rawInt 0));let gu:=Ye (Obj.mapFields (·.þ 0 (rawInt 0))) ho (Z9 rn);show X0 (Yq ho hd (by simp) ?_);show X0 (Yq gu rn (by simp) ?_);show X0 ?_;simp;show X0 (m:=firstArgMember _ _) (wpAny_of_eq (a:=Value.ã) (by first|rfl|(lia;rfl)) ?_);show Ya ?_ (by size_fits);show X0 (wpAny_handled ?_);rw[show A.in1.õ=none from hh];show X0 (X4 (wpAny_throw ?_));show X0 (Zn (T:="StopIteration") (b:=true) #[_,X9 _ rfl,rfl] isSubtype_stop ?_);show X4 (hQ _ ((((Y7 ..).J (Y7 ..)).extBut.í _).í _))
end
section
def _kV(hh:A.õ=none)(I a)(bc:a≠I)(hd:o.data=.ç es ep t)(hf:t.fits es.L=true){dv:List Value}(hl:dv.B=es.L)(sl:Nat->Nat)
  (hN:∀i (s) (A') (E') (R),s.H.get? a=@o->i<=es.L->R (dv[i]?.C λv=>(v,sl (i+1))) s->wpAny (model prog w) A' (setNext a (sl i) i ep) R E' s):
  Walks prog w A I [I,a] [I] es.L (λi v=>dv[i]?=@v) (λi h=>It h I a (.E (sl i) 0) i es.L ep/\h.get? a=@o) where
 sub:=λb hb=>by simp at hb;simp[hb]
 frame:=λ_ _ _ st hk=>#[st.1.at' λo e=>hk I (by simp) o e,hk a (by simp) _ st.2]
 item:=λi s Q E hi st hQ=>by
  let hv:dv[i]?=@(dv[i]'(by symm)):=X1 _;show _kR st.1 #[o,es,t,st.2,hd,hf,rfl] (λA' E' R hR=>hN i s A' E' R st.2 (J3 hi) (hv▸hR)) λh' jo iu=>(hQ _ h' s.toks hv #[jo,(iu.extBut a o bc st.2)] λb o hb e=>iu.extBut b o (λh=>hb (by simp[h])) e)
 done:=λs Q E st hQ=>by
  show _kT hh st.1 #[o,es,t,st.2,hd,hf,rfl] (λA' E' R hR=>hN es.L s A' E' R st.2 (Xb _) (by rw[Y5 (by symm)];show hR)) λh' he=>?_
  show hQ h' s.toks λb o hb e=>he b o (λh=>hb (by simp[h])) e
 self:=λ_ _ _ _ st hQ=>_kQ st.1 hQ
def _kW(hh:A.õ=none)(I a T)(bc:a≠I)(hneT:T≠I)(hd:o.data=.ç es ep t)(hf:t.fits es.L=true){pl:List Nat}(hp:pl.á (List.ä es.L))(va:oT.data=.seq (pl.C λ(j:Nat)=>rawInt j).G k):
  Walks prog w A I [I,a,T] [I] es.L (λi v=>(pl.C λj=>(es.p j (0,.ã)).2)[i]?=@v) (λi h=>It h I a (.I T) i es.L ep/\h.get? a=@o/\h.get? T=@oT) where
 sub:=λb hb=>by simp at hb;simp[hb]
 frame:=λ_ _ _ st hk=>#[st.1.at' λo e=>hk I (by simp) o e,hk a (by simp) _ st.2.1,hk T (by simp) _ st.2.2]
 item:=λi s Q E hi st hQ=>by
  let af:pl.B=es.L:=by rw[hp.length_eq,Xz]
  let hv:pl[i]?=@(pl[i]'(by symm)):=X1 _;let bf:pl[i]'⋯<es.L:=List.å.mp (hp.ê.mp (Xm _));show _kS (v:=(es.p (pl[i]'⋯) (0,.ã)).2) st.1 #[o,es,t,st.2.1,hd,hf,rfl] #[oT,k,st.2.2,va] hv (λA' E' R hR=>?_) λh' jo iu=>?_
  .show X0 (Yn st.2.1 hd hf ?_);right;rw[Xd (by simp),Xq bf];show X4 ?_;rw[Array.getD_eq_getD_getElem?,Xq bf]at hR;show hR
  .show hQ _ h' s.toks (by rw[Xf,hv];rfl) #[jo,(iu.extBut a o bc st.2.1),(iu.extBut T oT hneT st.2.2)] λb o hb e=>iu.extBut b o (λh=>hb (by simp[h])) e
 done:=λs Q E st hQ=>by
  let af:pl.B=es.L:=by rw[hp.length_eq,Xz]
  show _kU hh st.1 #[o,es,t,st.2.1,hd,hf,rfl] #[oT,k,st.2.2,va] (Y5 (by symm)) λh' he=>?_
  show hQ h' s.toks λb o hb e=>he b o (λh=>hb (by simp[h])) e
 self:=λ_ _ _ _ st hQ=>_kQ st.1 hQ
def _kX(se:tx w=true)(hd:o.data=.ç es ep t)(hf:t.fits es.L=true):
  ∀i s (A') (E') R,s.H.get? a=@o->i<=es.L->R (((pickOrder (w.params.setOrder a ep) es).R.C (·.2))[i]?.C λv=>(v,0)) s->wpAny (model prog w) A' (setNext a 0 i ep) R E' s:=by
 intro i s A' E' R ho hi hR;show X0 (Yn ho hd hf ?_);change wpAny _ _ (if tx w=true then _ else _) _ _ _;rw[X7 se,Xd (by simp)];show X0 (X0 (Yn ho hd hf ?_));change wpAny _ _ (if tx w=true then _ else _) _ _ _;rw[X7 se];show X0 (wpAny_askSetting (X4 (X4 ?_)));rw[Xf,Xr,Option.map_map]at hR;show hR
end
section
def _kY{t:SetTable}(h:t.fits n=true):t.ï.L=n:=by
 dsimp[SetTable.fits,Bool.â,beq_iff_eq]at h;show h.1
def _kZ{es:Array (Int×Value)}{pl:List Nat}(hp:pl.á (List.ä es.L)):(pl.C λj=>(es.p j (0,.ã)).2).á (es.R.C (·.2)):=by
 show(hp.C _).J (.of_eq ?_);apply List.ext_getElem
 .simp
 .intro i h1 h2;simp at h1;simp[h1]
end
end Sw
namespace Sw
open PySem PyProof.Rows Tb
section
variable {w:World}
structure IT (w:World)(o:Obj)(es:Array (Int×Value))(ep:Nat)(t:SetTable):Prop where
 c:o.cls=.l "set"
 d:o.data=.ç es ep t
 f:t.fits es.L=true
 led:t.led=!tx w
 pw:t.plain=true\/es.L<=1->t.ï.R.ñ (· < ·)
 z:es.L<=sizeLine
def slP(t:SetTable)(i:Nat):Nat:=if i=0 then 0 else t.ï.p (i - 1) 0+1
def _k0(hp:xs.R.ñ (· < ·))(hi:i<=xs.L):SetTable.below xs (if i=0 then 0 else xs.p (i - 1) 0+1)=i:=by
 let#[b1,b2,b3]:=_kj (xs:=xs) (if i=0 then 0 else xs.p (i - 1) 0+1) hp;generalize hb:SetTable.below xs (if i=0 then 0 else xs.p (i - 1) 0+1)=b at b1 b2 b3
 by_cases h0:i=0
 .subst h0;let c\/c:=Nat.eq_zero_or_pos b
  .show c
  .let:=b2 0 .q c
   symm
 .rw[Xd h0]at b2 b3;let hg:xs.p (i - 1) 0=xs[i - 1]'⋯:=by simp[Array.p,show i - 1<xs.L by lia]
  rw[hg]at b2 b3;let c\/c\/c:=Nat.lt_trichotomy b i
  .let:=b3 (i - 1) .q .q;lia
  .show c
  .let h1:=b2 i .q c;let h2:=List.pairwise_iff_getElem.mp hp (i - 1) i (by simp;grind) (by simp;lia) .q;let h2:xs[i - 1]'(by grind)<xs[i]'⋯:= ~~~h2
   grind
def _k1(se:tx w=false)(hk:IT w o es ep t)(bj:t.plain=false->¬1<es.L):
  ∀i s (A') (E') R,s.H.get? a=@o->i<=es.L->R ((es.R.C (·.2))[i]?.C λv=>(v,slP t (i+1))) s->wpAny (model prog w) A' (setNext a (slP t i) i ep) R E' s:=by
 intro i s A' E' R ho hi hR;let hsz:=_kY hk.f;show X0 (Yn ho hk.d hk.f ?_);change wpAny _ _ (if tx w=true then _ else _) _ _ _;rw[Xd (by symm)];change wpAny _ _ (if(!t.plain&&decide (1<es.L))=true then _ else _) _ _ _;rw[Xd (by
  cases hp:t.plain with
  |true=>simp
  |false=>simpa using bj hp)]
 change wpAny _ _ ((if _=true then _ else pure ()) >>= _) _ _ _;rw[Xd (by rw[hk.led,se];simp)];show X4 ?_;let hbl:SetTable.below t.ï (slP t i)=i:=_k0 (hk.pw (by cases hp:t.plain<;>simp;let:=bj hp;symm)) (hsz▸hi);rw[hbl]
 by_cases bf:i<es.L
 .let xo:i<t.ï.L:=by rw[hsz];show bf
  rw[Xq bf,Xq xo];rw[Xf,Xr,Xq bf]at hR;let hs:slP t (i+1)=t.ï[i]+1:=by ext slP;simp[xo]
  rw[hs]at hR;show hR
 .rw[Array.getElem?_eq_none .q];rw[Y5 (by rw[X5,Xk];lia)]at hR;show hR
def _k2(ho:s.H.get? a=@o)(hk:IT w o es ep t)(h:Q (!tx w&&(!t.plain&&decide (1<es.L))) s):wpAny (model prog w) A (setDrawn a) Q E s:=by
 show X0 (Yn ho hk.d hk.f (X0 (X0 (wpAny_askSetting (X4 (X4 h))))))
def _k3(ho:s.H.get? a=@o)(hk:IT w o es ep t)
  (h:∀h' (d) (I:Addr) (fp) (dv:List Value) (St),(∀b o,s.H.get? b=@o->h'.get? b=@o)->↥s<=I->(∀b>fp,b=a\/↥s<=b) ->
   (∀A',A'.õ=none->Walks prog w A' I fp [I] es.L (λi v=>dv[i]?=@v) St)->St 0 h'->dv.á (es.R.C (·.2))->Q (.I I) {s with heap:=h',drawn:=d}):wpAny (model prog w) A (pyIter (.I a)) Q E s:=by
 let hT:s.TypeIs (.I a) "set":=#[o,ho,hk.c];let mr:=Xh ho;show wpAny_pyIter_slot hT F.slot_set_iter (Y8 F.slot_set_iter hT _kI ?_ (_kL _));ext Builtin.«frozenset.__iter__» Builtin.Frozenset.slot0 slotArgs;dsimp[List.isEmpty_nil,Bool.not_true,Bool.false_eq_true,↓reduceIte,bind_assoc,List.length_nil,bne_self_eq_false];show X0 (X4 (X0 (X4 (X0 (X0 (wpAny_setEntries_of ho hk.d hk.f (X4 (X0 (_k2 ho hk ?_)))))))))
 by_cases hdr:(!tx w&&(!t.plain&&decide (1<es.L)))=true
 .rw [X7 hdr];show X0 (drawn es.L _ s (by simp) λpl d hp=>(X0 (wpAny_newTuple (X0 (wpAny_setEpoch_of (X2 _ ho) hk.d hk.f ?_)) (hsz:=by rw[X5,hp.length_eq,Xz];show hk.z))));show X0 (Ya (X4 #[_,rfl,"set_iterator",_,#[_,X9 _ rfl,rfl],slot_next.U,?_]));let hsz:(s.H.í (seqObj "tuple" (pl.C λ(i:Nat)=>rawInt i).G 0)).objs.L=↥s+1:=Zo ..;show h _ d _ [_,a,↥s] (pl.C λj=>(es.p j (0,.ã)).2) _ (λb o e=>X2 _ (X2 _ e)) (hsz▸Nat.le_succ _) (λb hb=>?_)
   (λA' hh=>_kW hh _ a ↥s (by rw[hsz];show Xl (Z3 mr)) (by rw[hsz];show Xl (J0 _)) (o:=o) (oT:=seqObj "tuple" (pl.C λ(i:Nat)=>rawInt i).G 0) hk.d hk.f hp rfl)
   #[#[_,X9 _ rfl,rfl,rfl],X2 _ (X2 _ ho),X2 _ (X9 _ rfl)] (_kZ hp)
  let rfl\/hb:=aD hb
  .show .h (hsz▸Nat.le_succ _)
  let rfl\/hb:=aD hb
  .show .O rfl
  .rw[aC hb];show .h (Xb _)
 .rw [Xd hdr];show X0 (X4 (X0 (wpAny_setEpoch_of ho hk.d hk.f (X0 (Ya (X4 #[_,rfl,"set_iterator",_,#[_,X9 _ rfl,rfl],slot_next.U,?_]))))));let hfp:∀b>[↥s,a],b=a\/↥s<=b:=λb hb=>by
   let rfl\/hb:=aD hb
   .show .h (Xb _)
   .show .O (aC hb)
  cases se:tx w with
  | true=>
   show h _ s.drawn _ [_,a] ((pickOrder (w.params.setOrder a ep) es).R.C (·.2)) _ (λb o e=>X2 _ e) (Xb _) hfp
    (λA' hh=>_kV hh _ a (Xl mr) (o:=o) hk.d hk.f (by rw[X5,(_kP _ es).length_eq,Xk]) (λ_=>0) (_kX se hk.d hk.f))
    #[#[_,X9 _ rfl,rfl,rfl],X2 _ ho] ((_kP _ es).C _)
  | false=>
   show h _ s.drawn _ [_,a] (es.R.C (·.2)) _ (λb o e=>X2 _ e) (Xb _) hfp
    (λA' hh=>_kV hh _ a (Xl mr) (o:=o) hk.d hk.f (by simp) (slP t) (_k1 se hk (by
     rw[se]at hdr
     simpa using hdr)))
    #[#[_,X9 _ rfl,rfl,rfl],X2 _ ho] (.ò _)
def _k4(hT:s.TypeIs (.I a) "set")(h:Q false s):wpAny (model prog w) A (Builtin.List.listLengthHint (.I a)) Q E s:=by
 show X0 (Yx hT F.slot_set_len.U ?_);generalize rf:_=id0
 wp_delta
 subst rf;show X0 (Zn hT sub_set_self ?_);show wpAny_ite_split (λku=>absurd ku .q) (λ_=>?_);show X0 (J6 hT ?_);show X4 h
def _k5(hh:A.õ=none)(ho:s.H.get? a=@o)(hk:IT w o es ep t)
  (h:∀h' (d) (tk) (vs),(∀b o,s.H.get? b=@o->h'.get? b=@o)->↥s<h'.objs.L->vs.á (es.R.C (·.2))->Q vs {s with heap:=h',drawn:=d,toks:=tk}):
  wpAny (model prog w) A (collect (.I a)) Q E s:=by
 let mr:a<↥s:=Xh ho;ext collect;show X0 (wpAny_runValue (Yr F.entry_proto_collect ?_));rw[Ze F.plain_proto_collect _];change wpAny _ A.in1 (newList [] >>= λl=>again (.u "list.__iadd__" #[[l,.I a],[]])) _ _ s;show X0 (Ya (X4 #[Za F.plain_list_iadd _,Yr F.entry_list_iadd ?_]));rw[Ze F.plain_list_iadd _];let gu:(s.H.í {cls:=.l "list",data:=.seq ([]:List Value).G}).get? a=@o:=X2 _ ho;let hT1:Shared.TypeIs {s with heap:=s.H.í {cls:=.l "list",data:=.seq ([]:List Value).G}} (.I a) "set":=#[o,gu,hk.c];change wpAny _ A.in1 (Builtin.List.listExtendWith (.I ↥s) (.I a) (.I ↥s)) _ _ _;ext Builtin.List.listExtendWith;show X0 (J6 hT1 ?_);let h1:Builtin.List.listSameRef (.I ↥s) (.I a)=false:=by simp[Builtin.List.listSameRef];show Zv mr
 let h2:(Value.l "set" == Value.l "list")=false:=by rfl
 let h3:(Value.l "set" == Value.l "tuple")=false:=by rfl
 dsimp[h1,h2,h3,Bool.or_false,Bool.false_eq_true,if_false];show X0 (_k3 gu hk λh' d I fp dv St cf hI hfp W st0 hv=>(X0 (Yd (_k4 #[o,cf _ _ gu,hk.c] ?_))));change wpAny _ A.in1 (PySem.rule "list.extend.makes-room" >>= λ_=>Builtin.List.listTouch (.I ↥s) >>= λ_=>
  again (.u "list.extend.loop" #[[.I ↥s,.I I,.I ↥s],[]])) _ _ _
 show X0 (Zp ?_);let hsz:(s.H.í {cls:=.l "list",data:=.seq ([]:List Value).G}).objs.L=↥s+1:=Zo ..;let hI':↥s+1<=I:=by rw[<-hsz];show hI
 let oz:↥s∉fp:=λhm=>by
  let e\/e:=hfp _ hm
  .show absurd e (Zv mr)
  .grind
 let hS₁:h'.get? ↥s=some {cls:=.l "list",data:=.seq ([]:List Value).G}:=cf _ _ (X9 _ rfl);show X0 ?_;change wpAny _ A.in1 (updateSeq ↥s (·.í .ã) >>= λ_=>updateSeq ↥s (·.pop)) _ _ _;show X0 (wpAny_updateSeq hS₁ rfl ?_);let hS₂:=Ye (Obj.mapSeq (·.í Value.ã)) hS₁ rfl;show wpAny_updateSeq hS₂ rfl ?_;let yx:∀b o,b≠↥s->h'.get? b=@o->((h'.update ↥s (Obj.mapSeq (·.í Value.ã))).update ↥s (Obj.mapSeq (·.pop))).get? b=@o:=
  λb o hb e=>(Zm _ _ (Ne.à hb)).J ((Zm _ _ (Ne.à hb)).J e)
 let WW:=W A.in1 hh;let af:dv.B=es.L:=by rw[hv.length_eq,X5,Xk]
 show X4 #[Za F.plain_extend_loop _,codeAny_extend_loopS WW.toS hk.z _ oz _ es.L 0 _ _ _ rfl (Y9 _) (WW.frame 0 h' _ st0 λb hb o e=>yx b o (λe'=>oz (e'▸hb)) e) (Ye (Obj.mapSeq (·.pop)) hS₂ rfl) (ItemsOf.nil _) λs' fu c' hm il au=>?_];change wpAny _ A (load ↥s >>= _) _ _ s';show X0 (wpAny_load il ?_);let hac:fu.R=dv:=by
  apply Zg;intro j
  by_cases hj:j<es.L
  .let hj1:j<fu.L:=by rw[au.1];show hj
   rw[Xr,Xq hj1];show(au.2 j _ (Xq hj1)).à
  .rw[Y5 (by rw[Xk,au.1];symm),Y5 (by symm)]
 show X4 ?_;rw[hac,Moved.eq_with hm];show h _ d _ dv (λb o e=>?_) (Xh il) hv;let hb:b<↥s:=Xh e;let uz:b≠↥s:=Xl hb;show hm.H b o (λhmem=>?_) (yx b o uz (cf b o (X2 _ e)));let e'\/hmem:=aD hmem
 .show uz e'
 .rw[aC hmem]at hb;show absurd hb (Nat.not_lt.s (Nat.le_of_succ_le hI'))
def _k6:∀{vs},(∀v>vs,∃x t,v=Value.x x t)->StrsAre vs (vs.C strOf)
 |[],_=>.nil
 |v::vs,h=>by
  let#[x,t,rfl]:=h v X3;show .æ x t (_k6 λv hv=>h v (_ad _ hv))
def _k7(hh:A.õ=none)(hS:Has prog w s.H a ls)
  (h:∀h' (d) (tk) (vs) (ss),(∀b o,s.H.get? b=@o->h'.get? b=@o)->↥s<h'.objs.L->StrsAre vs ss->ss.á ls->Q vs {s with heap:=h',drawn:=d,toks:=tk}):
  wpAny (model prog w) A (collect (.I a)) Q E s:=by
 let#[o,es,ep,t,ho,hk,hp]:=hS;let hsz:=_kY hk.f;show _k5 hh ho #[hk.ex.1,hk.d,hk.f,hk.led,λh1=>?_,fits_of_scanBound hk.b] λh' d tk vs cf hz hv=>h h' d tk vs (vs.C strOf) cf hz (_k6 λv hvm=>?_) ?_
 .show List.pairwise_iff_getElem.s λi j hi hj lm=>?_
  let:=hk.pl;simp at hi hj;let h1\/h1:=h1<;>grind
 .let#[e,he,rfl]:=aE (hv.ê.mp hvm);show _ks hk.el he
 .show((hv.C strOf).J (.of_eq ?_)).J hp;rw[Xp];rfl
end
end Sw
namespace Sw
open PySem PyProof.Rows
section
def _k8(hh:A.õ=none)(hS:Has prog w s.H a ls)(vt:ls.B<64)
  (h:∀h' d (tk l e) out ss,(∀b o,s.H.get? b=@o->h'.get? b=@o)->↥s<=l->h'.get? l=@(seqObj "list" out e)->StrsAre out.R ss->ss.á ls->sortedS ss=true->Q (.I l) {s with heap:=h',drawn:=d,toks:=tk}):
  wpAny (model prog w) A (call (.u "sorted") [.I a]) Q E s:=by
 show Calls.call_function_entry kind_sorted plain_sorted entry_sorted (args_sorted1 _) ?_;show X0 (X4 ?_);show X0 (_k7 (~~~hh) hS λh' d tk vs ss cf hsz hv hp=>?_);let h64':vs.B<64:=by rw[_kA hv,hp.length_eq];show vt
 show X0 (wpAny_newList ?_ (hsz:=by rw[Z0];lia));let pz:(h'.í _).get? h'.objs.L=@(seqObj "list" vs.G 0):=X9 _ rfl;show X0 (Yd (Y8 slot_list_sort #[_,pz,rfl] entry_list_sort (list_sort_treeK strKind_oneLt pz hv.keysOf (λv₁ v₂ ac e=>keyKind_strs (by rw[<-e];show hv)) h64' λfm a1 a2=>#[_,rfl,?_]) (args_list_sort _)));let#[ss',h1,h2,h3]:=sorted_out_str hv a1 a2;let#[e,he]:=sortedHeap_at pz;show X4 #[_,rfl,h _ d tk _ e _ ss' (λb o q=>?_) (J3 hsz) he h1 (h2.J hp) h3];let hb:=Xh (cf b o q);rw[sortedHeap_old (Xl hb) (by rw[size_push'];show Z3 hb)];show X2 _ (cf b o q)
end
end Sw
namespace Q
open PySem PySem.Spec PyProof.Rows L2 L3 Sw
section
def Inv.dr(I:L2.Inv X a8 σ H s):L2.Inv X a8 σ H {s with drawn:=d}:=#[I.ok,I.os,I.bare,I.base,I.loc,I.cell,I.free,I.freeC,I.pin,I.hok,I.len]
def _k9(X:Cx)(f:Value)(r:List Str->Hp->VK->Prop):Prop:=
 ∀(a8:LA9) (s:Shared) (σ:L2.St) (H:Hp) (b:Addr) (ls:List Str) (Q:VK),L2.Inv X a8 σ H s->Has X.î X.w s.H b ls->r ls H Q->∅ (call f [.I b]) (EP X a8 σ Q) X.xe s
def _la(K:Frag)(r:List Str->Hp->VK->Prop):List V->Hp->VK->Prop:=λxs H Q=>∃p ss,xs=[.I p]/\SqL K H p (ss.C V.x)/\ss.B<4000/\r (dd ss) H Q
def _lb{id}(hc:X.calm=true)(hf:_k9 X (.u id) r)(hg:Gl X x)(hm:X.mg x=none)(hv:bootBuiltins x=@(.u id))(ll:Gl X "set")(uf:X.mg "set"=none)(hv2:bootBuiltins "set"=@(.l "set"))
  (ha:PE X e t) (hn:x≠"__name__"<|>ŕ) (gf:Abd x<|>ŕ) (nr:("set":Str)≠"__name__"<|>ŕ) (hdb2:(("set":Str)==("__debug__":Str))=false<|>ŕ)
  (he:Abs e [] X<|>Ŕ):
  PE X (.ù (.é x p) [.ù (.é "set" p2) [e] [] be] [] pos) (fun σ H Q=>t σ H λv H1=>_la X.K r [v] H1 Q):=by
 intro a8 s σ H Q I h;show Yp (xQ I hg hm hv (PyProof.Rows.callWith_builtin1 ?_ rfl rfl) hn gf);change wpAny _ _ (spliced (_::[])) _ _ s;show Calls.spliced_cons (Yp (xQ I ll uf hv2 (Y0 (thn (qZ ha vJ he be a8 s σ H (λvs H1=>_la X.K r vs H1 Q) I ?_) λus s1 #[vs,H1,I1,r1,q1]=>?_) he rfl) nr hdb2))
 .show h
 let#[b,ss,rfl,hq,hl,q]:=q1;let#[u,rfl,rx]:=wj r1;cases rx;let#[aa,r',pl,hz]:=I1.list hq;let af:=r'.B;rw[X5]at af hz;show _kE (I1.ok.hd hc) pl.isList (~~~(_hK r')) (by simp;ext scanBound;lia) λh' tk hS cf=>?_
 let I2:L2.Inv X a8 σ H1 {s1 with heap:=h',toks:=tk}:=I1.kept λb u q=>cf b u (Xh q) q
 show Calls.spliced_nil (hf a8 _ σ H1 _ _ Q I2 hS q)
def _lc(hc:X.calm=true):_k9 X (.u "sorted") (λls H Q=>ls.B<64/\∀l,H l=none->Q (.I l) (upd H l (.S ((vY ls).C V.x)))):=by
 intro a8 s σ H b ls Q I hS h;show _k8 (I.ok.hd hc) hS h.1 λh' d tk l e out ss cf hl hg h1 h2 h3=>?_
 let e1:=_hE h2 h3;subst e1;let hz:(vY ls).B<=sizeLine:=by rw[(W0 ls).length_eq,Z0];lia
 show#[.I l,_,Inv.dr (I.laid (t':=tk) cf hl ?_),rfl,h.2 l (I.hok.fresh hl)];show#[by rw[X5];show hz,out.R,e,_hL h1,~~~hg]
end
section
variable {K:Frag}
def _ld(h:z>ddS ss):z>ss:=by
 let:∀(l ae:List Str),z>l.foldl (λl k=>if l.any (· == k)then l else l++[k]) ae->z>ae\/z>l:=by
  intro l
  induction l with
  | nil=>intro ae h;show .O h
  | cons k l ih=>
   intro ae h;let h\/h:=ih _ h
   .dsimp only at h
    split at h
    .show .O h
    .let h\/h:=aA h
     .show .O h
     .show .h (aC h▸X3)
   .show .h (_ad _ h)
 let h\/h:=this ss [] h
 .symm
 .show h
def rSS(K:Frag):List V->Hp->VK->Prop:=_la K λls H Q=>ls.B<64/\∀l,H l=none->Q (.I l) (upd H l (.S ((vY ls).C V.x)))
#where in
def _le:Ad1 K (λv H Q=>rSS K [v] H Q) _jX:=by
 intro H x s Q ok hf k;unfold _jX at hf;dsimp only at hf;cases hx:x.d with
 | lst ds=>
  rw[hx]at hf;dsimp only at hf;let#[l,xs,bs,ev,q3,r3,_]:=items ok (.O hx);let q3:LsR K H l xs:=by let#[_,z]\/#[z,_]:=q3;show z;rw[hx]at z;cases z
  cases hs:zX ds with
  | some ss=>
   rw[hs]at hf;dsimp only at hf
   split at hf
   .revert hl;cases _aa hf;let#[e1,e2]:=_hP hs r3;subst e1;show#[l,ss,by rw[ev],J8 q3,.q,Nat.lt_of_le_of_lt (_ky ss) hl,λp hp=>(k _ _ rfl rfl (K6 hp (_hR λz hz=>e2 z (_ld ((W0 _).ê.mp hz))) nofun))]
   .cases hf
  |none=>rw[hs]at hf;cases hf
 |_=>rw[hx]at hf;cases hf
def _lf(hK:X.K=Z.K)(hc:X.calm=true)(ha:QV X Z q a ea)(hm:X.mg "sorted"=none)(uf:X.mg "set"=none)(hg:Gl X "sorted"<|>Ŕ)(ll:Gl X "set"<|>Ŕ)(he:Abs ea [] X<|>Ŕ):
  QE X Z q (cF1 _jX a) (.ù (.é "sorted" p) [.ù (.é "set" p2) [ea] [] be] [] pos):=
 qj (_lb hc (_lc hc) hg hm rfl ll uf rfl ha (he:=he)) fun σ H Q h=>by
  let:=XY _le h
  rwa [hK]
end
end Q
namespace Q
open PySem PySem.Spec PyProof.Rows L2 L3
section
variable {X:Cx}{Z:Fx0}{K:Frag}{H:Hp}{q g:Bool}{a:Ex}{e:Expr}{p2 pos:Pos}{x:Str}{d:D}{ds:List D}{v:V}{vs:List V}
def _lg(o:Obj)(xs:List V):Prop:=o.cls=.l "tuple"/\o.dict=none/\∃aa n,o.data=.seq aa n/\aa.L<=sizeLine/\Vals xs aa.R
def _lh{b:Addr}{o:Obj}(h:K.U b=@o)(m:_lg o vs):SqT K H b vs:=by
 let#[m1,m2,aa,n,m3,m4,m5]:=m;show .h #[o,aa,n,h,m1,m2,m3,m4,m5]
def _li:RepA K H g [] [] []:=by ext RepA;show#[rfl,rfl]
def _lj(h:RepL K H g d v [])(r:RepA K H g ds vs []):RepA K H g (d::ds) (v::vs) []:=by
 ext RepA;show#[v,vs,[],[],rfl,rfl,h,r]
def _lk{b:Addr}(h:SqT K H b vs)(r:RepA K H g ds vs []):RepL K H g (.X ds) (.I b) []:=by
 ext RepL;show#[b,vs,rfl,h,r]
def _ll(K:Frag)(mg:Str->Option Value)(x:Str)(d:D):Prop:=∃v,Cst mg x v/\∀H,RepL K H false d v []
def q_CD(c:_ll Z.K X.mg x d)(hg:Gl X x<|>Ŕ)(hd:Abd x<|>ŕ):QE X Z true (cC d) (.é x pos):=by
 let#[v,c,r]:=c;show q_C (WV c hg hd) r
end
end Q
namespace Q
open PySem
def _lm(i:Nat)(c:Ex):Sm:=λE=>if V7 E[i]? then ofE (c E) λE x=>match E[i]?,x.2 with
 |some @(o,.S xs),.S ys=>if o=.r\/x.1=.r\/¬xs.B+ys.B<big then none else @(.nx (E.ç i @(.rt,.S (xs++ys))))|_,_=>none
 else none
end Q
namespace Q
open PySem PySem.Spec PyProof.Rows L2 L3
section
variable {K:Frag}
def _ln (hb:PE X (.ù (.Attribute o "extend" ay) [e] [] ah) (tBM Z.K "list" _b5 (xk i) (vx6 (tQ Z q c) xwa))) (hs:swapsWith (.ù (.Attribute o "extend" ay) [e] [] ah) none pos.line X.Y=pure false<|>Ŕ):
  QS X Z pn (_lm i c) (.Expr (.ù (.Attribute o "extend" ay) [e] [] ah) pos):=zV (_aJ hb hs) λD' σ H ai=>ex7 ai λE L r m w hc k=>by
 unfold _lm at hc;cases h0:E[i]? with
 | none=>rw[h0]at hc;cases hc
 | some s0=>
  cases s0 with
  | none=>rw[h0]at hc;cases hc
  | some s0=>
   let#[o0,d0]:=s0;cases d0 with
   | lst ds0=>
    rw [h0,X7 (show V7 @(@(o0,D.S ds0))=true from rfl)]at hc;let#[x0,a1,a2,a3,a4]:=m.get h0;show#[x0.v,a4,_gn (w.ok x0 (qX a1)) a3,(KJ m w hc k λE1 s h1 x L1 H1 e1 e2 m1 w1 st _=>?_)];cases hE:E1[i]? with
    | none=>rw[hE]at h1;cases h1
    | some s1=>
     cases s1 with
     | none=>rw[hE]at h1;cases h1
     | some s1=>
      let#[oo,dd]:=s1;rw [hE]at h1;cases dd with
      | lst ds=>
       let#[so,sd]:=s;cases sd with
       | lst ys=>
        dsimp only at h1
        by_cases ju:oo=.r\/so=.r\/¬ds.B+ys.B<big
        .rw[X7 ju]at h1;cases h1
        .rw[Xd ju]at h1;cases _aa h1;let#[y,b1,b2,b3,b4]:=m1.get hE;let hv:y.v=x0.v:=by rw[a4]at b4;show(_aa (_aa b4)).à
         let#[l,xs,bs,c1,c2,c3,c4,c5]:=_gl (w1.ok y (_ad _ (qX b1))) b3 (by rw[b2];show(λz=>ju (.O z)));let#[l2,zs,bs2,g1,g2,g3,g4,g5]:=_gl w1.head e2 (by rw[e1];show(λz=>ju (.h (.O z))));let wm:=hv▸c1;rw[wm];let oT:jk [@x]=x.ë:=by simp
         let fT:k6 [@x]=x.frz:=by simp
         let wk:∀{b ds xs bs},RepA Z.K H1 b ds xs bs->RepA Z.K H1 true ds xs bs:=fun {b ds xs} {bs} h=>by
          cases b with|true=>show h|false=>show h.wk
         show#[l,l2,xs,zs,rfl,by rw[g1],c2,g2,?_,?_]
         .let:=(wk c5).len;let:=(wk g5).len;let hb:big=sizeLine:=rfl;lia
         let#[w3,s3]:=_gm (o':=.rt) (ds':=ds++ys) (xs':=xs++zs) w1 b1 c2 c3 c4 c1 (RepA.app (wk g5) (wk c5)) (.O #[rfl,λa ha=>(aA ha).imp id λz=>by rw[oT,fT];show Sl.as_of (g3▸_ad _ z)]);show k σ _ _ Pn.ò ?_ w3 (st.J s3);let:=m1.ç (x:=#[.rt,.S (ds++ys),y.v,l::(bs++bs2)]) i;rw[Q8 b4]at this;show this
       |_=>cases h1
      |_=>symm
   |_=>rw[h0]at hc;cases hc
def _lo(h:QE X Z q c e)(hN:X.N[i]?=@x<|>Ŕ)(hv:Vis X.Y.ú x<|>ř)(hd:Abd x<|>ŕ)
  (ja:(x==("__classdict__":Str))=false<|>ŕ) (b8:attributeBase (.é x xp) "extend" X.Y (eval (.é x xp) X.Y)=eval (.é x xp) X.Y<|>Ŕ)
  (dj:autoParam (((backTo ah (starEach [e] X.Y)).all (λx=>!x.1)&&(backToKw ah (keywordEach [] X.Y)).all (λx=>x.1.isSome)
   && decide ([e].B+([]:List Keyword).B+(if([]:List Keyword).û then 0 else 1)<30))=true) Ŕ)
  (b9:Abe ay ah<|>Ŕ) (hs:Abs e [] X<|>Ŕ) (b7:Abb ah [] X<|>Ŕ) (hK:X.K=Z.K<|>Ŕ)
  (nh:swapsWith (.ù (.Attribute (.é x xp) "extend" ay) [e] [] ah) none pos.line X.Y=pure false<|>Ŕ):
  QS X Z pn (_lm i c) (.Expr (.ù (.Attribute (.é x xp) "extend" ay) [e] [] ah) pos):=_ln (_c4 Z.K Zh PySem.F.slot_list_extend PySem.F.type_list_extend _b6 (pv i hN hv hd ja) (qZ h vJ hs) b8 dj b9 hs b7 hK) nh
end
end Q
namespace Q
open PySem
def YQ:Sd->Option Sd:=λx=>match x.2 with
 |.S xs=>if qY x then @(.rt,.S xs.reverse)else none|_=>none
def _lp:D->D->Option D:=λy x=>match y with
 |.dct kvs=>if kj x=true/\unm kvs=true/\D.pures (kvs.C (·.2))=true then qw kvs x else none|_=>none
def _lq(a b:Ex):Ex:=λE=>bnd (a E) λE x=>bnd (b E) λE y=>val E ((_lp x.2 y.2).C λd=>(.dp,d))
end Q
namespace PySem
section
variable {prog:Program}{w:World}{A:Around}{E:VP9}{s:Shared}
def _lr:typeLookup (.l "list_reverseiterator") "__len__"=pure none:=am_miss_of_fast (by decide +kernel)
def _ls:typeLookup (.l "list_reverseiterator") "__length_hint__"=pure (@(.u "list_reverseiterator.__length_hint__")):=by
 rw[typeLookup_type,builtinLookup_eq_fast];let h:fastLookup "list_reverseiterator" "__length_hint__"=@(@(.u "list_reverseiterator.__length_hint__")):=by kernel_rfl
 dsimp[h]
def V8{α:Type}{c:Prop}[Decidable c]{M:Model}{t e:Sem α}{Q:α->Shared->Prop}(h:¬c)(k:wpAny M A e Q E s):wpAny M A (if c then t else e) Q E s:=by rw[Xd h];show k
def _lt{α:Type}{c:Prop}[Decidable c]{M:Model}{t e:Sem α}{Q:α->Shared->Prop}(h:c)(k:wpAny M A t Q E s):wpAny M A (if c then t else e) Q E s:=by rw[X7 h];show k
def _lu{r l:Addr}{i:Int}{Q:Bool->Shared->Prop}(hr:s.H.IsRevIter r l i)(h:Q false s):wpAny (model prog w) A (Builtin.List.listLengthHint (.I r)) Q E s:=by
 let hT:=hr.typeIs;ext Builtin.List.listLengthHint;show X0 (Yx hT _lr ?_);right;show V8 .q (V8 .q (X0 (Yx hT _ls ?_)));let sp:splitId "list_reverseiterator.__length_hint__"=@("list_reverseiterator","__length_hint__"):=by decide +kernel
 right;dsimp[sp];show X0 (Zn (b:=true) hT (by first|show F.sub_lri_self|show isSubtype_self _|rfl) ?_);show V8 .q (_lt (by decide +kernel) (V8 .q (X4 h)))
def _lv{Q:VP9}{I l:Addr}{items:Array Value}(hh:A.õ=none)(hI:s.H.IsRevIter I l (items.L - 1))(hl:s.H.IsList l items)(bc:l≠I)(hz:items.L<=sizeLine)
  (h:∀(h':Heap) (tk:Nat) (ae:Array Value) (c:Nat),(∀b o,b≠I->s.H.get? b=@o->h'.get? b=@o)->h'.get? ↥s=some {cls:=.l "list",data:=.seq ae c}->ItemsOf (λi v=>items[items.L - 1 - i]?=@v) ae items.L->Q (.I ↥s) {s with heap:=h',toks:=tk}):
  wpAny (model prog w) A (call (.l "list") [.I I]) Q E s:=by
 show callType_codes (Q₁:=λobj s₁=>obj=Value.I ↥s/\s₁={s with heap:=s.H.í {cls:=Value.l "list",data:=Data.seq (List.G [])}}) F.called_list (F.typeCall_list_1 _) F.entry_list_init (code_list_new _ #[rfl,rfl]) ?_;rintro obj s₁ ⟨rfl,rfl⟩;let db:(s.H.í {cls:=Value.l "list",data:=Data.seq (List.G [])}).get? ↥s=some {cls:=Value.l "list",data:=Data.seq (List.G [])}:=X9 _ rfl;let hT:Shared.TypeIs {s with heap:=s.H.í {cls:=Value.l "list",data:=Data.seq (List.G [])}} (.I ↥s) "list":=#[_,db,rfl];let hI':(s.H.í {cls:=Value.l "list",data:=Data.seq (List.G [])}).IsRevIter I l (items.L - 1):=hI.at λo e=>X2 _ e
 show#[hT,F.args_list_init_2 _ _,?_];let hm:∃n,Obj.mapSeq (λ_=>(List.G [])) ({cls:=Value.l "list",data:=Data.seq (List.G [])}:Obj)={cls:=Value.l "list",data:=Data.seq (List.G []) n}:=#[_,by ext Obj.mapSeq;rfl];let#[n0,hm]:=hm;let uk:↥s≠I:=λe=>by
  let#[o,ho,_]:=hI;show absurd (Xh ho) (by rw[e];show Yt _)
 let yz:↥s≠l:=λe=>by
  let#[o,ho,_]:=hl;show absurd (Xh ho) (by rw[e];show Yt _)
 ext Builtin.«list.__init__»;show V8 (nofun) (V8 (λz=>absurd z (by simp)) (X0 (PyProof.Rows.listItems_at db rfl (X0 (PyProof.Rows.listUpdate_at db rfl ?_)))));let sb:=Y7 (s.H.í {cls:=Value.l "list",data:=Data.seq (List.G [])}) ↥s (Obj.mapSeq (λ_=>(List.G [])));let hS:=Ye (Obj.mapSeq (λ_=>((List.G []):Array Value))) db rfl;rw[hm]at hS;generalize (s.H.í {cls:=Value.l "list",data:=Data.seq (List.G [])}).update ↥s (Obj.mapSeq (λ_=>(List.G [])))=h1 at sb hS;let hI1:h1.IsRevIter I l (items.L - 1):=hI'.at λo e=>sb.extBut I o (Ne.à uk) e
 let lh:h1.IsList l items:=by
  let#[o,ho,r]:=hl;show#[o,sb.extBut l o (Ne.à yz) (X2 _ ho),r]
 show X0 (wpAny_letGo ?_);change wpAny _ _ (Builtin.List.listExtendWith (.I ↥s) (.I I) .ã) _ _ _;ext Builtin.List.listExtendWith;let hT1:Shared.TypeIs {s with heap:=h1} (.I I) "list_reverseiterator":=hI1.typeIs;show X0 (J6 hT1 (V8 ?_ ?_))
 .let e1:Builtin.List.listSameRef (.I ↥s) (.I I)=false:=by
   change(↥s==I)=false;show Yj uk
  rw[e1];decide
 show X0 (wpAny_pyIter_revIter hI1 (X0 (Yd (_lu hI1 ?_))));show V8 .q ?_;let W:=(Walks.listRev (prog:=prog) (w:=w) (A:=A.in1.in1) (by simp[hh]) I l bc items).toS;show X4 #[Za (by decide +kernel) _,?_];show codeAny_extend_loopS (A:=A.in1) W hz ↥s ?_ .ã (items.L - 0) 0 _ (List.G []) n0 rfl (Y9 _) #[Y9 _,~~~hI1,lh] hS #[rfl,λj v e=>by simp at e] λs' fu c' ia il au=>?_
 .dsimp[Zy,Yv,or_false,not_or];show#[uk,yz]
 .let#[h2,g',d',og,qf]:=s';let eg:g'=s.gens:=ia.gens;let ed:d'=s.drawn:=ia.drawn;let eo:qf=s.os:=ia.os;subst eg;subst ed;subst eo;show#[rfl,h h2 og fu c' (λb o hb e=>?_) il au];let bf:=Xh e;show ia.H b o ?_ (sb.extBut b o (Xl bf) (X2 _ e));dsimp[Zy,Yv,or_false,not_or];show#[Xl bf,hb]
end
end PySem
namespace Q
open PySem PySem.Spec PyProof.Rows L2 L3
section
variable {X:Cx}{Z:Fx0}{pn:List Nat}{q:Bool}{a b:Ex}{e ea:Expr}{p pos:Pos}
def _lw{ta:TE}{p2 be:Pos}(ha:PE X ea ta)(qe:X.mg "reversed"=none)(ql:X.mg "list"=none)(hc:X.calm=true<|>Ŕ)(qr:Gl X "reversed"<|>Ŕ)(pe:Gl X "list"<|>Ŕ)
  (av:Abs ea [] X<|>Ŕ) (bj:Abb be [] X<|>Ŕ)
  (ik:starEach [.ù (.é "reversed" p2) [ea] [] be] X.Y=(false,eval (.ù (.é "reversed" p2) [ea] [] be) X.Y)::starEach [] X.Y<|>Ŕ) (lf:Abb pos [] X<|>Ŕ):
  PE X (.ù (.é "list" p) [.ù (.é "reversed" p2) [ea] [] be] [] pos) (fun σ H Q=>ta σ H λv H1=>∃l ys,[v]=[.I l]/\SqL X.K H1 l ys/\∀pp,H1 pp=none->Q (.I pp) (upd H1 pp (.S ys.reverse))):=by
 intro a8 s σ H Q I h;show Yp (xQ I pe ql Vk ?_);show Y0 ?_ ik lf;rw[ik];change wpAny _ _ (spliced ((false,eval (.ù (.é "reversed" p2) [ea] [] be) X.Y)::backTo pos (starEach [] X.Y))) _ _ s;show Calls.spliced_cons (thn (Q:=λu s2=>∃(H1:Hp) (I0 l:Addr) (ys:List V) (aa:List Value),u=.I I0/\L2.Inv X a8 σ H1 s2/\wW X a8 H1 I0/\s2.H.IsRevIter I0 l (aa.G.L - 1)/\s2.H.IsList l aa.G/\l≠I0/\Vals ys aa/\ys.B<=sizeLine/\∀pp,H1 pp=none->Q (.I pp) (upd H1 pp (.S ys.reverse))) ?_ λu s2 hu=>?_)
 .show Call_ (xQ I qr qe boot_reversed (Y0 (thn (qZ ha vJ av be a8 s σ H (λvs H1=>∃l ys,vs=[.I l]/\SqL X.K H1 l ys/\∀pp,H1 pp=none->Q (.I pp) (upd H1 pp (.S ys.reverse))) I ?_) λus s1 #[vs,H1,I1,r1,l,ys,e,hq,q1]=>?_) av bj))
  .show h
  .subst e;let#[u,rfl,rx]:=wj r1;cases rx;let#[aa,r',pl,hz]:=I1.list hq;show call_reversed_list pl.isList #[H1,↥s1,l,ys,aa,rfl,I1.kept (t':=s1.toks) (λb o e=>X2 _ e),I1.fpOk (Xb _) (I1.hok.fresh (Xb _)),#[_,X9 _ rfl,rfl,rfl],pl.isList.í _,?_,r',hz,q1];let#[o,ho,_]:=pl.isList;show Xl (Xh ho)
 .let#[H1,I0,l,ys,aa,rfl,I2,f0,hri,hls,bc,hv,hz,hq]:=hu;show thn (Calls.spliced_nil (Q:=λus s3=>us=[]/\s3=s2) #[rfl,rfl]) ?_;rintro us s3 ⟨rfl,rfl⟩;show _lv (I.ok.hd hc) hri hls bc (by rw[Xe,<-hv.B];show hz) λh' tk ae c kp e fv=>?_
  let fT:wW X a8 H1 ↥s3:=I2.fpOk (Xb _) (I2.hok.fresh (Xb _));let I3:L2.Inv X a8 σ H1 {s3 with heap:=h',toks:=tk}:=_dl [I0] I2 (λb o hb ee=>kp b o (λz=>hb (by rw[z];show X3)) ee) (λb hb=>by rw[aC hb];show f0);let hva:Vals ys.reverse ae.R:=by
   let#[hs,hg]:=fv;let hs:ae.L=aa.B:= ~~~hs
   rw[Xe]at hg;let hl:=hv.B;show _g5 (by simp[hs,hl]) λi x u ex eu=>?_
   rw[Xr]at eu;let hi:i<aa.B:=by rw[<-hs];show(Array.getElem?_eq_some_iff.mp eu).1
   let h2:=hg i u eu;rw[List.getElem?_reverse .q]at ex;let#[u',hu',ru']:=hv.get ex;rw[List.getElem?_toArray,show aa.B - 1 - i=ys.B - 1 - i by lia,hu']at h2;cases _aa h2;show ru'
  let I4:=_cH (a:=↥s3) (o:=.S ys.reverse) I3 fT.1 fT.2.1 fT.2.2.2.1 fT.2.2.2.2.1 fT.2.2.2.2.2 (show ObjOk X.î X.w _ h' _ (.S ys.reverse)from#[by rw[List.length_reverse];show hz,ae.R,c,hva,~~~e]);show#[.I ↥s3,_,I4,rfl,hq _ fT.1]
def _lx{g:Bool}{K:Frag}{H:Hp}:∀{ds:List D} {xs:List V} {as:List Addr},RepA K H g ds xs as->∃i9,RepA K H g ds.reverse xs.reverse i9/\∀b>i9,b>as
 |[],xs,as,h=>by
  unfold RepA at h;let#[rfl,rfl]:=h;show#[[],by ext RepA;show#[rfl,rfl],λ_ z=>z]
 |d::ds,xs,as,h=>by
  unfold RepA at h;let#[x,r,bs,cs,rfl,rfl,h1,h2]:=h;let#[i9,i1,i2]:=_lx h2;show#[i9++bs,by rw[List.reverse_cons,List.reverse_cons];show RepA.snoc h1 i1,λb hb=>?_];let z\/z:=aA hb
  .show _ab _ (i2 b z)
  .show _ac _ z
def _ly(K:Frag):V->Hp->VK->Prop:=λv H Q=>∃l ys,[v]=[V.I l]/\SqL K H l ys/\∀pp,H pp=none->Q (.I pp) (upd H pp (.S ys.reverse))
#where in
def _lz{K:Frag}:Ad1 K (_ly K) YQ:=by
 intro H x s Q ok hf k;unfold YQ at hf;dsimp only at hf
 split at hf
 .revert ds e
  split at hf
  .revert hl;cases _aa hf;let#[l,xs,bs,ev,q3,r3,h3]:=JZ ok (.O e) hl;let q3:LsR K H l xs:=by let#[_,z]\/#[z,_]:=q3;show z;rw[e]at z;cases z
   let#[i9,i1,i2]:=_lx r3;show#[l,xs,by rw[ev],J8 q3,λp hp=>k #[.rt,.S ds.reverse,.I p,p::i9] _ rfl rfl (K6 hp i1 λb hb=>h3 b (i2 b hb))]
  .cases hf
 .cases hf
def _lA{p2 be:Pos}(ha:QV X Z q a ea)(qe:X.mg "reversed"=none)(ql:X.mg "list"=none)(hK:X.K=Z.K<|>Ŕ)(hc:X.calm=true<|>Ŕ)(qr:Gl X "reversed"<|>Ŕ)(pe:Gl X "list"<|>Ŕ)
  (av:Abs ea [] X<|>Ŕ) (bj:Abb be [] X<|>Ŕ)
  (ik:starEach [.ù (.é "reversed" p2) [ea] [] be] X.Y=(false,eval (.ù (.é "reversed" p2) [ea] [] be) X.Y)::starEach [] X.Y<|>Ŕ) (lf:Abb pos [] X<|>Ŕ):
  QE X Z q (cF1 YQ a) (.ù (.é "list" p) [.ù (.é "reversed" p2) [ea] [] be] [] pos):=
 qj (_lw ha qe ql hc qr pe av bj ik lf) fun σ H Q h=>XY (r:=_ly X.K) (hK▸_lz) h
end
section
variable {P:Program}{w:PySem.World}{K:Frag}{mg:Str->Option Value}{base h:Heap}{x:Str}{st:Stmt}{ps:List Str}{k:Nat}{sp:Sp}
def _lB(K:Frag)(x qual:Str)(st:Stmt)(f:Addr)(fd:FuncData):Prop:=∃(oc:Value) (od:Option Addr) (dV kV im pm:Value) (an:Option Addr) (ce ct:Value) (nk:Array (Option Value)),
  fd=PySem.W.fnOf x qual (x9 st) (z8 st) (jJ st) dV kV im pm an ce ct/\K.U f=@#[oc,od,.func fd,nk]/\PySem.W.codeIn K ce qual=true
def _lC{qual f fd N}(F:_lB K x qual st f fd)(S:FnScope N ps (jJ st))(len:∀vs H Q E,sp vs H Q E->vs.B=ps.B)
  (jr:∀ce (A) (outer) (s) (H) (vs) (Q) (E),Room k (A.deeper (envOfC qual (jJ st) ↥s f ce))->sp vs H Q E ->
   ∃t,PSs (Cx.ex' (JK (CXE P w) P w K mg base N qual (jJ st) f ce A outer s H E) E) (z8 st) t/\t {nx:=λ_ H'=>Q .ó H',rt:=Q} (L2.start N vs) H):FnOk P w K mg base (CXE P w) (k+1) f fd ps sp:=by
 let#[oc,od,dV,kV,im,pm,an,ce,ct,nk,rfl,lk,ja]:=F;show _bE lk ja S len λA outer s H vs Q E hr oh=>?_
 let#[t,h,q]:=jr ce A outer s H vs Q E hr oh;show#[t,λa8 s' σ H' D I hw=>wpAny_mono (h a8 s' σ H' D (I.wish _) hw) (λf lq z=>z.unwish) λe lq z=>_dA z,q]
def DefD(P:Program)(w:PySem.World)(K:Frag)(mg:Str->Option Value)(base:Heap)(k:Nat)(x:Str)(ps:List Str)(sp:Sp):Prop:=
 ∃(f:Addr) (fd:FuncData),FnOk P w K mg base (CXE P w) k f fd ps sp/\(Binds K fd ps []/\Binds K fd ps [.ã])/\PySem.W.keepIn K (.I f)=true/\mg x=@(.I f)
def DefD.e(d:DefD P w K mg base k x ps sp):kz P w K mg base k x ps sp:=by
 let#[f,fd,a,b,c]:=d;show#[f,fd,a,b.1,c]
def GfD(K:Frag)(x:Str)(st:Stmt):Prop:=∃(f dt:Addr) (oc:Value) (od:Option Addr) (kV dc pm:Value) (an:Option Addr) (cd ct:Value) (sl:Array (Option Value)) (ot:Obj) (n:Nat),nsIn K mainGlobals x=some @(.I f)/\K.U f=@#[oc,od,.func (PySem.W.fnOf x x (x9 st) (z8 st) (jJ st) (.I dt) kV dc pm an cd ct),sl]/\PySem.W.codeIn K cd x=true/\PySem.W.keepIn K (.I f)=true/\K.U dt=@ot/\ot.data=.seq %[.ã|0] n
def GfD.mk{f dt oc od kV dc pm an cd ct sl ot n}(a:nsIn K mainGlobals x=some @(.I f))(l:K.U f=@#[oc,od,.func (PySem.W.fnOf x x (x9 st) (z8 st) (jJ st) (.I dt) kV dc pm an cd ct),sl])(c:PySem.W.codeIn K cd x=true)(k:PySem.W.keepIn K (.I f)=true)(e1:K.U dt=@ot)(e2:ot.data=.seq %[.ã|0] n):GfD K x st:=#[f,dt,oc,od,kV,dc,pm,an,cd,ct,sl,ot,n,a,l,c,k,e1,e2]
end
def _lD{fd dt ot n}(hd:fd.defaults=.I dt)(h1:fd.params.posonlyargs=[])(h2:fd.params.args.C (·.arg)=(["one","other","pair"]:List Str))(h3:fd.params.vararg=none)(h4:fd.params.kwonlyargs=[])(h5:fd.params.kwarg=none)
  {s} (hs:s.H.get? dt=@ot) (ht:ot.data=.seq %[.ã|0] n) (a b):BindsTo s fd #[[a,b],[]] [("one",a),("other",b),("pair",.ã)]:=by
 intro M A E Q q;ext bindArgs;generalize fd.params=pm at *;let#[]:=pm;dsimp only at h1 h2 h3 h4 h5 ⊢;subst h1 h3 h4 h5;rw[h2,hd];show X0 (X4 (X0 (Zc hs ht (wpAny_of_eq (by rfl) q))))
def _lE{fd dt ot n}(hd:fd.defaults=.I dt)(h1:fd.params.posonlyargs=[])(h2:fd.params.args.C (·.arg)=(["one","other","pair"]:List Str))(h3:fd.params.vararg=none)(h4:fd.params.kwonlyargs=[])(h5:fd.params.kwarg=none)
  {s} (hs:s.H.get? dt=@ot) (ht:ot.data=.seq %[.ã|0] n) (a b c):BindsTo s fd #[[a,b,c],[]] [("one",a),("other",b),("pair",c)]:=by
 intro M A E Q q;ext bindArgs;generalize fd.params=pm at *;let#[]:=pm;dsimp only at h1 h2 h3 h4 h5 ⊢;subst h1 h3 h4 h5;rw[h2,hd];show X0 (X4 (X0 (Zc hs ht (wpAny_of_eq (by rfl) q))))
section
variable {P:Program}{w:PySem.World}{K:Frag}{mg:Str->Option Value}{base h:Heap}{x:Str}{st:Stmt}{k:Nat}{sp:Sp}
def _lF{p:List Value->Prop}:∀us,us.B=1->(∀a,p [a])->p us:=λus h f=>by
 let#[a,rfl]:=List.length_eq_one_iff.mp h;show f a
def _lG{p:List Value->Prop}:∀us,us.B=2->(∀a b,p [a,b])->p us:=λus h f=>by
 let _\/#[a,us]:=us
 .cases h
 .show _lF (p:=λus=>p (a::us)) us (Zx h) (f a)
def _lH{p:List Value->Prop}:∀us,us.B=3->(∀a b c,p [a,b,c])->p us:=λus h f=>by
 let _\/#[a,us]:=us
 .cases h
 .show _lG (p:=λus=>p (a::us)) us (Zx h) (f a)
def GfD.d(g:GfD K x st)(X:K.In h)(G:h.Ns mainGlobals mg)(ok:∀{f fd},_lB K x x st f fd->FnOk P w K mg base (CXE P w) k f fd ["one","other","pair"] sp)
  (h1:(x9 st).posonlyargs=[]<|>Ŕ) (h2:(x9 st).args.C (·.arg)=(["one","other","pair"]:List Str)<|>Ŕ) (h3:(x9 st).vararg=none<|>Ŕ) (h4:(x9 st).kwonlyargs=[]<|>Ŕ) (h5:(x9 st).kwarg=none<|>Ŕ):DefD P w K mg base k x ["one","other","pair"] sp:=by
 let#[f,dt,oc,od,kV,dc,pm,an,cd,ct,sl,ot,n,a,l,c,kp,e1,e2]:=g;show#[f,_,ok #[oc,od,.I dt,kV,dc,pm,an,cd,ct,sl,rfl,l,c],#[λs us kin hl=>?_,λs us kin hl=>?_],kp,PySem.W.mg_of X G a]
 .rw[Xx]at hl ⊢;obtain⟨u1,u2,u3,rfl⟩:∃a b c,us=[a,b,c]:=_lH (p:=λus=>∃a b c,us=[a,b,c]) us hl λa b c=>#[a,b,c,rfl]
  show _lE rfl h1 h2 h3 h4 h5 (kin dt _ e1) e2 u1 u2 u3
 .let hl:us.B=2:=by rw[Xi]at hl;show Nat.add_right_cancel hl
  obtain⟨u1,u2,rfl⟩:∃a b,us=[a,b]:=_lG (p:=λus=>∃a b,us=[a,b]) us hl λa b=>#[a,b,rfl]
  show _lD rfl h1 h2 h3 h4 h5 (kin dt _ e1) e2 u1 u2
end
abbrev wjm(K:Frag)(td ty:TE):TE:=fun σ H Q=>td σ H λx H1=>ty σ H1 λy H2=>∃(a b:Addr) (k:Kd) (es:List Ent) (ep:Nat) (v:V) (p:Addr×Value),x=.I a/\y=.I b/\H2 a=@(kK a es ep)/\(es.C (·.1)).V/\(∀x>es,PuR K H2 x.1.1 (.I x.2.1))/\PuR K H2 k.1 (.I b)/\atKey es k=@p/\RelV v p.2/\Q v H2
section
def _lI(hu:X.A.y+64<cLine)(ho:PE X o td)(hi:PE X i ty)(hs:ZJ i):PE X (.Subscript o i pos) (wjm X.K td ty):=by
 intro a8 s σ H Q I h;show _cs PySem.F.slot_dict_getitem.U hs (thn (ho a8 s σ H _ I h) λu s1 hz=>?_);let#[x,H1,I1,rx,q1]:=hz;show thn (hi a8 s1 σ H1 _ I1 q1) λiv s2 hz=>?_
 let#[y,H2,I2,ry,a,b,k,es,ep,v,p,ex,ey,d,hn,hks,hk,hp,rv,q2]:=hz;subst ex ey;obtain rfl:u=Value.I a:=rx;obtain rfl:iv=Value.I b:=ry;let dd:=_im I2 d hn hks;show#[dd.typeIs,wpAny_getItem_heap (_io hu) (KQ I2 hk rfl) dd hp #[v,H2,I2.tok _,rv,q2]]
def _lJ(hu:X.A.y+64<cLine)(ha:QV X Z qa a ea)(hb:QV X Z true b eb)(hs:ZJ eb)(hK:X.K=Z.K<|>Ŕ):QV X Z qa (_lq a b) (.Subscript ea eb pos):=
 qj (hK▸_lI hu ha hb hs) fun σ H Q ai=>ex8 ai λE L r m w hc xc k=>by
  show qV m w (hc) xc λE1 s h1 x L1 H1 e1 e2 m1 w1 ok fr sr st sm=>(qV m1 w1 h1 (xc.step st) λE2 s2 h2 y L2 H2 e3 e4 m2 w2 ib rh rz bu dw=>?_)
  let#[z,hz0,rfl]:=xw h2;let#[d,hz,rfl]:=Option.map_eq_some_iff.mp hz0;unfold _lp at hz;cases hy:s.2 with
  | dct kvs=>
   rw[hy]at hz;dsimp only at hz
   by_cases hc:kj s2.2=true/\unm kvs=true/\D.pures (kvs.C (·.2))=true
   .rw[X7 hc]at hz;let#[b,eb,pb]:=V1 ib (e4▸hc.1);let gj:k5 6 y.d=true:=by
     let:kj y.d=true:=by rw[e4];show hc.1
     unfold kj at this;rw[Bool.â]at this;show this.1
    let h:=RepO.wk (Qk ok fr bu (dw rfl)).1;rw[e2,hy]at h;let#[l,xs,bs,e,rp,dc,_]:=h;let#[es,ep,d1,d2,d3,d4,d5,d6,d7]:=DcA.un dc hc.2.1;let#[g1,g2]:=_jN (k:=#[y.d,gj]) rp d5 d7 hc.2.2;let hyk:(#[y.d,gj]:Kd).1=s2.2:=e4;cases pj:atKey es #[y.d,gj]with
    |none=>grind
    |some p=>
     let#[d',v',q1,q2,q3,q4]:=g1 p pj;rw[hyk,hz]at q1;cases _aa q1;show#[l,b,_,es,ep,v',p,e,eb,d1,d4,d6,pb,pj,q2,k _ _ rfl #[.dp,d,v',[]] L2 H2 rfl rfl m2 w2 q3 (nofun) (nofun) (st.J bu) λhq=>kQ (sm hq) (dw rfl)]
   .rw[Xd hc]at hz;cases hz
  |_=>rw[hy]at hz;cases hz
end
section
def _lK(N:List Str)(hN:X.N.V)(hy:X.N[i]?=@y)(hx:Loc X.Y.ú y)(hi:QIS X Z q tg it iter)
  (hg:∀cl C s0 H0 fp,QG (lcE X scope N cl C s0 H0 fp Z.EX) Z ((List.ä R.B).C (k + ·)) tt tg) (ht:∀cl C s0 H0 fp,PTs (lcE X scope N cl C s0 H0 fp Z.EX) gi (tT Z q u)) (he:∀cl C s0 H0 fp,QE (lcE X scope N cl C s0 H0 fp Z.EX) Z q c elt)
  (gx:xq X Z.EX) (top:Jz X) (hR:R.V) (hr:∀j>R,j<X.N.B) (hp:i∉pn<|>ŕ)
  (nh:swapsWith (.ListComp elt [#[tg,iter,gi,0]] scope pos) @(.é y py) spos.line X.Y=pure true<|>Ŕ)
  (hc:X.calm=true<|>Ŕ) (hk:scope.kind=.function<|>Ŕ) (lg:K8 X.N X.Y.ú scope N k R=true<|>Ŕ) (hs:(∀x,foldedSetIterable iter X.Y x=pure x)<|>Ŗ)
  (hf:X.fn y=true\/X.Y.ú.ð.U y=@.local<|>ś):
  QS X Z pn (jv i (cLC o k R it tt u c)) (.Assign [.é y py] (.ListComp elt [#[tg,iter,gi,0]] scope pos) spos):=
 _eP (q:=q) hp λa8 s σ H D I hw=>_gJ N k R hN hy hx hi hg ht he gx top nh hc hk lg hs hf a8 s σ H D I (_gG I.len hR hr hw)
end
@[irreducible] noncomputable def ShE (X:Cx) (Z:Fx0) (q:Bool) (c:Ex) (e:Expr):Prop:=QE X Z q c e
@[irreducible] noncomputable def ShA (X:Cx) (Z:Fx0) (q:Bool) (cs:List Ex) (es:List Expr):Prop:=QA X Z q cs es
@[irreducible] noncomputable def ShS (X:Cx) (Z:Fx0) (pn:List Nat) (c:Sm) (st:Stmt):Prop:=QS X Z pn c st
@[irreducible] noncomputable def ShB (X:Cx) (Z:Fx0) (pn:List Nat) (c:Sm) (ss:List Stmt):Prop:=QSs X Z pn c ss
end Q
namespace Srt
open PySem PySem.W PyProof.Rows
def Ev(key:Nat->Int)(n:Nat):KasT α->α->Prop
 |.ret a,b=>a=b|.ask i j k,b=>i<n/\j<n/\Ev key n (k (decide (key i<key j))) b
def JQ:∀{t:KasT α},Ev key n t a->Ev key n (f a) b->Ev key n (t.bind f) b
 |.ret _,h,g=>by
  subst h;show g
 |.ask _ _ _,h,g=>#[h.1,h.2.1,JQ h.2.2 g]
section
variable {key:Nat->Int}{n:Nat}
structure Ok (n:Nat)(p:Array Nat):Prop where
 sz:p.L=n
 pm:p.R.á (List.ä n)
def K(key:Nat->Int)(p:Array Nat)(k:Nat):Int:=key (p.p k 0)
def Ok.at(h:Ok n p)(hk:k<n):p[k]?=@(p.p k 0)/\p.p k 0<n:=by
 let hs:=h.sz;let e:p[k]?=@(p.p k 0):=by
  rw[Array.getD_eq_getD_getElem?,Xq .q];rfl
 show#[e,(List.å.mp (h.pm.ê.mp (Array.mem_toList_iff.s (Array.mem_of_getElem? e))))]
variable (ir:∀i j,i<n->j<n->key i=key j->i=j)
include ir
omit ir in
omit ir in
def Ok.bubble(h:Ok n p)(k d):Ok n (bubble p k d):=#[by rw[bubble_size];show h.sz,((bubble_perm p k d).R).J h.pm]
omit ir in
def Ok.mirror(h:Ok n p)(i j d):Ok n (mirror p i j d):=#[by rw[mirror_size];show h.sz,((mirror_perm p i j d).R).J h.pm]
omit ir in
def _lL(h:p[i]?=q[j]?):K key p i=K key q j:=by
 ext K;rw[Array.getD_eq_getD_getElem?,Array.getD_eq_getD_getElem?,h]
end
section
def AscW(key:Nat->Int)(p:Array Nat)(m:Nat):Prop:=∀k,k+1<m->K key p k<=K key p (k+1)
def YY(key:Nat->Int)(p:Array Nat)(m:Nat):Prop:=∀k,k+1<m->K key p (k+1)<=K key p k
def AscW.le(h:AscW key p m):∀{i j},i<=j->j<m->K key p i<=K key p j
 | i,0,lm,_=>by grind
 | i,j+1,lm,hj=>by
  by_cases e:i=j+1
  .subst e;show Int.le_refl _
  .let:=AscW.le h (i:=i) (j:=j) .q .q;let:=h j hj;lia
def _lM(h:Ok n p):∀f m,1<=m->m+f<=n->AscW key p m->∃m',Ev key n (kas_asc p f m) m'/\m<=m'/\m'<=m+f/\AscW key p m'/\(m'<m+f->K key p m'<K key p (m' - 1))
 | 0,m,h1,h2,ha=>#[m,rfl,Xb _,Xb _,ha,λh=>absurd h .q]
 | f + 1,m,h1,h2,ha=>by
  let a1:=h.at (k:=m) .q;let a2:=h.at (k:=m - 1) .q
  by_cases hc:key (p.p m 0)<key (p.p (m - 1) 0)
  .show#[m,#[a1.2,a2.2,?_],Xb _,by simp,ha,λ_=>hc];rw[X8 hc];rfl
  .let#[m',e1,e2,e3,e4,e5]:=_lM h f (m+1) (by simp) .q (λk hk=>by
    by_cases ri:k+1<m
    .show ha k ri
    .let e:k=m - 1:=.q
     subst e;let e':m - 1+1=m:=.q
     let hc:¬K key p m<K key p _:=hc;lia)
   show#[m',#[a1.2,a2.2,?_],.q,.q,e4,λh=>e5 .q]
   rwa [Xj hc]
def _lN(hb:b<=p.L)(h:∀i,a<=i->i<b->K key p i=c) k:K key (kas_rev p a b) k=K key p k:=by
 let hr:=getElem?_mirror_all (i:=a) hb k
 by_cases hk:a<=k/\k<b
 .rw[X7 hk]at hr;let:K key (kas_rev p a b) k=K key p _:=_lL hr;rw[this,h k hk.1 hk.2,h _ .q .q]
 .rw[Xd hk]at hr;show _lL hr
def _lO:∀f {p} (m q),Ok n p->q+1<=m->m+f<=n->YY key p m->(∀i,m - (q+1)<=i->i<m->K key p i=K key p (m - 1)) ->
  ∃ p' m' q',Ev key n (kas_desc f p m q) (p',m',q')/\m<=m'/\m'<=m+f/\Ok n p'/\YY key p' m'/\∀i,m' - (q'+1)<=i->i<m'->K key p' i=K key p' (m' - 1)
 | 0,p,m,q,h,h1,h2,ha,hq=>#[p,m,q,rfl,Xb _,Xb _,h,ha,hq]
 | f + 1,p,m,q,h,h1,h2,ha,hq=>by
  let a1:=h.at (k:=m) .q;let a2:=h.at (k:=m - 1) .q;let e':m - 1+1=m:=.q
  by_cases hc:key (p.p m 0)<key (p.p (m - 1) 0)
  .let hd:YY key p (m+1):=λk hk=>by
    by_cases ri:k+1<m
    .show ha k ri
    .let e:k=m - 1:=.q
     subst e;let hc:K key p m<K key p _:=hc;lia
   let one:∀p',∀i,m+1 - (0+1)<=i->i<m+1->K key p' i=K key p' _:=λp' i i1 i2=>by
    let:i=m+1 - 1:=.q
    rw[this]
   by_cases hq0:0<q
   .let sm:=λk=>_lN (by rw[h.sz];lia) hq k
    let#[p',m',q',e1,e2,e3,e4,e5,e6]:=_lO f _ 0 (h.mirror _ m _) .q .q (λk hk=>by
     let s1:=sm k;let s2:=sm (k+1);unfold kas_rev at s1 s2;rw[s1,s2];show hd k hk) (one _)
    show#[p',m',q',#[a1.2,a2.2,?_],.q,.q,e4,e5,e6];rw[X8 hc];right;rw[X7 hq0];show e1
   .let#[p',m',q',e1,e2,e3,e4,e5,e6]:=_lO f _ 0 h .q .q hd (one _);show#[p',m',q',#[a1.2,a2.2,?_],.q,.q,e4,e5,e6];rw[X8 hc];right;rw[Xd hq0];show e1
  .by_cases hd:key (p.p (m - 1) 0)<key (p.p m 0)
   .show#[p,m,q,#[a1.2,a2.2,?_],Xb _,by simp,h,ha,hq];rw[Xj hc];right;show#[a2.2,a1.2,?_];rw[X8 hd];rfl
   .let eq:K key p m=K key p (m - 1):=by
     let hc:¬K key p m<K key p _:=hc;let hd:¬K key p _<K key p m:=hd;lia
    let#[p',m',q',e1,e2,e3,e4,e5,e6]:=_lO f (m+1) (q+1) h .q .q (λk hk=>by
     by_cases ri:k+1<m
     .show ha k ri
     .let e:k=m - 1:=.q
      subst e;rw[e',eq];show Int.le_refl _) (λi i1 i2=>by
     change K key p i=K key p m
     by_cases e:i=m
     .rw[e]
     .rw[eq];show hq i .q .q)
    show#[p',m',q',#[a1.2,a2.2,?_],.q,.q,e4,e5,e6];rw[Xj hc];right;show#[a2.2,a1.2,?_];rw[Xj hd];right;show e1
def _lP(h:Ok n p)(hk:k<n)(ha:AscW key p k):∀f l r,l<=r->r<=k->r - l<=f->(∀i,i<l->K key p i<=K key p k)->(∀i,r<=i->i<k->K key p k<=K key p i) ->
  ∃ l',Ev key n (kas_place p k f l r) l'/\l'<=k/\(∀i,i<l'->K key p i<=K key p k)/\∀i,l'<=i->i<k->K key p k<=K key p i
 | 0,l,r,h1,h2,h3,h4,h5=>#[l,rfl,.q,h4,λi hi=>h5 i .q]
 | f + 1,l,r,h1,h2,h3,h4,h5=>by
  by_cases hlr:l>=r
  .show#[l,?_,.q,h4,λi hi=>h5 i .q];ext kas_place;rw[X7 hlr];rfl
  .let a1:=h.at hk;let a2:=h.at (k:=(l+r) / 2) .q
   by_cases hc:key (p.p k 0)<key (p.p ((l+r) / 2) 0)
   .let#[l',e1,e2,e3,e4]:=_lP h hk ha f l ((l+r) / 2) .q .q .q h4 (λi hi hik=>by
     let hc:K key p k<K key p _:=hc;let:=ha.le hi hik;lia)
    show#[l',?_,e2,e3,e4];ext kas_place;rw[Xd hlr];show#[a1.2,a2.2,?_]
    rwa [X8 hc]
   .let#[l',e1,e2,e3,e4]:=_lP h hk ha f ((l+r) / 2+1) r .q (by omega) .q (λi hi=>by
     let hc:¬K key p k<K key p _:=hc;let:=ha.le (i:=i) (j:=(l+r) / 2) .q .q;lia) h5
    show#[l',?_,e2,e3,e4];ext kas_place;rw[Xd hlr];show#[a1.2,a2.2,?_]
    rwa [Xj hc]
def _lQ:∀f {p} (k),Ok n p->1<=k->k+f=n->AscW key p k->∃p',Ev key n (kas_bin f p k) p'/\Ok n p'/\AscW key p' n
 | 0,p,k,h,h1,h2,ha=>#[p,rfl,h,by rw[<-h2];show ha]
 | f + 1,p,k,h,h1,h2,ha=>by
  let#[l,e1,e2,e3,e4]:=_lP h .q ha k 0 k (by simp) (by simp) (by simp) (λi hi=>absurd hi (by simp)) (λi hi hk=>absurd hi .q);let hb:=λi=>getElem?_bubble (src:=k) (by rw[h.sz];lia) (k - l) (by simp) i
  let ek:k - (k - l)=l:=.q
  rw [ek]at hb;let#[p',g1,g2,g3]:=_lQ f (k+1) (h.bubble k _) (by simp) .q (λi hi=>by
   let q:∀i,K key _ i=if i=l then K key p k else if l<i/\i<=k then K key p _ else K key p i:=λi=>by
    let:=hb i
    by_cases c1:i=l
    .rw[X7 c1]at this ⊢;show _lL this
    .rw[Xd c1]at this ⊢
     by_cases c2:l<i/\i<=k
     .rw[X7 c2]at this ⊢;show _lL this
     .rw[Xd c2]at this ⊢;show _lL this
   rw [q i,q _]
   by_cases c1:i+1<l
   .rw[Xd .q,Xd .q,Xd .q,Xd .q];show ha i .q
   .by_cases c2:i+1=l
    .rw[Xd .q,Xd .q,X7 c2];show e3 i .q
    .by_cases c3:i=l
     .rw[X7 c3,Xd (by omega),X7 .q];show e4 _ (by symm) (by symm)
     .rw[Xd c3,X7 .q,Xd (by omega),X7 .q];show ha.le (by simp) (by symm))
  show#[p',JQ e1 g1,g2,g3]
def _lR(hq:q<=p.L)(hd:YY key p q):AscW key (kas_rev p 0 q) q:=λk hk=>by
 let at':∀k,k<q->K key (kas_rev p 0 q) k=K key p (q - 1 - k):=λk hk=>_lL (by
  let:=(λk=>getElem?_mirror_all (i:=0) hq k) k;rw[X7 (by symm)]at this;rw[show q - 1 - k=0+q - 1 - k by lia];show this)
 rw[at' k .q,at' _ hk,show q - 1 - k=q - 1 - (k+1)+1 by lia];show hd _ (by omega)
def _lS(h:Ok n p)(h1:1<=m)(h2:m+1<=n)(hd:YY key p (m+1)):∃m' p',Ev key n (kas_descPart m n p) (m',p')/\1<=m'/\m'<=n/\Ok n p'/\AscW key p' m':=by
 let#[p',m',q',e1,e2,e3,e4,e5,e6]:=_lO (n - (m+1)) _ 0 h .q (by symm) hd (λi i1 i2=>by
  let:i=m+1 - 1:=.q
  rw[this])
 let tail:∀p2,Ok n p2->YY key p2 m'->∃m2 p3,Ev key n (kas_tail3 m' n p2) _/\1<=m2/\m2<=n/\Ok n p3/\AscW key p3 m2:=λp2 ho hd=>by
  let#[m2,f1,f2,f3,f4,_]:=_lM (ho.mirror 0 m' _) (n - m') m' .q (by symm) (_lR (by rw[ho.sz];lia) hd);show#[m2,kas_rev p2 0 m',JQ f1 rfl,.q,by symm,ho.mirror 0 m' _,f4]
 by_cases hq0:0<q'
 .let sm:=λk=>_lN (by rw[e4.sz];lia) e6 k
  let#[m2,p3,g1,g2]:=tail (kas_rev p' _ m') (e4.mirror _ _ _) λk hk=>by rw[sm k,sm _];show e5 k hk
  show#[m2,p3,JQ e1 ?_,g2]
  rwa [X7 hq0]
 .let#[m2,p3,g1,g2]:=tail p' e4 e5;show#[m2,p3,JQ e1 ?_,g2]
  rwa [Xd hq0]
def _lT(h2:2<=n):∃p,Ev key n (kas_sort n) p/\Ok n p/\AscW key p n:=by
 let h0:Ok n (List.ä n).G:=#[by simp,by rfl];generalize on:(List.ä n).G=p0 at h0;let fy:∃m p,Ev key n (kas_count n p0) (m,p)/\1<=m/\m<=n/\Ok n p/\AscW key p m:=by
  let#[m,e1,e2,e3,e4,e5]:=_lM h0 (n - 1) 1 .q .q (λk hk=>absurd hk (by symm))
  by_cases hm:m=n
  .show#[m,_,JQ e1 ?_,e2,by symm,h0,e4];rw [X7 (by rw[hm];simp)];rfl
  .let ia:¬(m==n)=true:= ~~~hm
   let bf:=e5 .q
   by_cases h1:1<m
   .by_cases hc:key (p0.p 0 0)<key (p0.p (m - 1) 0)
    .show#[m,_,JQ e1 ?_,e2,.q,h0,e4];rw[Xd ia,X7 h1];show#[(h0.at .q).2,(h0.at .q).2,?_];rw[X8 hc];rfl
    .let i5:¬K key p0 0<K key p0 _:=hc;let same:∀i,0<=i->i<m->K key p0 i=K key p0 0:=λi _ hi=>by
      let x1:=e4.le (i:=0) .q hi;let x2:=e4.le (i:=i) (j:=m - 1) .q .q;lia
     let sm:=λk=>_lN (by rw[h0.sz];lia) same k
     let#[m',p',g1,g2]:=_lS (p:=kas_rev p0 0 m) (m:=m) (h0.mirror _ _ _) (by omega) .q (λk hk=>by
      rw[sm k,sm _]
      by_cases ri:k+1<m
      .rw[same k .q .q,same _ (by simp) ri];show Int.le_refl _
      .let e:k=m - 1:=.q
       subst e;rw[show m - 1+1=m by lia];lia)
     show#[m',p',JQ e1 ?_,g2];rw[Xd ia,X7 h1];show#[(h0.at .q).2,(h0.at .q).2,?_];rw[Xj hc];right;show g1
   .let e:m=1:=.q
    subst e;let#[m',p',g1,g2]:=_lS (m:=1) h0 .q (by omega) (λk hk=>by
     let:k=0:=.q
     subst this;show Int.le_of_lt bf)
    show#[m',p',JQ e1 ?_,g2]
    rwa [Xd ia]
 let#[m,p,e1,e2,e3,e4,e5]:=fy;rw[<-on]at e1
 by_cases hm:m<n
 .let#[p',g1,g2,g3]:=_lQ (n - m) m e4 e2 (by symm) e5;show#[p',JQ e1 ?_,g2,g3];let:max m 1=m:=by symm
  grind
 .show#[p,JQ e1 ?_,e4,by rw[show n=m by lia];show e5];rw[Xd hm];rfl
end
def _lU(hc:∀i j C,i<n->j<n->C (decide (key i<key j)) s->cmp i j C s):
  ∀{t:KasT α},Ev key n t a->Q a s->KasT.kasWp cmp t Q s
 |.ret _,h,g=>by
  subst h;show g
 |.ask _ _ _,h,g=>hc _ _ _ h.1 h.2.1 (_lU hc h.2.2 g)
end Srt
namespace Q
open PySem PySem.Spec PyProof.Rows L2 L3
inductive F2 {α β:Type}(R:α->β->Prop):List α->List β->Prop
 |nil:F2 R [] []
 |cons {a:α} {b:β} {l:List α} {m:List β}:R a b->F2 R l m->F2 R (a::l) (b::m)
end Q
namespace Q
open PySem PySem.Spec PyProof.Rows L2 L3 Srt
def _lV:∀{p:List Nat},(∀i>p,R (f i) (g i))->F2 R (p.C f) (p.C g)
 |[],_=>.nil|i::p,h=>.æ (h i X3) (_lV λj hj=>h j (_ad _ hj))
def _lW(h:F2 R l m):l.B=m.B:=by
 induction h with|nil=>rfl|cons _ _ ih=>simp[ih]
def _lX:∀(as:List Addr),Vals (as.C V.I) (as.C Value.I)
 |[]=>.nil|a::as=>.æ rfl (_lX as)
end Q
namespace Tb
open PySem PySem.SetTable
def _lY(mask)(h):∀m,(pr mask h m).j+(pr mask h m).more<=mask
 | 0=>by
  change bits h % _+(runEnd mask (bits h % _) - bits h % _)<=mask;let:=Nat.mod_lt (bits h) (show 0<mask+1 by lia);ext runEnd
  split<;>lia
 | m+1=>by
  let ih:=_lY mask h m;rw[<-_kp];ext adv
  split
  .grind
  .let:(leap mask (pr mask h m).i (pr mask h m).perturb).1<=mask:=by
    ext leap;let:=Nat.mod_lt ((pr mask h m).i*5+1+(pr mask h m).perturb / 32) (show 0<mask+1 by lia);lia
   ext runEnd
   split<;>symm
def _lZ mask h m:jV mask h m<=mask:=by
 let:=_lY mask h m;let e:jV mask h m=(pr mask h m).j:=rfl;lia
structure OInv (mask:Nat)(hs:List Int)(owner:Array (Option Nat))(xs:List Nat):Prop where
 sz:owner.L=mask+1
 iff:∀(j k:Nat),owner[j]?=@(@k)↔xs[k]?=@j
 good:∀(k j:Nat),xs[k]?=@j->∃m,jV mask (hs.p k 0) m=j/\∀m',m'<m->jV mask (hs.p k 0) m'>xs
def _l0{mask}(hm:xv mask)(o:OInv mask hs owner xs)(hl:xs.B<mask)(h)(hh:hs.p xs.B 0=h):
  ∃ j,layClean.free mask owner (turns mask) (bits h % (mask+1)) (bits h)=@j/\OInv mask hs (owner.þ j @xs.B) (xs++[j]):=by
 let yx:∀j,j<=mask->(owner.p j @0).isNone=false->j>xs:=λj hj hn=>by
  let p8:j<owner.L:=by rw[o.sz];lia
  cases e:owner[j]with
  | none=>simp[Array.p,p8,e]at hn
  | some k=>
   let:=(o.iff j k).mp (by rw[Xq p8,e]);show Y2 this
 let hf:∃e,e<=mask/\(owner.p e @0).isNone=true:=by
  let#[j,h1,h2]:=_ke (mask+1) xs .q;show#[j,.q,?_];cases hn:(owner.p j @0).isNone with| true=>rfl| false=>show absurd (yx j .q hn) h2
 let#[j,m,h1,h2,h3,h4]:=_kh hm h hf;let hj:j<=mask:=by rw[<-h2];show _lZ mask h m
 let p8:j<owner.L:=by rw[o.sz];lia
 let hjn:owner[j]?=@none:=by
  rw [Xq p8];simp[Array.p,p8]at h3;rw [h3]
 let hjx:j∉xs:=λz=>by
  let#[k,hk]:=List.mem_iff_getElem?.mp z;rw [(o.iff j k).s hk]at hjn
  symm
 show#[j,h1,#[by rw[Array.size_setIfInBounds];show o.sz,λj' k=>?_,λk j' e=>?_]]
 .rw [Array.getElem?_setIfInBounds]
  by_cases c:j=j'
  .subst c;rw [X7 rfl,X7 p8];constructor
   .intro e;let:xs.B=k:= ~~~e
    subst this;simp
   .intro e
    by_cases ck:k<xs.B
    .rw[Xw ck]at e;show absurd (Y2 e) hjx
    .let:k=xs.B:=by
      let:=(aF e).1;simp at this;lia
     rw[this]
  .rw [Xd c,o.iff];constructor
   .intro e
    rwa [Xw (aF e).1]
   .intro e
    by_cases ck:k<xs.B
    .rw[Xw ck]at e;show e
    .let:k=xs.B:=by
      let:=(aF e).1;simp at this;lia
     subst this;let:j=j':= ~~~e
     show absurd this c
 .by_cases ck:k<xs.B
  .rw[Xw ck]at e;let#[m,g1,g2]:=o.good k j' e;show#[m,g1,λm' ia=>_ac _ (g2 m' ia)]
  .let:k=xs.B:=by
    let:=(aF e).1;simp at this;lia
   subst this;let:j=j':= ~~~e
   subst this;rw[hh];show#[m,h2,λm' ia=>_ac _ (yx _ (_lZ mask h m') (h4 m' ia))]
def _l1{mask}(hm:xv mask)(hl:hs.B<=mask):∀ac done (owner) (xs),hs=done++ac->xs.B=done.B->OInv mask hs owner xs ->
  ∃jd xs',ac.foldl (λae h=>do
   let (owner,k) <-ae
   let j <-layClean.free mask owner (turns mask) (bits h % (mask+1)) (bits h)
   pure (owner.þ j @k,k+1)) @(owner,xs.B)=@(jd,hs.B)/\xs'.B=hs.B/\OInv mask hs jd xs'
 |[],done,owner,xs,h1,h2,o=>by
  rw[Xx]at h1;subst h1;show#[owner,xs,by rw[h2];rfl,h2,o]
 |h::ac,done,owner,xs,h1,h2,o=>by
  let af:hs.B=done.B+(ac.B+1):=by rw[h1];simp
  let#[j,e1,e2]:=_l0 hm o .q h (by rw[h1,h2];simp);let#[jd,xs',f1,f2,f3]:=_l1 hm hl ac (done++[h]) _ _ (by rw[h1];simp) (by simp[h2]) e2;show#[jd,xs',?_,f2,f3];rw[Yu];rw[Xi]at f1;rw[<-f1]
  congr 1
  change(layClean.free mask owner _ _ _).bind _=_;rw[e1];rfl
def _l2{mask}(hm:xv mask)(hl:hs.L<=mask):∃owner xs,layClean mask hs=@owner/\xs.B=hs.L/\OInv mask hs.R owner xs:=by
 let#[owner,xs,h1,h2,h3]:=_l1 (hs:=hs.R) hm (~~~hl) hs.R [] (Array.ß (mask+1) none) [] rfl rfl
  #[by simp,λj k=>by simp[Array.getElem?_replicate],λk j e=>by simp at e]
 show#[owner,xs,?_,~~~h2,h3];ext layClean
 symm
def rng_getD l (d:α):(List.ä l.B).C (λi=>l.p i d)=l:=by
 show Zg λi=>?_
 by_cases hi:i<l.B
 .simp[hi]
 .simp[Nat.le_of_not_lt hi]
def Jx(mask:Nat)(owner:Array (Option Nat)):List (Nat×Nat):=(List.ä (mask+1)).filterMap λj=>(owner.p j none).C (j,·)
def _l3{mask}(hs:owner.L=mask+1):(j,k)>Jx mask owner↔owner[j]?=@(@k):=by
 ext Jx;rw[List.mem_filterMap];constructor
 .rintro ⟨j',h1,h2⟩;let h1:j'<owner.L:=by rw[hs];show List.å.mp h1
  cases e:owner.p j' none with
  |none=>rw[e]at h2;cases h2
  |some k'=>
   rw[e]at h2;cases h2;rw[Xq h1];simp[Array.p,h1]at e;rw[e]
 .intro h;let hj:=(Array.getElem?_eq_some_iff.mp h).1;show#[j,List.å.s (hs▸hj),?_];let:owner.p j none=@k:=by
   rw[Xq hj]at h;simp[Array.p,hj];show _aa h
  rw[this];rfl
#where in
def _l4(owner:Array (Option Nat)):∀l:List Nat,l.ñ (· < ·)->((l.filterMap λj=>(owner.p j none).C (j,·)).C (·.1)).ñ (· < ·)
 | [],_=>.nil
 | j :: l,h=>by
  let#[h1,h2]:=List.pairwise_cons.mp h;rw [List.filterMap_cons]
  split
  .show _l4 owner l h2
  .revert b hb;show List.pairwise_cons.s #[λa ha=>?_,_l4 owner l h2];let#[p,hp,rfl]:=aE ha;let#[j',p8,e]:=List.mem_filterMap.mp hp;cases e1:owner.p j none with
   | none=>rw[e1]at hb;cases hb
   | some k=>
    rw[e1]at hb;cases _aa hb;cases e2:owner.p j' none with
    |none=>rw[e2]at e;cases e
    |some k'=>
     rw[e2]at e;cases _aa e;show h1 j' p8
def _l5{l:List Nat}(h:l.V)(hm:∀k,k>l↔k<n):l.á (List.ä n):=by
 show(List.perm_ext_iff_of_nodup h List.nodup_range).s λk=>?_
 rw[hm,List.å]
def _l6{mask}{es:Array Ent}(hm:xv mask)(hl:es.L*5<mask*3)(fg mv)(led plain):
  ∃ t2 i8,laid mask fg mv led plain (es.C (·.1))=@(t2,i8)/\t2.led=led/\t2.plain=plain/\(i8.filterMap (es[·]?)).R.á es.R/\TOk t2 (i8.filterMap (es[·]?)):=by
 let#[owner,xs,h1,h2,o]:=_l2 (hs:=es.C (·.1)) hm (by rw[Array.size_map];lia);rw [Array.size_map]at h2;show#[_,_,by ext laid;rw[h1];rfl,rfl,rfl,?_];let hL:(List.ä (mask+1)).filterMap (λj=>(owner.p j none).C (j,·))=Jx mask owner:=rfl;rw [hL];let mem:=λj k=>(_l3 o.sz).J (o.iff j k)
 let pw:((Jx mask owner).C (·.1)).ñ (· < ·):=_l4 owner _ List.pairwise_lt_range;let nd2:((Jx mask owner).C (·.2)).V:=by
  rw[List.V,List.pairwise_map];rw[List.pairwise_map]at pw;show List.ñ.imp_of_mem (fun {p q} hp hq lt e=>?_) pw
  symm
 let pm:=_l5 nd2 λk=>by
  rw[List.mem_map];constructor
  .rintro ⟨⟨j,k'⟩,hp,rfl⟩;let:=(aF ((mem j k').mp hp)).1;change k'<es.L
   symm
  .intro hk;show#[(xs[k]'⋯,k),(mem _ k).s (X1 .q),rfl]
 let ff:∀p>Jx mask owner,p.2<es.L:=λp hp=>by
  let:=(aF ((mem p.1 p.2).mp hp)).1
  symm
 let ma:((((Jx mask owner).C (·.2)).G).filterMap (es[·]?)).R=(Jx mask owner).C λp=>es.p p.2 (0,.ã):=by
  rw[Array.toList_filterMap];let:∀l:List (Nat×Nat),(∀p>l,p.2<es.L)->(l.C (·.2)).filterMap (es[·]?)=l.C λp=>es.p p.2 (0,.ã):=by
   intro l
   induction l with
   |nil=>intro _;rfl
   |cons p l ih=>
    intro hp;let h0:=hp p X3;rw[List.Z,List.filterMap_cons,List.Z,Xq h0,ih λq hq=>hp q (_ad _ hq)];simp[Array.p,h0]
  show this _ ff
 let gw:((((Jx mask owner).C (·.2)).G).filterMap (es[·]?)).R.á es.R:=by
  rw[ma];let e1:(Jx mask owner).C (λp=>es.p p.2 (0,.ã))=((Jx mask owner).C (·.2)).C λk=>es.R.p k (0,.ã):=by
   rw[Xp];show Y1 λp _=>?_
   simp
  rw[e1];show(pm.C _).J (.of_eq ?_);let:=rng_getD es.R ((0,.ã):Ent);show this
 let hsz:((((Jx mask owner).C (·.2)).G).filterMap (es[·]?)).L=es.L:=by
  rw[<-Xk,gw.length_eq,Xk]
 show#[gw,hm,rfl,?_,pw,λj hj=>?_,?_,λz hz=>?_]
 .rw[<-Xk (xs:=Array.filterMap _ _),ma];simp
 .let#[#[j',k],hp,rfl]:=aE hj;let:=(Array.getElem?_eq_some_iff.mp ((_l3 o.sz).mp hp)).1;rw[o.sz]at this;change j'<=mask;lia
 .rwa [hsz]
 .unfold Z at hz;rw[ma,List.zip_map',List.mem_map]at hz;let#[#[j,k],hp,rfl]:=hz;let hk:=ff _ hp;let#[m,g1,g2]:=o.good k j ((mem j k).mp hp);let eh:(es.C (·.1)).R.p k 0=(es.p k (0,.ã)).1:=by
   let hk:k<es.L:=hk;simp[Array.p,hk]
  rw[eh]at g1 g2;show#[m,g1,λm' ia=>?_];let#[k',aq]:=List.mem_iff_getElem?.mp (g2 m' ia);show List.mem_map.s #[_,(mem _ k').s aq,rfl]
def _l7{t:SetTable}(hd:t.dummies=(List.G [])) j:t.put j=({t with place:=insertAt t.ï (below t.ï j) j},below t.ï j):=by
 ext put;rw[hd];let:has (List.G []) j=false:=by ext has;rfl
 symm
def _l8(ok:TOk t es)(hM:jV t.ô h M∉t.ï.R)(hb:∀m,m<M->jV t.ô h m>t.ï.R):
  (insertAt es (t.put (jV t.ô h M)).2 (h,x)).R.á ((h,x)::es.R)/\(t.put (jV t.ô h M)).1.ô=t.ô/\(t.put (jV t.ô h M)).1.led=t.led/\(t.put (jV t.ô h M)).1.plain=t.plain /\
   (t.put (jV t.ô h M)).1.fill=es.L+1/\(t.put (jV t.ô h M)).1.ï.L=es.L+1/\∀pl,(es.L+1)*5<t.ô*3->TOk { (t.put (jV t.ô h M)).1 with plain:=pl} (insertAt es (t.put (jV t.ô h M)).2 (h,x)):=by
 rw[_l7 ok.d];right;let hp:(insertAt es (below t.ï (jV t.ô h M)) (h,x)).R.á ((h,x)::es.R):=by
  rw[_kl];show _km _ _ _
 let hpp:(insertAt t.ï (below t.ï (jV t.ô h M)) (jV t.ô h M)).R.á (jV t.ô h M::t.ï.R):=by
  rw[_kl];show _km _ _ _
 let hsz:(insertAt es (below t.ï (jV t.ô h M)) (h,x)).L=es.L+1:=by
  rw[<-Xk,hp.length_eq,Xn,Xk]
 let hpz:(insertAt t.ï (below t.ï (jV t.ô h M)) (jV t.ô h M)).L=es.L+1:=by
  rw[<-Xk,hpp.length_eq,Xn,Xk,ok.sz]
 show#[hp,rfl,rfl,rfl,?_,hpz,λpl hf=>#[ok.m,ok.d,?_,_kn ok.pw hM,λj hj=>?_,?_,λz hz=>?_]]
 .rw[ok.d];change _+0=_;rw[hpz]
 .rw[hsz];show hpz
 .let rfl\/hj:=aD (hpp.ê.mp hj)
  .show _lZ _ _ _
  .show ok.le j hj
 .rw[hsz];show hf
 .unfold Z at hz;rw[_kl,_kl]at hz;let hz:=(_ko _ _ _ (by rw[Xk,Xk,ok.sz])).ê.mp hz;let rfl\/hz:=aD hz
  .show#[M,rfl,λm' ia=>hpp.ê.s (_ad _ (hb m' ia))]
  .let#[m,g1,g2]:=ok.good z hz;show#[m,g1,λm' ia=>hpp.ê.s (_ad _ (g2 m' ia))]
def grow{mask n}(hm:xv mask)(h1:n*5<mask*3)(h2:mask*3<=(n+1)*5)(hn:n+1<=70):xv (sizeAbove (grown (n+1)) - 1)/\(n+1)*5<(sizeAbove (grown (n+1)) - 1)*3/\sizeAbove (grown (n+1))<=128:=by
 let rfl\/rfl\/rfl:=hm
 .let:n=4:=.q
  subst this;ext xv;decide
 .let:n=18:=.q
  subst this;ext xv;decide
 .lia
def _l9(ok:TOk t es){M i:Nat}(hM:jV t.ô h M∉t.ï.R)(hi:es[i]?=@e)(he:e.1=h):∃m,m<M/\t.ï[i]?=@(jV t.ô h m):=by
 let hip:i<t.ï.L:=by rw[ok.sz];show((Array.getElem?_eq_some_iff.mp hi).1)
 let hz:(t.ï[i],e)>Z t es:=by
  ext Z;show List.mem_iff_getElem?.s #[i,?_];rw[List.getElem?_zip_eq_some];show#[by simp[hip],~~~hi]
 let#[m,g1,g2]:=ok.good _ hz;rw[he]at g1 g2;show#[m,?_,by rw[Xq hip,g1]];let c\/c:=Nat.lt_or_ge m M
 .show c
 .let c2\/c2:=Nat.lt_or_ge M m
  .show absurd (g2 M c2) hM
  .let:m=M:=.q
   subst this;show absurd ?_ hM;rw[g1];show List.mem_iff_getElem.s #[i,~~~hip,by simp]
end Tb
namespace Tw
open PySem PyProof.Rows Tb Sw
section
variable {prog:Program}{w:World}{A:Around}{E:VP9}{s:Shared}{K:Type}[DecidableEq K]{knd:HeapKind prog w K}
structure KX (knd:HeapKind prog w K):Prop where
 keep:∀{h h':Heap} {k:K} {a:Addr},knd.is h k a->(∀b ob,h.get? b=@ob->ob.cls=.l "tuple"->h'.get? b=@ob)->knd.is h' k a
 cls:∀{A:Around} {E:VP9} {s:Shared} {k:K} {a:Addr} {Q:Bool->Shared->Prop},knd.is s.H k a->Q false s->wpAny (model prog w) A (ofAClassStatement 8 (.I a)) Q E s
def KX.keeps(X:KX knd)(hk:knd.is h k a)(ho:h.get? d=@o)(hc:o.cls=.l "set")(hs:Heap.SameBut d h h'):knd.is h' k a:=X.keep hk λb ob hb ht=>hs.extBut b ob (λz=>by
 rw[z,ho]at hb;cases hb;rw[hc]at ht;show absurd ht .q) hb
abbrev ent(knd:HeapKind prog w K)(p:K×Addr):Int×Value:=(knd.hash p.1,.I p.2)
structure OkT (knd:HeapKind prog w K)(h:Heap)(o:Obj)(es:Array (Int×Value))(ep:Nat)(t:SetTable)(ks:List (K×Addr)):Prop where
 ex:o.ExactSet
 d:o.data=.ç es ep t
 el:es.R=ks.C (ent knd)
 is:∀p>ks,knd.is h p.1 p.2
 nd:(ks.C (·.1)).V
 tb:TOk t es
 led:t.led=!tx w
def OkT.f(ok:OkT knd h o es ep t ks):t.fits es.L=true:=by
 ext SetTable.fits SetTable.fill;rw[ok.tb.d,ok.tb.sz];let:=ok.tb.few;simp;lia
def OkT.sz(ok:OkT knd h o es ep t ks):es.L=ks.B:=by rw[<-Xk,ok.el,X5]
def OkT.at(ok:OkT knd h o es ep t ks){i:Nat}(hi:es[i]?=@e):∃p,ks[i]?=@p/\e=ent knd p:=by
 rw[<-Xr,ok.el,Xf]at hi;cases hk:ks[i]? with|none=>rw[hk]at hi;cases hi|some p=>rw[hk]at hi;show#[p,rfl,(_aa hi).à]
def _ma{t:SetTable}(hm:xv t.ô):t.gaveWay=false:=by
 ext SetTable.gaveWay;let e\/e\/e:=hm<;>rw[e]<;>rfl
def _mb(X:KX knd)(hb:knd.is s.H k b)(h:Q false s):∀vs,(∀v>vs,∃k' b',v=.I b'/\knd.is s.H k' b')->wpAny (model prog w) A (searchCouldBeSeen (.I b) vs) Q E s:=by
 intro vs hv;show X0 (Zz _ (λac r s'=>r.1=none/\s'=s/\∀v>ac,∃k' b',v=.I b'/\knd.is s.H k' b') _ ?_ ?_ _ _ #[rfl,rfl,hv])
 .rintro v ac r s' ⟨hr,rfl,hv⟩;let#[k',b',rfl,gr]:=hv v X3;let ly:=λv hv'=>hv v (_ad _ hv')
  right
  split
  .show X4 #[rfl,rfl,ly]
  .show X0 (knd.quiet hb (X0 (knd.quiet gr (X0 (X.cls hb (X0 (X.cls gr (X4 #[rfl,rfl,ly]))))))))
 .rintro ⟨r1,r2⟩ s' ⟨hr,rfl,_⟩;subst hr;show X4 h
end
def _mc(ok:TOk t es)(hM:jV t.ô h M∉t.ï.R)(hb:∀m,m<M->jV t.ô h m>t.ï.R)(hl:M<10*SetTable.turns t.ô)
  (p9:t.probe g h p=r) (hp:p=pr t.ô h m) (hm:m<=M):
   (r=@(.empty (jV t.ô h M) none)/\∀m' i,m<=m'->m'<M->t.ï[i]?=@(jV t.ô h m')->g i≠h) \/
   ∃m' i,m<=m'/\m'<M/\t.ï[i]?=@(jV t.ô h m')/\g i=h/\r=@(.candidate (jV t.ô h m') i (pr t.ô h (m'+1)))/\∀nu i',m<=nu->nu<m'->t.ï[i']?=@(jV t.ô h nu)->g i'≠h:=by
 subst hp p9;show _kr ok hM hb _ m hm (by omega)
def _md(ok:TOk t es)(hM:jV t.ô h M∉t.ï.R)(hb:∀m,m<M->jV t.ô h m>t.ï.R)(hl:M<10*SetTable.turns t.ô)
  (hp:p=pr t.ô h m) (hm:m<=M):∃met,t.probe g h p=@met:=by
 let#[e1,_]\/#[m',i,_,_,_,_,e1,_]:=_mc ok hM hb hl rfl hp hm
 .show#[_,e1]
 .show#[_,e1]
def _me{t:SetTable}(hp:t.ï.R.ñ (· < ·)){i j x:Nat}(h1:t.ï[i]?=@x)(h2:t.ï[j]?=@x):i=j:=by
 show(List.getElem?_inj (~~~(((Array.getElem?_eq_some_iff.mp h1).1))) (hp.imp λh=>Xl h)).mp ?_;rw[Xr,Xr,h1,h2]
def _mf{t:SetTable}(hp:t.ï.R.ñ (· < ·))(hd:t.dummies=(List.G [])){i j}(h:t.ï[i]?=@j):t.slot j=.live i:=by
 let#[i',e1,e2]\/#[_,e2]:=_kk hp hd j
 .rw[e1,_me hp e2 h]
 .show absurd (Y2 (Xr▸h)) e2
def _mg{t:SetTable}:t.sameMemory t.moves t.ô=@true:=by
 ext SetTable.sameMemory;rw[X7 (by simp)]
section
variable {K:Type}[DecidableEq K]{knd:HeapKind prog w K}
#where in
def _mh (X : KX knd) (hr : knd.room A) (ho : s.H.get? a = @o) (ok : OkT knd s.H o es ep t ks) (hb : knd.is s.H k b)
 (hM : jV t.ô (knd.hash k) M∉t.ï.R) (hbf : ∀m,m<M -> jV t.ô (knd.hash k) m > t.ï.R) (hl : M<10*SetTable.turns t.ô)
    (hyes : k > ks.C (·.1) -> Q (.there none) s) (ju : k∉ks.C (·.1) -> Q (.free (jV t.ô (knd.hash k) M) false) s):
    ∀ fuel m (lz),m<=M -> M - m<fuel -> lz.p (t.probeStart (knd.hash k)) = pr t.ô (knd.hash k) m ->
      (∀ (i : Nat) p,ks[i]? = @p -> p.1 = k -> ∃m',m<=m' /\ m'<M /\ t.ï[i]? = @(jV t.ô (knd.hash k) m')) ->
      wpAny (model prog w) A (setSearchFrom a (.I b) (knd.hash k) true fuel lz) Q E s:= by
  intro fuel
  induction fuel with
  | zero => intro m lz h1 h2; symm
  | succ fuel ih=>
    intro m lz h1 h2 av ff;ext setSearchFrom;show X0 (Yn ho ok.d ok.f ?_);right;rw [_ma ok.tb.m];simp only [Bool.false_eq_true,if_false]
    split
    . revert met p9
      let hg : ∀(i : Nat) (e : Int × Value),es[i]? = @e -> (es[i]?.C (·.1)).p 0 = e.1:= λi e he=>by rw[he]; rfl
      let#[e1,e2]\/#[m',i,q1,q2,q3,q4,q5,q6]:=_mc ok.tb hM hbf hl p9 av h1
      . cases _aa e1
        right;show X4 (ju λhk=> ?_);let#[p,hp,rfl]:= aE hk;let#[i,hi]:= List.mem_iff_getElem?.mp hp;let#[m',a1,a2,a3]:= ff i p hi rfl;show e2 m' i a1 a2 a3 ?_;let zh : es[i]? = @(ent knd p):= by rw[<-Xr,ok.el,Xf,hi]; rfl
        show hg i _ zh
      . cases _aa q5
        right;let uq : i<es.L:= by rw[<-ok.tb.sz]; show(Array.getElem?_eq_some_iff.mp q3).1
        let#[p,hp,he]:= ok.at (Xq uq);let ml:= ok.is p (Y2 hp);refine' (fun {P Q : Prop} (f : P -> Q) (p : P)=>f p) (λkey=> ?m) ?k
        case m=>
          split
          . show X0 (_mb X hb ?_ _ λv hv=> ?_)
            . rw[Xd .q]
              show key
            . let#[e,uu,rfl]:= aE hv
              let uu : e > es.R:= (Array.mem_toList_iff.s (Array.mem_filter.mp (Array.mem_toList_iff.mp uu)).1);rw[ok.el]at uu;let#[p',my,rfl]:= aE uu;show#[p'.1,p'.2,rfl,ok.is p' my]
          . show key
        rw [Xq uq,he];right;show X0 (Yd (knd.eqBool hr ml hb ?_));show X0 (Yn ho ok.d ok.f ?_);right
        by_cases hk : p.1 = k
        . rw [X8 hk,X7 (show(true&&true) = true from rfl)]
          show X4 (hyes (List.mem_map.s #[p,Y2 hp,hk]))
        . rw [Xj hk,Xd .q,_mg]
          right;rw [X7 rfl,_mf ok.tb.pw ok.tb.d q3];right;rw [Xq uq,he];right;show X0 (wpAny_isSame_ref_self ?_);rw [X7 rfl];show X0 (X4 ?_);right;rw [Xd .q];show ih (m'+1) _ .q (by grind) rfl λi2 p2 pq vp=> ?_
          let#[m2,a1,a2,a3]:= ff i2 p2 pq vp;show#[m2,?_,a2,a3];let c\/c:=Nat.lt_or_ge m2 (m'+1)
          . exfalso
            by_cases c2 : m2 = m'
            . subst c2
              let:= _me ok.tb.pw a3 q3;subst this;rw[hp]at pq;cases _aa pq;show hk vp
            . show q6 m2 i2 a1 .q a3 ?_
              let zh : es[i2]? = @(ent knd p2):= by rw[<-Xr,ok.el,Xf,pq]; rfl
              let this : _ = knd.hash p2.1:= hg i2 _ zh;rw[vp]at this;show this
          . show c
    . revert p9
      show(Exists.è (_md ok.tb hM hbf hl av h1) λmet hm=>p9 met hm).è
end
section
variable {K:Type}[DecidableEq K]{knd:HeapKind prog w K}
def HasT(knd:HeapKind prog w K)(h:Heap)(a:Addr)(ls:List K):Prop:=∃o es ep t ks,h.get? a=@o/\OkT knd h o es ep t ks/\(ks.C (·.1)).á ls
def ByV(knd:HeapKind prog w K):Prop:=∀{A:Around} {E:VP9} {s:Shared} {k:K} {a:Addr} {Q:Bool->Shared->Prop},knd.is s.H k a->(∀b,Q b s)->wpAny (model prog w) A (hashByValue 8 (.I a)) Q E s
def _mi:∀{vs:List β} {ks},vs.á (ks.C f)->∃gm:List α,gm.á ks/\vs=gm.C f
 |[],ks,h=>#[ks,.ò _,h.nil_eq]
 |v::vs,ks,h=>by
  let#[k,hk,rfl]:=aE (h.ê.mp X3);let#[a,b,rfl]:=List.append_of_mem hk;let hp:(k::_).á (a++k::b):=List.perm_middle.à;let#[gm,p,rfl]:=_mi ((h.J (hp.à.C f)).cons_inv);show#[k::gm,(p.æ k).J hp,rfl]
def add(X:KX knd)(V:ByV knd)(hr:knd.room A)(hS:HasT knd s.H a ls)(hb:knd.is s.H k b)(hl:ls.B+1<=60)
  (h:∀bb h',Heap.SameBut a s.H h'->HasT knd h' a (if k>ls then ls else ls++[k])->Q bb {s with heap:=h' }):wpAny (model prog w) A (setAddHashed a (.I b) (knd.hash k)) Q E s:=by
 let#[o,es,ep,t,ks,ho,ok,hp]:=hS;let hsz:es.L=ls.B:=by rw[ok.sz,<-hp.length_eq,X5]
 let#[M,m1,m2,m3]:=_kd ok.tb.m _ ok.tb.empty;let hmem:k>ks.C _↔k>ls:=hp.ê;let hturn:10*SetTable.turns t.ô<=1420:=by
  let e\/e\/e:=ok.tb.m<;>rw[e]<;>decide
 show Yd (X0 (Yn ho ok.d ok.f ?_));right;rw [show byScan _ es=false from rfl];ext setSearch;show X0 (_mh X hr ho ok hb m2 m3 m1 (λhk=>?_) (λhk=>?_) 100000 0 none (Y9 _) .q rfl λi p hi ml=>?_)
 .let aq:=hmem.mp hk;let:=h false s.H (Heap.SameBut.ò a s.H);rw [X7 aq]at this;show X4 (this #[o,es,ep,t,ks,ho,ok,hp])
 .let aq:k∉ls:=λz=>hk (hmem.s z)
  rw [Xd aq]at h;show X0 (Yn ho ok.d ok.f ?_);let#[p1,p2,p3,p4,p5,p6,p7]:=_l8 ok.tb m2 m3;generalize t.put _=tp at p1 p2 p3 p4 p5 p6 p7 ⊢;let#[t1,pl]:=tp;generalize hes1:SetTable.insertAt es pl _=d9 at p1 p7 ⊢;let ro:d9.L=es.L+1:=by rw[<-Xk,p1.length_eq,Xn,Xk]
  let tw:d9.L<=sizeLine:=by rw[Z0];lia
  let#[ks1,q1,q2]:=_mi (ks:=(k,b)::ks) (vs:=d9.R) (by rw[List.Z,<-ok.el];show p1);let ji:(ks1.C _).á _:=(q1.C (·.1)).J (by
   show(hp.æ k).J (List.perm_append_singleton k ls).à)
  let dy:=((q1.C _).nodup_iff).s (by
   show List.ø.s #[hk,ok.nd])
  let his:∀p>ks1,knd.is s.H p.1 p.2:=λp hpp=>by
   let rfl\/hpp:=aD (q1.ê.mp hpp)
   .show hb
   .show ok.is p hpp
  let fin:∀u5,wpAny (model prog w) A (do
    storeSet a d9 (if u5=true then t1 else {t1 with plain:=false})
    if(!false&&(if u5=true then t1 else {t1 with plain:=false}).tooFull)=true then do
      setRelay a (SetTable.grown (es.L+1))
      pure true
     else pure true) Q E s:=λu5=>by
   obtain⟨pp,ht2⟩:∃pp,(if u5=true then t1 else {t1 with plain:=false})={t1 with plain:=pp}:=by
    cases u5
    .show#[false,rfl]
    .show#[t1.plain,rfl]
   rw[ht2];let gu:=_kw (es':=d9) (t':={t1 with plain:=pp}) ho ok.d;let ux:=Y7 s.H a (Obj.putSet d9 {t1 with plain:=pp});show X0 (wpAny_storeSet_of ho ok.d ?_ tw);let ye:∀p>ks1,knd.is _ p.1 p.2:=λp hpp=>X.keeps (his p hpp) ho ok.ex.1 ux
   by_cases hfull:({t1 with plain:=pp}:SetTable).tooFull=true
   .rw[hfull];let e5:({t1 with plain:=pp}:SetTable).fill=es.L+1:=p5;let e6:({t1 with plain:=pp}:SetTable).ô=t.ô:=p2;let yc:t.ô*3<=(es.L+1)*5:=by
     unfold SetTable.tooFull at hfull;rw[e5,e6]at hfull
     simpa using hfull
    let#[g1,g2,g3]:=grow ok.tb.m ok.tb.few yc .q;let#[t3,i8,r1,r2,r3,r4,r5]:=_l6 (es:=d9) g1 (ro▸g2) ({t1 with plain:=pp}:SetTable).finger _ ({t1 with plain:=pp}:SetTable).led pp;let tf:({t1 with plain:=pp}:SetTable).fits d9.L=true:=by
     let e7:({t1 with plain:=pp}:SetTable).ï.L=es.L+1:=p6;ext SetTable.fits;let:=ok.tb.few
     grind
    show X0 (X0 (Yn gu rfl tf ?_));right;rw[Xd (by rw[Z0];lia)];let er:({t1 with plain:=pp}:SetTable).relaid _ _=@_:=r1;rw[er];show X0 ?_;let zg:(i8.filterMap (d9[·]?)).L=d9.L:=by rw[<-Xk,r4.length_eq,Xk]
    change wpAny _ _ (ite _ _ _) _ _ _;rw[zg,Xd (by simp)];show X4 ?_;let hs2:=Y7 (s.H.update a (Obj.putSet d9 {t1 with plain:=pp})) a (Obj.putSet (i8.filterMap (d9[·]?)) t3);show wpAny_storeSet_of gu rfl ?_ (zg▸tw);let#[ks3,c1,c2]:=_mi (q2▸r4);show X4 (h true _ (ux.J hs2) #[_,_,_,t3,ks3,_kw gu rfl,#[ok.ex,rfl,c2,λp hpp=>X.keeps (ye p (c1.ê.mp hpp)) gu ok.ex.1 hs2,((c1.C _).nodup_iff).s dy,r5,r2.J (p3.J ok.led)],(c1.C _).J ji])
   .rw[Bool.eq_false_iff.s hfull];let dj:(es.L+1)*5<t.ô*3:=by
     let e5:({t1 with plain:=pp}:SetTable).fill=es.L+1:=p5;unfold SetTable.tooFull at hfull;rw[e5]at hfull;let e6:({t1 with plain:=pp}:SetTable).ô=t.ô:=p2;rw[e6]at hfull
     simpa using hfull
    show X4 (h true _ ux #[_,d9,_,_,ks1,gu,#[ok.ex,rfl,q2,ye,dy,p7 pp dj,p3.J ok.led],ji])
  split
  .show X0 (V hb λu5=>(fin u5))
  .show X0 (X4 (fin true))
 .let zh:es[i]?=@(ent knd p):=by rw[<-Xr,ok.el,Xf,hi];rfl
  let#[m',a1,a2]:=_l9 ok.tb m2 zh (show knd.hash p.1=knd.hash k by rw[ml]);show#[m',Y9 _,a1,a2]
end
section
variable {K:Type}[DecidableEq K]{knd:HeapKind prog w K}
def stepK(ls:List K)(k:K):List K:=if k>ls then ls else ls++[k]
def ddK(ss:List K):List K:=ss.foldl stepK []
def _mj{ss:List K}(h:ss[i]?=@x):ddK (ss.take (i+1))=stepK (ddK (ss.take i)) x:=by
 ext ddK;rw[List.take_succ,h,List.foldl_append];rfl
def _mk:∀(ss ls:List K),ls.B<=(ss.foldl stepK ls).B
 |[],ls=>Xb _
 |k::ss,ls=>by
  show Yw ?_ (_mk ss _);ext stepK
  split
  .show Xb _
  .simp
def _ml(ss:List K) i:(ddK (ss.take i)).B<=(ddK ss).B:=by
 let:ddK ss=(ss.ý i).foldl stepK (ddK (ss.take i)):=by
  ext ddK;rw[<-List.foldl_append,List.take_append_drop]
 rw[this];show _mk _ _
def HasT.same(X:KX knd)(x:HasT knd h a ls)(e:∀b o,h.get? b=@o->o.cls≠.l "list_iterator"->h'.get? b=@o):HasT knd h' a ls:=by
 let#[o,es,ep,t,ks,ho,r,hp]:=x;show#[o,es,ep,t,ks,e _ _ ho (by rw[r.ex.1];decide),#[r.ex,r.d,r.el,λp hpp=>X.keep (r.is p hpp) λb ob hb ht=>e b ob hb (by rw[ht];decide),r.nd,r.tb,r.led],hp]
def _mm(e:h.get? a=@(fresh w)):HasT knd h a []:=
 #[_,(List.G []),0,.fresh 0 0 _,[],e,#[#[rfl,rfl,rfl],rfl,rfl,(nofun),Xy,#[.O rfl,rfl,rfl,.nil,(λj hj=>(nomatch hj)),by change 0*5<7*3;decide,(λz hz=>(nomatch hz))],rfl],.ò _]
def _mn(X:KX knd)(V:ByV knd)(hr:knd.room A.in1.in1.in1)(hh:A.õ=none)(hl:s.H.IsList l items)(hn:ss.B=items.L)(hi:∀(i:Nat) v,items[i]?=@v->∃b x,v=.I b/\ss[i]?=@x/\knd.is s.H x b)(hb:(ddK ss).B<=59)
  (h:∀(h':Heap) (tk:Nat),HasT knd h' ↥s (ddK ss)->(∀b o,b<↥s->s.H.get? b=@o->h'.get? b=@o)->Q (.I ↥s) {s with heap:=h',toks:=tk}):
  wpAny (model prog w) A (call (.l "set") [.I l]) Q E s:=by
 show _kD (C:=λi h=>HasT knd h ↥s (ddK (ss.take i))/\∀(i:Nat) v,items[i]?=@v->∃b x,v=.I b/\ss[i]?=@x/\knd.is h x b) hh hl (λh' cf e=>#[_mm e,λi v hv=>?_]) (fun {i h h'} hS e=>#[hS.1.same X e,λi v hv=>?_]) (fun {i v s'} {Q E} hv jh hS hQ=>?_) λh' tk hS=>h h' tk ?_
 .let#[b,x,e1,e2,e3]:=hi i v hv;show#[b,x,e1,e2,X.keep e3 λb ob hb _=>cf b ob hb]
 .let#[b,x,e1,e2,e3]:=hS.2 i v hv;show#[b,x,e1,e2,X.keep e3 λb ob hb ht=>e b ob hb (by rw[ht];decide)]
 .let#[b,x,rfl,hx,lr]:=hS.2 i v hv;obtain⟨oS,hoS,hcS⟩:∃o,s'.H.get? ↥s=@o/\o.cls=.l "set":=by
   let#[o,es,ep,t,ks,ho,r,_]:=hS.1;show#[o,ho,r.ex.1]
  show Yd (X0 (knd.pyHash hr lr (add (s:={s' with toks:=s'.toks+knd.draws x}) X V hr hS.1 lr ?_ λbb h' a1 a2=>?_)))
  .let:=_ml ss i;lia
  let a2:HasT knd h' ↥s (stepK (ddK (ss.take i)) x):=a2;rw[<-_mj hx]at a2;show hQ bb h' _ (Nat.le_add_right _ _) a1 #[a2,λi v hv=>?_];let#[b,x,e1,e2,e3]:=hS.2 i v hv;show#[b,x,e1,e2,X.keeps e3 hoS hcS a1]
 .rw[<-hn,List.take_length]at hS;show hS.1
end
end Tw
namespace Tl
open Q
mutual
def ltD:D->D->Option Bool
 |.int i,.int j=>⇑(decide (i<j))|.str x,.str y=>⇑(decide (x.cps.toList<y.cps.toList))|.tup xs,.tup ys=>ltDs xs ys|_,_=>none
def ltDs:List D->List D->Option Bool
 |[],[]=>⇑false|[],_::_=>⇑true|_::_,[]=>⇑false|a::x,b::y=>if a=b then ltDs x y else ltD a b
end
def _mo(a:D):List D->List D
 |[]=>[a]|b::r=>if ltD b a=@true then b::_mo a r else a::b::r
def K3:List D->List D
 |[]=>[]|a::r=>_mo a (K3 r)
def WY:D->Bool
 |.X (.E _::_)=>true|_=>false
def okT(ds:List D):Bool:=ds.all (λd=>k5 6 d&&WY d)&&ds.all λa=>ds.all λb=>(ltD a b).isSome
def Qv(l:List D)(d:D):List D:=if d>l then l else l++[d]
def ddT(ds:List D):List D:=ds.foldl Qv []
end Tl
namespace Q
open Tl
def ZZ:Sd->Option Sd:=λx=>match x.2 with
 |.S ds=>if(ddT ds).B<=59/\okT ds=true then @(.rt,.S (K3 (ddT ds)))else none|_=>none
end Q
namespace Tl
open PySem PyProof.Rows SeqAt
def _mp(A:Around)(s:Shared)(y x:Value)(b:Bool):Prop:=
 ∀(prog:Program) (w:World) (E:VP9) (Q:VP9),Q (.bool b) s->wpAny (model prog w) A (richCompare .Lt y x) Q E s
inductive Lx (A:Around)(s:Shared):List Value->List Value->Bool->Prop
 |nn:Lx A s [] [] false
 |nc (y:Value) (ys:List Value):Lx A s [] (y::ys) true
 |cn (x:Value) (xs:List Value):Lx A s (x::xs) [] false
 |eq {x y:Value} {xs ys:List Value} {b:Bool}:EqAt A s x y true->Lx A s xs ys b->Lx A s (x::xs) (y::ys) b
 |lt {x y:Value} {xs ys:List Value} {b:Bool}:EqAt A s x y false->_mp A s x y b->Lx A s (x::xs) (y::ys) b
def _mq (h:Lx A s xs ys k):∀{R:Option Fin×Unit->Shared->Prop},(R (@(.done (.ret (.bool k))),()) s)->(k=decide (xs.B<ys.B)->R (none,()) s) ->
  wpAny (model prog w) A (forIn (xs.zip ys) ((none,()):Option Fin×Unit) λx __s=>do
      let __do_lift <-eqBool x.fst x.snd
      if(!__do_lift)=true then do
        PySem.rule "tuple.compare.by-the-first-pair-that-differs"
        let __do_lift <-richCompare CmpOp.Lt x.fst x.snd
        let __do_lift <-ret __do_lift
        pure (ForInStep.done (@__do_lift,()))
       else pure (ForInStep.yield (none,()))) R E s:=by
 induction h with
 |nn=>intro R h1 h2;show X4 (h2 rfl)|nc y ys=>intro R h1 h2;show X4 (h2 (by rfl))|cn x xs=>intro R h1 h2;show X4 (h2 (by rfl))
 |eq he _ ih=>
  intro R h1 h2;rw[List.zip_cons_cons,List.forIn_cons];show X0 (X0 (he prog w _ _ ?_));show X4 ?_;show ih h1 λe=>h2 (by rw[e];simp)
 |lt he hl=>
  intro R h1 h2;rw[List.zip_cons_cons,List.forIn_cons];show X0 (X0 (he prog w _ _ ?_));show X0 (Zp (X0 (hl prog w _ _ ?_)));show X0 (X4 (X4 (X4 h1)))
def _mr{Q:VP9}(hl:s.H.IsTuple l items)(hb:s.H.IsTuple b items2)(h:Lx A s items.R items2.R k)(hq:Q (.bool k) s):
  wpAny (model prog w) A (Builtin.«tuple.__lt__» #[[.I l,.I b],[]]) (λfin s'=>∃v,fin=.done (.ret v)/\Q v s') E s:=by
 let tyb:=hb.typeIs;let#[ol,hol,de,nl,u6]:=hl;let#[ob,jc,hcb,nb,gf]:=hb;change wpAny _ _ (isInstance _ _ >>= _) _ _ _;show X0 (Zn tyb isSubtype_tuple_tuple ?_);show X0 (wpAny_tupleItemsOf hol u6 (X0 (wpAny_tupleItemsOf jc gf ?_)));show X0 (_mq h ?_ λe=>?_)
 .show X4 #[_,rfl,hq]
 .show X4 #[_,rfl,?_];let:Builtin.Tuple.tupleCompareSizes CmpOp.Lt items.L items2.L=.bool k:=by
   rw[e];rfl
  rw[this];show hq
def _ms(hl:s.H.IsTuple l items)(hb:s.H.IsTuple b items2)(hu:A.y<cLine)(h:Lx A.in1 s items.R items2.R k):_mp A s (.I l) (.I b) k:=λprog w E Q hq=>by
 let t1:=hl.typeIs;let t2:=hb.typeIs;show richCompare_meets_room t1 t2 PySem.F.slot_tuple_lt PySem.F.entry_tuple_lt (PySem.F.args_tuple_lt_2 _ _)
  (Meets.of_wp (S:=λA R s=>s.H.IsTuple l items/\s.H.IsTuple b items2/\Lx A.in1 s items.R items2.R k/\R _ s) λprog w A R s hs=>_mr hs.1 hs.2.1 hs.2.2.1 hs.2.2.2) #[hl,hb,h,#[(nofun),hq]] hu
open Q
def _mt(x y:Str)(t u:Tok):_mp A s (.x x t) (.x y u) (decide (x.cps.R<y.cps.R)):=λprog w E Q h=>PyProof.Rows.lt_str h
def lt_int(i j:Int)(t u:Tok):_mp A s (.E i t) (.E j u) (decide (i<j)):=λprog w E Q h=>wpAny_lt_int h
#where in
def _mu(hu:A.y+2*n+1<cLine)(bf:∀(d d':D) (u w:Value) b,k5 n d=true->k5 n d'=true->jX s.H d u->jX s.H d' w->ltD d d'=@b->_mp A s u w b):∀(xs ys:List D) (us qu:List Value) b,keyDs n xs=true->keyDs n ys=true->CReps s.H xs us->CReps s.H ys qu->ltDs xs ys=@b->Lx A s us qu b:=by
 intro xs
 induction xs<;>intro ys us qu b kx ky q1 q2 h<;>cases ys<;>unfold CReps at q1 q2<;>unfold ltDs at h
 .cases h;subst q1 q2;show .nn
 .let#[u,r,rfl,_,_]:=q2;cases h;subst q1;show .nc _ _
 .let#[u,r,rfl,_,_]:=q1;cases h;subst q2;show .cn _ _
 .revert x xs ihx y ys;let#[u,r,rfl,g1,g2]:=q1;let#[u',r',rfl,g3,g4]:=q2;unfold keyDs at kx ky;rw[Bool.â]at kx ky;let he:=WX n (A:=A) (_fr kx.1) g1 g3 .q;rw[_fs kx.1 ky.1]at he
  by_cases e:x=y
  .rw[X7 e]at h;rw[X8 e]at he;show .eq he (ihx ys r r' b kx.2 ky.2 g2 g4 h)
  .rw[Xd e]at h;rw[Xj e]at he;show .lt he (bf _ _ _ _ _ kx.1 ky.1 g1 g3 h)
inductive Lv:D->D->Bool->Prop
 |int (i j:Int):Lv (.E i) (.E j) (decide (i<j))
 |str (x y:PySem.Str):Lv (.x x) (.x y) (decide (x.cps.R<y.cps.R))
 |tup {xs ys:List D} {k:Bool}:ltDs xs ys=@k->Lv (.X xs) (.X ys) k
def ltv(h:ltD a b=@k):Lv a b k:=by
 unfold ltD at h
 split at h
 .cases h;show .E _ _
 .cases h;show .x _ _
 .show .X h
 .cases h
def lt_C:∀n {d d':D} {u w:Value} {A:Around} {b:Bool},k5 n d=true->k5 n d'=true->jX s.H d u->jX s.H d' w->A.y+2*n<cLine->ltD d d'=@b->_mp A s u w b:=by
 intro n
 induction n with
 | zero=>
  intro d d' u w A b k1 k2 r1 r2 hu h;cases ltv h with|int=>unfold jX at r1 r2;let#[t,rfl]:=r1;let#[t',rfl]:=r2;show lt_int _ _ _ _|str=>unfold jX at r1 r2;let#[t,rfl]:=r1;let#[t',rfl]:=r2;show _mt _ _ _ _|tup=>unfold k5 at k1;cases k1
 | succ n ih=>
  intro d d' u w A b k1 k2 r1 r2 hu h;cases ltv h with
  |int=>unfold jX at r1 r2;let#[t,rfl]:=r1;let#[t',rfl]:=r2;show lt_int _ _ _ _|str=>unfold jX at r1 r2;let#[t,rfl]:=r1;let#[t',rfl]:=r2;show _mt _ _ _ _
  |tup h=>
   unfold jX at r1 r2;unfold k5 at k1 k2;let#[a,us,rfl,h1,q1]:=r1;let#[a',qu,rfl,h2,q2]:=r2;show _ms h1 h2 .q (_mu .q (λ_ _ _ _ _ a1 a2 a3 a4 a5=>ih a1 a2 a3 a4 .q a5) _ _ us qu _ k1 k2 q1 q2 h)
end Tl
namespace Tl
open Q
structure Ord (n:Nat):Prop where
 a1:∀{a b:D},sizeOf a<n->ltD a b=@true->ltD b a=@false
 a2:∀{x y:List D},sizeOf x<n->ltDs x y=@true->ltDs y x=@false
 t1:∀{a b:D},sizeOf a<n->ltD a b=@false->a≠b->ltD b a=@true
 t2:∀{x y:List D},sizeOf x<n->ltDs x y=@false->x≠y->ltDs y x=@true
 r1:∀{a b c:D},sizeOf a<n->ltD a b=@true->ltD b c=@true->ltD a c=@true
 r2:∀{x y z:List D},sizeOf x<n->ltDs x y=@true->ltDs y z=@true->ltDs x z=@true
#where in
def ord (n): Ord n:= by
  induction n with
  | zero=>show#[nofun,nofun,nofun,nofun,nofun,nofun]
  | succ n ih=>
    show#[fun {a b} hs h=> ?_,fun {x y} hs h=> ?_,fun {a b} hs h ne=> ?_,fun {x y} hs h ne=> ?_,fun {a b c} hs h1 h2=> ?_,fun {x y z} hs h1 h2=> ?_]
    . generalize hk : true = k at h
      cases ltv h <;> ext ltD
      . rw[Xj (by let:= Y4 hk.à; lia)]
      . rw[Xj (List.lt_asymm (Y4 hk.à))]
      . subst hk
        show ih.a2 (by simp at hs; lia) ‹_›
    . cases x <;> cases y <;> unfold ltDs at h ⊢ <;> first
        | (cases h; done)
        | rfl
        | skip
      simp at hs
      split at h
      . rw[X7 (Eq.à ‹_›)]
        show ih.a2 .q h
      . rw[Xd λz=> ‹¬_› z.à]
        show ih.a1 .q h
    . generalize hk : false = k at h
      cases ltv h <;> ext ltD
      . revert i j
        let : i≠j:= λz=>ne (by rw[z])
        rw[X8 .q]
      . revert x y
        let h1:= List.not_lt.mp (of_decide_eq_false hk.à);let h2\/h2:=Decidable.em (y.cps.R<x.cps.R)
        . rw[X8 h2]
        . let:= List.le_antisymm (List.not_lt.mp h2) h1
          show absurd (by cases x; cases y; cases Array.toList_inj.mp this; rfl) ne
      . subst hk
        show ih.t2 (by simp at hs; lia) ‹_› λz=>ne (by rw[z])
    . cases x <;> cases y <;> unfold ltDs at h ⊢ <;> first
        | (cases h; done)
        | rfl
        | show absurd rfl ne
        | skip
      simp at hs
      split at h
      . revert e
        rw[X7 e.à];show ih.t2 .q h λz=>ne (by rw[e,z])
      . revert e
        rw[Xd λz=>e z.à];show ih.t1 .q h e
    . generalize hk : true = k at h1
      cases ltv h1 <;> generalize hl : true = l at h2 <;> cases ltv h2 <;> ext ltD
      . rw[X8 (by let:= Y4 hk.à; let:= Y4 hl.à; lia),<-hk]
      . rw[X8 (List.lt_trans (Y4 hk.à) (Y4 hl.à)),<-hk]
      . subst hk hl
        show ih.r2 (by simp at hs; lia) ‹_› ‹_›
    . cases x <;> cases y <;> (try (unfold ltDs at h1; cases h1; done)) <;> cases z <;> unfold ltDs at h1 h2 ⊢ <;> first
        | (cases h2; done)
        | rfl
        | skip
      revert a x b y c z;simp at hs
      by_cases e1 : a = b
      . subst e1
        rw[X7 rfl]at h1
        split at h2
        . rw[X7 ‹_›]
          show ih.r2 .q h1 h2
        . rwa [Xd ‹_›]
      . rw[Xd e1]at h1
        by_cases e2 : b = c
        . rwa [<-e2,Xd e1]
        . rw[Xd e2]at h2
          rw[Xd λe=>by subst e; rw[ih.a1 .q h1]at h2; cases h2];show ih.r1 .q h1 h2
def _mv(h:ltD a b=@true):ltD b a=@false:=(ord _).a1 (J0 _) h
def _mw(h:ltD a b=@false)(ne:a≠b):ltD b a=@true:=(ord _).t1 (J0 _) h ne
def lt_trans(h1:ltD a b=@true)(h2:ltD b c=@true):ltD a c=@true:=(ord _).r1 (J0 _) h1 h2
def _mx a (h:ltD a a=@true):False:=by
 let:=_mv h
 symm
end Tl
namespace Tl
open PySem PySem.W PyProof.Rows Srt Q
abbrev Ls(a b:D):Prop:=ltD a b=@true
def Cmp(ds:List D):Prop:=∀a>ds,∀b>ds,∃k,ltD a b=@k
def _my(h:Cmp ds)(ha:a>ds)(hb:b>ds)(ne:a≠b):Ls a b\/Ls b a:=by
 let#[k,hk]:=h a ha b hb;cases k with|true=>show .O hk|false=>show .h (_mw hk ne)
def _mz:∀{l:List α},(∀a>l,p a=true->q a=true)->(∃x>l,q x=true/\p x=false)->l.countP p<l.countP q
 | [],_,h=>by grind
 | a::l,hi,h=>by
  let mono:=List.countP_mono_left λb hb hp=>hi b (_ad _ hb) hp
  rw[List.countP_cons,List.countP_cons];let#[x,hx,q1,q2]:=h;let rfl\/hx:=aD hx
  .rw[X7 q1,Xd (by rw[q2];decide)];lia
  .let:=_mz (λb hb hp=>hi b (_ad _ hb) hp) #[x,hx,q1,q2]
   by_cases c:p a=true
   .rw[X7 c,X7 ((hi a X3) c)]
    symm
   .rw[Xd c]
    split<;>lia
def rk(ds:List D)(d:D):Int:=((ds.countP λe=>decide (Ls e d):Nat):Int)
def _mA(ha:a>ds)(h:Ls a b):rk ds a<rk ds b:=by
 ext rk;let:=_mz (q:=λe=>decide (Ls e b)) (λe _ he=>X8 (lt_trans (Y4 he) h)) #[a,ha,X8 h,Xj (_mx a)]
 symm
def _mB(hc:Cmp ds)(ha:a>ds)(hb:b>ds):ltD a b=@(decide (rk ds a<rk ds b)):=by
 let#[k,hk]:=hc a ha b hb;rw[hk];cases k with
 | true=>rw[X8 (_mA ha hk)]
 | false=>
  rw[Xj]
  by_cases e:a=b
  .symm
  .let:=_mA hb (_mw hk e);lia
def _mC(hc:Cmp ds)(ha:a>ds)(hb:b>ds)(h:rk ds a=rk ds b):a=b:=by
 by_cases e:a=b
 .show e
 .let z\/z:=_my hc ha hb e
  .let:=_mA ha z;symm
  .let:=_mA hb z;symm
structure TT (h:Heap)(vs:List Value)(ds:List D):Prop where
 len:vs.B=ds.B
 at':∀(i:Nat) v d,vs[i]?=@v->ds[i]?=@d->∃b x r,v=.I b/\d=.X (.E x::r)/\jX h d v/\k5 6 d=true
def TT.tail(t:TT h (v::vs) (d::ds)):TT h vs ds:=#[by let:=t.len;simpa using this,λi v d e1 e2=>t.at' (i+1) v d (~~~e1) (~~~e2)]
def TT.kat:∀{vs ds},TT h vs ds->∃fs,KatTups h vs fs/\fs.B=vs.B/\∀v>fs,∃x t,v=Value.E x t
 |[],_,_=>#[[],.nil,rfl,nofun]
 |v::vs,d::ds,t=>by
  let#[b,x,r,rfl,rfl,hr,hk]:=t.at' 0 v d rfl rfl;let#[fs,g1,g2,g3]:=TT.kat t.tail;let#[a,us,e,#[ob,jc,hc,nn,mz],hi]:=hr;cases e;let#[u,rr,rfl,hu,_]:=hi;let#[tk,rfl]:=hu;show#[.E x tk::fs,.æ jc hc mz rfl g1,by simp[g2],λv hv=>?_];let rfl\/hv:=aD hv
  .show#[_,_,rfl]
  .show g3 v hv
section
#where in
def _mD(h:Lx A s us qu b)(hq:Q b s):∀{fin i},fin=decide (us.B<qu.B)->KatLex prog w A true fin Q (us.zip qu) (i+1) s:=by
 induction h<;>intro f i e
 .rw[e];show kat_nil hq
 .rw[e];show kat_nil (~~~hq)
 .rw[e];show kat_nil (~~~hq)
 .revert he _ ih;show kat_cons (he prog w _ _ (kat_yes (ih hq (by rw[e];simp))))
 .revert he hl;show kat_cons (he prog w _ _ (kat_no (kat_one _ _ (hl prog w _ _ hq))))
def _mE(hu:A.y+20<cLine)(t:TT s.H vs ds) hi hj (hb:ltD (ds[i]'(by rw[<-t.len];show hi)) (ds[j]'(by rw[<-t.len];show hj))=@b)(h:C b s):kas_ask prog w A (tuples' true) vs i j C s:=by
 let li:i<ds.B:=by rw[<-t.len];show hi
 let lj:j<ds.B:=by rw[<-t.len];show hj
 ext kas_ask;let ei:vs.p i Value.ã=vs[i]:=by simp[hi]
 let ej:vs.p j Value.ã=vs[j]:=by simp[hj]
 rw[ei,ej];let#[b1,x1,r1,e1,f1,c1,k1]:=t.at' i _ _ (X1 hi) (X1 li);let#[b2,x2,r2,e2,f2,c2,k2]:=t.at' j _ _ (X1 hj) (X1 lj);rw[f1,f2]at hb;rw[f1]at c1 k1;rw[f2]at c2 k2;rw[e1]at c1 ⊢;rw[e2]at c2 ⊢;let#[a1,us1,q1,#[o1,gu,hc1,n1,rn],i1]:=c1;let#[a2,us2,q2,#[o2,kh,qg,n2,jg],i2]:=c2;cases q1;cases q2;unfold k5 at k1 k2;let#[u1,v1,rfl,p1,w1]:=i1;let#[u2,v2,rfl,p2,w2]:=i2;let kd1:=k1;let kd2:=k2;unfold keyDs at kd1 kd2;rw[Bool.â]at kd1 kd2;let#[t1,rfl]:=p1;let#[t2,rfl]:=p2;unfold ltD ltDs at hb;show kat_lt gu rn kh jg (kat_cons (wpAny_eqBool_int ?_))
 by_cases e:x1=x2
 .subst e;rw[X7 rfl]at hb;rw[beq_self_eq_true];show kat_yes (_mD (_mu (n:=5) .q (λ_ _ _ _ _ a1 a2 a3 a4 a5=>lt_C 5 a1 a2 a3 a4 .q a5) r1 r2 v1 v2 b kd1.2 kd2.2 w1 w2 hb) h (by simp))
 .rw[Xd (λz=>e (by injection z))]at hb;cases _aa hb;rw[Yj e];show kat_no (oneLt_int h)
end
def _mF(a):∀r,(_mo a r).á (a::r)
 |[]=>.ò _
 |b::r=>by
  ext _mo
  split
  .show((_mF a r).æ b).J (.swap _ _ _)
  .show .ò _
def Vj:∀r,(K3 r).á r
 |[]=>.ò _|a::r=>(_mF a _).J ((Vj r).æ a)
#where in
def _mG:∀{r},r.ñ Ls->a∉r->(∀b>r,∃k,ltD b a=@k)->(_mo a r).ñ Ls
 | [],_,_,_=>List.pairwise_singleton _ _
 | b::r,hp,hn,hc=>by
  let#[h1,h2]:=List.pairwise_cons.mp hp;ext _mo
  split
  .revert hb;show List.pairwise_cons.s #[λc hcm=>?_,_mG h2 (λz=>hn (_ad _ z)) λc hcm=>hc c (_ad _ hcm)];let rfl\/hcm:=aD ((_mF a r).ê.mp hcm)
   .show hb
   .show h1 c hcm
  .revert hb;let ku:Ls a b:=by
    let#[k,hk]:=hc b X3;cases k with|true=>show absurd hk hb|false=>show _mw hk λz=>hn (z▸X3)
   show List.pairwise_cons.s #[λc hcm=>?_,hp];let rfl\/hcm:=aD hcm
   .show ku
   .show lt_trans ku (h1 c hcm)
def _mH:∀{ds},Cmp ds->ds.V->(K3 ds).ñ Ls
 |[],_,_=>.nil
 |a::r,hc,hn=>by
  let#[h1,h2]:=List.ø.mp hn;ext K3;show _mG (_mH (λx hx y hy=>hc x (_ad _ hx) y (_ad _ hy)) h2) (λz=>h1 ((Vj r).ê.mp z)) λb hb=>hc b (_ad _ ((Vj r).ê.mp hb)) a X3
def _mI(hc:Cmp ds)(hn:ds.V)(hp:p.á ds)(h:p.ñ Ls):p=K3 ds:=
 List.á.eq_of_pairwise (λa b _ _ h1 h2=>by
  let h2:ltD b a=@true:=h2;rw[_mv h1]at h2;cases h2) h (_mH hc hn) (hp.J (Vj ds).à)
abbrev kj9(s:Shared)(a:Addr)(vs:List Value):Shared:={s with heap:=((s.H.update a (Obj.mapSeq λ_=>(List.G []))).í (seqObj "tuple" vs.G 0)).í (seqObj "list" (List.G []) 0)}
section
def TT.keep(t:TT h vs ds)(et:∀b ob,h.get? b=@ob->ob.cls=.l "tuple"->h'.get? b=@ob):TT h' vs ds:=#[t.len,λi v d e1 e2=>by
 let#[b,x,r,g1,g2,g3,g4]:=t.at' i v d e1 e2;show#[b,x,r,g1,g2,_fA (λb ob _ _ e c _=>et b ob e c) g4 g3,g4]]
def _mJ{key:Nat->Int}{G:List Nat->Prop}(ho:s.H.get? a=@(seqObj "list" vs.G n))(vt:vs.B<64)
  (hk:2<=vs.B->∀Q,Q κ (kj9 s a vs)->wpAny (model prog w) A (keyKind' vs.G) Q E (kj9 s a vs))
  (hask:∀i j (C),i<vs.B->j<vs.B->C (decide (key i<key j)) (kj9 s a vs)->kas_ask prog w A κ vs i j C (kj9 s a vs))
  (fin:∀p,p.á (List.ä vs.B)->(p.C key).ñ (·<=·)->G p)
  (h:∀p,p.á (List.ä vs.B)->G p->P (.done (.ret .ã)) {s with heap:=sortedHeap s.H a vs (p.C λi=>vs.p i .ã).G}):
  wpAny (model prog w) A (Builtin.«list.sort» #[[.I a],[]]) P E s:=by
 rw[list_sort_plain];show X0 (listItems_at ho rfl (X0 (listUpdate_at ho rfl ?_ (by rw[Xe,Z0];lia) (Y9 _))));obtain⟨e1,gu⟩:∃e1,(s.H.update a (Obj.mapSeq λ_=>(List.G []))).get? a=@(seqObj "list" (List.G []) e1):=#[_,get?_update_seq ho (λ_=>(List.G []))];show X0 (seqEpoch_at gu rfl (X0 (wpAny_newTuple (X0 (wpAny_newList (Yd ?_) (Y9 _))) (by change vs.B<=_;rw[Z0];lia))));let ho6:(((s.H.update a (Obj.mapSeq λ_=>(List.G []))).í (seqObj "tuple" vs.G 0)).í (seqObj "list" (List.G []) 0)).get? a=@(seqObj "list" (List.G []) e1):=X2 _ (X2 _ gu);right;let hsz:vs.G.L=vs.B:=by rfl
 by_cases h2:vs.G.L<2
 .rw[X7 h2,X7 h2];show X0 (X4 (X0 (X4 ?_)));right;let es:(arrOf (SortSt.mk' general' (vs.G.zip vs.G) (List.G []) 7 none)).C (·.2)=((List.ä vs.B).C λi=>vs.p i .ã).G:=by
   apply Array.toList_inj.mp;show Zg λi=>?_
   by_cases hi:i<vs.B
   .simp[hi]
   .simp[Nat.le_of_not_lt hi]
  rw[es];show X0 (seqEpoch_at ho6 rfl (X0 (listUpdate_at ho6 rfl ?_ (Y9 _) (by rw[Xe,X5,Xz,Z0];lia))));dsimp[bne_self_eq_false,Bool.false_eq_true,if_false];show X4 (h _ (.ò _) (fin _ (.ò _) ?_));rw[hsz]at h2;let e\/e:=(show vs.B=0\/vs.B=1 by lia)<;>rw[e]<;>simp
 .rw[Xd h2,Xd h2];show X0 (hk .q _ ?_);let#[p,q1,q2,q3]:=_lT (key:=key) (n:=vs.B) .q;show X0 (wpAny_mono (kat_run (ks:=vs) (vs:=vs) (G:=λp' s'=>p'=p/\s'=(kj9 s a vs))
   (Q:=λfm s'=>arrOf fm=p.C (kas_item (vs.G.zip vs.G))/\failedOf fm=none/\s'=(kj9 s a vs))
   rfl .q vt (λp' fm s' a1 a2 a3 a4=>#[by rw[a2,a4.1],a3,a4.2]) (_lU (λi j C hi hj hC=>hask i j C hi hj hC) q1 #[rfl,rfl])) ?_ λ_ _ e=>e)
  rintro ⟨⟨⟩,fm⟩ s' ⟨har,hf,rfl⟩;rw[kat_snds rfl har];show X0 (seqEpoch_at ho6 rfl (X0 (listUpdate_at ho6 rfl ?_ (Y9 _) (by rw[Xe,X5,Xk,q2.sz,Z0];lia))));rw[hf];dsimp[bne_self_eq_false,Bool.false_eq_true,if_false];show X4 (h p.R q2.pm (fin _ q2.pm ?_));rw[List.pairwise_map];show List.pairwise_iff_getElem.s λi j hi hj lm=>?_
  rw[Xk,q2.sz]at hi hj;let:=q3.le (J3 lm) hj;unfold Srt.K at this
  simpa [Array.p,q2.sz,hi,hj]using this
def _mK(hu:A.y+20<cLine)(ho:s.H.get? a=@(seqObj "list" vs.G n))(ht:TT s.H vs ds)(hc:Cmp ds)(dy:ds.V)(vt:vs.B<64)
  (h:∀p:List Nat,p.á (List.ä vs.B)->(p.C λi=>ds.p i .ó)=K3 ds->P (.done (.ret .ã)) {s with heap:=sortedHeap s.H a vs (p.C λi=>vs.p i .ã).G}):
  wpAny (model prog w) A (Builtin.«list.sort» #[[.I a],[]]) P E s:=by
 let ht6:TT (((s.H.update a (Obj.mapSeq λ_=>(List.G []))).í (seqObj "tuple" vs.G 0)).í (seqObj "list" (List.G []) 0)) vs ds:=ht.keep λb ob hb de=>X2 _ (X2 _ (by
  rw[Zm _ _ (λz=>by
   rw[<-z,ho]at hb;cases hb;show absurd (show Value.l "list"=Value.l "tuple" from de) .q)]
  show hb))
 let la:=ht.len.à;let gd:∀i (hi:i<vs.B),ds.p i .ó=ds[i]'⋯:=λi hi=>by simp[show i<ds.B by lia]
 let key:∀i j,i<vs.B->j<vs.B->rk ds (ds.p i .ó)=rk ds (ds.p j .ó)->i=j:=λi j hi hj e=>by
  rw[gd i hi,gd j hj]at e;let:=_mC hc (Xm _) (Xm _) e;show(List.getElem?_inj .q dy).mp (by rw[X1 .q,X1 .q,this])
 let fin:∀p:List Nat,p.á (List.ä vs.B)->(p.C λi=>rk ds (ds.p i .ó)).ñ (·<=·)->(p.C λi=>ds.p i .ó)=K3 ds:=λp hp hpw=>by
  let pp:(p.C λi=>ds.p i .ó).á ds:=by
   show(hp.C _).J (.of_eq ?_);rw[<-la];show Tb.rng_getD ds .ó
  show _mI hc dy pp ?_;rw[List.pairwise_map]at hpw ⊢;show List.ñ.imp_of_mem (fun {i j} hi hj le=>?_) (hpw.and (hp.nodup_iff.s List.nodup_range));let hi:=List.å.mp (hp.ê.mp hi);let hj:=List.å.mp (hp.ê.mp hj);let:=_mB hc (a:=ds.p i .ó) (b:=ds.p j .ó) (gd i hi▸Xm _) (gd j hj▸Xm _);let ne:=λe=>le.2 (key i j hi hj e)
  rw[X8 .q]at this;show this
 show _mJ (κ:=tuples' true) (key:=λi=>rk ds (ds.p i .ó)) ho vt (λh2 Q hq=>?_) (λi j C hi hj hC=>_mE hu ht6 hi hj (by
    let:=_mB hc (a:=ds.p i .ó) (b:=ds.p j .ó) (gd i hi▸Xm _) (gd j hj▸Xm _);rw[<-gd i hi,<-gd j hj];show this) hC) fin h
 let#[fs,g1,g2,g3]:=ht6.kat;show kat_kind (T:=.l "int") g1 .q (λv hv=>?_) rfl ?_
 .let#[x,t,rfl]:=g3 v hv;show .now
 let eb:(Value.l "int" != Value.l "tuple")=true:=by rfl
 show hq
end
end Tl
namespace Tl
open PySem PySem.W PyProof.Rows Srt Q Tw Tb Sw
def trP(prog:Program)(w:PySem.World)(Pd:D->Addr->Prop):HeapKind prog w Kd where
 is:=λh k a=>jX h k.1 (.I a)/\Pd k.1 a
 hash:=λk=>Jq w k.1
 draws:=λk=>WJ k.1
 room:=λA=>A.y+40<cLine
 inj:=λhx hy=>(Kz prog w).inj hx.1 hy.1
 keeps:=λx ho hd hs=>#[(Kz prog w).keeps x.1 ho hd hs,x.2]
 pyHash:=λhu hk h=>(Kz prog w).pyHash hu hk.1 h
 eqBool:=λhu hx hy h=>(Kz prog w).eqBool hu hx.1 hy.1 h
 quiet:=λhk h=>(Kz prog w).quiet hk.1 h
section
def _mL(n m)(hm:n<=m)(hk:k5 n d=true)(hr:jX s.H d u)(h:Q false s):wpAny (model prog w) A (ofAClassStatement m u) Q E s:=by
 show _fu (P:=λn u=>∀m Q,n<=m->Q false s->wpAny _ A (ofAClassStatement m u) Q E s) ?_ (λn a us ht hi m Q hm h=>?_) n hk hr m Q hm h
 .rintro n u (rfl|⟨i,t,rfl⟩|⟨i,t,rfl⟩) m Q _ h<;>(ext ofAClassStatement;show X4 h)
 let ty:=ht.typeIs;let#[ob,jc,de,nn,mz]:=ht;cases m
 .symm
 ext ofAClassStatement;show X0 (J6 ty ?_);right;show X0 (X4 (X0 (Zc jc mz (X0 ?_))));rw[<-Array.forIn_toList];show Zz _ (λac r s'=>r.1=none/\s'=s/\∀u>ac,u>us) _ ?_ ?_ _ _ #[rfl,rfl,λ_ h=>h]
 .rintro v ac r s' ⟨hr,rfl,hu⟩;show X0 (hi v (hu v X3) _ _ (by symm) (X4 #[rfl,rfl,λu h=>hu u (_ad _ h)]))
 .rintro ⟨r1,r2⟩ s' ⟨hz,rfl,_⟩;cases hz;show X4 h
def _mM(n m)(hm:n<=m)(hk:k5 n d=true)(hr:jX s.H d u)(h:∀b,Q b s):wpAny (model prog w) A (hashByValue m u) Q E s:=by
 show _fu (P:=λn u=>∀m Q,n<=m->(∀b,Q b s)->wpAny _ A (hashByValue m u) Q E s) ?_ (λn a us ht hi m Q hm h=>?_) n hk hr m Q hm h
 .rintro n u (rfl|⟨i,t,rfl⟩|⟨i,t,rfl⟩) m Q _ h<;>(ext hashByValue;show X4 (h _))
 let ty:=ht.typeIs;let#[ob,jc,de,nn,mz]:=ht;cases m
 .symm
 show X0 (Yx ty F.slot_tuple_hash.U (X0 (Zc jc mz (X0 ?_))));rw[<-Array.forIn_toList];show Zz _ (λac r s'=>s'=s/\∀u>ac,u>us) _ ?_ ?_ _ _ #[rfl,λ_ h=>h]
 .rintro v ac r s' ⟨rfl,hu⟩;show X0 (hi v (hu v X3) _ _ (by symm) λb=>?_);cases b
  .show X4 (X4 (h _))
  .show X4 #[rfl,λu h=>hu u (_ad _ h)]
 .rintro ⟨r1,r2⟩ s' ⟨rfl,_⟩;cases r1<;>show X4 (h _)
def kindX:KX (trP prog w Pd):=#[fun {_ _ k _} hk et=>#[_fA (λb ob _ _ e c _=>et b ob e c) k.2 hk.1,hk.2],fun {_ _ _ k _ _} hk h=>_mL 6 8 (by simp) k.2 hk.1 h]
def _mN:ByV (trP prog w Pd):=fun {_ _ _ k _ _} hk h=>_mM 6 8 (by simp) k.2 hk.1 h
def _mO{ks:List (Kd×Addr)}(hk:∀p>ks,jX h p.1.1 (.I p.2))(hf:∀p>ks,WY p.1.1=true):TT h (ks.C λp=>Value.I p.2) (ks.C λp=>p.1.1):=#[by simp,λi v d e1 e2=>by
 rw[Xf]at e1 e2;cases hp:ks[i]? with
 | none=>rw[hp]at e1;cases e1
 | some p=>
  rw[hp]at e1 e2;cases _aa e1;cases _aa e2;let hm:=Y2 hp;let f:=hf p hm;let c:=hk p hm;let k:=p.1.2;let g:∀d,WY d=true->jX h d (.I p.2)->k5 6 d=true->∃b x r,Value.I p.2=.I b/\d=.X (.E x::r)/\jX h d _/\k5 6 d=true:=λd f c k=>by
   match d,f with
   |.X (.E x::r),_=>show#[_,x,r,rfl,rfl,c,k]
  show g _ f c k]
def _mP(hu:A.y+60<cLine)(hh:A.õ=none)(hS:HasT (trP prog w Pd) s.H a ls)(hc:Cmp (ls.C (·.1)))(hf:∀k>ls,WY k.1=true)(hl:ls.B<=59)
  (h:∀h' (d) (tk l e) (as),(∀b o,s.H.get? b=@o->h'.get? b=@o)->↥s<=l->h'.get? l=@(seqObj "list" (as.C Value.I).G e)->F2 (λa d=>Pd d a) as (K3 (ls.C (·.1)))->Q (.I l) {s with heap:=h',drawn:=d,toks:=tk}):
  wpAny (model prog w) A (call (.u "sorted") [.I a]) Q E s:=by
 let#[o,es,ep,t,ks,ho,ok,hp]:=hS;let hsz:=ok.sz;let hkl:ks.B=ls.B:=by rw[<-hp.length_eq,X5]
 show Calls.call_function_entry kind_sorted plain_sorted entry_sorted (args_sorted1 _) ?_;show X0 (m:=checkCount "sorted" 1 1 _) (X4 ?_);show X0 (_k5 (~~~hh) ho #[ok.ex.1,ok.d,ok.f,ok.led,λ_=>ok.tb.pw,by rw[hsz,hkl,Z0];lia] λh1 d tk vs cf hsz1 hv=>?_);let hv:vs.á (ks.C λp=>Value.I p.2):=by
  rw[ok.el,Xp]at hv;show hv
 let#[gm,p1,rfl]:=_mi hv;let af:(gm.C λp=>Value.I p.2).B=ls.B:=by rw[X5,p1.length_eq,hkl]
 show X0 (wpAny_newList ?_ (hsz:=by rw[af,Z0];lia));let pz:(h1.í (seqObj "list" (gm.C λp=>Value.I p.2).G 0)).get? h1.objs.L=@(seqObj "list" (gm.C λp=>Value.I p.2).G 0):=X9 _ rfl;let gw:(gm.C λp=>p.1.1).á (ls.C (·.1)):=by
  let:=((p1.C (·.1)).J hp).C (·.1);rw[Xp]at this;show this
 let hmem:=λp hpp=>hp.ê.mp (List.mem_map.s #[p,p1.ê.mp hpp,rfl])
 let hcm:=λx hx y hy=>hc x (gw.ê.mp hx) y (gw.ê.mp hy)
 let xf:(ls.C (·.1)).V:=by
  let n1:=hp.nodup_iff.mp ok.nd;show List.pairwise_map.s (n1.imp λbc z=>bc (J1 z))
 let dy:=gw.nodup_iff.s xf;let his:=λp hpp=>ok.is p (p1.ê.mp hpp)
 let up:∀b ob,s.H.get? b=@ob->(h1.í (seqObj "list" (gm.C λp=>Value.I p.2).G 0)).get? b=@ob:=λb ob e=>X2 _ (cf b ob e)
 let ht:=_mO (λp hpp=>_fA (λb ob _ _ e _ _=>up b ob e) p.1.2 (his p hpp).1) λp hpp=>hf _ (hmem p hpp)
 show X0 (Yd (Y8 slot_list_sort #[_,pz,rfl] entry_list_sort (_mK .q pz ht hcm dy (by rw[af];lia) λp hpm hps=>#[_,rfl,?_]) (args_list_sort _)));let#[e,he]:=sortedHeap_at (out:=(p.C λi=>(gm.C λp=>Value.I p.2).p i .ã).G) pz;let hrg:∀i>p,i<gm.B:=λi hi=>by
  let:=List.å.mp (hpm.ê.mp hi);rw[X5]at this;show this
 let ev:(p.C λi=>(gm.C λp=>Value.I p.2).p i .ã)=(p.C λi=>(gm.C (·.2)).p i 0).C Value.I:=by
  rw[Xp];show Y1 λi hi=>?_
  let:=hrg i hi;simp[this]
 rw[ev]at he;show X4 #[_,rfl,h _ d tk _ e (p.C λi=>(gm.C (·.2)).p i 0) (λb o q=>?_) (J3 hsz1) (by rw[ev];show he) ?_]
 .let hb:=Xh (cf b o q);rw[sortedHeap_old (Xl hb) (by rw[size_push'];show Z3 hb)];show X2 _ (cf b o q)
 .let e2:K3 (ls.C (·.1))=p.C λi=>(gm.C λp=>p.1.1).p i .ó:=by
   rw[hps];show(_mI hc xf ((Vj _).J gw) (_mH hcm dy)).à
  rw[e2];show _lV λi hi=>?_
  let hi:=hrg i hi;let:=(his gm[i] (Xm hi)).2
  simpa [hi]using this
end
end Tl
namespace Q
open PySem PySem.Spec PyProof.Rows L2 L3 Sw Tw Tl
def _mQ(h:okT ds=true):(∀d>ds,k5 6 d=true/\WY d=true)/\Cmp ds:=by
 unfold okT at h;rw[Bool.â,Yb,Yb]at h;show#[λd hd=>by let:=h.1 d hd;rw[Bool.â]at this;show this,λa ha b hb=>?_];let:=h.2 a ha;rw[Yb]at this;show Option.isSome_iff_exists.mp (this b hb)
def _mR:∀{ds},(∀d>ds,k5 6 d=true)->∃ss:List Kd,ss.C (·.1)=ds
 |[],_=>#[[],rfl]
 |d::ds,h=>by
  let#[ss,e]:=_mR λd hd=>h d (_ad _ hd)
  show#[#[d,h d X3]::ss,congrArg _ e]
def _mS:∀(ss ls:List Kd),(ss.foldl Tw.stepK ls).C (·.1)=(ss.C (·.1)).foldl Qv (ls.C (·.1))
 | [],_=>rfl
 | k::ss,ls=>by
  rw[Yu,List.Z,Yu,_mS ss];ext Tw.stepK Qv;let:k>ls↔k.1>ls.C _:=#[λh=>List.mem_map.s #[k,h,rfl],λh=>by
   let#[k',h1,h2]:=aE h;rw[<-J1 h2];show h1]
  by_cases c:k>ls
  .rw[X7 c,X7 (this.mp c)]
  .rw[Xd c,Xd λz=>c (this.s z)];simp
def _mT(ss:List Kd):(ddK ss).C (·.1)=ddT (ss.C (·.1)):=_mS ss []
def _mU:∀(ds ls:List D) {d},d>ds.foldl Qv ls->d>ls\/d>ds
 | [],ls,d,h=>.O h
 | a::ds,ls,d,h=>by
  let h\/h:=_mU ds _ h
  .unfold Qv at h
   split at h
   .show .O h
   .grind
  .show .h (_ad _ h)
section
variable {K:Frag}
def _mV:∀{as ds},F2 (λa d=>PuR K H d (V.I a)) as ds->RepA K H true ds (as.C V.I) []
 |_,_,.nil=>#[rfl,rfl]
 |_,_,.æ h r=>by
  ext RepA;show#[_,_,[],[],rfl,rfl,_iJ h,_mV r]
def _mW(I:L2.Inv X a8 σ H s):∀{ds zs us bs},RepA X.K H true ds zs bs->Vals zs us->(∀d>ds,k5 6 d=true/\WY d=true) ->
  us.B=ds.B/\∀(i:Nat) u,us[i]?=@u->∃b d,u=.I b/\ds[i]?=@d/\jX s.H d (.I b)/\PuR X.K H d (V.I b)
 | [],_,_,_,r,v,_=>by
  let#[rfl,_]:=r;cases v;show#[rfl,λi u h=>by simp at h]
 | d :: ds,_,_,_,r,v,hk=>by
  let#[z,r',b1,b2,rfl,_,r1,r2]:=r;cases v with
  | cons h1 h2=>
   let#[g1,g2]:=_mW I r2 h2 λd hd=>hk d (_ad _ hd)
   let#[k1,k2]:=hk d X3;let pu:=_il k1 r1;show#[by simp[g1],λi u' hu=>?_];cases i with
   | zero=>
    cases _aa hu;let cr:=KQ I pu h1
    match d,k2 with
    |.X _,_=>
     let pu':=pu;let#[a,xs,rfl,_,_]:=pu';cases h1;show#[a,_,rfl,rfl,cr,pu]
   |succ i=>show g2 i u' (~~~hu)
def _mX(K:Frag):List V->Hp->VK->Prop:=λxs H Q=>∃(p:Addr) (zs:List V) (ds:List D) (bs:List Addr),xs=[.I p]/\SqL K H p zs/\RepA K H true ds zs bs/\(ddT ds).B<=59/\okT ds=true/\∀l zs',H l=none->RepA K H true (K3 (ddT ds)) zs' []->Q (.I l) (upd H l (.S zs'))
def _mY(hc:X.calm=true)(hu:X.A.y+64<cLine)(hg:Gl X "sorted")(hm:X.mg "sorted"=none)(ll:Gl X "set")(uf:X.mg "set"=none)(ha:PE X e t)(he:Abs e [] X<|>Ŕ):
  PE X (.ù (.é "sorted" p) [.ù (.é "set" p2) [e] [] be] [] pos) (fun σ H Q=>t σ H λv H1=>_mX X.K [v] H1 Q):=by
 intro a8 s σ H Q I h;show Yp (xQ I hg hm (u:=.u "sorted") (by decide +kernel) (PyProof.Rows.callWith_builtin1 ?_ rfl rfl) .q (by rfl));change wpAny _ _ (spliced ((false,eval (.ù (.é "set" p2) [e] [] be) X.Y)::[])) _ _ s;show Calls.spliced_cons (Yp (xQ I ll uf (u:=.l "set") (by decide +kernel) (Y0 (thn (qZ ha vJ he be a8 s σ H (λvs H1=>_mX X.K vs H1 Q) I ?_) λus s1 hz=>?_) he rfl) .q (by rfl)))
 .show h
 let#[vs,H1,I1,r1,q1]:=hz;let#[b,zs,ds,bs,rfl,hq,rA,hl,hok,q]:=q1;let#[u,rfl,rx]:=wj r1;cases rx;let#[aa,r',pl,hz]:=I1.list hq;let#[kf,cm]:=_mQ hok;let#[ln,at']:=_mW I1 rA r' kf;let#[ss,su]:=_mR λd hd=>(kf d hd).1
 let ou:ss.B=ds.B:=by rw[<-su,X5]
 let u1:=L3.in1_units X.A;let u2:=L3.in1_units X.A.in1;let u3:=L3.in1_units X.A.in1.in1;let fk:(ddK ss).C (·.1)=ddT ds:=by rw[_mT,su]
 let af:(ddK ss).B<=59:=by rw[<-X5 (f:=(·.1)),fk];show hl
 show _mn (knd:=trP X.î X.w λd a=>PuR X.K H1 d (V.I a)) kindX _mN (show X.A.in1.in1.in1.y+40<cLine by lia) (I1.ok.hd hc) pl.isList (ss:=ss) (by rw[Xe,ln,ou]) (λi v hv=>?_) af λh' tk hS cf=>?_
 .let#[b',d,e1,e2,e3,e4]:=at' i v (~~~hv);let hi:i<ss.B:=by rw[ou];show(aF e2).1
  show#[b',ss[i],e1,X1 hi,?_];let ed:(ss[i]).1=d:=by
   let:(ss.C (·.1))[i]?=@(ss[i]).1:=by rw[Xf,X1 hi];rfl
   rw[su,e2]at this;show(_aa this).à
  change jX s1.H (ss[i]).1 (.I b')/\PuR X.K H1 (ss[i]).1 (V.I b');rw[ed];show#[e3,e4]
 .let sub:∀d>ddT ds,d>ds:=λd hd=>(_mU ds [] hd).è (nofun) id
  show Calls.spliced_nil (_mP .q (I1.ok.hd hc) hS (by rw[fk];show λx hx y hy=>cm x (sub x hx) y (sub y hy)) (λk hk=>(kf k.1 (sub k.1 (fk▸List.mem_map.s #[k,hk,rfl]))).2) af λh2 d tk2 l e2 as old2 ue pe hF=>?_);rw[fk]at hF;let I2:L2.Inv X a8 σ H1 {s1 with heap:=h',toks:=tk}:=I1.kept λb u q=>cf b u (Xh q) q
  let tw:as.B<=sizeLine:=by
   let e3:=_lW hF;rw[(Vj _).length_eq,<-fk,X5]at e3;rw[Z0];lia
  show#[.I l,_,Inv.dr (I2.laid (t':=tk2) (o:=.S (as.C V.I)) old2 ue (#[by rw[X5];show tw,as.C Value.I,e2,_lX as,pe])),rfl,q l (as.C V.I) (I2.hok.fresh ue) (_mV (K:=X.K) (H:=H1) hF)]
#where in
def _mZ:Ad1 K (λv H Q=>_mX K [v] H Q) ZZ:=by
 intro H x s Q ok hf k;unfold ZZ at hf;dsimp only at hf;cases hx:x.d with
 | lst ds=>
  rw[hx]at hf;dsimp only at hf
  split at hf
  .revert qy;cases _aa hf;let#[l,xs,bs,ev,q3,r3,_]:=items ok (.O hx);let q3:LsR K H l xs:=by let#[_,z]\/#[z,_]:=q3;show z;rw[hx]at z;cases z
   let r4:RepA K H true ds xs bs:=by
    cases ho:(x.o != .dp)with|true=>rw[ho]at r3;show r3|false=>rw[ho]at r3;show r3.wk
   show#[l,xs,ds,bs,by rw[ev],J8 q3,r4,qy.1,qy.2,λp zs' hp rp=>k _ _ rfl rfl (K6 hp rp nofun)]
  .cases hf
 |_=>rw[hx]at hf;cases hf
end
section
variable {K:Frag}
def _m0(hK:X.K=Z.K)(hc:X.calm=true)(hu:X.A.y+64<cLine)(ha:QV X Z q a ea)(hm:X.mg "sorted"=none)(uf:X.mg "set"=none)(hg:Gl X "sorted"<|>Ŕ)(ll:Gl X "set"<|>Ŕ)(he:Abs ea [] X<|>Ŕ):
  QE X Z q (cF1 ZZ a) (.ù (.é "sorted" p) [.ù (.é "set" p2) [ea] [] be] [] pos):=
 qj (_mY hc hu hg hm ll uf ha (he:=he)) fun σ H Q h=>by
  let:=XY _mZ h
  rwa [hK]
end
end Q
namespace Tw
open PySem PyProof.Rows Tb Sw
section
variable {St:Nat->Shared->Prop}{K:Type}[DecidableEq K]{knd:HeapKind prog w K}
def _m1(X:KX knd){h h':Heap}(x:h.DictOfH knd a xs)(e:∀o,h.get? a=@o->h'.get? a=@o)(et:∀b ob,h.get? b=@ob->ob.cls=.l "tuple"->h'.get? b=@ob):h'.DictOfH knd a xs:=by
 let#[o,es,ep,ho,h1,h2,h3,h4,h5]:=x;show#[o,es,ep,e _ ho,h1,h2,h3,λp hp=>X.keep (h4 p hp) et,h5]
def _m2{more:List _}(dy:(more.C (·.1)).V){p:K×Addr×Value}(h:more[i]?=@p):atKey (more.take i) p.1=none:=by
 show atKey_none_of_get λj q hj=>?_
 let hl:=(aF hj).1;rw[Z1]at hl;rw[List.getElem?_take,X7 (by symm)]at hj;let:=idxH_unique dy hj (by rw[h]);lia
def _m3(X:KX knd)(hr:knd.room A.in1)(W:WalksS prog w A.in1 I fp wr G n P St)(S:Addr)(oz:S∉fp)(yg:∀i s,St i s->∀b>wr,∀ob,s.H.get? b=@ob->ob.cls≠.l "tuple")(hn:more.B=n)(dy:(more.C (·.1)).V)(hz:n<=sizeLine):
  ∀ (k i:Nat) (c:Tok) (s:Shared),n - i=k->i<=n->St i s->s.H.DictOfH knd S (more.take i) ->
   (∀i v,P i v->∃T u x k,v=.I T/\s.H.IsTuple T %[.I u,x|0]/\more[i]?=@(k,u,x)/\knd.is s.H k u) ->
   (∀s',Moved (S::wr) G s s'->s'.H.DictOfH knd S more->R (.ok (.ret .ã)) s') ->
   codeAny (model prog w) A (.u "dict.update.loop" #[[.I S,.I I,.E i c,.ã],[]]) R s:=by
 let zb:S∉wr:=λh=>oz (W.sub _ h)
 let bw:∀b>wr,b>S::wr:=λb hb=>_ad _ hb
 intro k
 induction k with
 | zero=>
  intro i c s hk hi av hS fq hR;let ff:i=n:=.q
  subst ff;show Yr F._Ed ?_;rw[Ze F._Pd _];change wpAny _ A.in1 (pyNext (.I I) >>= _) _ _ s;show X0 (W.done s _ _ av λs' hm=>?_);change wpAny _ A.in1 (Builtin.Dict.addKeywords S [] >>= _) _ _ s';show X0 (X4 (X4 (hR s' (hm.mono bw) ?_)));rw[<-hn,List.take_length]at hS;show _m1 X hS (λo e=>hm.H S _ zb e) λb ob hb ht=>hm.H b ob (λz=>yg _ _ av b z ob hb ht) hb
 | succ k ih=>
  intro i c s hk hi av hS fq hR;let bf:i<n:=.q
  show Yr F._Ed ?_;rw[Ze F._Pd _];change wpAny _ A.in1 (pyNext (.I I) >>= _) _ _ s;show X0 (W.item i s _ _ bf av λv s' hP nq hm=>?_);let tm:∀b ob,s.H.get? b=@ob->ob.cls=.l "tuple"->s'.H.get? b=@ob:=λb ob hb ht=>hm.H b ob (λz=>yg _ _ av b z ob hb ht) hb
  let tup:∀{h h':Heap} {T:Addr} {xs:Array Value},(∀b ob,h.get? b=@ob->ob.cls=.l "tuple"->h'.get? b=@ob)->h.IsTuple T xs->h'.IsTuple T xs:=λet #[o,ho,hc,ac]=>#[o,et _ _ ho hc,hc,ac]
  let#[T,u,x,kk,rfl,hT,hmo,jm]:=fq i v hP;let il:s'.H.DictOfH knd S (more.take i):=_m1 X hS (λo e=>hm.H S _ zb e) tm;let u4:s'.H.IsTuple T %[.I u,x|0]:=tup tm hT;let yl:knd.is s'.H kk u:=X.keep jm tm;let ij:(more.take i).B<=sizeLine:=by rw[Z1];lia
  let#[oS,esS,epS,hoS,hcS,hdS,_]:=id il;change wpAny _ A.in1 (holding [Value.I T] _ >>= _) _ _ s';show X0 (Yd (X0 (wpAny_tryCatch (_jk u4 ?_))));change wpAny _ A.in1 (holding [Value.I u,x] (dictSet S (.I u) x)) _ _ s';show Yd (wpAny_dictSet_heap (hsz:=ij) hr yl il λh' xr iu=>?_);let jg:h'.DictOfH knd S (more.take (i+1)):=by
   rw[storedH_new (_m2 dy hmo)]at xr;rw[List.take_succ,hmo];show xr
  let tm2:∀b ob,s'.H.get? b=@ob->ob.cls=.l "tuple"->h'.get? b=@ob:=λb ob hb ht=>by
   let uz:b≠S:=λz=>by
    subst z;rw[hoS]at hb;cases hb;rw[hcS.1]at ht;show absurd ht .q
   rw[iu.2 b uz];show hb
  show X4 #[Za F._Pd _,?_];change codeAny _ _ (.u "dict.update.loop" #[[.I S,.I I,.E ((i+1:Nat):Int) 0,.ã],[]]) R _;show ih (i+1) 0 _ (by grind) bf (W.frame _ s' _ _ nq (Nat.le_add_right _ _) λb hb o e=>?_) jg (λj v hv=>?_) λlq nz nw=>?_
  .rw[iu.2 b (λh:b=S=>oz (by rw[<-h];show hb))];show e
  .let#[T,u,x,k,e1,e2,e3,e4]:=fq j v hv;show#[T,u,x,k,e1,tup tm2 (tup tm e2),e3,X.keep (X.keep e4 tm) tm2]
  .show hR lq (Moved.J W.gtrans ((hm.mono bw).then_heap (Nat.le_add_right _ _) λb o hb e=>?_) nz) nw;rw[iu.2 b (λh:b=S=>hb (by rw[h];show X3))];show e
def call_dict_listH(X:KX knd)(hr:knd.room A.in1.in1)
  (hh:A.õ=none) (ho:s.H.get? l=@o) (hc:o.cls=.l "list") (gb:o.data=.seq items m) (hd:o.dict=none) (hn:more.B=items.L) (dy:(more.C (·.1)).V) (hz:items.L<=sizeLine)
  (fq:∀(i:Nat) (v:Value),items[i]?=@v->∃T u x k,v=.I T/\s.H.IsTuple T %[.I u,x|0]/\more[i]?=@(k,u,x)/\knd.is s.H k u)
  (h:∀(h':Heap) (tk:Nat),h'.DictOfH knd ↥s more->(∀b o,b<↥s->s.H.get? b=@o->h'.get? b=@o)->Q (.I ↥s) {s with heap:=h',toks:=tk}):
  wpAny (model prog w) A (call (.l "dict") [.I l]) Q E s:=by
 show callType_codes (Q₁:=λobj s₁=>obj=Value.I ↥s/\s₁={s with heap:=s.H.í {cls:=Value.l "dict",data:=Data.dict (List.G [])}}) F.kt_called_dict (F.kt_typeCall_dict_1 _) F.entry_dict_init (kt_code_dict_new _ #[rfl,rfl]) ?_;rintro obj s₁ ⟨rfl,rfl⟩;let db:(s.H.í {cls:=.l "dict",data:=.dict (List.G [])}).DictOfH knd ↥s []:=Heap.DictOfH.new s.H;let iq:(s.H.í {cls:=.l "dict",data:=.dict (List.G [])}).get? l=@o:=X2 _ ho;let hT:Shared.TypeIs {s with heap:=s.H.í {cls:=.l "dict",data:=.dict (List.G [])}} (.I l) "list":=#[_,iq,hc];let sj:=Xh ho;show#[db.typeIs,F.args_dict_init_2 _ _,?_];show X0 ?_;ext Builtin.Dict.selfAndRest;show X0 (wpAny_notOrdered_dict db.typeIs ?_);show X4 ?_;change wpAny _ _ (Builtin.Dict.updateFrom "dict.__init__" ↥s (.I l) [] .ã) _ _ _;show X0 (J6 hT ?_);rw[X7 (by rfl)];show X0 (_jj iq hc gb hd (by simp[hh]) λh' tk hk=>?_);let rq:∀b q,s.H.get? b=@q->h'.get? b=@q:=λb q e=>hk b q (X2 _ e)
 let lh:h'.IsList l items:=#[o,rq _ _ ho,hc,m,gb];let yk:h'.DictOfH knd ↥s []:=by
  let#[q,es,ep,hq,h1,h2,h3,_,h5]:=db;show#[q,es,ep,hk _ _ hq,h1,h2,h3,(nofun),h5]
 let js:↥s<h'.objs.L:=by
  let#[q,es,ep,hq,ac]:=yk;show Xh hq
 show X0 (Zp (X0 (Zf lh ?_)));show X4 #[Za F._Pd _,?_];let hneI:l≠h'.objs.L:=Xl (J5 sj js);show _m3 (A:=A.in1) X hr ((Walks.list (A:=A.in1.in1) (by simp[hh]) h'.objs.L l hneI items).toS) ↥s ?_ (λi s av b hb ob jc=>?_) hn dy hz (items.L - 0) 0 0 _ (by simp) (Y9 _)
  #[#[_,X9 _ rfl,rfl,rfl],lh.í _] ?_ (λi v hv=>?_) λs' hm il=>?_
 .simp;show#[Xl js,Zv sj]
 .rw[aC hb]at jc;let#[#[o',iq,i5,_],_]:=av
  grind
 .show _m1 X yk (λo e=>X2 _ e) λb ob hb _=>X2 _ hb
 .let#[T,u,x,k,e1,e2,e3,e4]:=fq i v hv;let#[q,hq,qg,ac]:=e2;show#[T,u,x,k,e1,#[q,X2 _ (rq _ _ hq),qg,ac],e3,X.keep e4 λb ob hb _=>X2 _ (rq b ob hb)]
 .let#[h2,g',d',og,qf]:=s';let eg:g'=s.gens:=hm.gens;let ed:d'=s.drawn:=hm.drawn;let eo:qf=s.os:=hm.os;subst eg;subst ed;subst eo;show#[rfl,h h2 og il λb q hb e=>?_];show hm.H b q ?_ (X2 _ (rq b q e));simp;show#[Xl hb,Xl (J5 hb js)]
end
end Tw
namespace Q
open PySem PySem.Spec PyProof.Rows L2 L3
section
variable {K:Frag}
def World.later(w:World K H L)(sm:kJ H H2):World K H2 L:=#[λy hy=>RepO.kp (w.ok y hy) (Kp.of_same sm),w.nd,w.ds]
end
def RepA.front{K}:∀{ds xs as},RepA K H g ds xs as->∃bs,RepA K H g ds.dropLast xs.dropLast bs/\bs.Sublist as:=by
 intro ds
 induction ds with
 | nil=>intro xs as h;let#[rfl,rfl]:=h;show#[[],#[rfl,rfl],Z2 _]
 | cons d ds ih=>
  intro xs as h;let#[x,r,bs,cs,rfl,rfl,h1,h2]:=h;cases ds with
  |nil=>
   let#[rfl,rfl]:=h2;show#[[],#[rfl,rfl],List.nil_sublist _]
  |cons e ds=>
   let#[es,g1,g2]:=ih h2;let#[y,r',_,_,rfl,_]:=h2;show#[bs++es,#[x,_,bs,es,rfl,rfl,h1,g1],List.Sublist.append (Z2 _) g2]
end Q
namespace Q
def _m4:D->Option D
 |.S ds=>(match K5 ds with
  |some is=>is.max?.C D.E
  |none=>none)
 |_=>none
end Q
namespace Q
open PySem PySem.Spec PyProof.Rows L2 L3
def _m5(K:Frag):List V->Hp->VK->Prop:=λxs H Q=>∃(p:Addr) (is:List Int) (M:Int),xs=[.I p]/\SqL K H p (is.C V.E)/\is.max?=@M/\Q (.E M) H
def _m6{X}(hc:X.calm=true<|>Ŕ):CallR X (.u "max") (_m5 X.K):=by
 rintro a8 s σ H xs us Q I r ⟨p,is,M,rfl,hq,hM,q⟩;let#[u,rfl,ru]:=wj r;cases ru;let#[aa,rv,pl,hz]:=I.list hq;let hli:=pl.isList;let bf:p<↥s:=by let#[_,e,_]:=hli;show Xh e
 let af:is.B=aa.B:=by rw[<-rv.B,X5]
 let#[hM1,hM2]:=List.max?_eq_some_iff.mp hM;let fq:∀i h,is.p i 0=is[i]:=λi h=>by rw[X6,X1 h];rfl
 let hP:∀i v,aa.G[i]?=@v->∃t,v=Value.E (is.p i 0) t:=λi v hP=>by
  let hP:aa[i]?=@v:= ~~~hP
  let hi:i<is.B:=by rw[af];show(aF hP).1
  let#[u,e1,e2]:=rv.get (by rw[Xf,X1 hi];rfl);rw[hP]at e1;cases _aa e1;let#[t,rfl]:=e2;show#[t,by rw[fq i hi]]
 let h0:=List.length_pos_of_mem hM1;show call_max_walk (Zf hli ?_);show#[↥s,[↥s,p],[↥s],aa.G.L,_,_,_,rfl,PySem.Walks.list (A:=X.A.in1) (I.ok.hd hc) _ p (Xl bf) aa.G,
  #[#[_,X9 _ rfl,rfl,rfl],hli.í _],λb gr=>?_,by rw[Xe];lia,CmpOf.ints_gt _ hP,λv h' tk hv hk=>?_]
 .rw[Zo];simp at gr;let e\/e:=gr
  .rw[e];show J0 _
  .rw[e];show Z3 bf
 .let#[t,rfl]:=hP _ _ hv;let#[h1,h2]:=argBest_gt _ (aa.G.L - 1);rw[Xe,<-af]at h1 h2 ⊢;generalize argBest _ _=b at h1 h2 ⊢;let e:is.p b 0=M:=by
   let hb:b<is.B:=.q
   let#[j,hj,ej]:=Yg hM1;let g1:=h2 j .q;let g2:=hM2 is[b] (Xm hb);rw[fq b hb]at g1 ⊢;rw[fq j hj,ej]at g1;lia
  rw[e];show#[.E _,H,I.kept (t':=tk) (h':=h') λb o e=>hk b o (λz=>?_) (X2 _ e),#[_,rfl],q];show absurd (Xh e) (aC z▸Yt _)
def _m7{X} K (hK:X.K=K<|>Ŕ)(hc:X.calm=true<|>Ŕ):CallR X (.u "max") (_m5 K):=by subst hK;show _m6 hc
#where in
def _m8{K}:Ad1 K (λv H Q=>_m5 K [v] H Q) (pu1 _m4):=by
 intro H x s Q ok hf k;unfold pu1 _m4 at hf;dsimp only at hf
 split at hf
 .revert ds e;cases hb:K5 ds with
  | none=>rw[hb]at hf;cases hf
  | some is=>
   rw[hb]at hf;dsimp only at hf;cases hM:is.max? with
   |none=>grind
   |some M=>
    rw[hM]at hf;cases _aa hf;let#[l,xs,cs,ev,q3,r3,_]:=items ok (.O e);let q3:LsR K H l xs:=by let#[_,z]\/#[z,_]:=q3;show z;rw[e]at z;cases z
    show#[l,is,M,by rw[ev],by rw[<-_hQ hb r3];show q3.sq,hM,k _ H rfl rfl QX]
 .cases hf
def OkF(P:Program)(w:PySem.World)(K:Frag)(mg:Str->Option Value)(base:Heap)(k:Nat)(x:Str)(st:Stmt)(ps:List Str)(n:Nat)(m:Fn):Prop:=∀(f:Addr) (fd:FuncData),Fun K x x st f fd->FnOk P w K mg base (CXE P w) k f fd ps (spF K mg n m)
section
variable {K:Frag}{st:Stmt}
def okF(S:FnScope N ps (jJ st))(t:∀{f ce A outer s H E},Room k (A.deeper (envOfC x (jJ st) ↥s f ce))->QSs (Cx.ex' (JK (CXE P w) P w K mg base N x (jJ st) f ce A outer s H E) E) #[K,mg,E] [] B (z8 st))(hp:ps.B=n<|>Ŕ)(hN:N.B=nn<|>Ŕ):OkF P w K mg base (k+1) x st ps n (fn nn B):=
 λ_ _ F=>_dB F S (_fO hp) λ_ _ _ _ _ _ _ _ hr h=>_fQ hN (t hr) h
end
section
def K2:QE X Z true (cC (.bl v)) (.Constant (.bool v) j p):=q_C _au λ_=>_es
def zW:QE X Z true (vz .rt []) (.List [] p):=_fN jq
def jQ(h:QE X Z q a ea):QSs X Z pn (jz a) [.Return @ea pos]:=kX (_eL h)
def K0(ha:QV X Z qa a ea)(hb:QV X Z true b eb):QE X Z qa (cF2 (pu2 z7) a b) (.BinOp ea .FloorDiv eb pos):=ZY _cL _ex ha hb
def _m9(hr:Room m X.A)(ha:QV X Z qa a ea)(hb:QV X Z true b eb)(hK:X.K=Z.K<|>Ŕ):QT X Z qa (tE (cF2 (pu2 fEq) a b)) (.Compare ea [.Eq] [eb] pos):=wx (_fn hr.y hK) _fp ha hb (Jv _) _gY
def Q7(hr:Room m X.A)(ha:QV X Z qa a ea)(hb:QV X Z true b eb)(hK:X.K=Z.K<|>Ŕ):QT X Z qa (tE (cF2 (pu2 fNe) a b)) (.Compare ea [.NotEq] [eb] pos):=wx (_fo hr.y hK) _fq ha hb (Jv _) _gZ
def _na(hr:Room m X.A)(ha:QV X Z qa a ea)(hb:QV X Z true b eb)(hK:X.K=Z.K<|>Ŕ):QE X Z qa (cF2 (pu2 fEq) a b) (.Compare ea [.Eq] [eb] pos):=_eq (_fn hr.y hK) _fp ha hb (Jv _)
def Wx(ha:QV X Z qa a ea)(hb:QV X Z true b eb):QT X Z qa (tE (cF2 (f2First fIsNon) a b)) (.Compare ea [.Is] [eb] pos):=wx _bc _ge ha hb (Jv _) _g3
def tNoN(ha:QV X Z qa a ea)(hb:QV X Z true b eb):QT X Z qa (tE (cF2 (f2First fNotNon) a b)) (.Compare ea [.IsNot] [eb] pos):=wx _bd _gf ha hb (Jv _) _g4
def _nb(ha:QV X Z qa a ea)(hb:QV X Z true b eb):QT X Z qa (tE (cF2 (pu2 fLt) a b)) (.Compare ea [.Lt] [eb] pos):=wx _a8 _ew ha hb (Jv _) _gX
def _nc(ha:QV X Z qa a ea)(hb:QV X Z true b eb):QE X Z qa (cF2 (pu2 fLe) a b) (.Compare ea [.LtE] [eb] pos):=_eq _a9 _ew ha hb (Jv _)
def v3(h:QT X Z q u ea)(t:QSs X Z pn A ss):QS X Z pn (sIf u A qz) (.If ea ss [] pos):=_eM h t _eK
end
end Q
namespace Q
open PySem
def XX(i:Nat):Ex:=λE=>match E[i]? with
 |some @(o,.S ds)=>if o=.r then none else(match ds.getLast? with
  |some d=>if d.pure=true then @(.ok (E.ç i @(o,.S ds.dropLast)) (.dp,d))else none
  |none=>none)
 |_=>none
def z9:List (D×D)->D->D->List (D×D)
 |[],_,_=>[]|(q,d)::r,k,d'=>if q=k then(q,d')::r else(q,d)::z9 r k d'
def sDA(i j:Nat)(c:Ex):Sm:=λE=>match E[i]?,E[j]? with
 |some @(.dp,.dct kvs),some @(_,k)=>if kj k=true/\unm kvs=true then(match qw kvs k with
  |some (.S ds)=>if ds.B<big then ofE (c (E.ç i none)) λE1 x=>if x.2.pure=true then @(.nx (E1.ç i @(.dp,.dct (z9 kvs k (.S (ds++[x.2]))))))else none else none
  |_=>none)else none
 |_,_=>none
def prW:List D->Option (List (D×D))
 |[]=>⇑[]|.X [k,v]::r=>if kj k=true then(prW r).C ((k,v):: ·)else none|_=>none
def _nd : Sd -> Option Sd:= λx=>match x with
  | (.dp,.S ds)=>(match prW ds with
    |some kvs=>if kvs.B<big /\ (kvs.C (·.1)).V then @(.dp,.dct kvs)else none
    |none=>none)
  |_=>none
def cDW(c:Ex):Ex:=λE=>bnd (c E) λE x=>match _nd x with
 |some s=>@(.ok E s)|none=>none
def _ne:D->D->Option D:=λy x=>match y with
 |.dct kvs=>if kj x=true/\unm kvs=true then qw kvs x else none|_=>none
def _nf(a b:Ex):Ex:=λE=>bnd (a E) λE x=>bnd (b E) λE y=>val E (if x.1=.rt then none else(_ne x.2 y.2).C λd=>(sub x.1,d))
noncomputable def xqb(i:Nat):Ev (List D):=λE=>match E[i]? with
 |some @(_,.dct kvs)=>if kvs.B<=big/\unm kvs=true then @(.ok E (kvs.C (·.1)))else none|_=>none
end Q
namespace Q
open PySem PySem.Spec PyProof.Rows L2 L3
section
#where in
def _ng(hP:PE X ex (xk i))(hK:X.K=Z.K<|>Ŕ)(hm:MtR X "list.pop" _b7)
  (b8:attributeBase ex "pop" X.Y (eval ex X.Y)=eval ex X.Y<|>Ŕ) (b9:Abe ay ah<|>Ŕ):QE X Z false (XX i) (.ù (.Attribute ex "pop" ay) [] [] ah):=
 qj (_dk Z.K Zh PySem.F.slot_list_pop PySem.F.type_list_pop hm hP b8 b9 hK) fun σ H Q ai=>ex8 ai λE L r m w hc xc k=>by
 unfold XX at hc
 split at hc
 rotate_left
 .cases hc
 revert o ds hE
 split at hc
 .cases hc
 revert ho
 split at hc
 rotate_left
 .cases hc
 revert d hd
 split at hc
 rotate_left
 .cases hc
 revert hp;cases _aa hc;let#[y,a1,a2,a3,a4]:=m.get hE;let#[l,xs,bs,c1,c2,c3,c4,c5]:=_gl (w.ok y (qX a1)) a3 (a2▸ho);let#[dl,rfl]:=List.getLast?_eq_some_iff.mp hd;let#[v,cs,ev,rv,_]:=RepA.get (i:=xs.B - 1) (d:=d) c5 (by rw[<-c5.len];simp);let#[rfl,rp]:=RepL.pu (g':=false) rv hp;let#[es,r1,r2]:=c5.front;rw [List.dropLast_concat]at r1;show#[y.v,a4,by rw[c1];show _jL c2,l,xs,v,c1,rfl,c2,ev,?_];let hb:bs.V->es.V:=λh=>h.sublist r2
 obtain⟨w2,s2⟩:World Z.K (upd H l (.S xs.dropLast)) (L.ç i @#[o,.S dl,y.v,l::es])/\Step H L (upd H l (.S xs.dropLast)) (L.ç i @#[o,.S dl,y.v,l::es]):=by
  rw[a2]at c5 r1;cases o with
  | no=>show absurd rfl ho| rt=>show _gm (T:=[]) (o':=.rt) w a1 c2 c3 c4 c1 r1 (.O #[rfl,λa ha=>.O (r2.subset ha)])
  | dp=>
   let yn:y.ë.V:=by
    let#[A,B,e,_]:=V2 a1;let:=w.nd;rw[e,k7,Xa]at this;let:=this.2.1;rw[jK,Xa]at this;show this.1
   let e:y.ë=l::bs:=by ext Sl.ë;rw[a2,c3]
   rw[e]at yn;show _gm (T:=[]) (o':=.dp) w a1 c2 c3 c4 c1 r1 (.h #[rfl,a2,hb (List.ø.mp yn).2,λa ha=>.O (r2.subset ha)])
 let mm:=m.ç (x:=#[o,.S dl,y.v,l::es]) i;rw[Q8 a4]at mm;rw[List.dropLast_concat]at k;let rp2:RepL Z.K (upd H l (.S xs.dropLast)) false d v []:=rp.kp (_jK c2 nofun);show k _ _ rfl _ _ _ rfl rfl mm (w2.consPu (x:=#[.dp,d,v,[]]) rp2 rfl) (JW s2 (nofun) rfl) λz=>(nomatch z)
end
def _nh:∀{kvs},(z9 kvs k d').C (·.1)=kvs.C (·.1)
 |[]=>rfl
 |_::r=>by
  ext z9
  split
  .rfl
  .rw[List.Z,List.Z,_nh]
def RepP.hole {K}: ∀{kvs xs as} {es : List Ent} {d1},RepP K H false kvs xs as -> kvs.C (·.1) = es.C (·.1.1) -> Vals xs (es.C (·.2.2)) -> as.V -> qw kvs k.1 = @d1 ->
    ∃ p x bs,atKey es k = @p /\ RelV x p.2 /\ RepL K H false d1 x bs /\ bs.V /\ (∀b > bs,b > as) /\ ∀H' (d') (bz),Kx H H' as bs -> RepL K H' false d' x bz -> bz.V -> (∀b > as,b∉bs -> b∉bz) ->
      ∃ i9,RepP K H' false (z9 kvs k.1 d') xs i9 /\ i9.V /\ ∀b > i9,(b > as /\ b∉bs) \/ b > bz
  | [],_,_,_,_,_,_,_,_,hg=>by cases hg| _ :: _,_,_,[],_,_,h,_,_,_=>by cases h
  | (q,d)::kvs,xs,as,e::es,d1,hr,hk,hv,nd,hg=>by
    let#[x,r,b1,c1,rfl,rfl,h1,h2]:= hr;injection hk with k1 k2;rw [Xa]at nd;cases hv with
    | cons v1 v2=>
      let k1 : q = e.1.1:= k1
      by_cases he : e.1 = k
      . let hq : q = k.1:= by rw[k1,he]
        let mw : d = d1:= by unfold qw at hg; rw[List.find?_cons_of_pos (by simp[hq])]at hg; show _aa hg
        subst mw;let ha : atKey (e::es) k = @e.2:= by
          let#[ek,ev]:= e;let he : ek = k:= he;simp[atKey,he]
        show#[e.2,x,b1,ha,v1,h1,nd.1,λb hb=>_ac _ hb,λH' d' bz kx r' yp hd=> ?_];let hc : ∀b > c1,b > b1 ++ c1 /\ b∉b1:= λb hb=>#[_ab _ hb,λz=>nd.2.2 b z b hb rfl]
        show#[bz ++ c1,?_,?_,λb hb=> ?_]
        . ext z9
          rw[X7 hq];show#[x,r,bz,c1,rfl,rfl,r',h2.kp (kx.kp hc)]
        . rw[Xa]
          show#[yp,nd.2.1,λa ha b hb ku=> ?_];subst ku;show hd a (hc a hb).1 (hc a hb).2 ha
        . let z\/z:=aA hb
          . show .h z
          . show .O (hc b z)
      . let hq : q≠k.1:= λz=>he (J1 (k1.à.J z))
        let ll : qw kvs k.1 = @d1:= by unfold qw at hg ⊢; rw[Z4 (by simp[hq])]at hg; show hg
        let#[p,y,bs,q0,q1,q2,q3,q4,q5]:= RepP.hole h2 k2 v2 nd.2.1 ll;let ha : atKey (e::es) k = @p:= by
          obtain _:= e;unfold atKey at q0 ⊢
          rwa [Z4 (by simp[he])]
        let hb : ∀b > b1,b > b1 ++ c1 /\ b∉bs:= λb hb=>#[_ac _ hb,λz=>nd.2.2 b hb b (q4 b z) rfl]
        show#[p,y,bs,ha,q1,q2,q3,λb hb=>_ab _ (q4 b hb),λH' d' bz kx r' yp hd=> ?_];let#[i9,a1,a2,a3]:= q5 H' d' bz #[kx.X,kx.frz,λb hb=>kx.out b (_ab _ hb)] r' yp (λb hb=>hd b (_ab _ hb));show#[b1 ++ i9,?_,?_,λb hb2=> ?_]
        . ext z9
          rw[Xd hq];show#[x,r,b1,i9,rfl,rfl,h1.kp (kx.kp hb),a1]
        . rw[Xa]
          show#[nd.1,a2,λa ha b hb2 ku=> ?_];subst ku;let z\/z:=a3 a hb2
          . show nd.2.2 a ha a z.1 rfl
          . show hd a (hb a ha).1 (hb a ha).2 z
        . let z\/z:=aA hb2
          . show .O (hb b z)
          . show(a3 b z).imp (λz=>#[_ab _ z.1,z.2]) id
def World.holeD{K}(w:World K H (@y::L))(ho:y.o=.dp)(hd:y.d=.dct kvs)(hu:unm kvs=true)(hg:qw kvs k.1=@d1):∃y1,y1.o=.dp/\y1.d=d1 /\
  (∃a es ep p,y.v=.I a/\H a=@(kK a es ep)/\(es.C (·.1)).V/\(∀x>es,PuR K H x.1.1 (.I x.2.1))/\atKey es k=@p/\RelV y1.v p.2)/\World K H (@y1::L) /\
  ∀He (Le:Ls) z,World K He (@z::Le)->Step H (@y1::L) He (@z::Le)->z.o=.dp->z.v=y1.v->∃y',y'.o=.dp/\y'.d=.dct (z9 kvs k.1 z.d)/\y'.v=y.v/\World K He (@y'::Le)/\Step H (@y::L) He (@y'::Le):=
 w.holeG (Pv:=λv=>∃a es ep p,y.v=.I a/\H a=@_/\(es.C (·.1)).V/\_/\atKey es k=@p/\RelV v p.2) (pt:=λd=>.dct _) ho λok nd=>by
  rw[hd]at ok;let#[a,xs,bs,ev,rp,dc,ea]:=ok;let#[es,ep,g1,g2,g3,g4,g5,g6,g7]:=DcA.un dc hu;rw[ea,Yh]at nd;let#[p,x,b1,q0,q1,q2,q3,q4,q5]:=RepP.hole rp g5 g7 nd.2 hg;show#[x,b1,#[a,es,ep,p,ev,g1,g4,g6,q0,q1],q2,q3,λb hb=>by rw[ea];show _ad _ (q4 b hb),λH' d' bz kx r' yp ul=>?_];rw[ea]at kx ul;let an:=λz=>nd.1 (q4 a z)
  let#[i9,a1,a2,a3]:=q5 H' d' bz #[kx.X,kx.frz,λb hb=>kx.out b (_ad _ hb)] r' yp (λb hb=>ul b (_ad _ hb));let k0:Kp H H' []:=#[kx.X,kx.frz,nofun];show#[a::i9,#[a,xs,i9,ev,a1,.O #[es,ep,kx.out a X3 an _ g1,g2,g3,g4,by rw[_nh];show g5,λn hn=>PuR.kp k0 (g6 n hn),g7],rfl],List.ø.s #[λh=>?_,a2],λb hb=>?_]
  .let z\/z:=a3 a h
   .show nd.1 z.1
   .show ul a X3 an z
  .rw[ea];let rfl\/hb:=aD hb
   .show .O #[X3,an]
   .show(a3 b hb).imp (λz=>#[_ad _ z.1,z.2]) id
section
#where in
def _ni(hP:PE X ep (wjm Z.K (xk i) (xk j)))(hc:QE X Z q c e)(hK:X.K=Z.K<|>Ŕ)(hm:MtR X "list.append" _b3)
  (b8:attributeBase ep "append" X.Y (eval ep X.Y)=eval ep X.Y<|>Ŕ)
  (dj:autoParam (((backTo ah (starEach [e] X.Y)).all (λx=>!x.1)&&(backToKw ah (keywordEach [] X.Y)).all (λx=>x.1.isSome)
   && decide ([e].B+([]:List Keyword).B+(if([]:List Keyword).û then 0 else 1)<30))=true) Ŕ)
  (b9:Abe ay ah<|>Ŕ) (hs:Abs e [] X<|>Ŕ) (b7:Abb ah [] X<|>Ŕ)
  (nh:swapsWith (.ù (.Attribute ep "append" ay) [e] [] ah) none spos.line X.Y=pure false<|>Ŕ):
  QS X Z pn (sDA i j c) (.Expr (.ù (.Attribute ep "append" ay) [e] [] ah) spos):=
 zV (_aJ (_c4 Z.K Zh PySem.F.slot_list_append PySem.F.type_list_append hm hP (qZ hc vJ hs) b8 dj b9 hs b7 hK) nh) λDe σ H ai=>ex7 ai λE L r m w i6 k=>by
 unfold sDA at i6
 split at i6
 rotate_left
 .grind
 revert kvs o2 kd hE hE2
 split at i6
 rotate_left
 .grind
 revert hck
 split at i6
 rotate_left
 .grind
 revert ds pj
 split at i6
 rotate_left
 .grind
 revert af;let#[y,a1,a2,a3,a4]:=m.get hE;let#[y2,k1,k2,k3,k4]:=m.get hE2;let#[b,eb,pb]:=V1 (w.ok y2 (Y2 k1)) (k3▸hck.1);let gj:k5 6 y2.d=true:=by
  let:=hck.1;unfold kj at this;rw[Bool.â]at this;show k3▸this.1
 let#[w0,s0]:=_jI w a1;let#[y1,b1,b2,#[a,es,ep,p,ev,g1,g4,g6,q0,q1],b4,b5]:=w0.holeD (k:=#[y2.d,gj]) a2 a3 hck.2 (by change qw kvs y2.d=_;rw[k3];show pj);let#[l,xs,bs,c1,c2,_,_,_]:=_ii (b4.ok y1 X3) b2 b1;show#[y.v,a4,y2.v,k4,a,b,_,es,ep,y1.v,p,ev,eb,g1,g4,g6,pb,q0,q1,by rw[c1];show _jL c2,(KJ (_el i m) w0.tail i6 (k.step (s0.J Step.ý) Pn.ò) λE1 s h1 x L1 H1 e1 e2 m1 w1 st _=>?_)]
 split at h1
 rotate_left
 .symm
 revert ui;cases _aa h1;let#[w2,s2]:=_ee (T:=[@y1]) b4 st w1;let#[l',xs',f1,f2,f3,z,z1,z2,z3,z4,z5]:=World.app w2 b1 b2 (e2▸ui);let#[y',n1,n2,n3,n4,n5]:=b5 _ _ z z4 (s2.J z5) z1 z3;show#[l',xs',x.v,f1,rfl,f2,by rw[f3];show af,?_];let mm:=_eN (i:=i) (s:=(.dp,.dct (z9 kvs kd _))) m1 n1 (by rw[n2,z2,e2];change D.dct (z9 kvs y2.d _)=_;rw[k3]);rw[n3,Q8 a4]at mm;show k σ _ _ Pn.ò mm n4.ç (s0.J (n5.J Step.ç))
end
def _nj(K:Frag):List V->Hp->VK->Prop:=λxs H Q=>∃(a:Addr) (ts:List V) (ps:List (Kd×Addr×V)),xs=[.I a]/\SqL K H a ts/\ts.B=ps.B /\
 (∀i (h:i<ps.B),∃T,ts[i]?=@(.I T)/\SqT K H T [.I ps[i].2.1,ps[i].2.2]/\PuR K H ps[i].1.1 (.I ps[i].2.1))/\ps.B<big/\(ps.C (·.1)).V /\
 ∀l es ep,H l=none->(l==sysModules)=false->es.C (λe=>(e.1,e.2.1))=ps.C (λp=>(p.1,p.2.1))->Vals (ps.C (·.2.2)) (es.C (·.2.2))->Q (.I l) (upd H l (kK l es ep))
#where in
def _nk(I:Inv X a8 σ H s):∀(ps:List (Kd×Addr×V)) (ts) (aa),ts.B=ps.B ->
  (∀i (h:i<ps.B),∃T,ts[i]?=@(.I T)/\SqT X.K H T [.I ps[i].2.1,ps[i].2.2]/\PuR X.K H ps[i].1.1 (.I ps[i].2.1))->Vals ts aa ->
  ∃ more:List Ent,more.B=aa.B/\more.C (λe=>(e.1,e.2.1))=ps.C (λp=>(p.1,p.2.1))/\Vals (ps.C (·.2.2)) (more.C (·.2.2))/\∀(i:Nat) (v),aa[i]?=@v->∃T u x k,v=.I T/\s.H.IsTuple T %[.I u,x|0]/\more[i]?=@(k,u,x)/\jX s.H k.1 (.I u)
 | [],ts,aa,hl,_,hv=>by
  cases ts with| nil=>cases hv;show#[[],rfl,rfl,.nil,λi v h=>by simp at h]| cons=>cases hl
 | p::ps,t::ts,_,hl,hp,hv=>by
  cases hv with
  | cons h1 h2=>
   revert u us;let#[T,e1,e2,e3]:=hp 0 (by simp);let e1:t=.I T:= ~~~e1
   subst e1;cases h1;let#[ii,rv,tp,_]:=I.tuple e2;let#[_,u2,rfl,r1,r2]:=rv.two;cases r1;let#[more,m1,m2,m3,m4]:=_nk I ps ts us (~~~hl) (λi h=>by
    let#[T,a,b]:=hp (i+1) (by symm);show#[T,~~~a,~~~b]) h2
   show#[(p.1,p.2.1,u2)::more,by rw[Xn,Xn,m1],by rw[List.Z,List.Z,m2],.æ r2 m3,λi v h=>?_];cases i with
   |zero=>
    let h:Value.I T=v:= ~~~h
    subst h;show#[T,p.2.1,u2,p.1,rfl,tp,rfl,KQ I e3 rfl]
   |succ i=>show m4 i v (~~~h)
def _nl{K}(hu:X.A.y+64<cLine)(hc:X.calm=true<|>Ŕ)(hK:X.K=K<|>Ŕ):CallR X (.l "dict") (_nj K):=by
 subst hK;rintro a8 s σ H xs us Q I r ⟨a,ts,ps,rfl,hq,hl,hp,hb,dy,q⟩;let#[u,rfl,rx]:=wj r;cases rx;let#[aa,rv,#[o,n,ho,de,hd,gb],hz]:=I.list hq;let#[more,m1,m2,m3,m4]:=_nk I ps ts aa hl hp rv;let hk:more.C (·.1)=ps.C (·.1):=by
  let:=congrArg (List.C Prod.fst) m2
  rwa [Xp,Xp]at this
 show Tw.call_dict_listH (knd:=Tl.trP X.î X.w λ_ _=>True) Tl.kindX (show X.A.in1.in1.y+40<cLine by lia) (I.ok.hd hc) ho de gb hd (by rw[m1];rfl) (by symm) (by rw[Xe,<-rv.B];show hz) (λi v hv=>?_) λh' tk dd kp=>?_
 .let#[T,u,x,k,f1,f2,f3,f4]:=m4 i v (~~~hv);show#[T,u,x,k,f1,f2,f3,f4,J4]
 let#[q',ds,ep,hq',g2,g3,g4,_,_]:=dd;show#[.I ↥s,_,I.laid (o:=kK ↥s more ep) (t':=tk) (λb ob e=>kp b ob (Xh e) e) (Xb _) #[#[q',ds,hq',g2,g3,g4],#[q',hq'],λh1 h2 #[o,ds,a1,a2] k=>#[o,ds,k o a1,a2]],rfl,q _ more ep (I.hok.fresh (Xb _)) (Yj (Zv I.big)) m2 m3]
#where in
def _nm{K}:∀{ds kvs xs bs},prW ds=@kvs->RepA K H g ds xs bs->∃(qs:List (Kd×Addr×V)) (cs:List Addr),qs.C (·.1.1)=kvs.C (·.1)/\xs.B=qs.B /\
  (∀ i (h:i<qs.B),∃T,xs[i]?=@(.I T)/\SqT K H T [.I qs[i].2.1,qs[i].2.2]/\PuR K H qs[i].1.1 (.I qs[i].2.1))/\RepP K H g kvs (qs.C (·.2.2)) cs/\cs.Sublist bs:=by
 intro ds
 induction ds with
 | nil=>
  intro kvs xs bs h r;cases _aa h;let#[rfl,rfl]:=r;show#[[],[],rfl,rfl,λi h=>absurd h (Nat.not_lt_zero _),#[rfl,rfl],Z2 _]
 | cons d ds ih=>
  intro kvs xs bs h r;unfold prW at h
  split at h
  .symm
  .revert k v r' e;injection e with e1 e2;subst e1 e2
   split at h
   rotate_left
   .cases h
   revert hk;cases hr:prW ds with
   | none=>symm
   | some q=>
    rw[hr]at h;cases _aa h;let#[x,rr,b1,b2,rfl,rfl,r1,r2]:=r;let#[qs,cs,q1,q2,q3,q4,q5]:=ih hr r2;let#[T,ys,rfl,sq,ra]:=r1;let#[y1,_,c1,c2,rfl,rfl,f1,f2]:=ra;let#[y2,_,c3,c4,rfl,rfl,f3,f4]:=f2;let#[rfl,rfl]:=f4;let aq:=hk;unfold kj at aq;rw[Bool.â]at aq;obtain⟨b,rfl⟩:∃b,y1=.I b:=by
     cases k with|tup es=>unfold RepL at f1;let#[a,_,e,_]:=f1;show#[a,e]|_=>cases aq.2
    show#[(#[k,aq.1],b,y2)::qs,c3++cs,by rw[List.Z,List.Z,q1],by rw[Xn,Xn,q2],λi hi=>?_,?_,?_]
    .cases i with|zero=>show#[T,rfl,sq,(_il aq.1 f1)]|succ i=>show q3 i _
    .show#[y2,_,c3,cs,rfl,rfl,f3,q4]
    .rw[Xx];show((List.sublist_append_right _ _)).append q5
  .cases h
section
#where in
def _nn(hu:X.A.y+64<cLine)(hc:QE X Z q c ea)(hm:X.mg x=none)(hv:bootBuiltins x=@(.l "dict"))(de:X.calm=true<|>Ŕ)(hK:X.K=Z.K<|>Ŕ)(hg:Gl X x<|>Ŕ)(hn:x≠"__name__"<|>ŕ)(gf:Abd x<|>ŕ)
  (he:Abs ea [] X<|>Ŕ) (bj:Abb pos [] X<|>Ŕ):QE X Z q (cDW c) (.ù (.é x p) [ea] [] pos):=
 qj (_bG (_nl hu de hK) hg hm hv (qZ hc vJ he) hn gf he bj) fun σ H Q ai=>ex8 ai λE L r m w hr xc k=>by
 show VQ m w hr xc λE1 s h1 x L1 H1 e1 e2 m1 w1 st sm=>?_
 unfold _nd at h1
 split at h1
 rotate_left
 .cases h1
 revert sd hs;cases _aa h1
 split at hs
 rotate_left
 .cases hs
 split at hs
 rotate_left
 .cases hs
 revert kvs hp
 split at hs
 rotate_left
 .symm
 revert hc;cases _aa hs;let#[l0,xs,bs,c1,c2,c3,c4,c5]:=_ii (w1.ok x X3) e2 e1;let#[qs,cs,q1,q2,q3,q4,q5]:=_nm hp c5;let hql:qs.B=kvs.B:=by let:=congrArg List.B q1;simpa using this
 let dy:(qs.C (·.1)).V:=by
  let:=hc.2;rw[<-q1]at this;rw[List.nodup_iff_pairwise_ne,List.pairwise_map]at this ⊢;show this.imp λh e=>h (congrArg Subtype.val e)
 show#[l0,xs,qs,by rw[c1],.O (.O c2),q2,q3,by rw[hql];show hc.1,dy,λl es ep hl hsm m1' m2'=>?_];let same:kJ H1 (upd H1 l (kK l es ep)):=vK hl;let hk:es.C (·.1)=qs.C (·.1):=by
  let:=congrArg (List.C Prod.fst) m1'
  rwa [Xp,Xp]at this
 let hel:es.B=qs.B:=by let:=congrArg List.B m1';simpa using this
 let nd:=w1.nd;rw [jK,Xa,c4,Yh]at nd;let hlo:∀b>l0::bs,H1 b≠none:=λb hb=>w1.own_some (by rw[jK,c4];show _ac _ hb)
 let jl:∀b>cs,b>l0::bs:=λb hb=>_ad _ (q5.subset hb)
 let hL:=λb hb h=>nd.2.2 b hb b h rfl
 let hF:=λb hb h=>w1.ds b (by rw[jK,c4];show _ac _ hb) (_ab _ h)
 let wl:=(w1.tail).later same;show k _ _ rfl #[.dp,.dct kvs,.I l,l::cs] L1 _ rfl rfl m1 (wl.æ ?_ ?_ ?_ ?_ (λb hb=>by cases hb) (λb _ hb=>by cases hb)) ?_ λhq=>?_
 .show#[l,qs.C _,cs,rfl,q4.kp (Kp.of_same same),.O #[es,ep,vQ,hsm,?_,by rw[hk];show dy,?_,λe he=>?_,m2'],rfl]
  .rw[hel,hql];show J3 hc.1
  .rw[<-q1];let:=congrArg (List.C λk:Kd=>k.1) hk;rw[Xp,Xp]at this;show this.à
  .let#[i,hi,rfl]:=Yg he;let#[T,_,_,hp3]:=q3 i _;let g:(es.C (λe=>(e.1,e.2.1)))[i]?=(qs.C (λp=>(p.1,p.2.1)))[i]?:=by rw[m1']
   rw[Xf,Xf,X1 hi,X1 .q]at g;let g:=_aa g;let g2:es[i].2.1=(qs[i]'_).2.1:=congrArg Prod.snd g;rw[(congrArg Prod.fst g),g2];show PuR.kp (as:=[]) (Kp.of_same same) hp3
 .show List.ø.s #[(λh=>hlo l (jl l h) hl),nd.1.2.sublist q5]
 .intro b hb h;let rfl\/hb:=aD hb
  .show w1.tail.own_some h hl
  .show hL b (jl b hb) h
 .intro b hb h;let rfl\/hb:=aD hb
  .show w1.tail.frz_some h hl
  .show hF b (jl b hb) h
 .show st.J #[λa ob h _=>same a ob h,λa ha=>?_,λa ha=>?_]
  .rw[jK]at ha ⊢;let h\/h:=aA ha
   .let rfl\/h:=aD h
    .show .h hl
    .show .O (_ac _ (c4▸jl a h))
   .show .O (_ab _ h)
  .rw[vW]at ha ⊢;show .O (_ab _ (by simpa [Sl.frz]using ha))
 .show#[kQ (sm hq).1 same,λb hb=>?_];let rfl\/hb:=aD hb
  .cases hh:H b with|none=>rfl|some ob=>rw[(sm hq).1 b ob hh]at hl;cases hl
  .show(sm hq).2 b (c4▸jl b hb)
end
noncomputable def Itk(a:Addr)(es:List Ent)(ep:Nat):It:=#[λi H=>H a=@(kK a es ep)/\i<es.B,
 λi H v H'=>H'=H/\∃n,es[i]?=@n/\v=.I n.2.1,λi H=>H a=@(kK a es ep)/\es.B<=i]
def _no{K}:
  Turn P w K tg (Itk a es ep) [it] it (λi h=>h.IsKeyIter it a i es.B ep) where
 mem:=by simp
 obj:=λi h st b hb=>by
  let e:b=it:= ~~~hb
  subst e;let#[o,e,c,d]:=st;show#[o,e,λv z=>by rw[d]at z;cases z]
 keep:=λi h h' st k=>st.at λo e=>k it (by simp) o e
 item:=by
  rintro X hP hw hK hc i a8 s σ H E I hf st ⟨hH,hi⟩;let ma:=X1 hi;let#[f0,f1,f2,f3,f4,f5]:=hf it (by simp);show _iO (by rw[X5];show st) (_iI I hH) (by rw[Xf,ma];rfl) λh' fm sb=>?_
  rw[X5]at fm;let I1:L2.Inv X a8 σ H {s with heap:=h' }:=I.turned (t':=s.toks) (λb o hb e=>(sb.2 b hb).J e) f0 f1 f3 f4 f5;let#[o,e,c,d]:=id fm;show#[_,rfl,_aS e c d (by rfl) #[.I es[i].2.1,H,I1,rfl,#[rfl,_,ma,rfl],fm,λb hb=>(hf b hb).1]]
 done:=by
  rintro X hP hw hK hc i a8 s σ H E I hf st ⟨hH,hi⟩;let#[f0,f1,f2,f3,f4,f5]:=hf it (by simp);show _iP (I.ok.hd hc) (by rw[X5];show st) (_iI I hH) (by rw[X5];show hi) λh' eb=>#[rfl,I.turned (t':=s.toks) (λb o hb e=>eb b o hb e) f0 f1 f3 f4 f5]
 self:=λ_ _ _ _ _ st h=>wpAny_pyIter_keyiter st h
abbrev xzt(to:TE):TI:=fun σ H R=>to σ H λx H1=>∃a es ep,x=.I a/\H1 a=@(kK a es ep)/\(a==sysModules)=false/\R (Itk a es ep) H1
section
def _np(ho:PE X e to):PI X tg e (xzt to):=by
 intro a8 s σ H R I h;show thn (ho a8 s σ H _ I h) λv s1 hz=>?_
 let#[x,H1,I1,r1,a,es,ep,ex,hH,hs,hR]:=hz;subst ex;cases r1;show _iN hs (_iI I1 hH) ?_;let I2:L2.Inv X a8 σ H1 {s1 with heap:=s1.H.í {cls:=.l "dict_keyiterator",data:=.fields %[.I a,.E 0 0,.E (es.C λx=>(#[Jq X.w x.1.1,.I x.2.1,x.2.2]:DictEntry)).B 0,.E ep 0|0]},toks:=s1.toks}:=I1.kept (t':=s1.toks) λb o z=>X2 _ z
 show#[↥s1,[_],_,_,H1,rfl,I2,_no,?_,λb hb=>?_,hR]
 .let:=X9 (h:=s1.H) (o:={cls:=.l "dict_keyiterator",data:=.fields %[.I a,.E 0 0,.E (es.C λx=>(#[Jq X.w x.1.1,.I x.2.1,x.2.2]:DictEntry)).B 0,.E ep 0|0]}) rfl;rw[X5]at this ⊢;show#[_,this,rfl,rfl]
 .rw[aC hb];show I1.fpOk (Xb _) (I1.hok.fresh (Xb _))
end
def RepP.atT {K}: ∀{kvs xs as} {es : List Ent} {d1},RepP K H g kvs xs as -> kvs.C (·.1) = es.C (·.1.1) -> Vals xs (es.C (·.2.2)) -> qw kvs k.1 = @d1 ->
    ∃ p x bs,atKey es k = @p /\ RelV x p.2 /\ RepL K H g d1 x bs /\ ∀b > bs,b > as
  | [],_,_,_,_,_,_,_,hg=>by cases hg| _ :: _,_,_,[],_,_,h,_,_=>by cases h
  | (q,d)::kvs,xs,as,e::es,d1,hr,hk,hv,hg=>by
    let#[x,r,b1,c1,rfl,rfl,h1,h2]:= hr;injection hk with k1 k2;cases hv with
    | cons v1 v2=>
      let k1 : q = e.1.1:= k1;let#[ek,ev]:= e
      by_cases he : ek = k
      . let hq : q = k.1:= by rw[k1,he]
        let mw : d = d1:= by unfold qw at hg; rw[List.find?_cons_of_pos (by simp[hq])]at hg; show _aa hg
        subst mw;show#[ev,x,b1,by simp[atKey,he],v1,h1,λb hb=>_ac _ hb]
      . let hq : q≠k.1:= λz=>he (J1 (k1.à.J z))
        let ll : qw kvs k.1 = @d1:= by unfold qw at hg ⊢; rw[Z4 (by simp[hq])]at hg; show hg
        let#[p,y,bs,q0,q1,q2,q3]:= RepP.atT h2 k2 v2 ll;show#[p,y,bs,?_,q1,q2,λb hb=>_ab _ (q3 b hb)];unfold atKey at q0 ⊢
        rwa [Z4 (by simp[he])]
section
#where in
def _nq(hu:X.A.y+64<cLine)(ha:QV X Z qa a ea)(hb:QV X Z true b eb)(hs:ZJ eb)(hK:X.K=Z.K<|>Ŕ):QV X Z qa (_nf a b) (.Subscript ea eb pos):=
 qj (hK▸_lI hu ha hb hs) fun σ H Q ai=>ex8 ai λE L r m w hc xc k=>by
  show qV m w (hc) xc λE1 s h1 x L1 H1 e1 e2 m1 w1 ok fr sr st sm=>(qV m1 w1 h1 (xc.step st) λE2 s2 h2 y L2 H2 e3 e4 m2 w2 ib rh rz bu dw=>?_)
  let#[z,hz0,rfl]:=xw h2
  split at hz0
  .symm
  revert hrt;let#[d,hz,rfl]:=Option.map_eq_some_iff.mp hz0;unfold _ne at hz
  split at hz
  rotate_left
  .grind
  revert kvs hy
  split at hz
  rotate_left
  .grind
  revert hc;let#[b,eb,pb]:=V1 ib (e4▸hc.1);let gj:k5 6 y.d=true:=by
   let:kj y.d=true:=by rw[e4];show hc.1
   unfold kj at this;rw[Bool.â]at this;show this.1
  let kx:=Qk ok fr bu (dw rfl);let fin:∀g,RepL Z.K H2 g x.d x.v x.as->(∀v cs,RepL Z.K H2 g d v cs->(∀b>cs,b>x.as)->Q v H2)->∃(a b:Addr) (k:Kd) (es:List Ent) (ep:Nat) (v:V) (p:Addr×Value),x.v=.I a/\y.v=.I b/\H2 a=@(kK a es ep)/\(es.C (·.1)).V/\(∀x>es,PuR Z.K H2 x.1.1 (.I x.2.1))/\PuR Z.K H2 k.1 (.I b)/\atKey es k=@p/\RelV v p.2/\Q v H2:=by
   intro g h kk;rw[e2,hy]at h;let#[l,xs,bs,e,rp,dc,ea]:=h;let#[es,ep,d1,d2,d3,d4,d5,d6,d7]:=DcA.un dc hc.2;let#[p,v',cs,q0,q1,q2,q3]:=RepP.atT (k:=#[y.d,gj]) rp d5 d7 (by change qw kvs y.d=_;rw[e4];show hz);show#[l,b,_,es,ep,v',p,e,eb,d1,d4,d6,pb,q0,q1,kk v' cs q2 λb hb=>by rw[ea];show _ad _ (q3 b hb)]
  cases ho:x.o with
  |rt=>show absurd (e1▸ho) hrt
  |no=>
   let h:=kx.1;unfold Sl.ok at h;rw[ho]at h;show fin true h λv cs r sub=>(k _ _ rfl #[.r,d,v,cs] L2 H2 (by rw[<-e1,ho];rfl) rfl m2 w2 r (λb hb=>kx.2 b ?_) (V4 sr sub) (st.J bu) λhq=>kQ (sm hq) (dw rfl))
   ext Sl.frz;rw[ho];show sub b hb
  |dp=>
   let h:=kx.1;unfold Sl.ok at h;rw[ho]at h;show fin false h λv cs r sub=>(k _ _ rfl #[.dp,d,v,cs] L2 H2 (by rw[<-e1,ho];rfl) rfl m2 w2 r (nofun) (V4 sr sub) (st.J bu) λhq=>kQ (sm hq) (dw rfl))
end
#where in
def _nr(h:PE X e (xk i))(hK:X.K=Z.K<|>Ŕ):QIS X Z true tg (xqb i) e:=λa8 s σ H R I ai=>ex8 ai λE L r m w hc xc k=>by
 show(_np h) a8 s σ H R I ?_;unfold xqb at hc
 split at hc
 rotate_left
 .cases hc
 revert o kvs hE
 split at hc
 rotate_left
 .cases hc
 revert af;cases _aa hc;let#[x,a1,a2,a3,a4]:=m.get hE;let yq:=RepO.wk (w.ok x (qX a1));rw[a3]at yq;let#[a,xs,bs,ev,rp,q4,eas]:=yq;let#[es,ep,g1,g2,g3,g4,g5,g6,g7]:=DcA.un q4 af.2;let hln:kvs.B=es.B:=by let:=congrArg List.B g5;simpa using this
 show#[x.v,a4,a,es,ep,ev,g1,g2,k _ _ rfl _ [] L H m (by rw[List.map_nil,Xx];show w) (by rw[List.map_nil,Xx];show Step.ò) (by rw[X5];show af.1) (λ_=>xj) #[λt ht=>(nomatch ht),λj H2 _ hs hj=>?_,λH2 _ hs=>?_,λj H2 v H3 d _ hs hy jf=>?_]]
 .show#[hs rfl _ _ g1,by rw[X5]at hj;omega]
 .show#[hs rfl _ _ g1,by rw[X5];symm]
 .let#[rfl,n,hn,rfl]:=hy;let hk:n.1.1=d:=by
   rw[g5,Xf,hn]at jf;show _aa jf
  subst hk;show#[#[.r,_,.I n.2.1,[]],rfl,rfl,rfl,xj,_iJ (PuR.kp (as:=[]) (Kp.of_same (hs rfl)) (g6 n (Y2 hn))),λb hb=>(nomatch hb)]
end Q
namespace Q
open PySem
def _ns n (h:300<=n):10 ^ 70<2 ^ n:=Xs (show 10 ^ 70<2 ^ 240 by decide) (Nat.pow_le_pow_right .q .q)
def mul_l(h1:-18446744073709551616<a)(h2:a<18446744073709551616):Jj (o1,.E a) (o2,.E b)=@(.dp,.E (a*b)):=by
 let:QQ a b=true:=by
  let:WK a=true:=by ext WK;rw[X8 (show -_<a by lia),X8 (show a<2 ^ 64 by lia)];rfl
  ext QQ;rw[this];rfl
 change(if QQ a b=true then _ else _)=_;rw[X7 this]
def mul_r(h1:-18446744073709551616<b)(h2:b<18446744073709551616):Jj (o1,.E a) (o2,.E b)=@(.dp,.E (a*b)):=by
 let:QQ a b=true:=by
  let:WK b=true:=by ext WK;rw[X8 (show -(2 ^ 64)<b by lia),X8 (show b<2 ^ 64 by lia)];rfl
  ext QQ;rw[this,Bool.or_true];rfl
 change(if QQ a b=true then _ else _)=_;rw[X7 this]
def add_i:qv (o1,.E a) (o2,.E b)=@(.dp,.E (a+b)):=rfl
def div_i(h:0<b)(h2:b<10 ^ 70):z7 (.E a) (.E b)=@(.E (a / b)):=by
 let hb:b.natAbs.log2<9000:=by
  show(Nat.log2_lt (by grind)).s (J5 (show b.natAbs<10 ^ 70 by omega) (_ns 9000 (by simp)))
 change(if 0<b/\b.natAbs.log2<9000 then @_ else none).C _=_;rw[X7 #[h,hb]];rfl
def mod_i(h:0<b):vx (.E a) (.E b)=@(.E (a % b)):=by
 change(if 0<b then @_ else none).C _=_;rw[X7 h];rfl
def pow_i(h1:0<=b)(h2:b<=1000)(h3:-1000000<a)(h4:a<1000000):_dI (.E a) (.E b)=@(.E (a ^ b.M)):=by
 change(if 0<=b/\b<=1000000/\a.natAbs<2 ^ 64 then @_ else none).C _=_;rw[X7 #[h1,.q,.q]];rfl
def _nt:fEq (.E a) (.E b)=@(.bl (a==b)):=rfl
def lt_ii:fLt (.E a) (.E b)=@(.bl (decide (a<b))):=rfl
def le_ii:fLe (.E a) (.E b)=@(.bl (decide (a<=b))):=rfl
def ge_ii:fGe (.E a) (.E b)=@(.bl (decide (b<=a))):=rfl
def x4(h0:0<=i)(h:xs[i.M]?=@d):jW (.S xs) (.E i)=@d:=by
 change((ixN xs.B i).bind λj=>xs[j]?)=@d;let hl:=(aF h).1;ext ixN
 rwa [X7 h0,X7 (by symm)]
def _nu(h0:0<=i)(h:xs[i.M]?=@d):jW (.X xs) (.E i)=@d:=by
 change((ixN xs.B i).bind λj=>xs[j]?)=@d;let hl:=(aF h).1;ext ixN
 rwa [X7 h0,X7 (by symm)]
def len_l:v6 (.S xs)=@(.E xs.B):=rfl
def len_t:v6 (.X xs)=@(.E xs.B):=rfl
def _nv(h1:o1≠.dp)(h2:o2≠.dp)(hl:a.B+b.B<10000):qv (o1,.S a) (o2,.S b)=@(.rt,.S (a++b)):=by
 change(if a.B+b.B<=big/\qY _/\qY _ then _ else _)=_;rw[X7 #[by ext big;lia,by cases o1<;>simp_all [qY],by cases o2<;>simp_all [qY]]]
def tup_l(h:o≠.dp):xJ (o,.S xs)=@(.r,.X xs):=by
 change(if qY _ then _ else _)=_;rw[X7 (by cases o<;>simp_all [qY])]
abbrev XP:=Str->Prop
def nd(h:a=b):a=b:=h
@[irreducible] noncomputable def Eo (m:Option (Res α)) (P:En->α->Prop) (X:XP):Prop:=match m with
 |some (.ok E a)=>P E a|some (.exc _ c)=>X c|none=>False
@[irreducible] noncomputable def Vo (m:Option α) (P:α->Prop):Prop:=match m with
 |some a=>P a|none=>False
@[irreducible] noncomputable def Oo (f:Fn) (xs:List Sd) (P:Sd->Prop) (X:XP):Prop:=match f xs with
 |some (.ok _ y)=>P y|some (.exc _ c)=>X c|none=>False
@[irreducible] noncomputable def Po (r:Option Fl) (N C:En->Prop) (R:Sd->Prop) (X:XP):Prop:=match r with
 |some (.nx E)=>N E|some (.ct E)=>C E|some (.rt _ x)=>R x|some (.xc _ c)=>X c|_=>False
abbrev noX:XP:=λ_=>False
section
def KK:Eo @(.ok E a) P X=P E a:=nd (by ac_rfl)
def _nw:Eo none P X=False:=nd (by ac_rfl)
def k8:Eo (bnd m f) P X=Eo m (λE a=>Eo (f E a) P X) X:=by
 cases m with|none=>ac_rfl|some r=>cases r<;>ac_rfl
def vo_some:Vo @a P=P a:=nd (by ac_rfl)
def vo_map:Vo (x.C f) P=Vo x (λa=>P (f a)):=by cases x<;>ac_rfl
def xY:Eo (val E x) P X=Vo x (P E):=by cases x<;>ac_rfl
def _nx:Po @(.nx E) N C R X=N E:=nd (by ac_rfl)
noncomputable def zq:Po (ofE m f) N C R X=Eo m (λE a=>Po (f E a) N C R X) X:=by
 cases m with|none=>ac_rfl|some r=>cases r<;>ac_rfl
def _ny:Po (j6 a b E) N C R X=Po (a E) (λE=>Po (b E) N C R X) C R X:=by
 ext j6 Po;cases a E with|none=>ac_rfl|some r=>cases r<;>ac_rfl
def _nz:Po (x.C f) N C R X=Vo x (λa=>Po @(f a) N C R X):=by cases x<;>ac_rfl
def Eo.mono(h:Eo m P X)(k:∀E a,P E a->P' E a):Eo m P' X:=by
 cases m with
 |none=>exists h
 |some r=>cases r with|ok E a=>exists k E a h|exc E c=>exists h
def Oo.mono(h:Oo f xs P X)(k:∀y,P y->P' y):Oo f xs P' X:=by
 unfold Oo at h ⊢;cases hf:f xs with
 |none=>symm
 |some r=>rw[hf]at h;cases r with|ok E a=>exists k a h|exc E c=>symm
def Oo.out(h:Oo f xs P noX):∃E y,f xs=@(.ok E y)/\P y:=by
 unfold Oo at h;cases hf:f xs with
 |none=>symm
 |some r=>rw[hf]at h;cases r with|ok E a=>with_unfolding_all show#[E,a,rfl,h]|exc E c=>exists (h).è
def kw(h:Po (b (xs.C some++List.ß (n - xs.B) none)) (λ_=>P (.dp,.ó)) (λ_=>False) P X):Oo (fn n b) xs P X:=by
 ext Oo fn;unfold Po at h;cases hb:b _ with|none=>symm|some r=>rw[hb]at h;cases r<;>exists h
def _nA:Eo (jx f cs E) P X=Eo (wJ cs E) (λE xs=>Oo f (letAll xs) (P E) X) X:=by
 ext jx;rw[k8]
 congr 1
 funext E xs;ext Oo;cases f _ with|none=>ac_rfl|some r=>cases r<;>ac_rfl
def _nB:Eo (_hf f cs E) P X=Eo (wJ cs E) (λE xs=>Oo f (letAll xs) (λy=>y.2.pure=true/\P E (.dp,y.2)) X) X:=by
 ext _hf;rw[k8]
 congr 1
 funext E xs;ext Oo;cases f _ with
 | none=>ac_rfl
 | some r=>
  cases r with
  |exc=>ac_rfl
  |ok E1 y=>
   right
   by_cases hp:y.2.pure=true
   .rw[X7 hp];with_unfolding_all show propext #[λh=>#[hp,h],λh=>h.2]
   .rw[Xd hp];with_unfolding_all show propext #[λh=>(h).è,λh=>hp h.1]
def _nC(d:D)(a b:Option α):Option α:=match d with
 |.bl k=>if k=true then a else b|_=>none
def _nD(a b:Ex):W7 a b E=bnd (a E) λE x=>_nC x.2 (b E) (@(.ok E (.dp,.bl false))):=by
 ext W7 _nC
 congr 1
 funext E x;cases x.2 with|bl k=>cases k<;>ac_rfl|_=>ac_rfl
def _nE(I:En->List D->Prop)(hs:∀E d ds,I E (d::ds)->Vo (tg.put d E) λE1=>Po (b E1) (λE2=>I E2 ds) (λE2=>I E2 ds) R X)(h1:∀E,I E []->N E):∀ds E,I E ds->Po (V9 tg b ds E) N C R X
 | [],E,h=>by exists h1 E h
 | d::ds,E,h=>by
  let h2:=hs E d ds h;ext V9;cases hp:tg.put d E with
  | none=>rw[hp]at h2;exists (h2).è
  | some E1=>
   rw[hp]at h2;let h2:Po (b E1) (λE2=>I E2 ds) (λE2=>I E2 ds) R X:=by exists h2
   right;cases hb:b E1 with
   |none=>rw[hb]at h2;exists (h2).è
   |some r=>
    rw[hb]at h2;cases r with|nx E2=>exists _nE I hs h1 ds E2 h2|ct E2=>exists _nE I hs h1 ds E2 h2|rt E2 x=>exists h2|xc E2 c=>exists h2|bk E2=>exists (h2).è
def wV I (h0:Eo (it E) I X)(hs:∀E d ds,I E (d::ds)->Vo (tg.put d E) λE1=>Po (b E1) (λE2=>I E2 ds) (λE2=>I E2 ds) R X)(h1:∀E,I E []->N E):Po (v5 it tg b E) N C R X:=by
 change Po (ofE _ λE ds=>V9 tg b ds E) N C R X;rw[zq]
 exists h0.mono λE ds h=>_nE I hs h1 ds E h
def _nF(I:Nat->En->Prop)(hs:∀n E,I n E->Eo (t E) (λE1 k=>if k=true then Po (b E1) (λE2=>∃m,m<n/\I m E2) (λE2=>∃m,m<n/\I m E2) R X else N E1) X):∀n E,I n E->Po (zY t b E) N C R X:=by
 intro n
 induction n using Nat.strongRecOn with
 | _ n ih=>
  intro E h;let h2:=hs n E h;rw [_dQ];ext whF;cases ht:t E with
  | none=>rw[ht]at h2;exists (h2).è
  | some r=>
   rw [ht]at h2;cases r with
   | exc E1 c=>exists h2
   | ok E1 k=>
    cases k with
    | false=>exists h2
    | true=>
     let h2:Po (b E1) (λE2=>∃m,m<n/\I m E2) (λE2=>∃m,m<n/\I m E2) R X:=by exists h2
     right;cases hb:b E1 with
     |none=>rw[hb]at h2;exists (h2).è
     |some r=>
      rw[hb]at h2;cases r with|nx E2=>show(show ∃m,m<n/\I m E2 by exists h2).è λm hh=>ih m hh.1 E2 hh.2|ct E2=>show(show ∃m,m<n/\I m E2 by exists h2).è λm hh=>ih m hh.1 E2 hh.2|rt E2 x=>exists h2|xc E2 c=>exists h2|bk E2=>exists (h2).è
def _nG(J:En->List D->List Sd->Prop)(hs:∀B d ds ae,J B (d::ds) ae->Vo (tg.put d B) λB1=>Eo (t B1) (λB2 k=>if k=true then Eo (c B2) (λB3 y=>J B3 ds (ae++[y])) X else J B2 ds ae) X)(h1:∀B ae,J B [] ae->P B ae):∀ds B ae,J B ds ae->Eo (lcL tg t c ds B ae) P X
 | [],B,ae,h=>by exists h1 B ae h
 | d::ds,B,ae,h=>by
  let h2:=hs B d ds ae h;ext lcL;cases hp:tg.put d B with
  | none=>rw[hp]at h2;exists (h2).è
  | some B1=>
   rw[hp]at h2;let h2:Eo (t B1) (λB2 k=>if k=true then Eo (c B2) (λB3 y=>J B3 ds (ae++[y])) X else J B2 ds ae) X:=by exists h2
   rw[k8];show h2.mono λB2 k h3=>?_
   cases k with
   |false=>exists _nG J hs h1 ds B2 ae h3
   |true=>
    change Eo (bnd _ _) P X;rw[k8]
    exists Eo.mono h3 λB3 y h4=>_nG J hs h1 ds B3 _ h4
def Q4(J:En->En->List D->List Sd->Prop)(h0:Eo (it E) (λE1 ds=>J E1 (_dR k r E1) ds []) X)
  (hs:∀E1 B d ds ae,J E1 B (d::ds) ae->Vo (tg.put d B) λB1=>Eo (t B1) (λB2 k=>if k=true then Eo (c B2) (λB3 y=>J E1 B3 ds (ae++[y])) X else J E1 B2 ds ae) X) (h1:∀E1 B ae,J E1 B [] ae->Eo (mkL o (zj k r B E1) ae) P X):Eo (cLC o k r it tg t c E) P X:=by
 ext cLC;rw[k8];show h0.mono λE1 ds hJ=>?_
 let:=_nG _ (hs E1) (h1 E1) ds _ _ hJ;cases hl:lcL tg t c ds _ []with|none=>rw[hl]at this;exists (this).è|some q=>rw[hl]at this;cases q<;>exists this
end
def mulT_i:xK (o1,.E a) y=Jj (o1,.E a) y:=by
 ext xK;ac_rfl
def sl(q:Option (Option Sd)):Option Sd:=match q with
 |some @x=>@x|_=>none
def sl_some:sl @(@x)=@x:=nd (by ac_rfl)
def _nH(d:D)(a b:Prop):Prop:=match d with
 |.bl k=>if k=true then a else b|_=>False
def andP_bl:_nH (.bl k) a b=if k=true then a else b:=nd (by ac_rfl)
def Wo(m:Option α)(E:En)(P:En->α->Prop):Prop:=Vo m (P E)
def wo_some:Wo @a E P=P E a:=vo_some
def wo_map:Wo (x.C f) E P=Wo x E (λE a=>P E (f a)):=vo_map
def Oe(f:Fn)(xs:List Sd)(E:En)(P:En->Sd->Prop)(X:XP):Prop:=Oo f xs (P E) X
def intP(d:D)(P:Int->Prop):Prop:=match d with
 |.E i=>P i|_=>False
def Ie(d:D)(E:En)(P:En->Int->Prop):Prop:=intP d (P E)
def ie_i:Ie (.E i) E P=P E i:=nd (by ac_rfl)
section
def w_seq:Po (j6 a b (e::E)) N C R X=Po (a (e::E)) (λE=>Po (b E) N C R X) C R X:=_ny
def w_asg:Po (jv i c (e::E)) N C R X=Eo (c (e::E)) (λE x=>N (E.ç i @x)) X:=by ext jv;rw[zq];ac_rfl
def w_ret:Po (jz c (e::E)) N C R X=Eo (c (e::E)) (λ_ x=>R x) X:=by ext jz;rw[zq];ac_rfl
def w_pass:Po (qz (e::E)) N C R X=N (e::E):=nd (by ac_rfl)
def w_if:Po (sIf t a b (e::E)) N C R X=Eo (t (e::E)) (λE k=>if k=true then Po (a E) N C R X else Po (b E) N C R X) X:=by
 ext sIf;rw[zq];congr 1;funext E k;cases k<;>ac_rfl
def w_tup:Po (_dK is c (e::E)) N C R X=Eo (c (e::E)) (λE x=>Vo (Tg.put (.t is) x.2 E) N) X:=by
 ext _dK;rw[zq];congr 1;funext E x;rw[_nz];ac_rfl
def w_vV:Eo (vV i (e::E)) P X=Wo (sl (e::E)[i]?) (e::E) P:=by
 ext vV Wo;cases(e::E)[i]? with|none=>ac_rfl|some q=>cases q<;>ac_rfl
def w_cV:Eo (cV i (e::E)) P X=Wo (sl (e::E)[i]?) (e::E) (λE x=>P (E.ç i @(.r,x.2)) (.r,x.2)):=by
 ext cV Wo;cases(e::E)[i]? with|none=>ac_rfl|some q=>cases q<;>ac_rfl
def w_cMv:Eo (cMv i (e::E)) P X=Wo (sl (e::E)[i]?) (e::E) (λE x=>P (E.ç i none) x):=by
 ext cMv Wo;cases(e::E)[i]? with|none=>ac_rfl|some q=>cases q<;>ac_rfl
def w_cC:Eo (cC d (e::E)) P X=P (e::E) (.dp,d):=nd (by ac_rfl)
def w_vE:Eo (vE c (e::E)) P X=Eo (c (e::E)) (λE x=>P E (.r,x.2)) X:=by ext vE;rw[k8];ac_rfl
def w_cH:Eo (cH c (e::E)) P X=Eo (c (e::E)) (λE x=>if x.1=.r then P E (.r,x.2)else if x.2.pure=true then P E (.dp,x.2)else False) X:=by
 ext cH;rw[k8]
 congr 1
 funext E x
 by_cases h:x.1=.r
 .rw[X7 h,X7 h];ac_rfl
 .rw[Xd h,Xd h]
  by_cases h2:x.2.pure=true
  .rw[X7 h2,X7 h2];ac_rfl
  .rw[Xd h2,Xd h2];ac_rfl
def w_f1:Eo (cF1 f a (e::E)) P X=Eo (a (e::E)) (λE x=>Wo (f x) E P) X:=by
 ext cF1;rw[k8];congr 1;funext E x;show xY
def w_f2:Eo (cF2 f a b (e::E)) P X=Eo (a (e::E)) (λE x=>Eo (b E) (λE y=>Wo (f x y) E P) X) X:=by
 ext cF2;rw[k8];congr 1;funext E x;rw[k8];congr 1;funext E y;show xY
def w_ix:Eo (j8 a b (e::E)) P X=Eo (a (e::E)) (λE x=>Eo (b E) (λE y=>Wo (jW x.2 y.2) E (λE d=>P E (sub x.1,d))) X) X:=by
 ext j8;rw[k8];congr 1;funext E x;rw[k8];congr 1;funext E y;rw[xY];show vo_map
def w_tE:Eo (tE c (e::E)) T X=Eo (c (e::E)) (λE x=>Wo (truth x.2) E T) X:=by
 ext tE;rw[k8];congr 1;funext E x;show xY
def w_tEQ:Eo (tEQ c (e::E)) T X=Eo (c (e::E)) (λE x=>Wo (truthQ x.2) E T) X:=by
 ext tEQ;rw[k8];congr 1;funext E x;show xY
def w_tNot:Eo (tNot t (e::E)) T X=Eo (t (e::E)) (λE k=>T E (!k)) X:=by ext tNot;rw[k8];ac_rfl
def w_tOr:Eo (tOr t u (e::E)) T X=Eo (t (e::E)) (λE k=>if k=true then T E true else Eo (u E) T X) X:=by
 ext tOr;rw[k8];congr 1;funext E k;cases k<;>ac_rfl
def w_tYes:Eo (tYes (e::E)) T X=T (e::E) true:=nd (by ac_rfl)
def w_cIf:Eo (cIf t a b (e::E)) P X=Eo (t (e::E)) (λE k=>if k=true then Eo (a E) P X else Eo (b E) P X) X:=by
 ext cIf;rw[k8];congr 1;funext E k;cases k<;>ac_rfl
def w_cAnd:Eo (W7 a b (e::E)) P X=Eo (a (e::E)) (λE x=>_nH x.2 (Eo (b E) P X) (P E (.dp,.bl false))) X:=by
 rw[_nD,k8];congr 1;funext E x;cases x.2 with|bl k=>cases k<;>ac_rfl|_=>ac_rfl
def w_call:Eo (jx f cs (e::E)) P X=Eo (wJ cs (e::E)) (λE xs=>Oe f (letAll xs) E P X) X:=by exists _nA
def w_callB:Eo (_hf f cs (e::E)) P X=Eo (wJ cs (e::E)) (λE xs=>Oe f (letAll xs) E (λE y=>y.2.pure=true/\P E (.dp,y.2)) X) X:=by exists _nB
def w_idx:Eo (QZ a b (e::E)) P X=Eo (a (e::E)) (λE x=>if isSq x.2=true then Eo (b E) (λE y=>Wo (_hd x.2 y.2) E (λE d=>P E (.dp,d))) X else False) X:=by
 ext QZ;rw[k8];congr 1;funext E x;cases isSq x.2 with
 |false=>ac_rfl
 |true=>
  change Eo (bnd _ _) P X=_;rw[k8]
  congr 1;funext E y;rw[xY];show vo_map
def w_itS:Eo (itS c (e::E)) P X=Eo (c (e::E)) (λE x=>Wo (seqOf x.2) E P) X:=by
 ext itS;rw[k8]
 congr 1
 funext E x;show xY
def w_itEn:Eo (xqc c (e::E)) P X=Eo (c (e::E)) (λE x=>Wo (lstOf x.2) E (λE ds=>P E (xV 0 ds))) X:=by
 ext xqc;rw[k8]
 congr 1
 funext E x;rw[xY];show vo_map
end
def args_nil:Eo (wJ [] (e::E)) P X=P (e::E) []:=nd (by ac_rfl)
def args_cons:Eo (wJ (c::cs) (e::E)) P X=Eo (c (e::E)) (λE x=>Eo (wJ cs E) (λE xs=>P E (x::xs)) X) X:=by
 change Eo (bnd _ λE x=>bnd _ λE xs=>@_) P X=_;rw[k8]
 congr 1
 funext E x;rw[k8]
 ac_rfl
def eo_tup:Eo (kW .r cs (e::E)) P X=Eo (wJ cs (e::E)) (λE xs=>P E (.r,.X (xs.C (·.2)))) X:=by
 ext kW;rw[k8]
 ac_rfl
def eo_lst:Eo (vz .rt cs (e::E)) P X=Eo (wJ cs (e::E)) (λE xs=>P E (.rt,.S (xs.C (·.2)))) X:=by
 ext vz;rw[k8]
 ac_rfl
def _nI(h:Eo (c E) (λE x=>∃n,x.2=.E n/\n<=1000/\-1000<=n/\P E (jZ 0 n)) X):Eo (v9 c E) P X:=by
 ext v9;rw[k8];show h.mono ?_;rintro E ⟨o,d⟩ ⟨n,rfl,h1,h2,h3⟩;let:wv n=true:=by ext wv;rw[X8 .q,X8 .q];ac_rfl
 change Eo (if wv n=true/\n.M<=big then _ else _) P X;rw[X7 #[this,by ext big;lia]]
 exists h3
def _nJ(h0:E[i]?=some @(o,.S xs))
  (h:Eo (c E) (λE1 x=>∃o ys,E1[i]?=some @(o,.S ys)/\o≠.r/\ys.B<10000/\N (E1.ç i @(if o=.dp/\qW x then .dp else .rt,.S (ys++[x.2])))) X):Po (vq vk i c E) N C R X:=by
 ext vq;rw[h0,X7 (show V7 _=true from rfl),zq];show h.mono ?_;rintro E1 x ⟨o,ys,h1,h2,h3,h4⟩;rw[h1];right;let hg:vk ys x.2=@(ys++[x.2]):=by ext vk;rw[X7 (by ext big;lia)]
 rw[Xd h2,hg]
 exists h4
def xz(h0:E[i]?=some @(.rt,.S xs))
  (h:Eo (c E) (λE1 x=>∃ys,E1[i]?=some @(.rt,.S ys)/\ys.B<10000/\N (E1.ç i @(.rt,.S (ys++[x.2])))) X):Po (vq vk i c E) N C R X:=
 _nJ h0 (h.mono λE1 x hz=>by let#[ys,h1,h2,h3]:=hz;show#[.rt,ys,h1,.q,h2,by rw[];exists h3])
def rng_ok(h1:-1000<=n)(h2:n<=1000):(wv n=true/\n.M<=big)=True:=by
 let:wv n=true:=by ext wv;rw[X8 .q,X8 .q];ac_rfl
 with_unfolding_all show eq_true #[this,by ext big;lia]
def _nK[Decidable p]:Eo (if p then a else none) P X=(p/\Eo a P X):=by
 by_cases h:p
 .symm
 .rw[Xd h];with_unfolding_all show propext #[λz=>z.è,λz=>h z.1]
def w_R1:Eo (v9 c (e::E)) P X=Eo (c (e::E)) (λE x=>Ie x.2 E λE n=>(wv n=true/\n.M<=big)/\P E (jZ 0 n)) X:=by
 ext v9;rw[k8];congr 1;funext E x;cases x.2 with|int n=>exists _nK|_=>ac_rfl
def w_LR1:Eo (WZ c (e::E)) P X=Eo (c (e::E)) (λE x=>Ie x.2 E λE n=>(wv n=true/\n.M<=big)/\P E (.rt,.S (jZ 0 n))) X:=by
 ext WZ;rw[k8];congr 1;funext E x;cases x.2 with|int n=>exists _nK|_=>ac_rfl
def _nL(h:ys.all qW=true):Eo (mkL .dp E ys) P X=P E (.dp,.S (ys.C (·.2))):=by
 ext mkL;rw[X7 h];ac_rfl
def sub_no:sub .r=.r:=nd (by ac_rfl)
def sub_rt:sub .rt=.r:=nd (by ac_rfl)
def sub_dp:sub .dp=.dp:=nd (by ac_rfl)
def Oo.use{g:ι->Sd}{S:ι->Prop}(h:Oo f xs (λy=>∃i,y=g i/\S i) X)(k:∀i,S i->P E (g i)):Oe f xs E P X:=h.mono λy hz=>by let#[i,e,s]:=hz;show e▸k i s
def Oo.via(h:Oo f xs S X)(k:∀y,S y->P E y):Oe f xs E P X:=h.mono k
def vZ:Eo (mkL .rt E ys) P X=P E (.rt,.S (ys.C (·.2))):=nd (by ac_rfl)
def _nM(h0:E[i]?=some @(o,.S xs))
  (h:Eo (c E) (λE1 x=>∃(o:Own) (ys:List D) (k:Int) (d:D),E1[i]?=some @(o,.S ys)/\o≠.r/\x.2=.E k/\0<=k/\k<=1000/\ys[k.M]?=@d/\d.pure=true/\P (E1.ç i @(o,.S (ys.eraseIdx k.M))) (.dp,d)) X):Eo (_he i c E) P X:=by
 ext _he;rw[h0,X7 (show V7 _=true from rfl),k8];show h.mono ?_;rintro E1 ⟨o',d'⟩ ⟨o,ys,k,d,h1,h2,e,k0,k1,h3,h4,h5⟩;subst e;let hl:=(aF h3).1;let hx:ixN ys.B k=@k.M:=by ext ixN;rw[X7 k0,X7 .q]
 let hs:wv k=true:=by ext wv;rw[X8 .q,X8 .q];ac_rfl
 rw[h1];right;rw[Xd h2,hx];right;rw[h3];right;rw[h4,hs,X7 .q,KK];show h5
def w_chain:Eo (_hg f g a b c (e::E)) P X=Eo (a (e::E)) (λE x=>Eo (b E) (λE y=>Wo (f x.2 y.2) E λE d=>_nH d (Eo (c E) (λE z=>Wo (g y.2 z.2) E λE d=>P E (.dp,d)) X) (P E (.dp,.bl false))) X) X:=by
 ext _hg;rw [k8]
 congr 1
 funext E x;rw [k8]
 congr 1
 funext E y;cases f x.2 y.2 with
 | none=>ac_rfl
 | some d=>
  rw[wo_some];cases d with
  | bl k=>
   rw[andP_bl];cases k with
   |false=>ac_rfl
   |true=>
    right;rw[k8]
    congr 1
    funext E z;rw[xY];show vo_map
  |_=>ac_rfl
def Oo.any(h:Oo f xs P noX):Oo f xs P X:=by
 unfold Oo at *;cases hf:f xs with
 |none=>symm
 |some r=>rw[hf]at h;cases r with|ok E a=>symm|exc E c=>exists (h).è
section
def _nN:Eo (_hl kc vc (e::E)) P X=Eo (kc (e::E)) (λE k=>Eo (vc E) (λE v=>kj k.2=true/\P E (.rt,.dct [(k.2,v.2)])) X) X:=by
 ext _hl;rw[k8];congr 1;funext E k;rw[k8];congr 1;funext E v;rw[_nK,KK]
def _nO(h:Eo (vc E) (λE1 v=>g0 E1[i]?=true/\Eo (kc E1) (λE2 k=>∃s d,E2[i]?=some @s/\g s k.2 v.2=@d/\N (E2.ç i @(.rt,d))) X) X):Po (_dS g0 g i kc vc E) N C R X:=by
 ext _dS;rw[zq];show h.mono λE1 v hz=>?_
 rw[X7 hz.1,zq];show hz.2.mono λE2 k hz=>?_
 let#[s,d,e2,h3,h4]:=hz;rw[e2];right
 rwa [h3,Option.map_some,_nx]
def _nP(h:Eo (vc E) (λE1 v=>(∃kvs,E1[i]?=some @(.rt,.dct kvs))/\Eo (kc E1) (λE2 k=>∃kvs,E2[i]?=some @(.rt,.dct kvs)/\kj k.2=true/\(kvs.B<10000/\unm kvs=true)/\N (E2.ç i @(.rt,.dct (W4 kvs k.2 v.2)))) X) X):Po (_hk i kc vc E) N C R X:=by
 show _nO (h.mono λE1 v hz=>?_);let#[#[kvs,e1],h1]:=hz;show#[by rw[e1];rfl,h1.mono λE2 k hz=>?_];let#[kvs2,e2,h2,h3,h4]:=hz;show#[_,_,e2,by ext _hj;show X7 #[h2,by ext big;lia,h3.2],h4]
end
def _nQ(h:kvs.B<=10000)(hu:unm kvs=true):ZV (o,.dct kvs)=@(.rt,.S (kvs.C (·.1))):=by
 ext ZV;right;rw[X7 #[by ext big;lia,hu]]
def _nR(h:kj x=true)(hu:unm kvs=true):Q0 x (.dct kvs)=@(.bl (!decide (x>kvs.C (·.1)))):=by
 ext Q0;right;rw[X7 #[h,hu]]
section
def _nS:Eo (_hn a b (e::E)) P X=Eo (a (e::E)) (λE x=>Eo (b E) (λE y=>Wo (_hm x.2 y.2) E (λE d=>P E (.dp,d))) X) X:=by
 ext _hn;rw[k8];congr 1;funext E x;rw[k8];congr 1;funext E y;rw[xY];show vo_map
def _nT:Eo (_hp z c (e::E)) P X=Eo (c (e::E)) (λE x=>Wo (_ho z x.2) E (λE d=>P E (.dp,d))) X:=by
 ext _hp;rw[k8];congr 1;funext E x;rw[xY];show vo_map
def _nU:Eo (vzl c (e::E)) P X=Eo (c (e::E)) (λE x=>Wo (_hq x.2) E (λE ds=>P E (xV 0 ds))) X:=by
 ext vzl;rw[k8];congr 1;funext E x;rw[xY];show vo_map
def _nV(h:E[i]?=some @(o,.S ds))(hp:D.pures ds=true)(k:P E ds):Eo (itV i E) P X:=by
 ext itV;rw[h];right
 rwa [X7 hp,KK]
def _nW(h0:E[i]?=some @(o,.E x))(h:Eo (vc E) (λE1 v=>∃y,v.2=.E y/\N (E1.ç i @(.dp,.E (f x y)))) X):Po (XJ f i vc E) N C R X:=by
 ext XJ;rw[h0,zq];show h.mono ?_;rintro E1 v ⟨y,e1,h1⟩
 rwa [e1,_nx]
end
def _nX:W9 (.E k) (Q6 kv)=@(.bl (k9 kv k).isSome):=by
 ext W9;rw[_i4]
def _nY(h:k9 kv k=@v):_hm (Q6 kv) (.E k)=@(.E v):=by
 ext _hm;rw[_i4];right;rw[h];rfl
def _nZ{ps:List (Int×Int)}(h:ps.B<10000):YX (o,.S (ps.C λp=>D.X [.E p.1,.E p.2]))=@(.rt,Q6 (ps.foldl (λkv p=>v4 kv p.1 p.2) [])):=by
 ext YX;right;rw[_jt];right;rw[X7 (by ext big;lia)]
section
def _n0(h:Eo (vc E) (λE1 v=>_hr E1[i]?=true/\Eo (kc E1) (λE2 k=>∃kvs,E2[i]?=some @(.dp,.dct kvs)/\(kj k.2=true/\kvs.B<10000/\unm kvs=true/\Qx v=true/\k.2∉kvs.C (·.1))/\N (E2.ç i @(.dp,.dct (kvs++[(k.2,v.2)])))) X) X):Po (_hs i kc vc E) N C R X:=by
 ext _hs;rw[zq];show h.mono ?_;rintro E1 v ⟨e1,h1⟩;rw[X7 e1,zq];show h1.mono ?_;rintro E2 k ⟨kvs,e2,hc,h4⟩;rw[e2];right;rw[X7 #[hc.1,by ext big;lia,hc.2.2],_nx];show h4
end
section
def _n1:Eo (_ht c (e::E)) P X=Eo (c (e::E)) (λE x=>Qx x=true/\P E (.dp,x.2)) X:=by
 ext _ht;rw[k8];congr 1;funext E x;rw[_nK,KK]
end
def _n2(h0:E[i]?=some @(.rt,.S xs))
  (h:Eo (c E) (λE1 x=>∃ys zs,E1[i]?=some @(.rt,.S ys)/\x.2=.S zs/\x.1≠.r/\ys.B+zs.B<10000/\N (E1.ç i @(.rt,.S (ys++zs)))) X):Po (_lm i c E) N C R X:=by
 ext _lm;rw[h0,X7 (show V7 @(@(Own.rt,D.S xs))=true from rfl),zq];show h.mono λE1 x #[ys,zs,h1,h2,h3,h4,h5]=>?_
 rw[h1,h2];right;let hn:¬(Own.rt=.r\/x.1=.r\/¬ys.B+zs.B<big):=by
  rintro (z|z|z)
  .cases z
  .show h3 z
  .show z (by ext big;lia)
 rw[Xd hn,_nx];show h5
end Q
namespace C
open PySem Q
def m_read_by:Fn:=fn 8
  (j6 (sIf (tOr (tE (cF2 (f2First fIsNon) (vV 1) (vE (cC .ó)))) (tE (cF2 (pu2 Kq) (vV 2) (j8 (vV 0) (C9 0))))) (jz (cC .ó)) qz)
  (j6 (jv 4 (cH (j8 (vV 1) (C9 1))))
  (j6 (jv 5 (cH (j8 (j8 (j8 (j8 (vV 0) (C9 1)) (j8 (vV 1) (C9 0))) (C9 2)) (vE (QZ (j8 (vV 0) (C9 0)) (vV 2))))))
  (j6 (jv 6 (cH (j8 (vV 5) (vE (cIf (tE (cF2 (pu2 x8) (vV 3) (vV 4))) (QZ (vV 4) (vV 3)) (cF1 (pu1 v6) (vV 4)))))))
  (j6 (sIf (tE (cF2 (f2First fIsNon) (vV 6) (vE (cC .ó)))) (jz (cC .ó)) qz)
  (j6 (jv 7 (cF2 qv (vV 4) (vE (kW .r [(cV 3)]))))
  (jz (kW .r [(cH (j8 (vV 6) (C9 0))),(cF1 xJ (vE (cLC .rt 1 [7] (itS (cH (j8 (vV 6) (C9 1)))) (.n 0) tYes (cH (j8 (vV 1) (vV 0))))))]))))))))
end C
local macro_rules
 | `(tactic| simp![$ts,*])=>
  let f:=λ(p s:String)(c:Array Lean.Syntax)=>(s.splitOn " ").foldl (λa s=>(a.push (kC9 "Tactic.simpLemma" (.mk [kB9 c,kB9 (.mk []),Lean.mkIdent (p++s).toName]))).push (kA9 ",")) (.mk [])
  let b:=Array.mk [kC9 "Tactic.simpPre" (.mk [kA9 "↓"])]
  let l:=f "_root_.Q." "w_seq w_asg w_ret w_pass w_if w_tup w_vV w_cV w_cMv w_cC w_vE w_cH w_f1 w_f2 w_ix w_tE w_tEQ w_tNot w_tOr w_tYes w_cIf w_cAnd w_call w_callB w_idx w_itS w_itEn w_chain w_R1 w_LR1 ie_i andP_bl vo_some vo_map wo_some wo_map args_nil args_cons eo_tup eo_lst" b++f "_root_." "Q.rng_ok true_and Q.isSq Q.sl_some Q.letAll Q.pu2 Q.pu1 Q.f2First Q.fIsNon Q.fNotNon Q.isNon List.map_cons List.map_nil List.cons_append List.nil_append _a.Xn List.length_nil _a.X5 List.replicate List.set_cons_zero List.set_cons_succ List.getElem?_cons_zero List.getElem?_cons_succ Q.len_l Q.len_t Q.lt_ii Q.le_ii Q.ge_ii Q.add_i Q.div_i Q.mod_i Q.pow_i Q.mulT_i Q.mul_l Q.mul_r Option.map_some Q.truth Q.truthQ Q.D.pure if_true if_false ite_true ite_false Q.sub_no Q.sub_rt Q.sub_dp Bool.false_eq_true Bool.not_true Bool.not_false Q.Tg.put Q.setAll Q.seqOf Q.lstOf" (.mk [])++f "" "Nat.reduceAdd Nat.reduceSub reduceCtorEq" (.mk [])++f "" "reduceIte" b++ts.elemsAndSeps
  let i:=λs:String=>Lean.mkIdent s.toName
  let o:=λs:String=>kC9 "Tactic.configItem" (.mk [kC9 ("Tactic."++s++"ConfigItem") (.mk (if s=="neg" then [kA9 "-",i "failIfUnchanged"] else if s=="pos" then [kA9 "+",i "implicitDefEqProofs"] else [kA9 "(",i "maxSteps",kA9 ":=",Lean.Syntax.mkNumLit "1000000",kA9 ")"]))])
  let c:=kC9 "Tactic.lia" (.mk [kA9 "lia",kC9 "Tactic.optConfig" (.mk [kB9 (.mk [])])])
  pure (kC9 "Tactic.simp" (.mk [kA9 "simp",kC9 "Tactic.optConfig" (.mk [kB9 (.mk [o "neg",o "pos",o "val"])]),kB9 (.mk [kC9 "Tactic.discharger" (.mk [kA9 "(",.node .none `patternIgnore (.mk [.node .none `token.disch (.mk [kA9 "disch"])]),kA9 ":=",kC9 "Tactic.tacticSeq" (.mk [kC9 "Tactic.tacticSeq1Indented" (.mk [kB9 (.mk [c])])]),kA9 ")"])]),kB9 (.mk [kA9 "only"]),kB9 (.mk [kA9 "[",kB9 l,kA9 "]"]),kB9 (.mk [])]))
namespace C
open Q PySem
abbrev most:Int:=1000*10 ^ 64
abbrev iL(ns:List Int):D:=.S (ns.C D.E)
def Each(G:D->Sd->Prop):List D->List Sd->Prop
 |[],[]=>True|d::ds,y::ys=>G d y/\Each G ds ys|_,_=>False
def Each.snoc(h:G d y):∀{ds ys},Each G ds ys->Each G (ds++[d]) (ys++[y])
 |[],[],_=>#[h,trivial]|_::_,_::_,r=>#[r.1,Each.snoc h r.2]
def Each.len:∀{ds ys},Each G ds ys->ys.B=ds.B
 |[],[],_=>rfl|_::_,_::_,r=>by rw[Xn,Xn,Each.len r.2]
def Jw(ac:En) G (h0:Eo (it E) (λE1 ds=>r.C (at' E1)=ac/\(∀d>ds,Eo (c (@(.r,d)::ac)) (λB y=>(∃q,B=q::ac)/\G d y) X)/\∀ys,Each G ds ys->Eo (mkL o (back r ac (clr r E1)) ys) P X) X):Eo (cLC o 1 r it (.n 0) tYes c E) P X:=by
 show Q4 (λE1 B um ae=>∃ds ds1 q,ds=ds1++um/\B=q::ac/\Each G ds1 ae/\(∀d>ds,Eo (c (@(.r,d)::ac)) (λB y=>(∃q,B=q::ac)/\G d y) X)/\∀ys,Each G ds ys->Eo (mkL o (back r ac (clr r E1)) ys) P X) ?_ ?_ ?_
 .show h0.mono λE1 ds hz=>by let#[h1,h2,h3]:=hz;show#[ds,[],none,rfl,by rw[<-h1];rfl,trivial,h2,h3]
 .rintro E1 B d um ae ⟨ds,ds1,q,e,rfl,hE,h2,h3⟩;let hp:(Tg.n 0).put d (q::ac)=@_:=rfl;rw[hp,vo_some,show tYes _=@_ from rfl,KK];show(h2 d (by rw[e];simp)).mono ?_;rintro B y ⟨⟨q',rfl⟩,hG⟩;show#[ds,ds1++[d],q',by rw[e];simp,rfl,hE.snoc hG,h2,h3]
 .rintro E1 B ae ⟨ds,ds1,q,e,rfl,hE,h2,h3⟩;rw[Xx]at e;subst e;show h3 ae hE
def _n3(ac:En)(p:D->Bool) G (h0:Eo (it E) (λE1 ds=>r.C (at' E1)=ac/\(∀d>ds,Eo (t (@(.r,d)::ac)) (λB k=>B=@(.r,d)::ac/\k=p d) X/\(p d=true->Eo (c (@(.r,d)::ac)) (λB y=>(∃q,B=q::ac)/\G d y) X))/\∀ys,Each G (ds.ö p) ys->Eo (mkL o (back r ac (clr r E1)) ys) P X) X):Eo (cLC o 1 r it (.n 0) t c E) P X:=by
 show Q4 (λE1 B um ae=>(∃q,B=q::ac)/\(∀d>um,Eo (t (@(.r,d)::ac)) (λB k=>B=@(.r,d)::ac/\k=p d) X/\(p d=true->Eo (c (@(.r,d)::ac)) (λB y=>(∃q,B=q::ac)/\G d y) X))/\∀ys,Each G (um.ö p) ys->Eo (mkL o (back r ac (clr r E1)) (ae++ys)) P X) ?_ ?_ ?_
 .show h0.mono λE1 ds hz=>#[#[none,by rw[<-hz.1];rfl],hz.2.1,λys hy=>hz.2.2 ys hy]
 .rintro E1 B d um ae ⟨⟨q,rfl⟩,h2,h3⟩;let hp:(Tg.n 0).put d (q::ac)=@_:=rfl;let h4:=λd hd=>h2 d (_ad _ hd)
  rw[hp,vo_some];show(h2 d X3).1.mono ?_;rintro B k ⟨rfl,rfl⟩;cases hq:p d with
  |true=>
   show((h2 d X3).2 hq).mono ?_;rintro B y ⟨hB,hG⟩;show#[hB,h4,λys hy=>by rw[Y3];show h3 (y::ys) (by rw[List.filter_cons,hq];show#[hG,hy])]
  |false=>show#[#[_,rfl],h4,λys hy=>h3 ys (by rw[List.filter_cons,hq];show hy)]
 .rintro E1 B ae ⟨⟨q,rfl⟩,_,h3⟩;let:=h3 [] trivial
  rwa [Xx]at this
def _n4{S:Int->Prop}(hG:∀d y,G d y->∃i,y.2=.E i/\S i):∀{ds ys},Each G ds ys->∃ps:List Int,ys.C (·.2)=ps.C D.E/\ps.B=ds.B/\∀p>ps,S p
 |[],[],_=>#[[],rfl,rfl,nofun]
 |d::ds,y::ys,r=>by
  let#[i,e,s]:=hG d y r.1;let#[ps,h1,h2,h3]:=_n4 hG r.2;show#[i::ps,by simp[e,h1],by simp[h2],λp hp=>(aD hp).è (λz=>z▸s) (h3 p)]
def _n5:jZ n n=[]:=by ext jZ;rw[Int.sub_self];rfl
def _n6(h:k<n):jZ k n=.E k::jZ (k+1) n:=by
 ext jZ;let:(n - k).M=(n - (k+1)).M+1:=by
  let#[m,hm]:=Zi (show 0<=n - (k+1)by lia);rw[hm,show n - k=(m+1:Nat)by lia];rfl
 rw[this,List.range_succ_eq_map,List.Z,Xp]
 congr 1
 .simp
 .apply Y1;intro i _
  grind
def Q2(hk:k<=n)(h:d::ds=jZ k n):k<n/\d=.E k/\ds=jZ (k+1) n:=by
 by_cases hl:k<n
 .rw[_n6 hl]at h;injection h with h1 h2;show#[hl,h1,h2]
 .let:k=n:=.q
  subst this;rw[_n5]at h
  symm
def W6(hk:k<=n)(h:[]=jZ k n):k=n:=by
 by_cases hl:k<n
 .rw[_n6 hl]at h;cases h
 .lia
def K7(h:d>jZ k n):∃i,k<=i/\i<n/\d=.E i:=by
 let#[j,hj,rfl]:=aE h;let:=List.å.mp hj;show#[k+j,.q,by omega,rfl]
def _n7(h:k<=n):((jZ k n).B:Int)=n - k:=by
 ext jZ;rw[X5,Xz];lia
def _bR z i (h0:0<=i)(h1:i<z.cps.L):∃c,jW (.x z) (.E i)=@(.x #[%[c|0]]):=by
 let:i.M<z.cps.R.B:=by rw[Xk];symm
 show#[z.cps.R[i.M],?_];change((ixN z.cps.L i).bind λj=>(z.cps.R[j]?).C λc=>D.x #[%[c|0]])=_;ext ixN;rw[X7 h0,X7 h1];change((z.cps.R[i.M]?).C λc=>D.x #[%[c|0]])=_;rw[X1 this];rfl
def _n8(a b:Str):(a++b).cps.L=a.cps.L+b.cps.L:=by
 show Array.size_append
def _n9:∀ss,zX (ss.C D.x)=@ss
 |[]=>rfl|s::ss=>by rw[List.Z,zX,_n9 ss];rfl
def _oa(h:ss.B<64):_hc (o,.S (ss.C D.x))=@(.rt,.S ((vY ss).C D.x)):=by
 ext _hc;right;rw[_n9];right;rw[X7 h]
abbrev sL(ss:List Str):D:=.S (ss.C D.x)
def ixI ks (S:Int->Prop)(hS:∀k>ks,S k) i (h0:0<=i)(h1:i<ks.B):∃v,jW (iL ks) (.E i)=@(.E v)/\S v/\ks[i.M]?=@v:=by
 let hl:i.M<ks.B:=.q
 show#[ks[i.M],x4 h0 (by rw[Xf,X1 hl];rfl),hS _ (Xm hl),X1 hl]
def x3:∀{ks},(∀k>ks,k.flat n=true)->D.flats n ks=true
 |[],_=>by cases n<;>rfl|k::ks,h=>by change(D.flat _ _&&D.flats _ _)=true;rw[h k X3,x3 λe he=>h e (_ad _ he)];rfl
mutual
theorem YV:∀{n} (d),d.flat n=true->peq d d=true
 |n,.non,_=>rfl|n,.bl b,_=>by show(b==b)=true;simp|n,.int b,_=>by show(b==b)=true;simp|n,.str b,_=>by show(b==b)=true;simp|n+1,.tup xs,h=>peqs_refl xs h|n+1,.lst xs,h=>peqs_refl xs h|n,.dct _,h=>by cases n<;>exact nomatch (show false=true from h)|n,.obj _ _,h=>by cases n<;>exact nomatch (show false=true from h)
theorem peqs_refl:∀{n} ds,D.flats n ds=true->peqs ds ds=true
 |_,[],_=>by rfl
 |n,d::ds,h=>by
  have h:(D.flat _ _&&D.flats _ _)=true:=h;rw[Bool.and_eq_true]at h;show(peq d d&&peqs ds ds)=true;rw[YV d h.1,peqs_refl ds h.2];rfl
end
def _ob(h:d.flat 40=true):fEq d d=@(.bl true):=by ext fEq;rw[h,YV d h];rfl
def _oc(h:d.flat 40=true):fNe d d=@(.bl false):=by ext fNe;rw[h,YV d h];rfl
def p0(a b:D):jW (.X [a,b]) (.E 0)=@a:=rfl
def p1(a b:D):jW (.X [a,b]) (.E 1)=@b:=rfl
def t0(a b c:D):jW (.X [a,b,c]) (.E 0)=@a:=rfl
def t1(a b c):jW (.X [a,b,c]) (.E 1)=@b:=rfl
def t2(a b c):jW (.X [a,b,c]) (.E 2)=@c:=rfl
def zK(hG:∀d y,G d y->y.2=h d):∀{ds ys},Each G ds ys->ys.C (·.2)=ds.C h
 |[],[],_=>rfl|d::ds,y::ys,r=>by rw[List.Z,List.Z,hG d y r.1,zK hG r.2]
abbrev jw(ss:List Str)(rs:List D):D:=.X [sL ss,.S rs]
def _od{α:Type}[DecidableEq α]:∀{l m:List α},l.V->(∀x>l,x>m)->l.B<=m.B
 |[],_,_,_=>Y9 _
 |a::l,m,nd,h=>by
  rw[Yh]at nd;let ha:=h a X3;let:=_od nd.2 λx hx=>(List.mem_erase_of_ne (by rintro rfl;show nd.1 hx)).s (h x (_ad _ hx))
  grind
def _oe{G:D->Sd->Prop}(hG:∀d y,G d y->y.2=d){ds:List D}{ys:List Sd}(h:Each G ds ys):ys.C (·.2)=ds:=by
 rw[zK (h:=id) hG h,List.map_id]
def _of{z ss}:Kq (.x z) (sL ss)=@(.bl (!ss.any λw=>w==z)):=by
 change Qz _ _=_;ext Qz;let:fIn (.x z) (sL ss)=@(.bl (ss.any λw=>w==z)):=by
  change(if(D.x z).flat 30&&D.flats 30 _ then @_ else none)=_;rw[x3 (λk hk=>by let#[w,_,rfl]:=aE hk;rfl),List.any_map];rfl
 rw[this];rfl
def in_s{z ss}:x8 (.x z) (sL ss)=@(.bl (ss.any λw=>w==z)):=by
 change(if(D.x z).flat 30&&D.flats 30 _ then @_ else none)=_;rw[x3 (λk hk=>by let#[w,_,rfl]:=aE hk;rfl),List.any_map];rfl
def in_i:x8 (.E p) (iL ks)=@(.bl (ks.any λw=>w==p)):=by
 change(if(D.E p).flat 30&&D.flats 30 _ then @_ else none)=_;rw[x3 (λk hk=>by let#[w,_,rfl]:=aE hk;rfl),List.any_map];rfl
def VW{ks:List Int}:x8 (.E p) (.X (ks.C D.E))=@(.bl (ks.any λw=>w==p)):=by
 change(if(D.E p).flat 30&&D.flats 30 _ then @_ else none)=_;rw[x3 (λk hk=>by let#[w,_,rfl]:=aE hk;rfl),List.any_map];rfl
def VY{ks:List Int}:(ks.any λw=>w==p)=decide (p>ks):=by
 rw[Bool.eq_iff_iff];simp
def xW(own k:Int):Int:=own+(if k=own then 1 else 0)
def Cs(a9:List Int)(b:Int)(c:D):Prop:=c=.ó\/∃(to:Int) (fs:List Int),c=.X [.E to,.X (fs.C D.E)]/\0<=to/\to<a9.B/\(∀f>fs,0<=f/\f<b)/\fs.V/\(fs.B:Int)=a9.p to.M 0
def _kN:∀{l:List α} {i} (h),(l[i]::l.eraseIdx i).á l
 |a::l,0,h=>List.á.ò _
 |a::l,i+1,h=>by
  let:=_kN (~~~h);show(List.á.swap ..).J (this.æ a)
def _og(f:α->β):∀(l:List α) (i),(l.C f).eraseIdx i=(l.eraseIdx i).C f
 |[],_=>rfl|a::l,0=>rfl|a::l,i+1=>by rw[List.Z,List.eraseIdx_cons_succ,List.eraseIdx_cons_succ,List.Z,_og f l i]
def _oh(a b:Int):_dT (.bl (a==b))=@(.E (if a=b then 1 else 0)):=by
 by_cases h:a=b
 .rw[X7 h,show(a==b)=true by simpa using h];rfl
 .rw[Xd h,show(a==b)=false by simpa using h];rfl
def Pr(a9:List Int)(n:Nat)(own:Int)(d:D):Prop:=∃(gd:Bool) (st:List D),d=.X [.E own,.bl gd,.S st]/\st.B=n/\∀c>st,∃cs:List D,c=.S cs/\(cs.B:Int)=own+1/\∀k:Nat,k<cs.B->∃z,cs[k]?=@z/\Cs a9 (xW own k) z
def Prs(a9:List Int)(n:Nat)(rs:List D):Prop:=rs.B=a9.B/\∀i:Nat,i<a9.B->∃r,rs[i]?=@r/\Pr a9 n (a9.p i 0) r
def Ps(r:D):Prop:=∃(own:Int) (gd:Bool) (st:List D),r=.X [.E own,.bl gd,.S st]/\∀c>st,∃cs:List D,c=.S cs/\∀z>cs,z=.ó\/∃(to:Int) (fs:List Int),z=.X [.E to,.X (fs.C D.E)]
def Prs.ps(h:Prs a9 n rs):∀r>rs,Ps r:=λr hr=>by
 let#[i,hi,e]:=Yg hr;let#[r',e',gd,st,h1,h2,h3]:=h.2 i (h.1▸hi);rw[X1 hi,e]at e';cases e';show#[_,gd,st,h1,λc hc=>?_];let#[cs,g1,g2,g3]:=h3 c hc;show#[cs,g1,λz hz=>?_];let#[k,hk,ek]:=Yg hz;let#[z',e2,i5]:=g3 k hk;rw[X1 hk,ek]at e2;cases e2;let rfl\/#[to,fs,rfl,_]:=i5
 .show .O rfl
 .show .h #[to,fs,rfl]
def _oi:∀{l:List α},l.any p=true->l.findIdx? p=@(l.ì p)
 | [],h=>by cases h
 | a::l,h=>by
  rw[List.findIdx?_cons,List.findIdx_cons];cases hp:p a with
  |true=>rfl
  |false=>
   rw[List.any_cons,hp]at h;rw[_oi h];rfl
def _oj{l:List α}(h:l.any p=true):l.ì p<l.B:=by
 let#[x,hx,hp]:=List.any_eq_true.mp h;show Z5 #[x,hx,hp]
def _ok{l:List α}(h:l.any p=false):l.ì p=l.B:=by
 rw[List.findIdx_eq_length];intro x hx;cases hp:p x with|false=>rfl|true=>rw[List.any_eq_true.s #[x,hx,hp]]at h;cases h
def _ol(h:(ss.any λw=>w==z)=true):_hd (sL ss) (.x z)=@(.E (ss.ì λw=>w==z:Nat)):=by
 change(if(D.x z).flat 30&&D.flats 30 _ then((ss.C D.x).findIdx? λw=>peq w _).C λ(j:Nat)=>D.E j else none)=_;rw[x3 (λk hk=>by let#[w,_,rfl]:=aE hk;rfl),List.findIdx?_map];let:ss.findIdx? ((λw=>peq w (.x z))∘D.x)=ss.findIdx? λw=>w==z:=rfl
 rw[this,_oi h];rfl
def _om{ks:List Int}(h:(ks.any λw=>w==p)=true):_hd (.X (ks.C D.E)) (.E p)=@(.E (ks.ì λw=>w==p:Nat)):=by
 change(if(D.E p).flat 30&&D.flats 30 _ then((ks.C D.E).findIdx? λw=>peq w _).C λ(j:Nat)=>D.E j else none)=_;rw[x3 (λk hk=>by let#[w,_,rfl]:=aE hk;rfl),List.findIdx?_map];let:ks.findIdx? ((λw=>peq w (.E p))∘D.E)=ks.findIdx? λw=>w==p:=rfl
 rw[this,_oi h];rfl
def _on(hl:a.B+b.B<=10000):qv (.r,.X a) (.r,.X b)=@(.r,.X (a++b)):=by
 change(if a.B+b.B<=big/\qY _/\qY _ then _ else _)=_;rw[X7 #[by ext big;lia,rfl,rfl]]
abbrev iT(ks:List Int):D:=.X (ks.C D.E)
def nameAt(ks:List Int)(p:Int)(f:Int):Int:=(ks++[p]).p f.M 0
def Wv(ks:List Int)(p:Int)(c:D):D:=match c with
 |.X [to,.X fs]=>.X [to,.X (fs.C λf=>match f with|.E i=>.E (nameAt ks p i)|_=>.ó)]
 |_=>.ó
def caseD_is:Wv ks p (.X [.E to,iT fs])=.X [.E to,iT (fs.C (nameAt ks p))]:=by
 ext Wv iT;simp
def xZ(ss:List Str)(st:List D)(ks:List Int)(z:Str)(p:Int):D:=match st[ss.ì λw=>w==z]? with
 |some (.S cs)=>cs.p (ks.ì λw=>w==p) .ó|_=>.ó
def wY(ss:List Str)(st:List D)(ks:List Int)(z:Str)(p:Int):D:=if(ss.any λw=>w==z)=true then Wv ks p (xZ ss st ks z p)else .ó
def Cas(a9:List Int)(n:Nat)(own:Int)(st:List D):Prop:=st.B=n/\∀c>st,∃cs:List D,c=.S cs/\(cs.B:Int)=own+1/\∀k:Nat,k<cs.B->∃z,cs[k]?=@z/\Cs a9 (xW own k) z
def _oo{ks:List Int}:(ks.ì λw=>w==p)<=ks.B:=List.findIdx_le_length
def _op p (h:Cas a9 ss.B ks.B st)(hz:(ss.any λw=>w==z)=true):∃cs,st[ss.ì λw=>w==z]?=@(.S cs)/\(cs.B:Int)=ks.B+1/\cs[ks.ì λw=>w==p]?=@(xZ ss st ks z p)/\Cs a9 (xW ks.B (ks.ì λw=>w==p:Nat)) (xZ ss st ks z p):=by
 let hj:(ss.ì λw=>w==z)<st.B:=by rw[h.1];show _oj hz
 let#[cs,e,hl,hc]:=h.2 st[ss.ì λw=>w==z] (Xm hj);let hg:st[ss.ì λw=>w==z]?=@(.S cs):=by rw[X1 hj,e]
 let ij:=_oo (ks:=ks) (p:=p);let#[c,e2,hC]:=hc (ks.ì λw=>w==p) (by omega);let hca:xZ ss st ks z p=c:=by ext xZ;rw[hg];right;rw[X6,e2];rfl
 show#[cs,hg,hl,by rw[hca];show e2,by rw[hca];show hC]
def _oq(h0:0<=f)(h1:f<=ks.B):jW (.X (ks.C D.E++[.E p])) (.E f)=@(.E (nameAt ks p f)):=by
 show _nu h0 ?_;rw[show ks.C D.E++[D.E p]=(ks++[p]).C D.E by simp,Xf];ext nameAt;rw[X6,X1 (by simp;lia)];rfl
def _or:xW own k<=own+1:=by ext xW;split<;>lia
def _os{a0 a1 a2 a5 a6 a7 o3 o4 ks p P X}:Eo (cIf (tE (cF2 (pu2 x8) (vV 3) (vV 4))) (QZ (vV 4) (vV 3)) (cF1 (pu1 v6) (vV 4)) [a0,a1,a2,@(o3,.E p),@(o4,iT ks),a5,a6,a7]) P X=P [a0,a1,a2,@(o3,.E p),@(o4,iT ks),a5,a6,a7] (.dp,.E (ks.ì λw=>w==p:Nat)):=by
 cases hp:(ks.any λw=>w==p)with|true=>simp![VW,hp,_om hp]|false=>simp![VW,hp,_ok hp]
def _ot(h0:0<=room)(hr:rs[room.M]?=@(.X [kp,gd,.S st]))(hc:Cas a9 ss.B ks.B st)(hl:ks.B<=1000):
  Oo m_read_by [(.r,jw ss rs),(.r,.X [.E room,iT ks]),(.r,.x z),(.r,.E p)] (λy=>y.2=wY ss st ks z p) noX:=by
 let hi:jW (.S rs) (.E room)=@(.X [kp,gd,.S st]):=x4 h0 hr;let hif:=λa5 a6 a7 P=>@@_os @(.r,jw ss rs) @(.r,.X [.E room,iT ks]) @(.r,.x z) a5 a6 a7 .r .r ks p P noX
 ext wY m_read_by;generalize cIf _ _ _=I at hif ⊢;show kw ?_;cases hz:(ss.any λw=>w==z)with
 | false=>simp![p0,_of,hz]
 | true=>
  let#[cs,g1,g2,g3,g4]:=_op p hc hz;let hx:jW (.S st) (.E (ss.ì λw=>w==z:Nat))=@(.S cs):=x4 (by simp) (by rw[Xu];show g1);let hy:jW (.S cs) (.E (ks.ì λw=>w==p:Nat))=@(xZ ss st ks z p):=x4 (by simp) (by rw[Xu];show g3);let nt:=_on (a:=ks.C D.E) (b:=[.E p]) (by simp;lia);let tu:=_ol hz;let hb:=_or (own:=ks.B) (k:=(ks.ì λw=>w==p:Nat));generalize xZ ss st ks z p=c at g4 hy;rw[X7 rfl];generalize hR:j6 (sIf (tE (cF2 _ (vV 6) _)) _ _) _=R;simp![p0,p1,_of,hz,hi,t2,tu,hx,hif,hy];subst hR;let rfl\/#[to,fs,rfl,t0',t1',hfs,_]:=g4
  .simp![];rfl
  .simp![p0,p1,nt];show Jw [@(.r,.X (ks.C D.E++[.E p]))] (λf y=>y.2=match f with|.E i=>.E (nameAt ks p i)|_=>.ó) ?_;simp![p1];show#[rfl,λf hf=>?_,λys hy=>?_]
   .let#[i,jh,rfl]:=aE hf;let:=hfs i jh;simp![_oq (ks:=ks) (p:=p) (f:=i) this.1 .q];show#[#[_,rfl],trivial]
   .rw[vZ,zK (h:=λf=>match f with|.E i=>.E (nameAt ks p i)|_=>.ó) (λd y h=>h) hy,Xp,show(_∘D.E)=D.E∘nameAt ks p from rfl,<-Xp];dsimp[back,clr,at',List.set_cons_zero,List.ÿ];simp![tup_l (o:=.r) (xs:=(fs.C (nameAt ks p)).C D.E) .q];show caseD_is.à
def _ou{a b:Int}:_dV (.E a) (.E b)=@(.E (if b<a then b else a)):=rfl
def Ok2(a9:List Int)(s:D):Prop:=s=.ó\/∃(room:Int) (ks:List Int),s=.X [.E room,iT ks]/\0<=room/\room<a9.B/\(ks.B:Int)=a9.p room.M 0
def Rd(a9:List Int)(ss:List Str)(rs:List D)(s:D)(w:Str×Int)(s':D):Prop:=(s=.ó/\s'=.ó)\/∃(room:Int) (ks:List Int) (st:List D) (kp gd:D),s=.X [.E room,iT ks]/\0<=room/\rs[room.M]?=@(.X [kp,gd,.S st])/\Cas a9 ss.B ks.B st/\ks.B<=6/\s'=wY ss st ks w.1 w.2
abbrev _root_.Abk(l:List Int):Prop:=∀p>l,0<=p/\p<=3
def _ck w (hP:Prs a9 ss.B rs)(hk:Abk a9)(h:Ok2 a9 s):∃s',Rd a9 ss rs s w s'/\Ok2 a9 s'/\((ss.any λz=>z==w.1)=false->s'=.ó):=by
 let rfl\/#[room,ks,rfl,r0,r1,hl]:=h
 .show#[.ó,.O #[rfl,rfl],.O rfl,λ_=>rfl]
 .let#[r,er,gd,st,rfl,ou,av]:=hP.2 room.M .q;let hk3:=hk (a9.p room.M 0) (by rw[X6,X1 .q];show Xm _);let mh:Cas a9 ss.B ks.B st:=#[ou,by rw[hl];show av];show#[wY ss st ks w.1 w.2,.h #[room,ks,st,_,_,rfl,r0,er,mh,.q,rfl],?_,λhz=>?_]
  .ext wY;cases hz:(ss.any λz=>z==w.1)with
   |false=>show .O rfl
   |true=>
    let#[cs,g1,g2,g3,g4]:=_op w.2 mh hz;let e\/#[to,fs,e,t0,t1,_,_,ur]:=g4
    .rw[e];show .O rfl
    .rw[e,caseD_is];show .h #[to,_,rfl,t0,t1,by rw[X5];show ur]
  .ext wY;rw[hz];rfl
def _ov(h:Rd a9 ss rs s w s'):Oo m_read_by [(.r,jw ss rs),(.r,s),(.r,.x w.1),(.r,.E w.2)] (λy=>y.2=s') noX:=by
 let#[rfl,rfl]\/#[room,ks,st,kp,gd,rfl,r0,er,hc,hl,rfl]:=h
 .show kw ?_;simp![]
 .show _ot r0 er hc .q
abbrev Lw:=List (Str×Int)
def Ch2(a9:List Int)(ss:List Str)(rs:List D):D->Lw->D->Prop
 |s,[],s'=>s=s'|s,x::r,s'=>∃m,Rd a9 ss rs s x m/\Ch2 a9 ss rs m r s'
noncomputable section
end
noncomputable section
end
end C
namespace B
open PySem Q
def m_keepers_in:Fn:=fn 2
  (jz (cIf (tE (cF2 (pu2 fEq) (vV 1) (vE (cC (.E (-1)))))) (cC (.E 0)) (cH (j8 (j8 (j8 (vV 0) (C9 1)) (vV 1)) (C9 0)))))
def m_standing_in:Fn:=fn 2
  (jz (cIf (tE (cF2 (pu2 fEq) (vV 0) (vE (cC (.E (-1)))))) (cC .ó) (kW .r [(cV 0),(cF1 xJ (vV 1))])))
def m_first_standings:Fn:=fn 7
  (j6 (jv 3 (jx m_keepers_in [(cV 0),(cH (j8 (vV 2) (C9 0)))]))
  (j6 (jv 4 (cF1 YX (vE (cLC .rt 2 [] (itS (cH (j8 (vV 2) (C9 2)))) (.t [0,1]) tYes (kW .r [(cV 1),(cV 0)])))))
  (j6 (jv 5 (vz .rt []))
  (j6 (v5 (v9 (vE (jx m_keepers_in [(cV 1),(cH (j8 (vV 2) (C9 1)))]))) (.n 6) (vq vk 5 (cIf (tE (cF2 (pu2 W9) (vV 6) (vV 4))) (cH (_hn (vV 4) (vV 6))) (cF2 qv (vV 3) (vE (cF1 (pu1 v6) (vE (cLC .rt 1 [3] (itV 5) (.n 0) (tE (cF2 (pu2 fGe) (vV 0) (vV 1))) (cV 0)))))))))
  (jz (kW .r [(jx m_standing_in [(cH (j8 (vV 2) (C9 0))),(WZ (vV 3))]),(_hf m_standing_in [(j8 (vV 2) (C9 1)),(vV 5)])]))))))
def m_names_of:Fn:=fn 1
  (jz (cIf (tE (cF2 (f2First fIsNon) (vV 0) (vE (cC .ó)))) (kW .r []) (cH (j8 (vV 0) (C9 1)))))
def m_room_of:Fn:=fn 1
  (jz (cIf (tE (cF2 (f2First fIsNon) (vV 0) (vE (cC .ó)))) (cC (.E (-1))) (cH (j8 (vV 0) (C9 0)))))
def m_pair_of:Fn:=fn 4
  (j6 (jv 1 (jx m_names_of [(cH (j8 (vV 0) (C9 0)))]))
  (j6 (jv 2 (jx m_names_of [(cH (j8 (vV 0) (C9 1)))]))
  (j6 (jv 3 (cLC .rt 2 [2] (vzl (cV 1)) (.t [0,1]) (tE (cF2 (pu2 x8) (vV 1) (vV 2))) (kW .r [(cV 0),(QZ (vV 2) (vV 1))])))
  (jz (kW .r [(jx m_room_of [(cH (j8 (vV 0) (C9 0)))]),(jx m_room_of [(cH (j8 (vV 0) (C9 1)))]),(cF1 xJ (vV 3))])))))
def m_read_by_both:Fn:=fn 5
  (jz (kW .r [(jx C.m_read_by [(cV 0),(cH (j8 (vV 2) (C9 0))),(cV 3),(cV 4)]),(jx C.m_read_by [(cV 1),(cH (j8 (vV 2) (C9 1))),(cV 3),(cV 4)])]))
def m_held_by_both:Fn:=fn 2
  (j6 (jv 1 (jx m_names_of [(cH (j8 (vV 0) (C9 0)))]))
  (jz (cF2 qv (vV 1) (vE (cF1 xJ (vE (cLC .rt 1 [1] (itS (jx m_names_of [(cH (j8 (vV 0) (C9 1)))])) (.n 0) (tE (cF2 (pu2 Kq) (vV 0) (vV 1))) (cV 0))))))))
def m_is_good_in:Fn:=fn 2
  (jz (W7 (vE (cF2 (pu2 fNe) (vV 1) (vE (cC (.E (-1)))))) (cH (j8 (j8 (j8 (vV 0) (C9 1)) (vV 1)) (C9 1)))))
def m_agrees:Fn:=fn 3
  (jz (cF2 (pu2 fEq) (vE (jx m_is_good_in [(cV 0),(cH (j8 (vV 2) (C9 0)))])) (vE (jx m_is_good_in [(cV 1),(cH (j8 (vV 2) (C9 1)))]))))
end B
namespace B
open Q PySem C
abbrev Sn:=Option (Int×List Int)
def stn:Sn->D
 |none=>.ó|some p=>.X [.E p.1,iT p.2]
def nms:Sn->List Int
 |none=>[]|some p=>p.2
def rmO:Sn->Int
 |none=>-1|some p=>p.1
def _ow s:Oo m_names_of [(.r,stn s)] (λy=>y=(.r,iT (nms s))) noX:=by
 cases s with
 |none=>
  show kw ?_;simp![stn];rfl
 |some p=>
  show kw ?_;simp![stn,p1];rfl
def _ox s:Oo m_room_of [(.r,stn s)] (λy=>∃o',y=(o',.E (rmO s))/\True) noX:=by
 cases s with
 |none=>
  show kw ?_;simp![stn];show#[_,rfl,trivial]
 |some p=>
  show kw ?_;simp![stn,p0];show#[_,rfl,trivial]
def _oy(h:Rd a9 ss rs s w s')(h':Rd ab ss rs' t w t'):Oo m_read_by_both [(.r,jw ss rs),(.r,jw ss rs'),(.r,.X [s,t]),(.r,.x w.1),(.r,.E w.2)] (λy=>y=(.r,.X [s',t'])) noX:=by
 show kw ?_;simp![p0];show(_ov h).via ?_;rintro ⟨o,d⟩ e;cases(show d=s' from e);simp![p1];show(_ov h').via ?_;rintro ⟨o',d⟩ e;cases(e);simp![]
def kY(o t:List Int):List Int:=o++t.ö λn=>!(o.any λw=>w==n)
def _oz{ks:List Int}:Kq (.E p) (.X (ks.C D.E))=@(.bl (!(ks.any λw=>w==p))):=by
 change Qz _ _=_;ext Qz;let:fIn _ (.X _)=@(.bl (ks.any λw=>w==p)):=VW;rw[this];rfl
inductive HoA (P:D)(a b:Sn):En->En->List D->List Sd->Prop
 |mk {q:Option Sd} {ds:List D} {ae:List Sd} (f1 f2:List Int) (h1:nms b=f1++f2) (h2:ds=f2.C D.E) (h3:ae.C (·.2)=(f1.ö λn=>!(nms a).any λw=>w==n).C D.E):HoA P a b [@(.r,P),@(.r,iT (nms a))] [q,@(.r,iT (nms a))] ds ae
def _oA(a b)(ha:(nms a).B<=100)(hb:(nms b).B<=100):Oo m_held_by_both [(.r,.X [stn a,stn b])] (λy=>y=(.r,iT (kY (nms a) (nms b)))) noX:=by
 show kw ?_;simp![p0];show(_ow a).via ?_;rintro _ rfl;simp![p1];show Q4 (HoA (.X [stn a,stn b]) a b) ?_ ?_ ?_
 .simp![p1];show(_ow b).via ?_;rintro _ rfl;simp![];show .mk [] (nms b) rfl rfl rfl
 .rintro E1 B d ds ae ⟨f1,f2,hf,bv,au⟩;cases f2 with
  | nil=>cases bv
  | cons z f2=>
   injection bv with e1 e2;subst e1 e2;simp![_oz];cases hz:((nms a).any λw=>w==z)with
   |true=>
    show .mk (f1++[z]) f2 (by rw[hf];simp) rfl ?_;rw[au,Yf];simp[hz]
   |false=>
    show .mk (f1++[z]) f2 (by rw[hf];simp) rfl ?_;rw[Xg,au,Yf];simp[hz]
 .rintro E1 B ae ⟨f1,f2,hf,bv,au⟩;cases f2 with
  |cons=>symm
  |nil=>
   rw[Xx]at hf;subst hf;let ij:((nms b).ö λn=>!(nms a).any λw=>w==n).B<=100:=Yw (List.length_filter_le _ _) hb;rw[vZ,au];simp![Q.tup_l (o:=.r) (xs:=((nms b).ö λn=>!(nms a).any λw=>w==n).C D.E) .q,_on (a:=(nms a).C D.E) (b:=((nms b).ö λn=>!(nms a).any λw=>w==n).C D.E) (by rw[X5,X5];lia)];ext kY iT;rw[Xg]
def kq(t:List Int):Nat->List Int->List (Int×Int)
 |_,[]=>[]|k,n::o=>if(t.any λw=>w==n)=true then((k:Int),((t.ì λw=>w==n:Nat):Int))::kq t (k+1) o else kq t (k+1) o
abbrev prs(l:List (Int×Int)):List D:=l.C λp=>.X [.E p.1,.E p.2]
def v8(a b:Sn):D:=.X [.E (rmO a),.E (rmO b),.X (prs (kq (nms b) 0 (nms a)))]
inductive PoA (P:D)(a b:Sn):En->En->List D->List Sd->Prop
 |mk {q0 q1:Option Sd} {ds:List D} {ae:List Sd} (f1 f2:List Int) (h1:nms a=f1++f2) (h2:ds=xV f1.B (f2.C D.E)) (h3:ae.C (·.2)++prs (kq (nms b) f1.B f2)=prs (kq (nms b) 0 (nms a))):PoA P a b [@(.r,P),@(.r,iT (nms a)),@(.r,iT (nms b)),none] [q0,q1,@(.r,iT (nms b))] ds ae
#where in
def _oB(a b)(ha:(nms a).B<=100)(hb:(nms b).B<=100):Oo m_pair_of [(.r,.X [stn a,stn b])] (λy=>y=(.r,v8 a b)) noX:=by
 show kw ?_;simp![p0,p1];show(_ow a).via ?_;rintro _ rfl;simp![p0,p1];show(_ow b).via ?_;rintro _ rfl;simp![];show Q4 (PoA (.X [stn a,stn b]) a b) ?_ ?_ ?_
 .simp![↓_nU,show _hq (iT (nms a))=@((nms a).C D.E)from rfl];show .mk [] (nms a) rfl rfl rfl
 .rintro E1 B d ds ae ⟨f1,f2,hf,bv,au⟩;cases f2 with
  | nil=>cases bv
  | cons z f2=>
   injection bv with e1 e2;subst e1 e2;simp![VW];let lh:(f1++[z]).B=f1.B+1:=by simp
   cases hz:((nms b).any λw=>w==z)with
   |false=>
    show .mk (f1++[z]) f2 (by rw[hf];simp) (by rw[lh]) ?_;rw[<-au,lh]
    conv=>rhs;unfold kq
    rw[hz,Xd .q]
   |true=>
    simp![_om hz];show .mk (f1++[z]) f2 (by rw[hf];simp) (by rw[lh]) ?_;rw[<-au,lh,Xg,Y3]
    conv=>rhs;unfold kq
    rw[hz,X7 rfl];rfl
 .rintro E1 B ae ⟨f1,f2,hf,bv,au⟩;revert q0 q1;cases f2 with
  |cons=>cases bv
  |nil=>
   let au:ae.C (·.2)=prs (kq (nms b) 0 (nms a)):=by rw[<-au];simp[kq]
   rw[vZ,au,show zj 2 [2] [q0,q1,@(Own.r,iT (nms b))] [@(Own.r,D.X [stn a,stn b]),@(Own.r,iT (nms a)),@(Own.r,iT (nms b)),none]=[@(Own.r,D.X [stn a,stn b]),@(Own.r,iT (nms a)),@(Own.r,iT (nms b)),none]from rfl];simp![p0,p1];show(_ox a).use ?_;intro o1 _;simp![p0,p1];show(_ox b).use ?_;intro o2 _;simp![Q.tup_l (o:=.rt) (xs:=prs (kq (nms b) 0 (nms a))) .q];rfl
def Kpr(rs:List D)(room k:Int):Prop:=(room=-1/\k=0)\/(0<=room/\∃g st,rs[room.M]?=@(.X [.E k,g,st]))
def eqi(h:(a==b)=k):fEq (.E a) (.E b)=@(.bl k):=by rw[<-h];rfl
def _oC(h:Kpr rs room k):Oo m_keepers_in [(.r,jw ss rs),(.r,.E room)] (λy=>∃o',y=(o',.E k)/\True) noX:=by
 show kw ?_;let#[rfl,rfl]\/#[h0,g,st,hr]:=h
 .simp![eqi rfl];show#[_,rfl,trivial]
 .let bc:(room == -1)=false:=Yj .q;simp![p1,eqi bc,(x4 h0 hr),show jW (.X [.E k,g,st]) (.E 0)=@_ from rfl];show#[_,rfl,trivial]
def qQ(room:Int)(ks:List Int):Sn:=if room=-1 then none else @(room,ks)
def _oD room ks o (ho:o≠.dp):Oo m_standing_in [(.r,.E room),(o,iL ks)] (λy=>∃o',y=(o',stn (qQ room ks))/\True) noX:=by
 ext m_standing_in qQ;show kw ?_
 by_cases h:room=-1
 .subst h;simp![eqi rfl];show#[_,rfl,trivial]
 .let bc:_=false:=Yj h;rw[Xd h];simp![eqi bc,Q.tup_l ho];show#[_,rfl,trivial]
def nmF(own:Int)(kv:List (Int×Int)):Nat->List Int
 |0=>[]
 |n+1=>nmF own kv n++[match k9 kv n with
  |some i=>i
  |none=>own+((nmF own kv n).ö λx=>decide (own<=x)).B]
def _oE:∀(ks:List Int),D.pures (ks.C D.E)=true
 |[]=>rfl
 |k::ks=>by
  rw[List.Z];ext D.pures;rw[_oE ks];rfl
def _oF own kv n:nmF own kv (n+1)=nmF own kv n++[match k9 kv n with|some i=>i|none=>own+((nmF own kv n).ö λx=>decide (own<=x)).B]:=rfl
def _oG k:jZ 0 k=(((List.ä k.M).C λ(i:Nat)=>(i:Int)).C D.E):=by
 ext jZ;rw[Xp,Int.sub_zero];show Y1 λi _=>?_
 change D.E _=D.E i;rw[Int.zero_add]
def _oH s:(stn s).pure=true:=by
 cases s with
 |none=>rfl
 |some p=>
  change D.pures [.X _]=true;dsimp[D.pures,D.pure,_oE,Bool.and_self]
def KY(own)(kv):∀n,(nmF own kv n).B=n
 |0=>rfl|n+1=>by ext nmF;rw[Xi,KY own kv n];rfl
def kvS(sh:List (Int×Int)):List (Int×Int):=(sh.C λp=>(p.2,p.1)).foldl (λkv p=>v4 kv p.1 p.2) []
inductive FsA (m m' P:D)(o1:Own)(k:Int)(sh:List (Int×Int)):En->En->List D->List Sd->Prop
 |mk {q0 q1:Option Sd} {ds:List D} {ae:List Sd} (f1 f2:List (Int×Int)) (h1:sh=f1++f2) (h2:ds=prs f2) (h3:ae.C (·.2)=prs (f1.C λp=>(p.2,p.1))):FsA m m' P o1 k sh [@(.r,m),@(.r,m'),@(.r,P),@(o1,.E k),none,none,none] [q0,q1] ds ae
inductive FsB (m m' P:D)(o1:Own)(k k':Int)(sh:List (Int×Int)):En->List D->Prop
 |mk {l6:Option Sd} {ac:List D} (j:Int) (h1:0<=j) (h2:j<=k') (h3:ac=jZ j k'):FsB m m' P o1 k k' sh [@(.r,m),@(.r,m'),@(.r,P),@(o1,.E k),@(.rt,Q6 (kvS sh)),@(.rt,iL (nmF k (kvS sh) j.M)),l6] ac
inductive FsE (m m' P:D)(o1:Own)(k:Int)(sh:List (Int×Int))(j:Int):En->En->List D->List Sd->Prop
 |mk {q0:Option Sd} {ds:List D} {ae:List Sd} (f1 f2:List Int) (h1:nmF k (kvS sh) j.M=f1++f2) (h2:ds=f2.C D.E) (h3:ae.C (·.2)=(f1.ö λx=>decide (k<=x)).C D.E):FsE m m' P o1 k sh j [@(.r,m),@(.r,m'),@(.r,P),@(o1,.E k),@(.rt,Q6 (kvS sh)),@(.rt,iL (nmF k (kvS sh) j.M)),@(.r,.E j)] [q0,@(o1,.E k)] ds ae
#where in
def _oI (hp:Kpr rs p k) (hq:Kpr rs' q k') (hk:0<=k) (ic:k<=100) (aq:0<=k') (hk2':k'<=100) (t5:sh.B<=100):
  Oo m_first_standings [(.r,jw ss rs),(.r,jw ss rs'),(.r,.X [.E p,.E q,.X (prs sh)])] (λy=>y=(.r,.X [stn (qQ p ((List.ä k.M).C λ(i:Nat)=>(i))),stn (qQ q (nmF k (kvS sh) k'.M))])) noX:=by
 show kw ?_;simp![t0,t1,t2];show (_oC hp).use ?_;intro o1 _;simp![t0,t1,t2];show Q4 (FsA (jw ss rs) (jw ss rs') (.X [.E p,.E q,.X (prs sh)]) o1 k sh) ?_ ?_ ?_
 .simp![t2];show .mk [] sh rfl rfl rfl
 .rintro E1 B d ds ae ⟨f1,f2,hf,bv,au⟩;cases f2 with
  | nil=>cases bv
  | cons z f2=>
   let bv:d::ds=.X [.E z.1,.E z.2]::prs f2:=bv;injection bv with e1 e2;subst e1 e2;simp![];show .mk (f1++[z]) f2 (by rw[hf];simp) rfl ?_;rw [Xg,au,Xg];simp
 .rintro E1 B ae ⟨f1,f2,hf,bv,au⟩;revert q0 q1;cases f2 with
  | cons=>cases bv
  | nil =>
   rw [Xx]at hf;subst hf;rw [vZ,au,show zj 2 [] [q0,q1] [@(Own.r,jw ss rs),@(Own.r,jw ss rs'),@(Own.r,D.X [D.E p,D.E q,D.X (prs sh)]),@(o1,D.E k),none,none,none]=[@(Own.r,jw ss rs),@(Own.r,jw ss rs'),@(Own.r,D.X [D.E p,D.E q,D.X (prs sh)]),@(o1,D.E k),none,none,none]from rfl];let jf:YX (Own.r,D.S (prs (sh.C λp=>(p.2,p.1))))=@(.rt,Q6 (kvS sh)):=_nZ (by rw[X5];lia);simp![jf];show wV (FsB (jw ss rs) (jw ss rs') (.X [.E p,.E q,.X (prs sh)]) o1 k k' sh) ?_ ?_ ?_
   .simp![t0,t1,t2];show(_oC hq).use ?_;intro o2 _;simp![];show .mk 0 .q aq rfl
   .rintro E d ds ⟨j,j0,j1,hr⟩;let#[hj,rfl,rfl]:=Q2 j1 hr;let hjn:(j+1).M=j.M+1:=.q
    let hjc:((j.M:Nat):Int)=j:=by grind
    simp![];show xz rfl ?_;cases hv:k9 (kvS sh) j with
    | some v=>
     simp![↓_nS,_nX,_nY hv,hv,Option.isSome_some];show#[_,rfl,by rw[X5,KY];lia,?_];let e:(nmF k (kvS sh) j.M).C D.E++[.E v]=(nmF k (kvS sh) (j+1).M).C D.E:=by
      rw[hjn,_oF,hjc,hv];simp
     rw [e];show .mk (j+1) .q .q rfl
    | none=>
     simp![↓_nS,_nX,hv,Option.isSome_none];let hge:∀z,fGe (.E z) (.E k)=@(.bl (decide (k<=z))):=λz=>rfl
     show Q4 (FsE (jw ss rs) (jw ss rs') (.X [.E p,.E q,.X (prs sh)]) o1 k sh j) ?_ ?_ ?_
     .show _nV rfl (_oE _) (.mk [] _ rfl rfl rfl)
     .rintro E1 B d ds ae ⟨f1,f2,hf,bv,au⟩;cases f2 with
      | nil=>cases bv
      | cons z f2=>
       rw[List.Z]at bv;injection bv with e1 e2;subst e1 e2;simp![hge]
       by_cases hz:k<=z
       .let mo:decide (k<=z)=true:=X8 hz;simp![mo];show .mk (f1++[z]) f2 (by rw[hf];simp) rfl ?_;rw[Xg,au,Yf];simp[hz]
       .let mo:decide (k<=z)=false:=Xj hz;simp![mo];show .mk (f1++[z]) f2 (by rw[hf];simp) rfl ?_;rw[au,Yf];simp[hz]
     .rintro E1 B ae ⟨f1,f2,hf,bv,au⟩;cases f2 with
      | cons=>cases bv
      | nil=>
       rw[Xx]at hf;rw[vZ,au,<-hf];simp![];show#[_,rfl,by rw[X5,KY];lia,?_];let e:(nmF k (kvS sh) j.M).C D.E++[.E (k+((nmF k (kvS sh) j.M).ö λx=>decide (k<=x)).B)]=(nmF k (kvS sh) (j+1).M).C D.E:=by
        rw[hjn,_oF,hjc,hv];simp
       rw[e];show .mk (j+1) .q .q rfl
   .rintro E ⟨j,j0,j1,hr⟩;let:=W6 j1 hr;subst this;simp![t0,t1,t2];rw[_oG];show(_oD p ((List.ä k.M).C λ(i:Nat)=>(i)) .r .q).use ?_;intro o3 _;simp![t0,t1,t2];show(_oD q (nmF k (kvS sh) j.M) .r .q).use ?_;intro o4 _;show#[_oH _,?_];simp![]
abbrev vw(k:Int):List Int:=(List.ä k.M).C λ(i:Nat)=>(i:Int)
def _oJ(p k:Int):Sn:=qQ p (vw k)
def _oK(q k k':Int)(sh:List (Int×Int)):Sn:=qQ q (nmF k (kvS sh) k'.M)
def vX(f:Int->Int):Sn->Sn:=Option.C λp=>(p.1,p.2.C f)
def _oL f s:nms (vX f s)=(nms s).C f:=by cases s<;>rfl
def _oM f s:rmO (vX f s)=rmO s:=by cases s<;>rfl
section
variable {f:Int->Int}
def _oN(h:f x=f n->x=n):(f x==f n)=(x==n):=by
 rw[Bool.eq_iff_iff];simp;show#[h,λe=>by rw[e]]
def _oO:∀{t:List Int},(∀x>t,f x=f n->x=n)->((t.C f).any λw=>w==f n)=t.any λw=>w==n
 |[],_=>rfl
 |x::t,h=>by
  rw[List.Z,List.any_cons,List.any_cons,_oN (h x X3),_oO λy hy=>h y (_ad _ hy)]
def _oP:∀{t:List Int},(∀x>t,f x=f n->x=n)->((t.C f).ì λw=>w==f n)=t.ì λw=>w==n
 |[],_=>rfl
 |x::t,h=>by
  rw[List.Z,List.findIdx_cons,List.findIdx_cons,_oN (h x X3),_oP λy hy=>h y (_ad _ hy)]
def _oQ:∀{o} (k),(∀n>o,∀x>t,f x=f n->x=n)->kq (t.C f) k (o.C f)=kq t k o
 |[],_,_=>rfl
 |n::o,k,h=>by
  let h1:=h n X3;rw[List.Z];ext kq;rw[_oO h1,_oP h1,(_oQ (k+1) λm hm=>h m (_ad _ hm))]
def _oR(h:∀n>nms s,∀x>nms t,f x=f n->x=n):v8 (vX f s) (vX f t)=v8 s t:=by
 ext v8;rw[_oM,_oM,_oL,_oL,_oQ 0 h]
def _oS(h:i.M<ks.B+1):C.nameAt (ks.C f) (f c) i=f (C.nameAt ks c i):=by
 ext C.nameAt;rw[show ks.C f++[f c]=(ks++[c]).C f by simp,X6,X6,Xf,X1 (~~~h)];rfl
def _oT(h:i.M<ks.B+1):C.nameAt ks c i>ks\/C.nameAt ks c i=c:=by
 ext C.nameAt;rw[X6,X1 _];let:(ks++[c])[i.M]'(~~~h)>ks++[c]:=Xm _;let q\/q:=aA this
 .show .O q
 .show .h (~~~q)
def _oU(h:∀x>ks,f x=f c->x=c):xZ ss st (ks.C f) z (f c)=xZ ss st ks z c:=by
 ext xZ;rw[_oP h]
def q9(a9:List Int)(s:Sn):Prop:=∀room ks,s=@(room,ks)->0<=room/\room<a9.B/\(ks.B:Int)=a9.p room.M 0
def _oV(hP:Prs a9 ss.B rs)(hk:Abk a9)(hS:q9 a9 S)(ir:∀x>nms S,f x=f c->x=c):
  ∃ s',Rd a9 ss rs (stn S) (z,c) (stn s')/\Rd a9 ss rs (stn (vX f S)) (z,f c) (stn (vX f s'))/\(∀n>nms s',n>nms S\/n=c)/\(nms s').B<=100/\q9 a9 s':=by
 cases S with
 | none=>show#[none,.O #[rfl,rfl],.O #[rfl,rfl],λ_ h=>(nomatch h),Y9 _,λ_ _ h=>(nomatch h)]
 | some P=>
  let#[room,ks]:=P;let#[r0,r1,hl]:=hS room ks rfl;let#[r,er,gd,st,rfl,ou,av]:=hP.2 room.M .q;let hk3:=hk (a9.p room.M 0) (by rw[X6,X1 .q];show Xm _);let mh:Cas a9 ss.B ks.B st:=#[ou,by rw[hl];show av];let vg:Cas a9 ss.B (ks.C f).B st:=by rw[X5];show mh
  let inj:∀x>ks,f x=f c->x=c:=ir;let done:∀s',wY ss st ks z c=stn s'->wY ss st _ z (f c)=stn _->_->(nms s').B<=100->q9 a9 s'->∃s',Rd a9 ss rs _ (z,c) _/\Rd a9 ss rs _ (z,f c) (stn (vX f s'))/\(∀n>nms s',n>nms (@(room,ks))\/n=c)/\(nms s').B<=100/\q9 a9 s':=λs' h1 h2 h3 h4 h5=>
   #[s',.h #[room,ks,st,_,_,rfl,r0,er,mh,.q,h1.à],.h #[room,ks.C f,st,_,_,rfl,r0,er,vg,by rw[X5];lia,h2.à],h3,h4,h5]
  cases hz:(ss.any λw=>w==z)with
  | false=>
   show done none ?_ ?_ (λ_ h=>(nomatch h)) (Y9 _) (λ_ _ h=>(nomatch h))
   .ext wY;rw[hz];rfl
   .ext wY;rw[hz];rfl
  | true=>
   let#[cs,g1,g2,g3,g4]:=_op c mh hz;let e1:wY ss st ks z c=Wv ks c (xZ ss st ks z c):=by ext wY;rw[hz,X7 rfl]
   let e2:wY ss st (ks.C f) z (f c)=Wv (ks.C f) (f c) (xZ ss st ks z c):=by ext wY;rw[hz,X7 rfl,_oU inj]
   let e\/#[to,fs,e,t0,t1,hfs,_,ur]:=g4
   .show done none ?_ ?_ (λ_ h=>(nomatch h)) (Y9 _) (λ_ _ h=>(nomatch h))
    .rw[e1,e];rfl
    .rw[e2,e];rfl
   .let hb:=_or (own:=ks.B) (k:=(ks.ì λw=>w==c:Nat));let bf:∀i>fs,i.M<ks.B+1:=λi hi=>by let:=hfs i hi;lia
    show done @(to,fs.C (C.nameAt ks c)) ?_ ?_ (λn hn=>?_) ?_ (λsg gm h=>?_)
    .rw[e1,e,caseD_is];rfl
    .rw[e2,e,caseD_is];change D.X [.E to,iT _]=D.X [.E to,iT ((fs.C _).C f)];rw[Xp]
     congr 4
     show Y1 λi hi=>_oS (bf i hi)
    .let#[i,hi,rfl]:=aE hn;show _oT (bf i hi)
    .change(fs.C _).B<=100;rw[X5];let:=hk (a9.p to.M 0) (by rw[X6,X1 .q];show Xm _);lia
    .injection h with h;injection h with h3 h4;subst h3 h4;show#[t0,t1,by rw[X5];show ur]
end
end B
namespace B
open PySem Q
def m__law_cell_at:Fn:=fn 2
  (j6 (sIf (tE (cF2 (pu2 fLt) (vV 1) (vE (cF1 (pu1 v6) (vV 0))))) (jz (cH (j8 (vV 0) (vV 1)))) qz)
  (jz (cC (.E 0))))
end B
namespace B
open Q PySem C
def _oW(ns:List Int)(k:Nat):Int:=ns.p k 0
def cell_ok ns (k:Nat)(hn:ns.B<=10000):Oo m__law_cell_at [(.r,iL ns),(.r,.E k)] (λy=>∃o',y=(o',.E (_oW ns k))/\True) noX:=by
 show kw ?_;simp![]
 by_cases h:(k:Int)<ns.B
 .let hx:jW (iL ns) (.E k)=@(.E (_oW ns k)):=by
   show x4 (by simp) ?_;ext _oW;rw[Xu,Xf,X6,X1 (by symm)];rfl
  let hd:=X8 h;rw[X7 hd];simp![hx];show#[_,rfl,trivial]
 .let hd:¬decide ((k:Int)<ns.B)=true:=by rw[Xj h];decide
  rw[Xd hd];show#[.dp,?_,trivial];rw[show _oW ns k=0 by ext _oW;rw[X6,Y5 (by symm)];rfl]
def _oX n:((List.ä n).C λ(j:Nat)=>(j:Int)).V:=List.ñ.C _ (λa b h e=>h .q) List.nodup_range
def Gdr(rs:List D)(room:Int)(g:Bool):Prop:=(room=-1/\g=false)\/(0<=room/\∃k st,rs[room.M]?=@(.X [k,.bl g,st]))
def nei(h:(a==b)=k):fNe (.E a) (.E b)=@(.bl !k):=by rw[<-h];rfl
def _oY(h:Gdr rs room g):Oo m_is_good_in [(.r,jw ss rs),(.r,.E room)] (λy=>∃o',y=(o',.bl g)/\True) noX:=by
 show kw ?_;let#[rfl,rfl]\/#[h0,k,st,hr]:=h
 .simp![nei rfl];show#[_,rfl,trivial]
 .let bc:(room == -1)=false:=Yj .q;simp![p1,nei bc,(x4 h0 hr),show jW (.X [k,.bl g,st]) (.E 1)=@_ from rfl];show#[_,rfl,trivial]
def eqb(a b):fEq (.bl a) (.bl b)=@(.bl (a==b)):=by cases a<;>cases b<;>rfl
def _oZ(h:Gdr rs p g)(h':Gdr rs' q g'):Oo m_agrees [(.r,jw ss rs),(.r,jw ss rs'),(.r,.X [.E p,.E q,d])] (λy=>∃o',y=(o',.bl (g==g'))/\True) noX:=by
 show kw ?_;simp![t0];show(_oY h).use ?_;intro o1 _;simp![t1];show(_oY h').use ?_;intro o2 _;simp![eqb];show#[_,rfl,trivial]
def kvN(N:List Int)(sh:List (Int×Int)):List (Int×Int):=sh.foldl (λkv p=>v4 kv p.2 (N.p p.1.M 0)) []
def _o0(N:List Int)(k:Int)(sh:List (Int×Int))(n:Nat):List Int:=(List.ä n).C λ(j:Nat)=>(k9 (kvN N sh) (j:Int)).p (N.p (k.M+j) 0)
def _o1{m N N' C R X}(h:Po m N C R X)(k:∀E,N E->N' E):Po m N' C R X:=by
 cases m with
 |none=>exists h
 |some r=>cases r with|nx E=>exists k E h|bk E=>exists h|ct E=>exists h|rt E x=>exists h|xc E c=>exists h
def _o2{a b E N C R}{X} I (h1:Po (a E) I C R X)(h2:∀E,I E->Po (b E) N C R X):Po (j6 a b E) N C R X:=by
 rw[_ny];show _o1 h1 h2
def _o3{G}(hG:∀d y,G d y->∃c,y.2=.x #[%[c|0]]):∀{ds ys},Each G ds ys->∃ps:List Str,ys.C (·.2)=ps.C D.x/\ps.B=ds.B/\∀p>ps,p.B=1
 |[],[],_=>#[[],rfl,rfl,nofun]
 |d::ds,y::ys,r=>by
  let#[i,e]:=hG d y r.1;let#[ps,h1,h2,h3]:=_o3 hG r.2;show#[#[%[i|0]]::ps,by simp[e,h1],by simp[h2],λp hp=>(aD hp).è (λz=>z▸rfl) (h3 p)]
def _o4:∀{ps:List Str},(∀p>ps,p.B=1)->(ps.C (·.B)).sum=ps.B
 |[],_=>rfl|p::ps,h=>by rw[List.Z,List.sum_cons,h p X3,_o4 λq hq=>h q (_ad _ hq),Xn];lia
def _o5{y ys}(h:y.B=1):1<=(Str.join "" (y::ys)).B:=by
 cases ys with
 |nil=>change 1<=y.B;lia
 |cons z ys=>
  change 1<=(y++""++Str.join "" _).cps.L;rw[_n8,_n8];let:y.cps.L=1:=h;lia
def _o6{ps:List Str}(h:∀p>ps,p.B=1)(h0:1<=ps.B)(h1:ps.B<=100):∃z,_ho "" (.S (ps.C D.x))=@(.x z)/\1<=z.cps.L/\z.cps.L<=100:=by
 let hz:("":Str).B=0:=rfl;let hs:=_o4 h;show#[Txt.join "" ps,?_,?_,?_]
 .ext _ho;right;rw[_n9];right;rw[X7 (by rw[hs,hz];lia)]
 .ext Txt.join;rw[StrLaws.glued_eq_join];cases ps with|nil=>cases h0|cons y ys=>show _o5 (h y X3)
 .change(Txt.join "" ps).B<=100;ext Txt.join;rw[StrLaws.glued_eq_join];let:=StrLaws.join_length_le "" ps;rw[hs,hz]at this;lia
def _o7(h:p>v4 kv k v):p>kv\/p=(k,v):=by
 unfold v4 at h
 split at h
 .let#[q,hq,rfl]:=aE h
  by_cases e:q.1=k
  .rw[X7 e];show .h (by rw[e])
  .rw[Xd e];show .O hq
 .let z\/z:=aA h
  .show .O z
  .show .h (aC z)
def _o8(h:Int->Int)(kv:List (Int×Int))(k v:Int):(v4 kv k v).C (λp=>(p.1,h p.2))=v4 (kv.C λp=>(p.1,h p.2)) k (h v):=by
 ext v4;rw[List.any_map];let:(kv.any λp=>decide (p.1=k))=kv.any ((λp=>decide (p.1=k))∘λ(p:Int×Int)=>(p.1,h p.2)):=rfl;rw[<-this]
 split
 .rw[Xp,Xp];show Y1 λp _=>?_
  simp
  split<;>rfl
 .rw[Xg];rfl
def _o9(h:Int->Int)(k:Int):∀(kv:List (Int×Int)),k9 (kv.C λp=>(p.1,h p.2)) k=(k9 kv k).C h
 | []=>rfl
 | p::kv=>by
  let ih:=_o9 h k kv;unfold k9 at ih ⊢;rw[List.Z,List.find?_cons,List.find?_cons]
  by_cases e:p.1=k
  .simp[e]
  .dsimp[Xj e];show ih
def _pa(h:k9 kv k=@v):(k,v)>kv:=by
 unfold k9 at h;cases hf:kv.find? λp=>decide (p.1=k)with|none=>symm|some p=>grind
def _pb(N:List Int):∀(sh kv kv':List (Int×Int)),kv'=kv.C (λp=>(p.1,N.p p.2.M 0))->sh.foldl (λkv p=>v4 kv p.2 (N.p p.1.M 0)) kv'=(((sh.C λp=>(p.2,p.1)).foldl (λkv p=>v4 kv p.1 p.2) kv).C λp=>(p.1,N.p p.2.M 0))
 |[],kv,kv',h=>h
 |p::sh,kv,kv',h=>by
  rw[List.Z,Yu,Yu];show _pb N sh _ _ ?_;rw[h];show(_o8 (λi=>N.p i.M 0) kv p.2 p.1).à
def _pc(N:List Int)(sh:List (Int×Int))(j:Int):k9 (kvN N sh) j=(k9 (kvS sh) j).C λi=>N.p i.M 0:=by
 ext kvN kvS;rw[_pb N sh [] [] rfl];show _o9 (λi=>N.p i.M 0) j _
def _pd:∀(ps kv:List (Int×Int)) {p},p>ps.foldl (λkv p=>v4 kv p.1 p.2) kv->p>kv\/p>ps
 | [],kv,p,h=>.O h
 | q::ps,kv,p,h=>by
  let z\/z:=_pd ps _ h
  .let z\/z:=_o7 z
   .show .O z
   .show .h (z▸X3)
  .show .h (_ad _ z)
def _pe(h:k9 (kvS sh) j=@i):(i,j)>sh:=by
 let z\/z:=_pd _ _ (_pa h)
 .symm
 .grind
def v7(own:Int)(kv:List (Int×Int))(n:Nat):Nat:=((nmF own kv n).ö λx=>decide (own<=x)).B
section
def XZ{n:Nat}(h:k9 kv n=@i):nmF own kv (n+1)=nmF own kv n++[i]:=by rw[_oF,h]
def _pf{n:Nat}(h:k9 kv n=none):nmF own kv (n+1)=nmF own kv n++[own+v7 own kv n]:=by rw[_oF,h];rfl
def _pg(ho:0<=own)(hv:∀j i,k9 kv j=@i->0<=i/\i<own):∀n,∀x>nmF own kv n,0<=x/\x<own+v7 own kv n
 | 0,x,h=>nomatch h
 | n+1,x,h=>by
  let ih:=_pg ho hv n;cases hc:k9 kv n with
  | some i=>
   let hi:=hv _ _ hc;let ua:v7 own kv (n+1)=v7 own kv n:=by
    ext v7;rw[XZ hc,Yf];let:decide (own<=i)=false:=Xj (by symm);simp[this]
   rw[XZ hc]at h;rw[ua];let z\/z:=aA h
   .show ih x z
   .rw[aC z];lia
  | none=>
   let ua:v7 own kv (n+1)=v7 own kv n+1:=by
    ext v7;rw[_pf hc,Yf];let:decide (own<=own+(v7 own kv n))=true:=X8 .q;simp[this]
   rw[_pf hc]at h;rw[ua];let z\/z:=aA h
   .let:=ih x z;lia
   .rw[aC z];lia
def _ph(n:Nat):∀m,∃r,nmF own kv (n+m)=nmF own kv n++r
 |0=>#[[],by simp]
 |m+1=>by
  let#[r,hr]:=_ph n m;show#[r++[match k9 kv ((n+m:Nat):Int)with|some i=>i|none=>own+((nmF own kv (n+m)).ö λx=>decide (own<=x)).B],?_];change nmF own kv (n+m+1)=_;rw[_oF,<-Y3,<-hr]
  try rfl
def _pi:∀{l r:List Int},x∉l->((l++x::r).ì λw=>w==x)=l.B
 |[],r,_=>by simp[List.findIdx_cons]
 |y::l,r,h=>by
  let hy:(y==x)=false:=Yj λe=>h (by rw[e];show X3)
  rw[List.cons_append,List.findIdx_cons,hy,_pi λz=>h (_ad _ z)];rfl
def _pj(ho:0<=own)(hv:∀j i:Int,k9 kv j=@i->0<=i/\i<own){n m:Nat}(hc:k9 kv n=none)(hm:n<m):((nmF own kv m).ì λw=>w==own+v7 own kv n)=n:=by
 let#[r,hr]:=_ph (own:=own) (kv:=kv) (n+1) (m - (n+1));rw[show n+1+(m - (n+1))=m by omega,_pf hc,Y3]at hr;rw[hr];change((nmF own kv n++(own+(v7 own kv n:Int))::r).ì _)=n;rw[_pi,KY];intro z;let:=_pg ho hv n _ z
 symm
end
def ren(N:List Int)(k:Int)(T:List Int)(x:Int):Int:=if x<k then N.p x.M 0 else N.p (k.M+T.ì λw=>w==x) 0
def _pk{N:List Int}(h:N.V)(ha:a<N.B)(hb:b<N.B)(e:N.p a 0=N.p b 0):a=b:=by
 rw[X6,X6,X1 ha,X1 hb]at e;let e:N[a]=N[b]:=e;let z\/z\/z:=Nat.lt_trichotomy a b
 .show absurd e (List.pairwise_iff_getElem.mp h a b ha hb z)
 .show z
 .show absurd e.à (List.pairwise_iff_getElem.mp h b a hb ha z)
def _pl{T:List Int}(h:x>T):T[T.ì λw=>w==x]?=@x:=by
 let hl:(T.ì λw=>w==x)<T.B:=Z5 #[x,h,by simp];rw[X1 hl];let:=List.findIdx_getElem (w:=hl)
 congr 1
 simpa using this
def _pm(hk:0<=k)(hl:k<=N.B):(vw k).C (ren N k T)=N.take k.M:=by
 ext vw;rw[Xp];show Zg λi=>?_
 rw[Xf]
 by_cases hi:i<k.M
 .rw[List.getElem?_take_of_lt hi,Z7 hi,X1 .q];change @(ren N k T i)=_;ext ren;rw[X7 (by symm),X6,Xu,X1 .q];rfl
 .rw[Y5 (by rw[Xz];symm),Y5 (by rw[Z1];grind)];rfl
def _pn(h:j<n)(hx:nmF own kv (j+1)=nmF own kv j++[x]):(nmF own kv n)[j]?=@x:=by
 let#[r,hr]:=_ph (own:=own) (kv:=kv) (j+1) (n - (j+1));rw[show j+1+(n - (j+1))=n by omega,hx,Y3]at hr;rw[hr,Yk (by rw[KY];simp),KY,Nat.sub_self];rfl
def _po(hk:0<=k)(hv:∀j i:Int,k9 (kvS sh) j=@i->0<=i/\i<k):(nmF k (kvS sh) n).C (ren N k (nmF k (kvS sh) n))=_o0 N k sh n:=by
 show Zg λj=>?_
 ext _o0;rw[Xf,Xf]
 by_cases hj:j<n
 .rw[Z7 hj];change _=@((k9 (kvN N sh) (j:Int)).p (N.p (k.M+j) 0));rw[_pc];cases hc:k9 (kvS sh) j with
  |some i=>
   let:=hv _ _ hc;rw[_pn hj (XZ hc)];change @(ren N k _ i)=@(N.p i.M 0);ext ren;rw[X7 this.2]
  |none=>
   rw[_pn hj (_pf hc)];change @(ren N k _ (k+v7 k (kvS sh) j))=@(N.p (k.M+j) 0);ext ren;rw[Xd .q,_pj hk hv hc hj]
 .rw[Y5 (by rw[KY];lia),Y5 (by rw[Xz];lia)];rfl
def _pp(hk:0<=k)(hv:∀j i,k9 (kvS sh) j=@i->0<=i/\i<k):((kY (vw k) (nmF k (kvS sh) n)).B:Int)=k+v7 k (kvS sh) n:=by
 ext kY v7;rw[Xi,X5,Xz];let:(nmF k (kvS sh) n).ö (λm=>!(vw k).any λw=>w==m)=(nmF k (kvS sh) n).ö λx=>decide (k<=x):=by
  show Zj λx hx=>?_
  let h0:=(_pg hk hv n x hx).1;rw[VY]
  by_cases vd:k<=x
  .rw[X8 vd,Xj]
   .rfl
   .grind
  .rw[Xj vd,X8]
   .rfl
   .show List.mem_map.s #[x.M,List.å.s .q,.q]
 rw[this];lia
def _pq{p:Int}(hP:Prs a9 n rs)(h0:-1<=p)(h1:p<a9.B):∃k g,Kpr rs p k/\Gdr rs p g/\(p=-1->k=0)/\(0<=p->k=a9.p p.M 0):=by
 by_cases h:p=-1
 .show#[0,false,.O #[h,rfl],.O #[h,rfl],λ_=>rfl,λz=>by symm]
 .let#[r,er,gd,st,rfl,_]:=hP.2 p.M .q;show#[_,gd,.h #[.q,_,_,er],.h #[.q,_,_,er],λz=>absurd z h,λ_=>rfl]
def _pr(h:q9 a9 s):-1<=rmO s/\rmO s<a9.B:=by
 cases s with|none=>show#[Int.le_refl _,by change(-1:Int)<_;lia]|some P=>let#[a,b]:=P;let#[h0,h1,_]:=h a b rfl;show#[by change -1<=a;lia,h1]
def _ps(h0:-1<=p)(h1:p<a9.B)(h2:0<=p->(ks.B:Int)=a9.p p.M 0):q9 a9 (qQ p ks):=by
 intro room gm e;unfold qQ at e
 split at e
 .symm
 .injection e with e;injection e with e1 e2;subst e1 e2;show#[.q,h1,h2 .q]
#where in
def _pt(h:p=-1->ks=[]):nms (qQ p ks)=ks:=by
 ext qQ
 split
 .revert e;rw[h e];rfl
 .rfl
def _pu(hP:Prs a9 ss.B rs) n:(jw ss rs).flat (n+8)=true:=by
 show x3 λd hd=>?_
 simp at hd;let rfl\/rfl:=hd
 .show x3 λk hk=>by let#[w,_,rfl]:=aE hk;rfl
 .show x3 λr hr=>?_
  let#[i,hi,e]:=List.mem_iff_getElem.mp hr;let#[r',er,gd,st,rfl,_,av]:=hP.2 i (by let:=hP.1;lia);rw[X1 hi,e]at er;injection er with er;subst er;show x3 λd hd=>?_
  simp at hd;let rfl\/rfl\/rfl:=hd
  .rfl
  .rfl
  .show x3 λc hc=>?_
   let#[cs,rfl,_,jl]:=av c hc;show x3 λz hz=>?_
   let#[j,hj,ej]:=List.mem_iff_getElem.mp hz;let#[z',ez,hcs']:=jl j hj;rw[X1 hj,ej]at ez;injection ez with ez;subst ez;let rfl\/#[to,fs,rfl,_]:=hcs'
   .rfl
   .show x3 λd hd=>?_
    simp at hd;let rfl\/rfl:=hd
    .rfl
    .show x3 λk hk=>by let#[w,_,rfl]:=aE hk;rfl
end B
namespace J
open Q PySem C B F
def m_is_small:Fn:=fn 1
  (jz (W7 (vE (cF2 (pu2 fLe) (vE (cF1 (pu1 v6) (j8 (vV 0) (C9 1)))) (C9 12))) (cF1 (pu1 _dW) (vE (cLC .rt 1 [] (itS (cH (j8 (vV 0) (C9 1)))) (.n 0) tYes (cF2 (pu2 fLe) (j8 (vV 0) (C9 0)) (C9 3)))))))
def _pv:D->Int
 |.E i=>i|_=>0
def YW:D->Sn
 |.X [.E r,.X ks]=>@(r,ks.C _pv)|_=>none
def rdF(ss:List Str)(rs:List D)(S:Sn)(z:Str)(c:Int):Sn:=match S with
 |none=>none
 |some (room,ks)=>(match rs[room.M]? with
  |some (.X [_,_,.S st])=>YW (wY ss st ks z c)
  |_=>none)
def _pw(h:Ok2 a9 d):stn (YW d)=d/\q9 a9 (YW d):=by
 let rfl\/#[room,ks,rfl,r0,r1,hl]:=h
 .show#[rfl,nofun]
 .let e:YW (.X [.E room,iT ks])=@(room,ks):=by
   change @_=_;rw[Xp]
   congr 2
   show List.map_id ks
  rw[e];show#[rfl,λa b e=>?_];cases e;show#[r0,r1,hl]
def _px(h:q9 a9 S):Ok2 a9 (stn S):=by
 cases S with|none=>show .O rfl|some x=>let#[a,b,c]:=h x.1 x.2 rfl;show .h #[x.1,x.2,rfl,a,b,c]
def J7 z c (hP:Prs a9 ss.B rs)(hk:Abk a9)(hS:q9 a9 S):Rd a9 ss rs (stn S) (z,c) (stn (rdF ss rs S z c))/\q9 a9 (rdF ss rs S z c):=by
 let#[s',h1,h2,_]:=_ck (z,c) hP hk (_px hS);let#[g1,g2]:=_pw h2;let e:rdF ss rs S z c=YW s':=by
  let#[h3,rfl]\/#[room,ks,st,kp,gd,h3,_,hr,_,_,h4]:=id h1
  .cases S with| none=>rfl| some x=>cases h3
  .cases S with
   | none=>cases h3
   | some x=>
    injection h3 with h3;injection h3 with e1 h3;injection h3 with e2 _;injection e1 with e1;injection e2 with e2;change(match rs[x.1.M]? with
     |some (.X [_,_,.S st])=>YW _
     |_=>none)=_
    rw[e1,hr,((Zr λa b h=>by injection h).mp e2),h4]
 rw[e,g1];show#[h1,g2]
def kpF(rs:List D)(p:Int):Int:=if p=-1 then 0 else(match rs[p.M]? with
 |some (.X [.E k,_,_])=>k
 |_=>0)
def gdF(rs:List D)(p:Int):Bool:=if p=-1 then false else(match rs[p.M]? with
 |some (.X [_,.bl g,_])=>g
 |_=>false)
def _py(h:Kpr rs p k):kpF rs p=k:=by
 let#[rfl,rfl]\/#[h0,g,st,e]:=h
 .rfl
 .ext kpF;rw[Xd .q,e]
def _pz(h:Gdr rs p g):gdF rs p=g:=by
 let#[rfl,rfl]\/#[h0,k,st,e]:=h
 .rfl
 .ext gdF;rw[Xd .q,e]
def Kw{p:Int}(hP:Prs a9 n rs)(hk:Abk a9)(h0:-1<=p)(h1:p<a9.B):Kpr rs p (kpF rs p)/\Gdr rs p (gdF rs p)/\0<=kpF rs p/\kpF rs p<=3/\(0<=p->kpF rs p=a9.p p.M 0):=by
 let#[k,g,a,b,c,d]:=_pq hP h0 h1;rw[_py a,_pz b];show#[a,b,?_]
 by_cases hp:p=-1
 .rw[c hp];show#[.q,.q,λh=>by symm]
 .let hd:=d .q;let hm:a9.p p.M 0>a9:=by rw[X6,X1 .q];show Xm _
  rw[hd];show#[(hk _ hm).1,(hk _ hm).2,λ_=>rfl]
def _pA:∀l,keyDs 4 (prs l)=true
 |[]=>rfl
 |p::l=>by
  change(k5 4 _&&keyDs 4 _)=true;rw[_pA l];rfl
def key_pr(r r') l:kj (.X [.E r,.E r',.X (prs l)])=true:=by
 let:keyDs 5 [D.E r,.E r',.X (prs l)]=true:=by
  change(k5 5 _&&(k5 5 _&&(keyDs 4 _&&true)))=true;rw[_pA];rfl
 change(keyDs 5 [D.E r,.E r',.X _]&&true)=true;rw[this];rfl
def _pB(h:q9 a9 S)(e:rmO S=-1):S=none:=by
 cases S with|none=>rfl|some x=>let:=(h x.1 x.2 rfl).1;let e:x.1=-1:=e;symm
def K4(hk:Abk a9)(h:q9 a9 S):(nms S).B<=3:=by
 cases S with
 |none=>show Y9 _
 |some x=>
  let#[a,b,c]:=h x.1 x.2 rfl;let hm:a9.p x.1.M 0>a9:=by rw[X6,X1 (by symm)];show Xm _
  let:=(hk _ hm).2;change x.2.B<=3;lia
def lat(x:Sn×Sn):D:=.X [stn x.1,stn x.2]
section
variable {a9 ab:List Int}{ss:List Str}{rs rs':List D}
def pS(rs:List D):D->Sn
 |.X [.E p,_,_]=>_oJ p (kpF rs p)|_=>none
def VX:List D->List (Int×Int)
 |[]=>[]|.X [.E i,.E j]::r=>(i,j)::VX r|_::r=>VX r
def _pC:∀l,VX (prs l)=l
 |[]=>rfl
 |p::l=>by
  change _::VX (prs l)=_;rw[_pC l]
def pT(rs rs':List D):D->Sn
 |.X [.E p,.E q,.X sh]=>_oK q (kpF rs p) (kpF rs' q) (VX sh)|_=>none
def pO(rs rs':List D)(P:D):Nat:=(kY (nms (pS rs P)) (nms (pT rs rs' P))).B
def gS(rs:List D):D->Bool
 |.X [.E p,_,_]=>gdF rs p|_=>false
def gT(rs:List D):D->Bool
 |.X [_,.E q,_]=>gdF rs q|_=>false
def Pok(a9 ab:List Int)(P:D):Prop:=∃(p q:Int) (sh:List (Int×Int)),P=.X [.E p,.E q,.X (prs sh)]/\-1<=p/\p<a9.B/\-1<=q/\q<ab.B/\sh.B<=3
def _pD(ha:a.B<=3)(hb:b.B<=3):(kY a b).B<=6:=by
 ext kY
 grind
def _pE(hP:Prs a9 ss.B rs)(hk:Abk a9)(h:Pok a9 ab P):q9 a9 (pS rs P):=by
 let#[p,q,sh,rfl,h0,h1,_]:=h;let#[_,_,c,_,e]:=Kw hP hk h0 h1;show _ps h0 h1 λhp=>?_
 rw[<-e hp,X5,Xz];lia
def _pF(bi:Prs ab ss.B rs')(aq:Abk ab)(h:Pok a9 ab P):q9 ab (pT rs rs' P):=by
 let#[p,q,sh,rfl,_,_,h0,h1,_]:=h;let#[_,_,c,_,e]:=Kw bi aq h0 h1;show _ps h0 h1 λhp=>?_
 rw[<-e hp,KY];lia
def _pG(hP:Prs a9 ss.B rs)(hk:Abk a9)(bi:Prs ab ss.B rs')(aq:Abk ab)(h:Pok a9 ab P):
  Oo m_first_standings [(.r,jw ss rs),(.r,jw ss rs'),(.r,P)] (λy=>y=(.r,lat (pS rs P,pT rs rs' P))) noX:=by
 let#[p,q,sh,rfl,h0,h1,h2,h3,h4]:=h;let#[a,_,c,d,_]:=Kw hP hk h0 h1;let#[a',_,c',d',_]:=Kw bi aq h2 h3;show(_oI a a' c .q c' .q .q).mono λy hy=>?_
 rw[hy];change _=(Own.r,D.X [stn _,stn (_oK q _ _ _)]);rw[_pC];rfl
def _pH(hP:Prs a9 ss.B rs)(hk:Abk a9)(bi:Prs ab ss.B rs')(aq:Abk ab)(h:Pok a9 ab P):pO rs rs' P<=6:=_pD (K4 hk (_pE hP hk h)) (K4 aq (_pF bi aq h))
def _pI(t):∀k (o),(kq t k o).B<=o.B
 |_,[]=>Xb _
 |k,n::o=>by
  let:=_pI t (k+1) o;ext kq
  split<;>simp<;>lia
def _pJ(ha:q9 a9 a)(hb:q9 ab b)(hk:Abk a9):Pok a9 ab (v8 a b):=by
 let#[a0,a1]:=_pr ha;let#[b0,b1]:=_pr hb;show#[_,_,_,rfl,a0,a1,b0,b1,Yw (_pI _ _ _) (K4 hk ha)]
abbrev P0:D:=.X [.E 0,.E 0,.X []]
def W8:D->Int
 |.X [.E k,_,_]=>k|_=>0
def _pK(rs:List D):Bool:=decide (rs.B<=12)&&rs.all λr=>decide (W8 r<=3)
def _pL(g):∀ds:List D,bls (ds.C λd=>D.bl (g d))=@(ds.C g)
 |[]=>rfl
 |d::ds=>by
  rw[List.Z,bls,_pL g ds];rfl
def _pM g (ds:List D):_dW (.S (ds.C λd=>D.bl (g d)))=@(.bl (ds.all g)):=by
 change(bls _).C _=_;rw[_pL];simp[Function.comp_def]
def small_is(h:∀r>rs,∃(own:Int) (a b:D),r=.X [.E own,a,b]):Oo m_is_small [(.r,.X [d0,.S rs])] (λy=>∃o',y=(o',.bl (_pK rs))/\True) noX:=by
 let q1:∀a b,jW (.X [a,b]) (.E 1)=@b:=λ_ _=>rfl
 show kw ?_
 by_cases hl:rs.B<=12
 .let e:fLe (.E rs.B) (.E 12)=@(.bl true):=by rw[le_ii,X8 .q]
  simp![q1,e];show Jw [] (λd y=>y.2=.bl (decide (W8 d<=3))) ?_;simp![q1];show#[λd hd=>?_,λys hy=>?_]
  .let#[own,a,b,rfl]:=h d hd;simp![t0];show#[#[_,rfl],rfl]
  .rw[vZ,zK (h:=λd=>.bl (decide (W8 d<=3))) (λ_ _ h=>h) hy];simp![_pM (λd=>decide (W8 d<=3))];show#[_,by ext _pK;rw[X8 hl];rfl,trivial]
 .let e:fLe (.E rs.B) (.E 12)=@(.bl false):=by rw[le_ii,Xj .q]
  simp![q1,e];show#[_,by ext _pK;rw[Xj hl];rfl,trivial]
def _pN(hP:Prs a9 n rs):∀r>rs,∃(own:Int) (a b:D),r=.X [.E own,a,b]:=λr hr=>by
 let#[i,hi,e]:=Yg hr;let#[r',e',gd,st,h',_]:=hP.2 i (hP.1▸hi);rw[X1 hi,e]at e'
 grind
def _pO(hP:Prs a9 n rs)(hk:Abk a9)(gl:a9.B<=12):_pK rs=true:=by
 ext _pK;rw[X8 (hP.1▸gl),Bool.true_and,Yb];intro r hr;let#[i,hi,e]:=Yg hr;let jh:i<a9.B:=by rw[<-hP.1];show hi
 let#[r',e',gd,st,h',_]:=hP.2 i jh;rw[X1 hi,e]at e';cases _aa e';rw[h'];let hm:a9.p i 0>a9:=by rw[X6,X1 jh];show Xm _
 show X8 (hk _ hm).2
end
end J
namespace Kp
open Q PySem C
def bk(E:En):back [] [] (clr [] E)=E:=rfl
end Kp
namespace U
open Q PySem C B J
def _pP(h:stn a=stn b):a=b:=by
 cases a with
 | none=>cases b with|none=>rfl|some y=>cases h
 | some x=>cases b with
  |none=>cases h
  |some y=>
   let h:(D.X [.E x.1,iT x.2])=.X [.E y.1,iT y.2]:=h;injection h with h;injection h with e1 h;injection h with e2 _;injection e1 with e1;injection e2 with e2;let e2:x.2=y.2:=(Zr λa b h=>by injection h).mp e2;show congrArg some (Prod.ext e1 e2)
def _pQ(h:Rd a9 ss rs s w a)(h':Rd a9 ss rs s w b):a=b:=by
 let#[rfl,rfl]\/#[room,ks,st,kp,gd,rfl,_,hr,_,_,e]:=h
 .let#[_,rfl]\/#[room,ks,st,kp,gd,h,_]:=h'
  .rfl
  .cases h
 .let#[h,_]\/#[sg,gm,fm,kp',gd',h,_,kl,_,_,e']:=h'
  .cases h
  .injection h with h;injection h with e1 h;injection h with e2 _;injection e1 with e1;injection e2 with e2;let e2:ks=gm:=(Zr λa b h=>by injection h).mp e2;subst e1 e2;rw[hr]at kl;injection kl with kl;injection kl with kl;injection kl with _ kl;injection kl with _ kl;injection kl with kl _;injection kl with kl;rw[e,e',kl]
section
def _pR(hP:Prs a9 ss.B rs)(hk:Abk a9)(hS:q9 a9 S)(ir:∀x>nms S,f x=f c->x=c):rdF ss rs (vX f S) z (f c)=vX f (rdF ss rs S z c)/\∀n>nms (rdF ss rs S z c),n>nms S\/n=c:=by
 let#[s',h1,h2,h3,_]:=_oV (z:=z) hP hk hS ir;let hm:q9 a9 (vX f S):=by
  cases S with
  |none=>show nofun
  |some x=>
   intro room ks e;cases e;let#[a,b,c]:=hS x.1 x.2 rfl;show#[a,b,by rw[X5];show c]
 let e1:=_pP (_pQ (J7 z c hP hk hS).1 h1);let e2:=_pP (_pQ (J7 z (f c) hP hk hm).1 h2);rw[e1,e2];show#[rfl,h3]
def _pS{l:List Int}(h:l.V)(hi:∀x>l,∀y>l,g x=g y->x=y):(l.C g).V:=by
 induction l with
 |nil=>show Xy
 |cons a l ih=>
  rw[Yh]at h;rw[List.Z,Yh];show#[λz=>?_,ih h.2 λx hx y hy=>hi x (_ad _ hx) y (_ad _ hy)];let#[b,hb,e]:=aE z;let:=hi b (_ad _ hb) a X3 e;show h.1 (this▸hb)
def _pT(hP:Prs a9 ss.B rs)(hk:Abk a9)(hS:q9 a9 S)(hn:(nms S).V):(nms (rdF ss rs S z c)).V:=by
 let h1:=(J7 z c hP hk hS).1;generalize rdF ss rs S z c=S' at h1;let#[_,e]\/#[room,ks,st,kp,gd,e,_,_,hc,_,e']:=h1
 .cases S' with| none=>show Xy| some x=>cases e
 .let hks:nms S=ks:=by
   cases S with
   | none=>cases e
   | some x=>
    let e:(D.X [.E x.1,iT x.2])=.X [.E room,iT ks]:=e;injection e with e;injection e with _ e;injection e with e _;injection e with e;show(Zr λa b h=>by injection h).mp e
  rw [hks]at hn;unfold wY at e';cases hz:(ss.any λw=>w==z)with
  | false=>
   rw [hz]at e';cases S' with| none=>show Xy| some x=>cases e'
  | true=>
   rw [hz,X7 rfl]at e';let#[cs,_,_,_,g4]:=_op c hc hz;let g\/#[to,fs,g,_,_,hfs,dy,_]:=g4
   .rw [g]at e';cases S' with| none=>show Xy| some x=>cases e'
   .rw [g,show(D.X (fs.C D.E))=iT fs from rfl,caseD_is]at e';cases S' with
    | none=>cases e'
    | some x=>
     let e':(D.X [.E x.1,iT x.2])=.X [.E to,iT (fs.C (C.nameAt ks c))]:=e';injection e' with e';injection e' with _ e';injection e' with e' _;injection e' with e';let e':x.2=fs.C (C.nameAt ks c):=(Zr λa b h=>by injection h).mp e';change x.2.V;rw[e'];let hb:=λi hi=>hfs i hi
     show _pS dy λi hi j hj lm=>?_
     let#[i0,i1]:=hfs i hi;let#[j0,j1]:=hfs j hj;unfold xW at i1 j1;unfold C.nameAt at lm;let key:i.M=j.M:=by
      by_cases hm:c>ks
      .let bf:(ks.ì λw=>w==c)<ks.B:=Z5 #[c,hm,by simp];rw[Xd .q]at i1 j1;rw[X6,X6,Xw .q,Xw .q,<-X6,<-X6]at lm;show _pk hn .q .q lm
      .let nr:(ks++[c]).V:=List.nodup_append.s #[hn,by simp,λx hx y hy e=>by rw[aC hy]at e;show hm (e▸hx)];let:(if((ks.ì λw=>w==c:Nat):Int)=ks.B then(1:Int)else 0)<=1:=by split<;>decide
       show _pk nr (by rw[Xi,Xv];lia) (by rw[Xi,Xv];lia) lm
     lia
#where in
def _pU:∀{o:List Int} {k:Nat},(i,j)>kq t k o->∃m:Nat,∃x:Int,i=((k+m:Nat):Int)/\o[m]?=@x/\x>t/\j=((t.ì λw=>w==x:Nat):Int)
 | [],k,h=>nomatch h
 | n::o,k,h=>by
  let e:kq t k (n::o)=if(t.any λw=>w==n)=true then((k:Int),((t.ì λw=>w==n:Nat):Int))::kq t (k+1) o else kq t (k+1) o:=rfl
  rw[e]at h;let go:(i,j)>kq t (k+1) o->∃m:Nat,∃x:Int,i=((k+m:Nat):Int)/\(n::o)[m]?=@x/\x>t/\j=((t.ì λw=>w==x:Nat):Int):=λh=>by
   let#[m,x,h1,h2,h3,h4]:=_pU h;show#[m+1,x,by rw[h1];congr 1;lia,h2,h3,h4]
  split at h
  .revert ha;let h\/h:=aD h
   .injection h with h1 h2;rw[VY]at ha;show#[0,n,h1,rfl,Y4 ha,h2]
   .show go h
  .show go h
def _pV:∀{o:List Int} {k m:Nat},o[m]?=@x->x>t->(((k+m:Nat):Int),((t.ì λw=>w==x:Nat):Int))>kq t k o
 | [],k,m,h,_=>nomatch h
 | n::o,k,m,h,hx=>by
  let e:kq t k (n::o)=if(t.any λw=>w==n)=true then((k:Int),((t.ì λw=>w==n:Nat):Int))::kq t (k+1) o else kq t (k+1) o:=rfl
  rw[e];cases m with
  |zero=>
   let h:n=x:= ~~~h
   subst h;rw[X7 (by rw[VY];show X8 hx)];show X3
  |succ m=>
   let:=_pV (k:=k+1) (m:=m) (o:=o) (~~~h) hx;rw[show k+1+m=k+(m+1)by lia]at this
   split
   .show _ad _ this
   .show this
def _pW(kv:List (Int×Int))(k v j:Int):(k9 kv j).isSome=true\/k=j->(k9 (v4 kv k v) j).isSome=true:=by
 intro h;ext k9;rw [Option.isSome_map,List.find?_isSome];ext v4
 by_cases ha:(kv.any λp=>decide (p.1=k))=true
 .rw[X7 ha];let:∃p>kv,p.1=j:=by
   let h\/rfl:=h
   .unfold k9 at h;rw[Option.isSome_map,List.find?_isSome]at h;let#[p,hp,e]:=h;show#[p,hp,Y4 e]
   .let#[p,hp,e]:=List.any_eq_true.mp ha;show#[p,hp,Y4 e]
  let#[p,hp,e]:=this;show#[_,List.mem_map.s #[p,hp,rfl],X8 ?_]
  split
  .show e
  .show e
 .rw[Xd ha];let h\/rfl:=h
  .unfold k9 at h;rw[Option.isSome_map,List.find?_isSome]at h;let#[p,hp,e]:=h;show#[p,_ac _ hp,e]
  .show#[(k,v),_ab _ X3,X8 rfl]
def _pX:∀(ps kv:List (Int×Int)) (j:Int),(k9 kv j).isSome=true\/(∃p>ps,p.1=j)->(k9 (ps.foldl (λkv p=>v4 kv p.1 p.2) kv) j).isSome=true
 | [],kv,j,h=>by
  let h\/#[p,hp,_]:=h
  .show h
  .show nomatch hp
 | p::ps,kv,j,h=>by
  rw[Yu];show _pX ps _ j ?_;let h\/#[q,hq,e]:=h
  .show .O (_pW _ _ _ _ (.O h))
  .let rfl\/hq:=aD hq
   .show .O (_pW _ _ _ _ (.h e))
   .show .h #[q,hq,e]
def _pY(h:(i,j)>sh):(k9 (kvS sh) j).isSome=true:=_pX _ _ _ (.h #[(j,i),List.mem_map.s #[(i,j),h,rfl],rfl])
def _pZ(hv:∀j i,k9 kv j=@i->0<=i/\i<own):∀n,(nmF own kv n).ö (λx=>decide (own<=x))=(List.ä (v7 own kv n)).C λ(c:Nat)=>own+c
 | 0=>rfl
 | n+1=>by
  let ih:=_pZ hv n;cases h:k9 kv n with
  | some i=>
   let:=hv _ _ h;let e:v7 own kv (n+1)=v7 own kv n:=by
    ext v7;rw[XZ h,Yf,Ys (by simp;lia)];simp
   rw[e,<-ih,XZ h,Yf,Ys (by simp;lia)];simp
  | none=>
   let e:v7 own kv (n+1)=v7 own kv n+1:=by
    change((nmF own kv _).ö _).B=_;rw[_pf h,Yf,Ym (by simp;lia),Xi];rfl
   rw[e,List.range_succ,Xg,<-ih,_pf h,Yf,Ym (by simp;lia)];rfl
def _p0(hk:0<=k)(hv:∀j i,k9 (kvS sh) j=@i->0<=i/\i<k):kY (vw k) (nmF k (kvS sh) n)=vw ((kY (vw k) (nmF k (kvS sh) n)).B:Nat):=by
 let e:(nmF k (kvS sh) n).ö (λm=>!(vw k).any λw=>w==m)=(nmF k (kvS sh) n).ö λx=>decide (k<=x):=by
  show Zj λx hx=>?_
  let h0:=(_pg hk hv n x hx).1;rw[VY]
  by_cases vd:k<=x
  .rw[X8 vd,Xj]
   .rfl
   .grind
  .rw[Xj vd,X8]
   .rfl
   .show List.mem_map.s #[x.M,List.å.s .q,.q]
 let e2:kY (vw k) (nmF k (kvS sh) n)=vw (k+v7 k (kvS sh) n):=by
  ext kY;rw[e,_pZ hv];change(List.ä k.M).C _++_=(List.ä (k+v7 k _ n).M).C _;rw[show(k+_).M=k.M+v7 k (kvS sh) n by lia,List.range_add,Xg,Xp]
  congr 1
  show Y1 λc _=>?_
  grind
 rw[(_pp (n:=n) hk hv),e2]
end
section
variable {ss:List Str}
abbrev hp(rs rs':List D)(P:D):List Int:=kY (nms (pS rs P)) (nms (pT rs rs' P))
def Rl(rs rs':List D)(P:D)(a b:Sn):Prop:=∃f:Int->Int,a=vX f (pS rs P)/\b=vX f (pT rs rs' P)/\(∀x>hp rs rs' P,∀y>hp rs rs' P,f x=f y->x=y)/\hp rs rs' P=vw (pO rs rs' P)
def _p1(hP:Prs a9 ss.B rs)(hk:Abk a9)(h:q9 a9 s):kpF rs (rmO s)=(nms s).B:=by
 cases s with
 |none=>rfl
 |some x=>
  let#[a,b,c]:=h x.1 x.2 rfl;let#[_,_,_,_,e]:=Kw hP hk .q b;change kpF rs x.1=(x.2.B:Int);rw[e a,c]
def _p2(h:q9 a9 s) g (hg:T.C g=nms s):s=vX g (qQ (rmO s) T):=by
 cases s with
 |none=>rfl
 |some x=>
  let:=(h x.1 x.2 rfl).1;let hg:T.C g=x.2:=hg;change @x=vX g (qQ x.1 T);ext qQ;rw[Xd .q];change @x=@(x.1,T.C g);rw[hg]
def _p3(hP:Prs a9 ss.B rs)(hk:Abk a9)(bi:Prs ab ss.B rs')(aq:Abk ab)(ha:q9 a9 a)(hb:q9 ab b)(na:(nms a).V)(nb:(nms b).V):Rl rs rs' (v8 a b) a b:=by
 let ka:=_p1 hP hk ha;let t5:VX (prs (kq (nms b) 0 (nms a)))=kq (nms b) 0 (nms a):=_pC _;let eS:pS rs (v8 a b)=qQ (rmO a) (vw ((nms a).B:Nat)):=by
  change _oJ (rmO a) (kpF rs (rmO a))=_;rw [ka];rfl
 let eT:pT rs rs' (v8 a b)=qQ (rmO b) (nmF ((nms a).B:Nat) (kvS (kq (nms b) 0 (nms a))) (nms b).B):=by
  change _oK (rmO b) (kpF rs (rmO a)) (kpF rs' (rmO b)) (VX (prs (kq (nms b) 0 (nms a))))=_;rw [ka,(_p1 bi aq hb),t5];rfl
 generalize hA:nms a=A at *;generalize hB:nms b=B' at *;let hv:∀j i,k9 (kvS (kq B' 0 A)) j=@i->0<=i/\i<(A.B:Nat):=λj i h=>by
  let#[m,x,h1,h2,_]:=_pU (_pe h);let:=(aF h2).1
  symm
 let k0:(0:Int)<=(A.B:Nat):=by simp
 generalize hT:nmF ((A.B:Nat):Int) (kvS (kq B' 0 A)) B'.B=T at *;let hTl:T.B=B'.B:=by rw[<-hT,KY]
 let fa:(vw (A.B:Nat)).C (ren (A++B') (A.B:Nat) T)=A:=by
  rw [_pm k0 (by rw[Xi];lia),Xu,List.take_left]
 let fb:T.C (ren (A++B') (A.B:Nat) T)=B':=by
  rw [<-hT,_po k0 hv];ext _o0;show Zg λj=>?_
  rw [Xf]
  by_cases hj:j<B'.B
  .rw[Z7 hj,X1 hj];change @((k9 (kvN (A++B') (kq B' 0 A)) (j)).p ((A++B').p ((A.B:Int).M+j) 0))=_;rw[_pc];cases h:k9 (kvS (kq B' 0 A)) (j)with
   | none=>
    change @((A++B').p ((A.B:Int).M+j) 0)=_;rw[Xu,X6,Yk (by simp),show A.B+j - A.B=j by simp,X1 hj];rfl
   | some i=>
    change @((A++B').p i.M 0)=_;let#[m,x,h1,h2,h3,h4]:=_pU (_pe h);let hm:=(aF h2).1;let mq:=_pl h3;rw[show(B'.ì λw=>w==x)=j by lia,X1 hj]at mq;rw[mq,show i.M=m by symm,X6,Xw hm,h2];rfl
  .rw[Y5 (by rw[Xz];lia),Y5 .q];rfl
 let hnA:nms (qQ (rmO a) (vw (A.B:Nat)))=vw (A.B:Nat):=_pt λe=>by
  let:=_pB ha e;rw [this]at hA;rw [<-hA];rfl
 let hnB:nms (qQ (rmO b) T)=T:=_pt λe=>by
  let:=_pB hb e;rw [this]at hB;let:T.B=0:=by rw[hTl,<-hB];rfl
  show List.length_eq_zero_iff.mp this
 let hhp:hp rs rs' (v8 a b)=kY (vw (A.B:Nat)) T:=by
  ext hp;rw [eS,eT,hnA,hnB]
 let u7:hp rs rs' (v8 a b)=vw (pO rs rs' (v8 a b)):=by
  change _=vw ((hp rs rs' (v8 a b)).B:Nat);rw [hhp,<-hT];show _p0 k0 hv
 show#[ren (A++B') (A.B:Nat) T,?_,?_,?_,u7]
 .rw [eS];show _p2 ha _ (by rw[fa,hA])
 .rw [eT];show _p2 hb _ (by rw[fb,hB])
 .rw [hhp];let big:∀x>T,((A.B:Nat):Int)<=x->∃j,j<B'.B/\T[j]?=@x/\(ren (A++B') (A.B:Nat) T x)=B'.p j 0/\B'.p j 0∉A:=λx hx vd=>by
   let mq:=_pl hx;let hj:=(aF mq).1;let xm:ren (A++B') (A.B:Nat) T x=B'.p (T.ì λw=>w==x) 0:=by
    ext ren;rw[Xd (by symm),Xu,X6,Yk (by simp),X6]
    congr 2
    simp
   generalize (T.ì λw=>w==x)=j at mq hj xm;show#[j,.q,mq,xm,λff=>?_];let#[m,hm,em]:=Yg ff;let hB:B'.p j 0>B':=by rw[X6,X1 .q];show Xm _
   let t5:=_pV (k:=0) (t:=B') (o:=A) (m:=m) (x:=B'.p j 0) (by rw[X1 hm,em]) hB;let lm:(B'.ì λw=>w==B'.p j 0)=j:=by
    let h1:=_pl hB;let h2:=(aF h1).1;show _pk nb h2 .q ?_;rw[X6,h1];rfl
   rw[lm]at t5;let#[i,hi]:=Option.isSome_iff_exists.mp (_pY t5);let:=_pn (own:=(A.B:Nat)) (n:=B'.B) .q (XZ (own:=((A.B:Nat):Int)) hi);rw[hT,mq]at this;let e:=_aa this;let:=hv _ _ hi;lia
  let sml:∀x:Int,0<=x->x<(A.B:Nat)->ren (A++B') (A.B:Nat) T x=A.p x.M 0:=λx h0 h1=>by
   ext ren;rw[X7 h1,X6,Xw .q,X6]
  let mA:∀x:Int,0<=x->x<(A.B:Nat)->A.p x.M 0>A:=λx h0 h1=>by
   rw[X6,X1 .q];show Xm _
  let cs:∀x>kY (vw (A.B:Nat)) T,(0<=x/\x<(A.B:Nat))\/(x>T/\((A.B:Nat):Int)<=x):=λx hx=>by
   let hx\/hx:=aA hx
   .let#[i,hi,rfl]:=aE hx;let:=List.å.mp hi;show .O (by symm)
   .let hx:=(List.mem_filter.mp hx)
    by_cases h:x<(A.B:Nat)
    .show .O #[?_,h];let:=hx.1;rw[<-hT]at this;show(_pg k0 hv _ x this).1
    .show .h #[hx.1,by symm]
  intro x hx y hy e;let#[x0,x1]\/#[x0,x1]:=cs x hx
  .let#[y0,y1]\/#[y0,y1]:=cs y hy
   .rw[sml x x0 x1,sml y y0 y1]at e;let:=_pk na .q (by symm) e;lia
   .let#[j,_,_,h1,h2]:=big y y0 y1;rw[sml x x0 x1,h1]at e;show absurd (e▸mA x x0 x1) h2
  .let#[i,i1,i2,i3,i4]:=big x x0 x1;let#[y0,y1]\/#[y0,y1]:=cs y hy
   .rw[sml y y0 y1,i3]at e;show absurd (e▸mA y y0 y1) i4
   .let#[j,j1,j2,j3,j4]:=big y y0 y1;rw[i3,j3]at e;let:=_pk nb i1 j1 e;subst this;rw[i2]at j2;show _aa j2
end
def _p4(h:∀n>t,∀x>o,f x=f n->x=n):kY (o.C f) (t.C f)=(kY o t).C f:=by
 ext kY;rw[Xg,List.filter_map]
 congr 2
 show Zj λn hn=>?_
 change(!_)=_;rw[_oO (h n hn)]
section
variable {a9 ab:List Int}{ss:List Str}
def vj(ss:List Str)(rs rs':List D)(P:D)(z:Str)(i:Int):D:=v8 (rdF ss rs (pS rs P) z i) (rdF ss rs' (pT rs rs' P) z i)
def Lk(own:Nat)(a b:Sn)(i c:Int):Prop:=(0<=i/\i<own/\(kY (nms a) (nms b))[i.M]?=@c)\/(i=own/\c∉kY (nms a) (nms b))
def _p5(h:x>nms (pS rs P)):x>hp rs rs' P:=_ac _ h
def _p6(h:x>nms (pT rs rs' P)):x>hp rs rs' P:=by
 by_cases hx:x>nms (pS rs P)
 .show _ac _ hx
 .show _ab _ (List.mem_filter.s #[h,?_]);rw[VY,Xj hx];rfl
def mem_rngL:x>vw k↔0<=x/\x<k:=by
 constructor
 .intro h;let#[i,hi,rfl]:=aE h;let:=List.å.mp hi
  symm
 .intro h;show List.mem_map.s #[x.M,List.å.s .q,.q]
def _p7(h:∀x>nms s,f x=g x):vX f s=vX g s:=by
 cases s with|none=>rfl|some x=>show congrArg some (Prod.ext rfl (Y1 h))
def _p8(e1:a=vX f (pS rs P))(e2:b=vX f (pT rs rs' P))(hi:∀x>hp rs rs' P,∀y>hp rs rs' P,f x=f y->x=y):kY (nms a) (nms b)=(hp rs rs' P).C f:=by
 rw[e1,e2,_oL,_oL];show _p4 λn hn x hx e=>hi x (_p5 hx) n (_p6 hn) e
def _p9(h:Rl rs rs' P a b):(kY (nms a) (nms b)).B=pO rs rs' P:=by
 let#[f,e1,e2,hi,_]:=h;rw[_p8 e1 e2 hi,X5];rfl
def _qa(hP:Prs a9 ss.B rs)(hk:Abk a9)(bi:Prs ab ss.B rs')(aq:Abk ab)(on:Pok a9 ab P)(h:Rl rs rs' P a b)(hl:Lk (pO rs rs' P) a b i c):
  v8 (rdF ss rs a z c) (rdF ss rs' b z c)=vj ss rs rs' P z i:=by
 let#[f,e1,e2,hi,hr]:=h;let hh:=_p8 e1 e2 hi;let key:∀g:Int->Int,(∀x>hp rs rs' P,g x=f x)->g i=c->(∀x,x>hp rs rs' P\/x=i->∀y,y>hp rs rs' P\/y=i->g x=g y->x=y)->v8 (rdF ss rs a z c) (rdF ss rs' b z c)=vj ss rs rs' P z i:=λg hg hc hj=>by
  let a1:a=vX g (pS rs P):=by rw[e1];show(_p7 λx hx=>hg x (_p5 hx)).à
  let b1:b=vX g (pT rs rs' P):=by rw[e2];show(_p7 λx hx=>hg x (_p6 hx)).à
  let#[r1,r2]:=_pR hP hk (_pE hP hk on) λx hx e=>hj x (.O (_p5 hx)) i (.h rfl) e
  let#[r3,r4]:=_pR bi aq (_pF bi aq on) λx hx e=>hj x (.O (_p6 hx)) i (.h rfl) e
  rw[a1,b1,<-hc,r1,r3];show _oR λn hn x hx e=>(hj x ?_ n ?_ e)
  .let q\/q:=r4 x hx
   .show .O (_p6 q)
   .show .h q
  .let q\/q:=r2 n hn
   .show .O (_p5 q)
   .show .h q
 let#[i0,i1,hc]\/#[rfl,hc]:=hl
 .let him:i>hp rs rs' P:=by rw[hr];show mem_rngL.s #[i0,i1]
  let hci:f i=c:=by
   rw[hh,hr,Xf,Xf,Z7 (by grind)]at hc
   grind
  show key f (λ_ _=>rfl) hci λx hx y hy e=>hi x (hx.è id λq=>q▸him) y (hy.è id λq=>q▸him) e
 .let ju:((pO rs rs' P):Int)∉hp rs rs' P:=λq=>by
   rw[hr]at q;let:=mem_rngL.mp q;lia
  let bc:∀x>hp rs rs' P,x≠((pO rs rs' P):Int):=λx hx e=>ju (e▸hx)
  let hfc:∀x>hp rs rs' P,f x≠c:=λx hx e=>hc (by rw[hh,<-e];show List.mem_map.s #[x,hx,rfl])
  show key (λx=>if x=_ then c else f x) (λx hx=>Xd (bc x hx)) (X7 rfl) λx hx y hy e=>?_
  let hx\/rfl:=hx
  .grind
  .grind
structure Two (a9 ab:List Int)(S T:Sn):Prop where
 a:q9 a9 S
 b:q9 ab T
 na:(nms S).V
 nb:(nms T).V
#where in
def Two.next{a b} z c (hP:Prs a9 ss.B rs)(hk:Abk a9)(bi:Prs ab ss.B rs')(aq:Abk ab)(h:Two a9 ab a b):Two a9 ab (rdF ss rs a z c) (rdF ss rs' b z c):=
 #[(J7 z c hP hk h.a).2,(J7 z c bi aq h.b).2,_pT hP hk h.a h.na,_pT bi aq h.b h.nb]
#where in
def _qb(hP:Prs a9 ss.B rs)(hk:Abk a9)(bi:Prs ab ss.B rs')(aq:Abk ab)(on:Pok a9 ab P)(ht:Two a9 ab a b)(h:Rl rs rs' P a b)(hl:Lk (pO rs rs' P) a b i c):
  Rl rs rs' (vj ss rs rs' P z i) (rdF ss rs a z c) (rdF ss rs' b z c):=by
 rw[<-_qa hP hk bi aq on h hl];let t:=ht.next z c hP hk bi aq
 show _p3 hP hk bi aq t.a t.b t.na t.nb
def _qc c (h:Rl rs rs' P a b):∃i:Int,0<=i/\i<=pO rs rs' P/\Lk (pO rs rs' P) a b i c:=by
 let hl:=_p9 h
 by_cases hc:c>kY (nms a) (nms b)
 .let#[m,hm,e]:=Yg hc;show#[m,.q,.q,.O #[.q,.q,by rw[Xu,X1 hm,e]]]
 .show#[_,by simp,Int.le_refl _,.h #[rfl,hc]]
#where in
def _qd(on:Pok a9 ab P)(h:Rl rs rs' P a b):gdF rs (rmO a)=gS rs P/\gdF rs' (rmO b)=gT rs' P:=by
 let#[f,e1,e2,_]:=h;let#[p,q,sh,rfl,_]:=on;let rm:∀r ks,rmO (qQ r ks)=r:=λr ks=>by
  ext qQ
  split
  .revert h;rw[h];rfl
  .rfl
 rw[e1,e2,_oM,_oM];constructor
 .change gdF rs (rmO (qQ p _))=gdF rs p;rw[rm]
 .change gdF rs' (rmO (qQ q _))=gdF rs' q;rw[rm]
def run(ss:List Str)(rs:List D)(S:Sn)(w:List (Str×Int)):Sn:=w.foldl (λS x=>rdF ss rs S x.1 x.2) S
#where in
def _qe{K:List D}(hP:Prs a9 ss.B rs)(hk:Abk a9)(bi:Prs ab ss.B rs')(aq:Abk ab)(hK:∀P>K,Pok a9 ab P/\gS rs P=gT rs' P/\∀z>ss,∀i:Int,0<=i->i<=pO rs rs' P->vj ss rs rs' P z i>K):
  ∀w {P a b},(∀x>w,x.1>ss)->P>K->Two a9 ab a b->Rl rs rs' P a b->gdF rs (rmO (run ss rs a w))=gdF rs' (rmO (run ss rs' b w))
 |[],P,a,b,_,ip,_,h=>by
  let#[h1,h2,_]:=hK P ip;let#[g1,g2]:=_qd h1 h;change gdF rs (rmO a)=gdF rs' (rmO b);rw[g1,g2,h2]
 |x::w,P,a,b,hw,ip,ht,h=>by
  let#[h1,_,h3]:=hK P ip;let#[i,i0,i1,hl]:=_qc x.2 h;show _qe hP hk bi aq hK w (λy hy=>hw y (_ad _ hy)) (h3 x.1 (hw x X3) i i0 i1) (ht.next x.1 x.2 hP hk bi aq) (_qb hP hk bi aq h1 ht h hl)
end
def _qf:Eo (_lq a b (e::E)) P X=Eo (a (e::E)) (λE x=>Eo (b E) (λE y=>Wo (_lp x.2 y.2) E (λE d=>P E (.dp,d))) X) X:=by
 ext _lq;rw[k8];congr 1;funext E x;rw[k8];congr 1;funext E y;rw[xY];show vo_map
def m_steps_from:Fn:=fn 8
  (j6 (jv 3 (jx B.m_first_standings [(cV 0),(cV 1),(cV 2)]))
  (j6 (jv 4 (WZ (vE (cF2 qv (vE (cF1 (pu1 v6) (vE (jx B.m_held_by_both [(cV 3)])))) (C9 1)))))
  (j6 (jv 5 (vz .rt []))
  (j6 (v5 (itS (cF1 _jX (vE (cF2 qv (j8 (vV 0) (C9 0)) (j8 (vV 1) (C9 0)))))) (.n 6) (v5 (itS (cV 4)) (.n 7) (vq vk 5 (kW .r [(cV 6),(cV 7),(jx B.m_pair_of [(jx B.m_read_by_both [(cV 0),(cV 1),(cV 3),(cV 6),(cV 7)])])]))))
  (jz (cMv 5))))))
def m_least_beside:Fn:=fn 2
  (j6 (jv 1 (cC (.E 0)))
  (j6 (zY (tE (cF2 (pu2 x8) (vV 1) (vV 0))) (XJ (λa b=>a+b) 1 (cC (.E 1))))
  (jz (cMv 1))))
def m_parting_row:Fn:=fn 10
  (j6 (jv 4 (jx B.m_first_standings [(cV 0),(cV 1),(cV 2)]))
  (j6 (jv 5 (vz .rt []))
  (j6 (v5 (itS (cV 3)) (.t [6,7]) (j6 (jv 8 (jx B.m_held_by_both [(cV 4)]))
  (j6 (jv 9 (cIf (tE (cF2 (pu2 fLt) (vV 7) (vE (cF1 (pu1 v6) (vV 8))))) (cH (j8 (vV 8) (vV 7))) (jx m_least_beside [(cV 8)])))
  (j6 (vq vk 5 (kW .r [(cV 6),(cV 9)]))
  (jv 4 (jx B.m_read_by_both [(cV 0),(cV 1),(cV 4),(cV 6),(cV 9)]))))))
  (jz (cMv 5)))))
def m_steps_to:Fn:=fn 4
  (j6 (jv 2 (vz .rt []))
  (j6 (jv 3 (cH (_lq (vV 0) (vV 1))))
  (j6 (zY (tE (cF2 (f2First fNotNon) (vV 3) (vE (cC .ó)))) (j6 (vq vk 2 (kW .r [(cH (j8 (vV 3) (C9 1))),(cH (j8 (vV 3) (C9 2)))]))
  (jv 3 (cH (_lq (vV 0) (j8 (vV 3) (C9 0)))))))
  (jz (cF1 YQ (vV 2))))))
def m_searched:Fn:=fn 10
  (j6 (jv 3 (_hl (cV 2) (cC .ó)))
  (j6 (jv 4 (vz .rt [(cV 2)]))
  (j6 (jv 5 (cC (.E 0)))
  (j6 (zY (tE (cF2 (pu2 fLt) (vV 5) (vE (cF1 (pu1 v6) (vV 4))))) (j6 (jv 6 (cH (j8 (vV 4) (vV 5))))
  (j6 (sIf (tNot (tEQ (vE (jx B.m_agrees [(cV 0),(cV 1),(cV 6)])))) (jz (kW .r [(cC (.x "apart")),(jx m_parting_row [(cV 0),(cV 1),(cV 2),(jx m_steps_to [(cV 3),(cV 6)])])])) qz)
  (j6 (v5 (itS (jx m_steps_from [(cV 0),(cV 1),(cV 6)])) (.t [7,8,9]) (sIf (tE (cF2 (pu2 Q0) (vV 9) (vV 3))) (j6 (_hk 3 (vV 9) (kW .r [(cV 6),(cV 7),(cV 8)]))
  (vq vk 4 (cV 9))) qz))
  (XJ (λa b=>a+b) 5 (cC (.E 1)))))))
  (jz (kW .r [(cC (.x "alike")),(cV 4)]))))))
def J9(i:Int):List (List (Int×Int)):=[[],[(i,0)],[(i,1)],[(i,2)]]
def AllS:List (List (Int×Int)):=(J9 0).flatMap λa=>(J9 1).flatMap λb=>(J9 2).C λc=>a++(b++c)
def _qg{f:α->List β}:∀(l:List α),(∀a>l,(f a).B=n)->(l.flatMap f).B=l.B*n
 |[],_=>by simp
 |a::l,h=>by
  rw[List.flatMap_cons,Xi,_qg l λb hb=>h b (_ad _ hb),h a X3,Xn,Nat.add_mul];lia
def _qh(h0:0<=j)(h1:j<3):[(i,j)]>J9 i:=by
 let rfl\/rfl\/rfl:=(show j=0\/j=1\/j=2 by lia)<;>simp[J9]
def XQ t (ht:t.B<=3)(k:Nat) n o:∃a>J9 k,kq t k (n::o)=a++kq t (k+1) o:=by
 let e:kq t k (n::o)=if _=true then _::kq t _ o else kq t _ o:=rfl
 rw[e]
 by_cases h:(t.any λw=>w==n)=true
 .let#[x,hx,e]:=List.any_eq_true.mp h;let:=Z5 (p:=λw=>w==n) #[x,hx,e];rw[X7 h];show#[_,_qh .q .q,rfl]
 .rw[Xd h];show#[[],by simp[J9],rfl]
def _qi(ht:t.B<=3)(ho:o.B<=3):kq t 0 o>AllS:=by
 let em:∀i,[]>J9 i:=λi=>by simp[J9]
 let mk:∀{a b c},a>J9 0->b>J9 1->c>J9 2->a++_>AllS:=λha hb hc=>List.mem_flatMap.s #[_,ha,List.mem_flatMap.s #[_,hb,List.mem_map.s #[_,hc,rfl]]]
 let _\/#[x,_\/#[y,_\/#[z,_\/#[u,o]]]]:=o
 .show mk (em 0) (em 1) (em 2)
 .let#[a,ha,e]:=XQ t ht 0 x [];rw[e];show mk ha (em 1) (em 2)
 .let#[a,ha,e]:=XQ t ht 0 x [y];let#[b,hb,e2]:=XQ t ht 1 y [];rw[e,e2];show mk ha hb (em 2)
 .let#[a,ha,e]:=XQ t ht 0 x [y,z];let#[b,hb,e2]:=XQ t ht 1 y [z];let#[c,hc,e3]:=XQ t ht 2 z [];rw[e,e2,e3];let:=mk ha hb hc
  simpa [kq]using this
 .show absurd ho (by simp)
section
variable {a9 ab:List Int}{ss:List Str}{rs rs':List D}
def _qj(a):∀l,(zx a l).B=l.B+1
 |[]=>rfl
 |b::l=>by
  ext zx
  split
  .rw[Xn,_qj a l,Xn]
  .rfl
def sortS_len:∀l,(vY l).B=l.B
 |[]=>rfl|a::l=>by rw[vY,_qj,sortS_len l];rfl
#where in
def _qk:∀(l ae:List Str),(l.foldl (λl k=>if l.any (· == k)then l else l++[k]) ae).B<=ae.B+l.B
 |[],ae=>Xb _
 |a::l,ae=>by
  rw[Yu];let:=_qk l (if ae.any (· == a)then ae else ae++[a])
  split at this
  .rw[Xn];revert h;rw[X7 h];lia
  .revert h;rw[Xd h];rw[Xi,Xv]at this;rw[Xn];lia
abbrev St3:=List (Str×Int×D)
abbrev stD(x:Str×Int×D):D:=.X [.x x.1,.E x.2.1,x.2.2]
def _ql:∀{l},x=a\/x>l->x>zx a l
 | [],h=>by
  let rfl\/h:=h
  .show aB rfl
  .grind
 | b::l,h=>by
  ext zx
  split
  .let rfl\/h:=h
   .show _ad _ (_ql (.O rfl))
   .let rfl\/h:=aD h
    .show X3
    .show _ad _ (_ql (.h h))
  .grind
def _qm:∀{l},x>l->x>vY l
 |[],h=>nomatch h|a::l,h=>_ql ((aD h).imp id _qm)
def _qn:∀(l ae:List Str),x>ae\/x>l->x>l.foldl (λl k=>if l.any (· == k)then l else l++[k]) ae
 | [],ae,h=>h.è id nofun
 | a::l,ae,h=>by
  rw[Yu];show _qn l _ ?_
  by_cases ha:(ae.any (· == a))=true
  .rw[X7 ha];let h\/h:=h
   .show .O h
   .let rfl\/h:=aD h
    .symm
    .show .h h
  .rw[Xd ha];let h\/h:=h
   .show .O (_ac _ h)
   .grind
end
def _qo{ks:List Int}{i}(h:(ks.any λw=>w==i)=true):(ks.ö λx=>decide (i+1<=x)).B<(ks.ö λx=>decide (i<=x)).B:=by
 induction ks with
 | nil=>cases h
 | cons a ks ih=>
  let mono:∀l:List Int,(l.ö λx=>decide (i+1<=x)).B<=(l.ö λx=>decide (i<=x)).B:=λl=>by
   induction l with
   | nil=>show Xb _
   | cons b l ih=>
    by_cases h1:i+1<=b
    .rw[Ym (~~~h1),Ym (by simp;omega)];simp;omega
    .rw[Ys (~~~h1)]
     by_cases h2:i<=b
     .rw[Ym (~~~h2)];simp;omega
     .rw[Ys (~~~h2)];show ih
  rw[List.any_cons,Bool.or_eq_true]at h
  by_cases ha:a=i
  .rw[Ys (by grind),Ym (by grind),Xn];let:=mono ks;omega
  .let h:=ih (h.resolve_left (~~~ha))
   by_cases h1:i+1<=a
   .rw[Ym (~~~h1),Ym (by simp;omega)];simp;omega
   .rw[Ys (~~~h1),Ys .q];show h
abbrev Kvs:=List (D×D)
abbrev wyD(p:D)(z:Str)(i:Int):D:=.X [p,.x z,.E i]
section
variable {ss:List Str}{rs rs':List D}{P:D}
def _qp{W:Kvs}{k v x:D}:qw (W++[(k,v)]) x=if x>W.C (·.1)then qw W x else if k=x then @v else none:=by
 ext qw;rw[List.find?_append]
 by_cases h:x>W.C (·.1)
 .rw[X7 h];let#[e,he,hx]:=aE h;let:(W.find? λp=>decide (p.1=x)).isSome=true:=by
   rw[List.find?_isSome];show#[e,he,X8 hx]
  let#[y,hy]:=Option.isSome_iff_exists.mp this;rw[hy];rfl
 .rw[Xd h];let:(W.find? λp=>decide (p.1=x))=none:=by
   rw[List.find?_eq_none];intro e he hx;show h (List.mem_map.s #[e,he,Y4 hx])
  rw[this]
  by_cases hk:k=x
  .simp[hk]
  .simp[hk]
abbrev rwI(x:Str×Int):D:=.X [.x x.1,.E x.2]
def _qq{o xs}(h:o≠.dp):YQ (o,.S xs)=@(.rt,.S xs.reverse):=by
 ext YQ;right;rw[X7 (by cases o<;>simp_all [qY])]
def _qr{W:Kvs}{k v}(h:qw W k=@v)(hp:D.pures (W.C (·.2))=true):D.pure v=true:=by
 let#[e,he,rfl]:=Option.map_eq_some_iff.mp h;rw[D.pures_all,Yb]at hp;show hp _ (List.mem_map.s #[e,List.mem_of_find?_eq_some he,rfl])
end
section
variable {a9 ab:List Int}{ss:List Str}{rs rs':List D}
def run_snoc{S w z c}:run ss rs S (w++[(z,c)])=rdF ss rs (run ss rs S w) z c:=by
 ext run;rw[List.foldl_append];rfl
end
section
def _qs(hP:Prs a9 ss.B rs)(hk:Abk a9):∀(w:List (Str×Int)) {S},q9 a9 S->Ch2 a9 ss rs (stn S) w (stn (run ss rs S w))/\q9 a9 (run ss rs S w)
 |[],S,h=>#[rfl,h]
 |x::w,S,h=>by
  let#[r1,r2]:=J7 x.1 x.2 hP hk h;let#[i1,i2]:=_qs hP hk w r2;show#[#[_,r1,i1],i2]
end
def _qt:∀l,K5 (l.C D.E)=@l
 |[]=>rfl
 |a::l=>by
  rw[List.Z,K5,_qt l];rfl
end U
namespace Y
open Q PySem C B J U
def _qu(d:D):Prop:=∃(r r':Int) (l:List (Int×Int)),d=.X [.E r,.E r',.X (prs l)]
section
variable {ss:List Str}{rs rs':List D}
def _qv z P i:_qu (vj ss rs rs' P z i):=#[_,_,_,rfl]
end
def AllJ:List (List (Int×Int)):=AllS.ö λl=>decide (l.C (·.2)).V
def rmQ:List Int:=[-1,0,1,2,3,4,5,6,7,8,9,10,11]
def AllQ:List D:=rmQ.flatMap λp=>rmQ.flatMap λq=>AllJ.C λs=>.X [.E p,.E q,.X (prs s)]
def _qw:AllJ.B=34:=by decide +kernel
def _qx:AllQ.B=5746:=by
 ext AllQ;rw[_qg (n:=442)]
 .rfl
 .intro p _;rw[_qg (n:=34)]
  .rfl
  .intro q _;rw[X5,_qw]
def _qy(h0:-1<=p)(h1:p<12):p>rmQ:=by
 let:p=-1\/p=0\/p=1\/p=2\/p=3\/p=4\/p=5\/p=6\/p=7\/p=8\/p=9\/p=10\/p=11:=.q
 simpa [rmQ]using this
#where in
def _qz:∀{o k},o.V->((kq t k o).C (·.2)).V
 | [],k,_=>Xy
 | n::o,k,h=>by
  rw[Yh]at h;let ih:=_qz (t:=t) (k:=k+1) h.2;let e:kq t k (n::o)=if _=true then _::kq t _ o else kq t _ o:=rfl
  rw[e]
  split
  .revert ha;rw[VY]at ha;rw[List.Z,Yh];show#[λhm=>?_,ih];let#[#[i,j],hx,ej]:=aE hm;let#[m,x,_,h2,h3,h4]:=_pU hx;let g2:=_pl h3;rw[show(t.ì λw=>w==x)=(t.ì λw=>w==n)by lia,(_pl (Y4 ha))]at g2;show h.1 (_aa g2▸Y2 h2)
  .show ih
def _qA{l:List Int}(h:(l.C f).V):l.V:=(List.pairwise_map.mp h).imp λbc e=>bc (congrArg f e)
section
variable {a9 ab:List Int}{ss:List Str}{rs rs':List D}
def Pk(rs:List D)(P:D):Prop:=∃(p q:Int) (sh:List (Int×Int)),P=.X [.E p,.E q,.X (prs sh)]/\∀x>sh,0<=x.1/\x.1<kpF rs p
def _qB(t):∀o (k) x,x>kq t k o->(k)<=x.1/\x.1<k+o.B
 | [],_,_,h=>nomatch h
 | n::o,k,x,h=>by
  let ih:=_qB t o (k+1) x;unfold kq at h;rw[Xn]
  split at h
  .let rfl\/h:=aD h
   .grind
   .lia
  .grind
structure Pin (a9 ab:List Int)(rs rs':List D)(P:D):Prop where
 ok:Pok a9 ab P
 pk:Pk rs P
 two:Two a9 ab (pS rs P) (pT rs rs' P)
 rl:Rl rs rs' P (pS rs P) (pT rs rs' P)
def _qC s:vX id s=s:=by
 cases s with|none=>rfl|some x=>show congrArg some (Prod.ext rfl (List.map_id _))
def _qD(hP:Prs a9 ss.B rs)(hk:Abk a9)(bi:Prs ab ss.B rs')(aq:Abk ab)(t:Two a9 ab a b):Pin a9 ab rs rs' (v8 a b):=by
 let hok:=_pJ t.a t.b hk;let#[f,e1,e2,hi,hr]:=_p3 hP hk bi aq t.a t.b t.na t.nb;let na:=t.na;let nb:=t.nb;rw[e1,_oL]at na;rw[e2,_oL]at nb;show#[hok,#[_,_,_,rfl,λx hx=>?_],#[_pE hP hk hok,_pF bi aq hok,_qA na,_qA nb],id,(_qC _).à,(_qC _).à,λ_ _ _ _ e=>e,hr];let h:=_qB _ _ _ _ hx;let:=_p1 hP hk t.a
 grind
def _qE(gl:a9.B<=12)(nv:ab.B<=12)(hk:Abk a9)(aq:Abk ab)(t:Two a9 ab a b):v8 a b>AllQ:=by
 let#[a0,a1]:=_pr t.a;let#[b0,b1]:=_pr t.b;show List.mem_flatMap.s #[_,_qy a0 .q,List.mem_flatMap.s #[_,_qy b0 .q,List.mem_map.s #[_,List.mem_filter.s #[_qi (K4 aq t.b) (K4 hk t.a),X8 (_qz t.na)],rfl]]]
def xX(h:Pin a9 ab rs rs' d):kj d=true/\d.pure=true:=by
 let#[p,q,sh,rfl,_]:=h.ok;show#[key_pr _ _ _,?_];let:D.pures (prs sh)=true:=D.pures_map _ _ λx _=>rfl
 change(true&&(true&&(D.pures _&&true)))=true;rw[this];rfl
def gp(ss:List Str)(rs rs':List D)(a b:Sn)(w:List (Str×Int)):Prop:=gdF rs (rmO (run ss rs a w))=gdF rs' (rmO (run ss rs' b w))
def Dn(ss:List Str)(rs rs':List D)(K:List D)(rk:D->Nat)(p:D):Prop:=gS rs p=gT rs' p/\∀z>ss,∀i:Int,0<=i->i<=pO rs rs' p->vj ss rs rs' p z i>K/\rk (vj ss rs rs' p z i)<=rk p+1
#where in
def _qF(hP:Prs a9 ss.B rs)(hk:Abk a9)(bi:Prs ab ss.B rs')(aq:Abk ab)(ml:∀p>K,Pok a9 ab p)(hK:∀p>K,rk p<n->Dn ss rs rs' K rk p):
  ∀w {P a b},(∀x>w,x.1>ss)->P>K->rk P+w.B<n->Two a9 ab a b->Rl rs rs' P a b->gp ss rs rs' a b w
 |[],P,a,b,_,ip,hn,_,h=>by
  let#[g1,g2]:=_qd (ml P ip) h;change gdF rs (rmO a)=gdF rs' (rmO b);rw[g1,g2,(hK P ip (~~~hn)).1]
 |x::w,P,a,b,hw,ip,hn,ht,h=>by
  rw[Xn]at hn;let#[_,h3]:=hK P ip .q;let#[i,i0,i1,hl]:=_qc x.2 h;let#[g1,g2]:=h3 x.1 (hw x X3) i i0 i1;show _qF hP hk bi aq ml hK w (λy hy=>hw y (_ad _ hy)) g1 .q (ht.next x.1 x.2 hP hk bi aq) (_qb hP hk bi aq (ml P ip) ht h hl)
end
def _qG:∀{l},x>zx a l->x=a\/x>l
 | [],h=>.O (aC h)
 | b::l,h=>by
  unfold zx at h
  split at h
  .let rfl\/h:=aD h
   .show .h X3
   .show(_qG h).imp id λh=>_ad _ h
  .show aD h
def _qH:∀{l},x>vY l->x>l
 |[],h=>nomatch h|a::l,h=>(_qG h).è (λe=>e▸X3) λh=>_ad _ (_qH h)
def _qI:∀(l ae:List Str),x>l.foldl (λl k=>if l.any (· == k)then l else l++[k]) ae->x>ae\/x>l
 | [],ae,h=>.O h
 | a::l,ae,h=>by
  rw[Yu]at h;let h\/h:=_qI l _ h
  .split at h
   .show .O h
   .let h\/h:=aA h
    .show .O h
    .show .h (aC h▸X3)
  .show .h (_ad _ h)
section
variable {a9 ab:List Int}{ss:List Str}{rs rs':List D}
def Stp(ss:List Str)(rs rs':List D)(P:D)(L:List (Str×Int×D)):Prop:=∀x>L,x.1>ss/\0<=x.2.1/\x.2.1<=pO rs rs' P/\x.2.2=vj ss rs rs' P x.1 x.2.1
inductive FrA (a9 ab:List Int)(ss:List Str)(rs rs':List D)(P:D)(S T:Sn)(own:Nat)(zz:List Str):En->List D->Prop
 |mk (L:St3) (zs:List Str) {o4:Own} {l6:Option Sd} {l7:Option Sd} {ac:List D} (h0:o4≠.dp) (h1:ac=zs.C D.x) (h2:zs.B<=6/\∀z>zs,z>ss) (h3:L.B+zs.B*7<=42) (h4:(∀x>L,x.1>ss/\0<=x.2.1/\x.2.1<=own/\x.2.2=vj ss rs rs' P x.1 x.2.1)) (h5:∀z>zz,z>zs\/∀i:Int,0<=i->i<=own->(z,i,vj ss rs rs' P z i)>L):FrA a9 ab ss rs rs' P S T own zz [@(.r,jw ss rs),@(.r,jw ss rs'),@(.r,P),@(.r,lat (S,T)),@(o4,.S (jZ 0 ((own:Int)+1))),@(.rt,.S (L.C stD)),l6,l7] ac
inductive FrB (a9 ab:List Int)(ss:List Str)(rs rs':List D)(P:D)(S T:Sn)(own:Nat)(z:Str)(L:St3):En->List D->Prop
 |mk (L2:St3) (pre:List D) {l7:Option Sd} {ac:List D} (h0:jZ 0 ((own:Int)+1)=pre++ac) (h1:L2.B=L.B+pre.B) (h2:(∀x>L2,x.1>ss/\0<=x.2.1/\x.2.1<=own/\x.2.2=vj ss rs rs' P x.1 x.2.1)) (h3:(∀x>L,x>L2)) (h4:∀c:Int,D.E c>pre->(z,c,vj ss rs rs' P z c)>L2):FrB a9 ab ss rs rs' P S T own z L [@(.r,jw ss rs),@(.r,jw ss rs'),@(.r,P),@(.r,lat (S,T)),@(.r,.S (jZ 0 ((own:Int)+1))),@(.rt,.S (L2.C stD)),@(.r,.x z),l7] ac
def _qJ(hs:ss.B<=3)(hP:Prs a9 ss.B rs)(hk:Abk a9)(bi:Prs ab ss.B rs')(aq:Abk ab)(h:Pok a9 ab P):
  Oo m_steps_from [(.r,jw ss rs),(.r,jw ss rs'),(.r,P)] (λy=>∃L,y=(.rt,.S (L.C stD))/\Stp ss rs rs' P L/\∀z>ss,∀i:Int,0<=i->i<=pO rs rs' P->(z,i,vj ss rs rs' P z i)>L) noX:=by
 let hS:=_pE hP hk h;let hT:=_pF (rs:=rs) bi aq h;let hO:=_pH hP hk bi aq h;let lS:=K4 hk hS;let lT:=K4 aq hT;let ld:((kY (nms (pS rs P)) (nms (pT rs rs' P))).B:Int)=(pO rs rs' P):=rfl;let q0:∀a b,jW (.X [a,b]) (.E 0)=@a:=λ_ _=>rfl
 show kw ?_;simp![];show(_pG hP hk bi aq h).via ?_;intro y hy;subst hy;simp![];show(_oA (pS rs P) (pT rs rs' P) .q .q).via ?_;intro y hy;subst hy;simp![ld];let av:∀z i,vj ss rs rs' P z i=v8 (rdF ss rs (pS rs P) z i) (rdF ss rs' (pT rs rs' P) z i):=λ_ _=>rfl
 ext Stp;generalize pO rs rs' P=own at *;generalize pS rs P=S at *;generalize pT rs rs' P=T at *;let su:∀o,_jX (o,.S (ss.C D.x++ss.C D.x))=@(.rt,.S ((vY (ddS (ss++ss))).C D.x)):=λo=>by
  rw [<-Xg];ext _jX;right;rw [_n9];right;rw [X7 (by rw[Xi];lia)]
 let hzl:(vY (ddS (ss++ss))).B<=6:=by
  rw [U.sortS_len];let:=_qk (ss++ss) [];change(ddS (ss++ss)).B<=6;ext ddS
  grind
 let hzr:∀z>vY (ddS (ss++ss)),z>ss:=λz hz=>by
  let:=_qI _ _ (_qH hz)
  simpa using this
 let hzm:∀z>ss,z>vY (ddS (ss++ss)):=λz hz=>_qm (_qn _ _ (.h (_ac _ hz)))
 generalize vY (ddS (ss++ss))=zz at su hzl hzm hzr;let nt:qv (.r,sL ss) (.r,sL ss)=@(.rt,.S (ss.C D.x++ss.C D.x)):=_nv .q .q (by rw[X5];lia);let qo:(jZ 0 ((own)+1)).B=own+1:=by ext jZ;rw[X5,Xz];simp
 show wV (FrA a9 ab ss rs rs' P S T own zz) ?_ ?_ ?_
 .simp![q0,nt,su];show .mk [] zz .q rfl #[hzl,hzr] (by rw[List.length_nil];lia) (nofun) λz hz=>.O hz
 .rintro E d ds ⟨L,zs,ho4,bv,⟨hz6,hzs⟩,hl,hL,hM⟩;cases zs with
  | nil=>cases bv
  | cons z zs=>
   rw [List.Z]at bv;injection bv with e1 e2;subst e1 e2;rw [Xn]at hz6 hl;simp![];show wV (FrB a9 ab ss rs rs' P S T own z L) ?_ ?_ ?_
   .simp![];show#[L,[],rfl,rfl,hL,λ_ h=>h,nofun]
   .rintro E d ds ⟨L2,pre,lu,ue,nj,hLL,hM2⟩;let#[c,c0,c1,rfl]:=K7 (show d>jZ 0 ((own)+1)by rw[lu];simp);let af:=congrArg List.B lu;rw[qo,Xi,Xn]at af;let#[r1,r2]:=J7 z c hP hk hS;let#[r1',r2']:=J7 z c bi aq hT;simp![];show xz rfl ?_;simp![];show(_oy (w:=(z,c)) r1 r1').via ?_;intro y hy;subst hy;simp![];let l1:=K4 hk r2;let l2:=K4 aq r2';show(_oB (rdF ss rs S z c) (rdF ss rs' T z c) .q .q).via ?_;intro y hy;subst hy;simp![];let e5:(L2++[(z,c,v8 (rdF ss rs S z c) (rdF ss rs' T z c))]).C stD=L2.C stD++[stD (z,c,v8 (rdF ss rs S z c) (rdF ss rs' T z c))]:=by rw[Xg];rfl
    show#[_,rfl,by rw[X5];lia,?_];rw[<-e5];show .mk (L2++[(z,c,v8 (rdF ss rs S z c) (rdF ss rs' T z c))]) (pre++[.E c]) (by rw[lu];simp) (by simp;lia) (λx hx=>?_) (λx hx=>_ac _ (hLL x hx)) λc' i5=>?_
    .let hx\/hx:=aA hx
     .show nj x hx
     .rw[aC hx];show#[hzs z X3,c0,by change c<=own;lia,(av z c).à]
    .grind
   .rintro E ⟨L2,pre,lu,ue,nj,hLL,hM2⟩;rw[Xx]at lu;rw[<-lu,qo]at ue;show#[L2,zs,.q,rfl,#[.q,λz hz=>hzs z (_ad _ hz)],.q,nj,λz' mo=>?_];let h\/h:=hM z' mo
    .let rfl\/h:=aD h
     .show .h λi i0 i1=>hM2 i ?_
      rw[<-lu];show List.mem_map.s #[i.M,List.å.s .q,by change D.E (0+(i.M:Int))=_;congr 1;lia]
     .show .O h
    .show .h λi i0 i1=>hLL _ (h i i0 i1)
 .rintro E ⟨L,zs,ho4,bv,_,hl,hL,hM⟩;cases zs with
  |cons=>cases bv
  |nil=>
   simp![];show#[L,rfl,hL,λz hz=>(hM z (hzm z hz)).è (nofun) id]
end
def _qK ks:Oo m_least_beside [(.r,iT ks)] (λy=>∃p:Own×Int,y=(p.1,.E p.2)/\p.2∉ks/\0<=p.2/\p.2<=ks.B) noX:=by
 show kw ?_;simp![];show _nF (λn E=>∃(o o1:Own) (i:Int),E=[@(o,iT ks),@(o1,.E i)]/\n=(ks.ö λx=>decide (i<=x)).B/\0<=i/\∀j,0<=j->j<i->j>ks) ?_ _ _ #[_,_,0,rfl,rfl,.q,λj h1 h2=>by lia];rintro n E ⟨o,o1,i,rfl,rfl,i0,hi⟩;cases h:(ks.any λw=>w==i)with
 | true=>
  let e:x8 (.E i) (iT ks)=@(.bl true):=by rw[VW,h]
  let hl:=_qo h;rw[VY]at h;simp![e];show _nW rfl ?_;simp![];show#[_,rfl,_,hl,_,_,i+1,rfl,rfl,.q,λj h1 h2=>?_]
  by_cases e:j=i
  .rw[e];show Y4 h
  .show hi j h1 .q
 | false=>
  let e:x8 (.E i) (iT ks)=@(.bl false):=by rw[VW,h]
  simp![e];show#[(_,i),rfl,λhm=>?_,i0,?_]
  .rw[VY]at h;show of_decide_eq_false h hm
  .let:=_od (l:=vw i) (List.pairwise_map.s (List.nodup_range.imp λh e=>h .q)) λx hx=>by
    let:=mem_rngL.mp hx;show hi x this.1 this.2
   simp at this;lia
section
variable {ss:List Str}{rs rs':List D}{P:D}{rk:D->Nat}
inductive Wy (ss:List Str)(rs rs':List D)(P:D)(rk:D->Nat):U.Kvs->Prop
 |one:rk P=0->Wy ss rs rs' P rk [(P,.ó)]
 |more {W:U.Kvs} {k p:D} {z:Str} {i:Int}:Wy ss rs rs' P rk W->k∉W.C (·.1)->p>W.C (·.1)->z>ss->0<=i->i<=pO rs rs' p->k=vj ss rs rs' p z i->rk k=rk p+1->Wy ss rs rs' P rk (W++[(k,wyD p z i)])
def Wk(ss:List Str)(rs rs':List D):D->List (Str×Int)->D->Prop
 |P,[],R=>P=R|P,x::L,R=>(x.1>ss/\0<=x.2/\x.2<=pO rs rs' P)/\Wk ss rs rs' (vj ss rs rs' P x.1 x.2) L R
def Vw(ss:List Str)(rs rs':List D)(P:D)(rk:D->Nat)(ks:List D)(k v:D):Prop:=(v=.ó/\k=P/\rk k=0)\/∃p z i,v=wyD p z i/\z>ss/\0<=i/\i<=pO rs rs' p/\k=vj ss rs rs' p z i/\p>ks/\rk k=rk p+1
def _qL{rk' W}(h:Wy ss rs rs' P rk W):(∀x>W.C (·.1),rk' x=rk x)->Wy ss rs rs' P rk' W:=by
 induction h with
 |one h=>show λhx=>.one (hx P (aB rfl)▸h)
 |@more W k p z i hW hk hp hz hi pq av hr ih=>
  intro hx;rw[Xg]at hx;show .more (ih λx h=>hx x (_ac _ h)) hk hp hz hi pq av ?_
  rwa [hx k (_ab _ (aB rfl)),hx p (_ac _ hp)]
def _qM{W}(h:Wy ss rs rs' P rk W):∀k>W.C (·.1),∃v,qw W k=@v/\Vw ss rs rs' P rk (W.C (·.1)) k v:=by
 induction h with
 | one h=>
  intro k hk;let hk:=aC hk;subst hk;show#[.ó,by simp[qw],.O #[rfl,rfl,h]]
 | @more W k p z i hW hk hp hz hi pq av hr ih=>
  intro x hx;rw[Xg]at hx ⊢;let hx\/hx:=aA hx
  .let#[v,b,c]:=ih x hx;show#[v,by rw[_qp,X7 hx,b],c.imp id ?_];rintro ⟨p',z',i',e,h0,h1,h2,h3,my,hr⟩;show#[p',z',i',e,h0,h1,h2,h3,_ac _ my,hr]
  .let hx:=aC hx;subst hx;show#[_,by rw[_qp,Xd hk,X7 rfl],.h #[p,z,i,rfl,hz,hi,pq,av,_ac _ hp,hr]]
def _qN{W}(h:Wy ss rs rs' P rk W):(∀k>W.C (·.1),D.pure k=true)->D.pures (W.C (·.2))=true:=by
 induction h with
 |one=>intro _;rfl
 |@more W k p z i hW hk hp _ hi _ _ _ ih=>
  intro my;rw[Xg,D.pures_all,List.all_append,<-D.pures_all,(ih λx hx=>my x (by rw[Xg];show List.mem_append.s (.O hx)))];change((D.pure p&&_)&&true)=true;rw[(my p (by rw[Xg];show List.mem_append.s (.O hp)))];rfl
def _qO{W k}(hW:Wy ss rs rs' P rk W)(hu:unm W=true)(hK:∀k>W.C (·.1),kj k=true/\D.pure k=true)(hl:rk k<=6000)(hk:k>W.C (·.1)):
  Oo m_steps_to [(.r,.dct W),(.r,k)] (λy=>∃L,y=(.rt,.S (L.C rwI))/\L.B=rk k/\Wk ss rs rs' P L k) noX:=by
 let hr:=_qM hW;let ui:=_qN hW λk hk=>(hK k hk).2
 let mq:∀x>W.C _,_lp (.dct W) x=qw W x:=λx hx=>X7 #[(hK x hx).1,hu,ui]
 let#[v,b,c]:=hr k hk;show kw ?_;simp![↓_qf,mq k hk,b,_qr b ui];show _nF (λn E=>∃(v x:D) (L:List _),E=[@_,@_,@(.rt,.S (L.C rwI)),@(.dp,v)]/\Vw ss rs rs' P rk (W.C (·.1)) x v/\n=rk x/\L.B+rk x=rk k/\Wk ss rs rs' x L.reverse k) ?_ _ _ #[v,k,[],rfl,c,rfl,by simp,rfl];rintro n E ⟨v,x,L,rfl,hv,rfl,hL,hx⟩;let#[rfl,rfl,h0]\/#[p,z,i,rfl,hz,h0,h1,h2,hp,qt]:=hv
 .simp![];rw[_qq .q];simp![];show#[L.reverse,by rw[List.map_reverse],by rw[List.length_reverse];omega,hx]
 .let#[v',b,c]:=hr p hp;simp![];show xz rfl ?_;simp![t1,t2];show#[_,rfl,by rw[X5];omega,?_];simp![↓_qf,t0,mq p hp,b,_qr b ui];show#[rk p,by omega,v',p,L++[(z,i)],by rw[Xg];rfl,c,rfl,by rw[Xi,Xv];omega,?_];rw[List.reverse_append];show#[#[hz,h0,h1],h2▸hx]
end
section
variable {a9 ab:List Int}{ss:List Str}{rs rs':List D}
def mxF(a9:List Int):Int:=a9.max?.p 0
def _qP{a9 p}(h:p>a9):p<=mxF a9:=by
 ext mxF;cases e:a9.max? with|none=>grind|some M=>show(List.max?_eq_some_iff.mp e).2 p h
def _qQ{S}(hk:Abk a9)(h0:1<=a9.B)(h:q9 a9 S):((nms S).B:Int)<=mxF a9:=by
 cases S with
 |none=>
  let:=_qP (Xm (l:=a9) (n:=0) .q);let:=(hk _ (Xm (n:=0) .q)).1;change 0<=_;lia
 |some x=>
  let#[a,b,c]:=h x.1 x.2 rfl;let hm:a9.p x.1.M 0>a9:=by rw[X6,X1 .q];show Xm _
  let:=_qP hm;change(x.2.B:Int)<=_;lia
def Nb(a9 ab:List Int)(S:Sn):Prop:=∀x>nms S,0<=x/\x<=mxF a9+mxF ab
def Sg(a9 ab:List Int)(ss:List Str)(w:List (Str×Int)):Prop:=∀x>w,x.1>ss/\0<=x.2/\x.2<=mxF a9+mxF ab
def _qR{a b x}(h:x>kY a b):x>a\/x>b:=by
 let h\/h:=aA h
 .show .O h
 .show .h (List.mem_filter.mp h).1
def _qS{a b}:(kY a b).B<=a.B+b.B:=by
 ext kY
 grind
def _qT{S z c}(hP:Prs a9 ss.B rs)(hk:Abk a9)(hS:q9 a9 S){l l'}(h:Nb l l' S)(hc:0<=c/\c<=mxF l+mxF l'):Nb l l' (rdF ss rs S z c):=λx hx=>by
 let h'\/rfl:=(_pR hP hk hS λ_ _ e=>e).2 x hx
 .show h x h'
 .show hc
inductive RwA (a9 ab:List Int)(ss:List Str)(rs rs':List D)(P:D)(L:Lw)(k:D):En->List D->Prop
 |mk (w:Lw) (L2:Lw) (Q:D) {l6:Option Sd} {l7:Option Sd} {l8:Option Sd} {l9:Option Sd} {ac:List D} (h0:ac=L2.C rwI) (h1:Two a9 ab (run ss rs (pS rs P) w) (run ss rs' (pT rs rs' P) w)) (h2:w.B+L2.B=L.B) (h3:Pok a9 ab Q) (h4:Rl rs rs' Q (run ss rs (pS rs P) w) (run ss rs' (pT rs rs' P) w)) (h5:Wk ss rs rs' Q L2 k) (h6:Sg a9 ab ss w) (h7:Nb a9 ab (run ss rs (pS rs P) w)/\Nb a9 ab (run ss rs' (pT rs rs' P) w)):RwA a9 ab ss rs rs' P L k [@(.r,jw ss rs),@(.r,jw ss rs'),@(.r,P),@(.r,.S (L.C rwI)),@(.r,lat (run ss rs (pS rs P) w,run ss rs' (pT rs rs' P) w)),@(.rt,.S (w.C rwI)),l6,l7,l8,l9] ac
#where in
def _qU{k P}(L)(h1:1<=a9.B)(ub:1<=ab.B)(hl:L.B<=6000)(hL:Wk ss rs rs' P L k)(hp:Pin a9 ab rs rs' P)(hP:Prs a9 ss.B rs)(hk:Abk a9)(bi:Prs ab ss.B rs')(aq:Abk ab):
  Oo m_parting_row [(.r,jw ss rs),(.r,jw ss rs'),(.r,P),(.r,.S (L.C rwI))] (λy=>∃w,y=(.rt,.S (w.C rwI))/\w.B=L.B/\Sg a9 ab ss w/\Rl rs rs' k (run ss rs (pS rs P) w) (run ss rs' (pT rs rs' P) w)) noX:=by
 let ms:=_qQ hk h1 hp.two.a;let mt:=_qQ aq ub hp.two.b;let#[_,_,_,_,u7]:=hp.rl;let hhl:=_qS (a:=nms (pS rs P)) (b:=nms (pT rs rs' P));let hpo:(U.hp rs rs' P).B=pO rs rs' P:=rfl;let ff:∀x>U.hp rs rs' P,0<=x/\x<=mxF a9+mxF ab:=λx hx=>by
  rw [u7]at hx;let:=mem_rngL.mp hx
  grind
 show kw ?_;simp![];show(_pG hP hk bi aq hp.ok).via ?_;intro y hy;subst hy;simp![];show wV (RwA a9 ab ss rs rs' P L k) ?_ ?_ ?_
 .simp![];show .mk [] L P rfl hp.two (by simp) hp.ok hp.rl hL (nofun) #[λx hx=>ff x (_p5 hx),λx hx=>ff x (_p6 hx)]
 .rintro E d ds ⟨w,L2,Q,bv,ht,mr,hQ,hR2,nj,hsg,sk,nr⟩;cases L2 with
  | nil=>cases bv
  | cons x L2=>
   injection bv with e1 e2;subst e1 e2;rw [Xn]at mr;let#[z,i]:=x;let#[#[hz,i0,i1],nj]:=nj;let af:=_p9 hR2;let rg:∀c,run ss rs (pS rs P) (w++[(z,c)])=rdF ss rs (run ss rs (pS rs P) w) z c/\run ss rs' (pT rs rs' P) (w++[(z,c)])=rdF ss rs' (run ss rs' (pT rs rs' P) w) z c:=λc=>#[run_snoc,run_snoc]
   generalize run ss rs (pS rs P) w=S at *;generalize run ss rs' (pT rs rs' P) w=T at *;let hS:=ht.a;let hT:=ht.b;let lS:=K4 hk hS;let lT:=K4 aq hT;let m1:=_qQ hk h1 hS;let m2:=_qQ aq ub hT;let hhl:=_qS (a:=nms S) (b:=nms T);generalize hR:j6 (jv 9 _) _=R;simp![];show(_oA S T .q .q).via ?_;intro y hy;subst hy;simp![];subst hR;show _o2 (λE=>∃(o9:Own) (c:Int),E=[@(.r,jw ss rs),@(.r,jw ss rs'),@(.r,P),@(.r,.S (L.C rwI)),@(.r,lat (S,T)),@(.rt,.S (w.C rwI)),@(.r,.x z),@(.r,.E i),@(.r,iT (kY (nms S) (nms T))),@(o9,.E c)]/\Lk (pO rs rs' Q) S T i c/\0<=c/\c<=mxF a9+mxF ab) ?_ ?_
   .by_cases hi:i<(kY (nms S) (nms T)).B
    .let hd:decide (i<((kY (nms S) (nms T)).B:Int))=true:=X8 hi;let hg:jW (iT (kY (nms S) (nms T))) (.E i)=@(.E ((kY (nms S) (nms T))[i.M]'⋯)):=_nu i0 (by rw[Xf,X1 .q];rfl);simp![hd,hg];show#[_,_,rfl,.O #[i0,.q,X1 .q],?_];let h\/h:=_qR (Xm (l:=kY (nms S) (nms T)) (n:=i.M) .q)
     .show sk _ h
     .show nr _ h
    .let hd:decide (i<((kY (nms S) (nms T)).B:Int))=false:=Xj hi;simp![hd];show(_qK _).via ?_;rintro y ⟨p,rfl,hp,on,hp1⟩;simp![];show#[_,_,rfl,.h #[.q,hp],on,.q]
   .rintro E ⟨o9,c,rfl,hlk,hc⟩;let#[r1,r2]:=J7 z c hP hk hS;let#[r1',r2']:=J7 z c bi aq hT;simp![];show xz rfl ?_;simp![];show#[_,rfl,by rw[X5];lia,?_];simp![];show(_oy (w:=(z,c)) r1 r1').via ?_;intro y hy;subst hy;let e7:(w++[(z,c)]).C rwI=w.C rwI++[rwI (z,c)]:=by rw[Xg];rfl
    change RwA a9 ab ss rs rs' P L k [@(.r,jw ss rs),@(.r,jw ss rs'),@(.r,P),@(.r,.S (L.C rwI)),@(.r,lat (rdF ss rs S z c,rdF ss rs' T z c)),@(.rt,.S (w.C rwI++[rwI (z,c)])),_,_,_,_] _;rw[<-(rg c).1,<-(rg c).2,<-e7];show .mk (w++[(z,c)]) L2 (vj ss rs rs' Q z i) rfl ?_ (by rw[Xi,Xv];lia) ?_ ?_ nj (λx hx=>?_) ?_
    .rw[(rg c).1,(rg c).2];show ht.next z c hP hk bi aq
    .show _pJ (J7 z i hP hk (_pE hP hk hQ)).2 (J7 z i bi aq (_pF bi aq hQ)).2 hk
    .rw[(rg c).1,(rg c).2];show _qb hP hk bi aq hQ ht hR2 hlk
    .let hx\/hx:=aA hx
     .show hsg x hx
     .rw[aC hx];show#[hz,hc]
    .rw[(rg c).1,(rg c).2];show#[_qT hP hk hS sk hc,_qT bi aq hT nr hc]
 .rintro E ⟨w,L2,Q,bv,ht,mr,hQ,hR2,nj,hsg,hn⟩;cases L2 with
  |cons=>cases bv
  |nil=>
   let nj:Q=k:=nj;subst nj;simp![];show#[w,rfl,~~~mr,hsg,hR2]
end
section
variable {a9 ab:List Int}{ss:List Str}{rs rs':List D}
structure Ws (a9 ab:List Int)(ss:List Str)(rs rs':List D)(P:D)(rk:D->Nat)(W:U.Kvs):Prop where
 wy:Wy ss rs rs' P rk W
 nd:(W.C (·.1)).V
 pin:∀k>W.C (·.1),Pin a9 ab rs rs' k
 all:∀k>W.C (·.1),k>P::AllQ
 srt:(W.C (·.1)).ñ λa b=>rk a<=rk b
def Ws.le{P rk W}(h:Ws a9 ab ss rs rs' P rk W):W.B<=5747:=by
 let:=_od h.nd h.all;rw[X5,Xn,_qx]at this;show this
def Ws.unm{P rk W}(h:Ws a9 ab ss rs rs' P rk W):unm W=true:=by
 cases W with
 |nil=>rfl
 |cons e W=>
  let#[k,v]:=e;let#[p,q,sh,rfl,_]:=(h.pin k X3).ok;rfl
def _qV{P rk W}(h:Wy ss rs rs' P rk W):∀k>W.C (·.1),rk k<W.B:=by
 induction h with
 | one h=>
  intro k hk;rw[aC hk];change rk P<1;lia
 | @more W k p z i hW hk hp hz hi pq av hr ih=>
  intro x hx;rw[Xg]at hx;rw[Xi,Xv];let hx\/hx:=aA hx
  .let:=ih x hx;lia
  .let hx:=aC hx;let:=ih p hp;lia
def upd(rk:D->Nat)(k:D)(n:Nat):D->Nat:=λx=>if x=k then n else rk x
def _qW{rk k n}:upd rk k n k=n:=X7 rfl
def _qX{rk k x n}(h:x≠k):upd rk k n x=rk x:=Xd h
def Ws.more{P k p z}{i:Int}{rk W}(h:Ws a9 ab ss rs rs' P rk W)(hk:k∉W.C (·.1))(hp:p>W.C (·.1))(hz:z>ss)(h0:0<=i)(h1:i<=pO rs rs' p)(av:k=vj ss rs rs' p z i)(lc:Pin a9 ab rs rs' k)(ny:k>AllQ)(hm:∀x>W.C (·.1),rk x<=rk p+1):Ws a9 ab ss rs rs' P (upd rk k (rk p+1)) (W++[(k,wyD p z i)]):=by
 let ho:∀x>W.C _,upd rk k (rk p+1) x=rk x:=λx hx=>_qX λe=>hk (e▸hx)
 show#[.more (_qL h.wy ho) hk hp hz h0 h1 av (by rw[_qW,ho p hp]),?_,λx hx=>?_,λx hx=>?_,?_]
 .rw[Xg];show List.nodup_append.s #[h.nd,by simp,λa ha b hb e=>?_];let hb:b=k:=aC hb;rw[hb]at e;show hk (e▸ha)
 .rw[Xg]at hx;let hx\/hx:=aA hx
  .show h.pin x hx
  .rw[aC hx];show lc
 .rw[Xg]at hx;let hx\/hx:=aA hx
  .show h.all x hx
  .rw[aC hx];show _ad _ ny
 .rw[Xg];show List.pairwise_append.s #[h.srt.imp_of_mem λha hb hr=>by rw[ho _ ha,ho _ hb];show hr,List.pairwise_singleton _ _,λa ha b hb=>?_];let hb:b=k:=aC hb;rw[hb,_qW,ho a ha];show hm a ha
def _qY(a9 ab:List Int)(ss:List Str)(rs rs':List D)(P d:D):Prop:=
 (∃w:List (Str×Int),d=.X [.x "apart",.S (w.C rwI)]/\w.B<=6000/\Sg a9 ab ss w/\¬gp ss rs rs' (pS rs P) (pT rs rs' P) w/\∀u:List (Str×Int),(∀x>u,x.1>ss)->u.B<w.B->gp ss rs rs' (pS rs P) (pT rs rs' P) u) \/
 (∃(K:List D) (rk:D->Nat),d=.X [.x "alike",.S K]/\K.B<=6000/\K.V/\P>K/\∀p>K,Pin a9 ab rs rs' p/\Dn ss rs rs' K rk p)
inductive SrA (a9 ab:List Int)(ss:List Str)(rs rs':List D)(P:D):Nat->En->Prop
 |mk (W:U.Kvs) (rk:D->Nat) (i:Nat) {o5:Own} {l6:Option Sd} {l7:Option Sd} {l8:Option Sd} {l9:Option Sd} {n:Nat} (h0:Ws a9 ab ss rs rs' P rk W) (h1:n=6000 - i) (h2:P>W.C (·.1)/\rk P=0) (h3:∀p>(W.C (·.1)).take i,Dn ss rs rs' (W.C (·.1)) rk p) (h4:∀k,(W.C (·.1))[i]?=@k->∀x>W.C (·.1),rk x<=rk k+1):SrA a9 ab ss rs rs' P n [@(.r,jw ss rs),@(.r,jw ss rs'),@(.r,P),@(.rt,.dct W),@(.rt,.S (W.C (·.1))),@(o5,.E i),l6,l7,l8,l9]
inductive SrB (a9 ab:List Int)(ss:List Str)(rs rs':List D)(P:D)(W:U.Kvs)(rk:D->Nat)(i:Nat)(k:D):En->List D->Prop
 |mk (W2:U.Kvs) (lv:D->Nat) (A:St3) (L:St3) {o5:Own} {o6:Own} {l7:Option Sd} {l8:Option Sd} {l9:Option Sd} {ac:List D} (h0:Ws a9 ab ss rs rs' P lv W2) (h1:(∃V,W2=W++V)) (h2:ac=L.C stD) (h3:Stp ss rs rs' k L) (h4:(∀x>A,x>L\/x.2.2>W2.C (·.1))) (h5:∀z>ss,∀i:Int,0<=i->i<=pO rs rs' k->(z,i,vj ss rs rs' k z i)>A) (h6:∀x>W.C (·.1),lv x=rk x) (h7:∀x>W2.C (·.1),lv x<=rk k+1):SrB a9 ab ss rs rs' P W rk i k [@(.r,jw ss rs),@(.r,jw ss rs'),@(.r,P),@(.rt,.dct W2),@(.rt,.S (W2.C (·.1))),@(o5,.E i),@(o6,k),l7,l8,l9] ac
#where in
def _qZ{P}(hs:ss.B<=3)(gl:a9.B<=12)(nv:ab.B<=12)(h1:1<=a9.B)(ub:1<=ab.B)(hP:Prs a9 ss.B rs)(hk:Abk a9)(bi:Prs ab ss.B rs')(aq:Abk ab)(h:Pin a9 ab rs rs' P):
  Oo m_searched [(.r,jw ss rs),(.r,jw ss rs'),(.r,P)] (λy=>∃d,y=(.r,d)/\_qY a9 ab ss rs rs' P d) noX:=by
 show kw ?_;simp![↓_nN];show⟨(xX h).1,?_⟩;let av:Ws a9 ab ss rs rs' P (λ_=>0) [(P,.ó)]:=⟨.one rfl,by simp,λk hk=>by rw[aC hk];show h,λk hk=>by rw[aC hk];show X3,List.pairwise_singleton _ _⟩;show _nF (SrA a9 ab ss rs rs' P) ?_ 6000 _ ⟨[(P,.ó)],_,0,av,rfl,⟨aB rfl,rfl⟩,λp hp=>(nomatch hp),λ_ _ _ _=>Y9 _⟩;rintro n E ⟨W,rk,i,hW,rfl,⟨hP0,hr0⟩,hD,hM0⟩;let hWl:=hW.le
 by_cases bf:i<W.B
 rotate_left
 .let hd:decide ((i)<(W.B:Int))=false:=Xj .q;simp![hd];rw [List.take_of_length_le (by rw[X5];lia)]at hD;show⟨_,rfl,.h ⟨_,rk,rfl,by rw[X5];lia,hW.nd,hP0,λp hp=>⟨hW.pin p hp,hD p hp⟩⟩⟩
 let hd:decide ((i)<(W.B:Int))=true:=X8 .q;obtain⟨k,uv,mq,uh⟩:∃k>W.C (·.1),jW (.S (W.C (·.1))) (.E i)=@k/\(W.C (·.1))[i]?=@k:=by
  let hl:i<(W.C (·.1)).B:=by rw[X5];show bf
  show⟨(W.C (·.1))[i],Xm hl,x4 .q (by rw[Xu];show X1 hl),X1 hl⟩
 let ji:=hW.pin k uv;let hag:Oo B.m_agrees [(.r,jw ss rs),(.r,jw ss rs'),(.r,k)] (λy=>∃o',y=(o',.bl (gS rs k==gT rs' k))/\True) noX:=by
  let#[p,q,sh,rfl,a0,a1,b0,b1,_]:=ji.ok;show _oZ (Kw hP hk a0 a1).2.1 (Kw bi aq b0 b1).2.1
 generalize hR:j6 (v5 _ _ _) _=R;simp![hd,mq];show hag.via ?_;rintro y ⟨o',rfl,_⟩;cases hb:(gS rs k==gT rs' k)with
 | false=>
  let qo:=_qV hW.wy k uv;simp![];show(_qO hW.wy hW.unm (λx hx=>xX (hW.pin x hx)) .q uv).via ?_;rintro y ⟨L,rfl,hl,hL⟩;simp![];show(_qU L h1 ub .q hL h hP hk bi aq).via ?_;rintro y ⟨w,rfl,hwl,hsg,hw⟩;simp![];show#[_,rfl,.O #[w,rfl,.q,hsg,λe=>?_,λu hu hul=>?_]]
  .let#[g1,g2]:=_qd ji.ok hw;unfold gp at e
   grind
  .show _qF (n:=rk k) (rk:=rk) (K:=W.C (·.1)) hP hk bi aq (λp hp=>(hW.pin p hp).ok) (λp hp bf=>hD p ?_) u hu hP0 .q h.two h.rl;let#[j,hj,e]:=Yg hp
   by_cases hji:j<i
   .show List.mem_take_iff_getElem.s #[j,.q,e]
   .exfalso;let#[jh,ek]:=aF uh
    by_cases lm:i=j
    .subst lm;rw[e]at ek
     grind
    .let:=List.pairwise_iff_getElem.mp hW.srt i j jh hj .q;rw[ek,e]at this;lia
 | true=>
  let hgk:gS rs k=gT rs' k:= ~~~hb
  simp![];subst hR;simp![];show wV (SrB a9 ab ss rs rs' P W rk i k) ?_ ?_ ?_
  .simp![];show(_qJ hs hP hk bi aq ji.ok).via ?_;rintro y ⟨L,rfl,hL,hM⟩;simp![];show#[W,rk,L,L,hW,#[[],by simp],rfl,hL,λx hx=>.O hx,hM,λ_ _=>rfl,(hM0 k uh)]
  .rintro E d ds ⟨W2,lv,A,L,hW2,⟨V,rfl⟩,bv,hL,hA,hM,oq,sf⟩;cases L with
   | nil=>cases bv
   | cons x L=>
    rw [List.Z]at bv;injection bv with e1 e2;subst e1 e2;let#[z,c,d]:=x;let#[hz,c0,c1,hd]:=hL (z,c,d) X3;let hz:z>ss:=hz;let c0:0<=c:=c0;let c1:c<=pO rs rs' k:=c1;let hd:d=vj ss rs rs' k z c:=hd;let vl:=ji.two.next (ss:=ss) (rs:=rs) (rs':=rs') z c hP hk bi aq
    let mf:Pin a9 ab rs rs' d:=hd▸_qD hP hk bi aq vl;let hda:d>AllQ:=hd▸_qE gl nv hk aq vl;let hkW2:k>(W++V).C (·.1):=by rw[Xg];show _ac _ uv
    let yt:Stp ss rs rs' k L:=λx hx=>hL x (_ad (z,c,d) hx)
    let hWl:=hW2.le;let hn:=_nR (xX mf).1 hW2.unm
    by_cases hm:d>(W++V).C (·.1)
    .rw[X8 hm]at hn;simp![hn];show#[W++V,lv,A,L,hW2,#[V,rfl],rfl,yt,λx hx=>?_,hM,oq,sf];let q\/q:=hA x hx
     .let q\/q:=aD q
      .show .h (q▸hm)
      .show .O q
     .show .h q
    .rw[Xj hm]at hn;simp![hn];show _nP ?_;simp![];show#[#[W++V,rfl],W++V,rfl,(xX mf).1,#[.q,hW2.unm],?_];rw[show W4 (W++V) d (.X [k,.x z,.E c])=(W++V)++[(d,wyD k z c)]from Xd hm];simp![];show xz rfl ?_;simp![];let e4:((W++V)++[(d,wyD k z c)]).C (·.1)=(W++V).C (·.1)++[d]:=by rw[Xg (l₁:=W++V)];rfl
     show#[_,rfl,by rw[X5];lia,?_];rw[<-e4];let qt:lv k=rk k:=oq k uv;let ho:∀x>(W++V).C (·.1),upd lv d (lv k+1) x=lv x:=λx hx=>_qX λe=>hm (e▸hx)
     show .mk ((W++V)++[(d,wyD k z c)]) (upd lv d (lv k+1)) A L (hW2.more hm hkW2 hz c0 c1 hd mf hda (qt▸sf)) #[V++[(d,wyD k z c)],by simp] rfl yt (λx hx=>?_) hM (λx hx=>?_) λx hx=>?_
     .rw[Xg (l₁:=W++V)];let q\/q:=hA x hx
      .let q\/q:=aD q
       .show .h (_ab _ (q▸aB rfl))
       .show .O q
      .show .h (_ac _ q)
     .rw[ho x (Xg▸_ac _ hx)];show oq x hx
     .rw[e4]at hx;let hx\/hx:=aA hx
      .rw[ho x hx];show sf x hx
      .rw[aC hx,_qW,qt];show Xb _
  .rintro E ⟨W2,lv,A,L,hW2,⟨V,rfl⟩,bv,hL,hA,hM,oq,sf⟩;cases L with
   | cons=>cases bv
   | nil=>
   simp![];show _nW rfl ?_;simp![];let bw:∀d>W.C (·.1),d>(W++V).C (·.1):=λd hd=>by rw[Xg];show _ac _ hd
   let qt:lv k=rk k:=oq k uv;let hki:((W++V).C (·.1))[i]?=@k:=by rw[Xg,Xw (by rw[X5];lia)];show uh
   show#[_,rfl,6000 - (i+1),.q,W++V,lv,i+1,hW2,rfl,#[bw _ hP0,by rw[oq P hP0];show hr0],λp hp=>?_,λk' aq x hx=>?_]
   .let ym:((W++V).C (·.1)).take (i+1)=(W.C (·.1)).take i++[k]:=by
     rw[Xg,List.take_append_of_le_length (by rw[X5];lia),List.take_add_one,uh];rfl
    rw[ym]at hp;let hp\/hp:=aA hp
    .let#[d1,d2]:=hD p hp;show#[d1,λz hz j j0 j1=>?_];let#[g1,g2]:=d2 z hz j j0 j1;show#[bw _ g1,by rw[oq _ g1,oq p (List.mem_of_mem_take hp)];show g2]
    .rw[aC hp];show#[hgk,λz hz j j0 j1=>?_];let q\/q:=hA _ (hM z hz j j0 j1)
     .grind
     .show#[q,by rw[qt];show sf _ q]
   .let#[a1,a2]:=aF hki;let#[b1,b2]:=aF aq;let:=List.pairwise_iff_getElem.mp hW2.srt i (i+1) a1 b1 .q;rw[a2,b2]at this;let:=sf x hx;lia
def m_compared:Fn:=fn 3
  (j6 (sIf (tE (cF2 (pu2 fNe) (j8 (vV 0) (C9 0)) (j8 (vV 1) (C9 0)))) _ha qz)
  (j6 (sIf (tOr (tNot (tEQ (vE (jx J.m_is_small [(cV 0)])))) (tNot (tEQ (vE (jx J.m_is_small [(cV 1)]))))) _ha qz)
  (jz (jx m_searched [(cV 0),(cV 1),(cIf (tE (cF2 (f2First fIsNon) (vV 2) (vE (cC .ó)))) (cC (.X [(.E 0),(.E 0),(.X [])])) (cV 2))]))))
def _q0{P d}(hs:ss.B<=3)(gl:a9.B<=12)(nv:ab.B<=12)(h1:1<=a9.B)(ub:1<=ab.B)(hP:Prs a9 ss.B rs)(hk:Abk a9)(bi:Prs ab ss.B rs')(aq:Abk ab)(h:Pin a9 ab rs rs' P)(hd:(d=.ó/\P=P0)\/d=P):
  Oo Y.m_compared [(.r,jw ss rs),(.r,jw ss rs'),(.r,d)] (λy=>∃d,y=(.r,d)/\_qY a9 ab ss rs rs' P d) noX:=by
 let q0:∀a b,jW (.X [a,b]) (.E 0)=@a:=λ_ _=>rfl
 let bc:fNe _ (sL ss)=@_:=_oc (x3 λd hd=>by let#[w,_,rfl]:=aE hd;rfl);let kt:=J.small_is (d0:=sL ss) (_pN hP);let dw:=J.small_is (d0:=sL ss) (_pN bi);rw[_pO hP hk .q]at kt;rw[_pO bi aq .q]at dw;show kw ?_;simp![q0,bc];show kt.any.use ?_;intro _ _;simp![];show dw.any.use ?_;intro _ _;let#[rfl,rfl]\/rfl:=hd
 .simp![];show(_qZ hs gl nv h1 ub hP hk bi aq h).via ?_;rintro y ⟨d,rfl,h⟩;show#[d,rfl,h]
 .let hsr:=_qZ hs gl nv h1 ub hP hk bi aq h;let#[p,q,sh,rfl,_]:=h.ok;simp![];show hsr.via ?_;rintro y ⟨d,rfl,h⟩;show#[d,rfl,h]
end
def neb(a b):fNe (.bl a) (.bl b)=@(.bl (a != b)):=by cases a<;>cases b<;>rfl
section
variable {a9 ab:List Int}{ss:List Str}{rs rs':List D}
def _q1{S}(hP:Prs a9 ss.B rs)(hk:Abk a9)(h:q9 a9 S):Gdr rs (rmO S) (gdF rs (rmO S)):=by
 let#[a,b]:=_pr h;show(Kw hP hk a b).2.1
end
section
variable {a9 ab:List Int}{ss:List Str}{rs rs':List D}
def _pA(hP:Prs a9 ss.B rs):rs.C W8=a9:=by
 show List.ext_getElem (by rw[X5];show hP.1) λi h1 h2=>?_
 let#[r,e,gd,st,rfl,_]:=hP.2 i h2;let#[_,e]:=aF e;rw[List.getElem_map,e,X6,X1 h2];rfl
end
end Y
namespace Nk51
open PySem Q
def m_is_small : Fn:= J.m_is_small
def m_read_by : Fn:= C.m_read_by
def m_keepers_in : Fn:= B.m_keepers_in
def m_standing_in : Fn:= B.m_standing_in
def m_first_standings : Fn:= B.m_first_standings
def m_names_of : Fn:= B.m_names_of
def m_held_by_both : Fn:= B.m_held_by_both
def m_room_of : Fn:= B.m_room_of
def m_pair_of : Fn:= B.m_pair_of
def m_read_by_both : Fn:= B.m_read_by_both
def m_steps_from : Fn:= U.m_steps_from
def _q2:Fn:=fn 3
  (jz (cF1 ZZ (vE (cLC .rt 1 [] (itS (jx m_steps_from [(cV 0),(cV 1),(cV 2)])) (.n 0) tYes (cH (j8 (vV 0) (C9 2)))))))
def m_is_good_in : Fn:= B.m_is_good_in
def m_agrees : Fn:= B.m_agrees
def _q3:Fn:=fn 3
  (jz (kW .r [(cV 0),(cV 0),(cF1 xJ (vE (cLC .rt 1 [2] (v9 (vV 1)) (.n 0) (tE (cF2 (pu2 fNe) (vV 0) (vV 1))) (kW .r [(cV 0),(cV 0)]))))]))
def _q4:Fn:=fn 3
  (jz (cLC .dp 1 [0,1,2] (v9 (vV 1)) (.n 0) (tE (cF2 (pu2 V3) (vE (jx _q3 [(cV 1),(cV 2),(cV 0)])) (vV 3))) (cV 0)))
def _q5:Fn:=fn 2
  (jz (cLC .dp 2 [1] (xqc (cH (j8 (vV 0) (C9 1)))) (.t [0,1]) tYes (_ht (jx _q4 [(cV 0),(cH (j8 (vV 1) (C9 0))),(cV 2)]))))
def _q6:Fn:=fn 6
  (j6 (jv 2 (cDW (cLC .dp 1 [] (itS (cV 1)) (.n 0) tYes (kW .dp [(cV 0),(vz .dp [])]))))
  (j6 (jv 3 (cF1 ZV (vV 2)))
  (j6 (zY (tEQ (vV 3)) (j6 (jv 4 (XX 3))
  (v5 (itS (jx _q2 [(cV 0),(cV 0),(cV 4)])) (.n 5) (j6 (sIf (tE (cF2 (pu2 Q0) (vV 5) (vV 2))) (j6 (_hs 2 (vV 5) (vz .rt []))
  (vq vk 3 (cV 5))) qz)
  (sDA 2 5 (cV 4))))))
  (jz (cMv 2)))))
def _q7:Fn:=fn 7
  (j6 (jv 2 (jx _q6 [(cV 0),(cV 1)]))
  (j6 (jv 3 (cLC .rt 1 [0] (xqb 2) (.n 0) (tNot (tEQ (vE (jx m_agrees [(cV 1),(cV 1),(cV 0)])))) (cV 0)))
  (j6 (jv 4 (cDW (cLC .dp 1 [] (itV 3) (.n 0) tYes (kW .dp [(cV 0),(cC (.bl true))]))))
  (j6 (zY (tEQ (vV 3)) (j6 (jv 5 (XX 3))
  (v5 (itS (cH (_nf (vE (cV 2)) (vV 5)))) (.n 6) (sIf (tE (cF2 (pu2 Q0) (vV 6) (vV 4))) (j6 (_hs 4 (vV 6) (cC (.bl true)))
  (vq vk 3 (cV 6))) qz))))
  (jz (cMv 4))))))
def _q8:Fn:=fn 4
  (j6 (jv 1 (vz .rt []))
  (j6 (v5 (xqc (cH (j8 (vV 0) (C9 1)))) (.t [2,3]) (_lm 1 (cLC .rt 1 [2,3] (v9 (j8 (vV 3) (C9 0))) (.n 0) tYes (jx _q3 [(cV 1),(cH (j8 (vV 2) (C9 0))),(cV 0)]))))
  (jz (cMv 1))))
def _q9:Fn:=fn 1
  (j6 (sIf (tNot (tEQ (vE (jx m_is_small [(cV 0)])))) _ha qz)
  (jz (jx _q5 [(cV 0),(jx _q7 [(cV 0),(jx _q8 [(cV 0)])])])))
def m_least_beside : Fn:= U.m_least_beside
def m_parting_row : Fn:= U.m_parting_row
def m_steps_to : Fn:= U.m_steps_to
def m_searched : Fn:= U.m_searched
def m_compared:Fn:=fn 3
  (j6 (sIf (tE (cF2 (pu2 fNe) (j8 (vV 0) (C9 0)) (j8 (vV 1) (C9 0)))) _ha qz)
  (j6 (sIf (tOr (tNot (tEQ (vE (jx m_is_small [(cV 0)])))) (tNot (tEQ (vE (jx m_is_small [(cV 1)]))))) _ha qz)
  (jz (jx m_searched [(cV 0),(cV 1),(cIf (tE (cF2 (f2First fIsNon) (vV 2) (vE (cC .ó)))) (cC (.X [(.E 0),(.E 0),(.X [])])) (cV 2))]))))
def m__law_cell_at : Fn:= B.m__law_cell_at
def _ra:Fn:=fn 3
  (j6 (jv 2 (cF2 (pu2 vx) (vE (cF2 qv (vE (cF2 qv (vE (cF2 xK (vE (cF2 (pu2 vx) (vV 0) (C9 2147483647))) (C9 48271))) (vE (cF2 xK (vE (cF2 xK (vV 1) (vV 1))) (C9 69621))))) (C9 7919))) (C9 2147483647)))
  (jz (cF2 (pu2 vx) (vE (cF2 qv (vE (cF2 qv (vE (cF2 xK (vV 2) (vV 2))) (vE (cF2 xK (C9 16807) (vV 2))))) (vV 1))) (C9 2147483629))))
def _rb:Fn:=fn 3
  (j6 (sIf (tE (cF2 (pu2 fEq) (vE (cF2 (pu2 vx) (vV 0) (C9 2))) (C9 1))) (jz (cF2 (pu2 z7) (vE (cF2 (pu2 z7) (vV 0) (C9 2))) (j8 (vE (vz .rt [(cC (.E 1)),(cF2 (pu2 _dI) (C9 10) (C9 12)),(cF2 (pu2 _dI) (C9 10) (C9 24))])) (vV 2)))) qz)
  (jz (jx _ra [(cV 0),(cF2 qv (vV 1) (vE (cF2 xK (C9 500) (vV 2))))])))
def _rc:Fn:=fn 5
  (j6 (jv 2 (vz .rt []))
  (j6 (jv 3 (cF2 (pu2 z7) (vV 0) (C9 2)))
  (j6 (v5 (v9 (vV 1)) (.n 4) (sIf (tE (cF2 (pu2 fEq) (vE (cF2 (pu2 vx) (vV 0) (C9 2))) (C9 1))) (j6 (vq vk 2 (cF2 (pu2 vx) (vV 3) (C9 1000000007)))
  (jv 3 (cF2 (pu2 z7) (vV 3) (C9 1000000007)))) (vq vk 2 (jx _ra [(cV 3),(cV 4)]))))
  (jz (cMv 2)))))
def _rd:Fn:=fn 10
  (j6 (jv 1 (cC (.x "abcdefghijklmnopqrstuvwxyz")))
  (j6 (jv 2 (cF2 qv (C9 1) (vE (cF2 (pu2 vx) (vV 0) (C9 8)))))
  (j6 (jv 3 (cF2 (pu2 vx) (vE (cF2 (pu2 z7) (vV 0) (C9 8))) (vV 2)))
  (j6 (jv 4 (cF2 (pu2 z7) (vV 0) (C9 128)))
  (j6 (jv 5 (vz .rt []))
  (j6 (v5 (v9 (vV 2)) (.n 6) (j6 (vq vk 5 (cF2 (pu2 vx) (vV 4) (C9 26)))
  (jv 4 (cF2 (pu2 z7) (vV 4) (C9 26)))))
  (j6 (jv 7 (vz .rt []))
  (j6 (v5 (v9 (vE (cF2 qv (C9 1) (vE (cF2 (pu2 vx) (vE (cF2 (pu2 z7) (vV 0) (C9 64))) (C9 2)))))) (.n 8) (j6 (jv 9 (cLC .rt 1 [1,5,8,3,4] (v9 (vV 2)) (.n 0) tYes (cH (j8 (vV 1) (vE (cF2 (pu2 vx) (vE (cF2 qv (j8 (vV 2) (vV 0)) (vE (cF2 xK (vE (cF2 xK (vV 3) (vE (cF1 (pu1 _dT) (vE (cF2 (pu2 fEq) (vV 0) (vV 4))))))) (vE (cF2 qv (C9 1) (vE (cF2 (pu2 vx) (vV 5) (C9 25))))))))) (C9 26)))))))
  (vq vk 7 (_hp "" (vV 9)))))
  (jz (cF1 _hc (vV 7)))))))))))
def _re:Fn:=fn 11
  (j6 (sIf (tE (cF2 (pu2 fEq) (vE (cF2 (pu2 vx) (vV 0) (C9 6))) (C9 0))) (jz (cC .ó)) qz)
  (j6 (jv 4 (cF2 qv (j8 (vV 1) (vV 2)) (vE (cF1 (pu1 _dT) (vE (cF2 (pu2 fEq) (vV 3) (j8 (vV 1) (vV 2))))))))
  (j6 (jv 5 (cLC .rt 1 [1,4] (v9 (vE (cF1 (pu1 v6) (vV 1)))) (.n 0) (tE (cF2 (pu2 fLe) (j8 (vV 1) (vV 0)) (vV 2))) (cV 0)))
  (j6 (jv 6 (cH (j8 (vV 5) (vE (cF2 (pu2 vx) (vE (cF2 (pu2 vx) (vE (cF2 (pu2 z7) (vV 0) (C9 6))) (C9 60))) (vE (cF1 (pu1 v6) (vV 5))))))))
  (j6 (jv 7 (WZ (vV 4)))
  (j6 (jv 8 (vz .rt []))
  (j6 (jv 9 (cF2 (pu2 z7) (vV 0) (C9 360)))
  (j6 (v5 (v9 (j8 (vV 1) (vV 6))) (.n 10) (j6 (vq vk 8 (_he 7 (vE (cF2 (pu2 vx) (vV 9) (vE (cF1 (pu1 v6) (vV 7)))))))
  (jv 9 (cF2 (pu2 z7) (vV 9) (C9 7)))))
  (jz (kW .r [(cV 6),(cF1 xJ (vV 8))]))))))))))
def _rf:Fn:=fn 11
  (j6 (jv 1 (jx _rd [(jx m__law_cell_at [(cV 0),(cC (.E 0))])]))
  (j6 (jv 2 (jx _rc [(jx m__law_cell_at [(cV 0),(cC (.E 1))]),(cC (.E 9))]))
  (j6 (jv 3 (cLC .rt 1 [2] (v9 (vE (cF2 qv (C9 1) (vE (cF2 (pu2 vx) (j8 (vV 2) (C9 0)) (C9 4)))))) (.n 0) tYes (cF2 (pu2 vx) (j8 (vV 1) (vE (cF2 qv (C9 1) (vV 0)))) (vE (cF2 qv (vE (cF2 (pu2 _dV) (vV 0) (C9 2))) (C9 1))))))
  (j6 (jv 4 (vz .rt []))
  (j6 (jv 5 (cC (.E 0)))
  (j6 (v5 (v9 (vE (cF1 (pu1 v6) (vV 3)))) (.n 6) (j6 (jv 7 (vz .rt []))
  (j6 (v5 (itS (cV 1)) (.n 8) (j6 (jv 9 (vz .rt []))
  (j6 (v5 (v9 (vE (cF2 qv (j8 (vV 3) (vV 6)) (C9 1)))) (.n 10) (j6 (vq vk 9 (jx _re [(jx _rb [(jx m__law_cell_at [(cV 0),(cF2 qv (C9 2) (vV 5))]),(cV 5),(cC (.E 0))]),(cV 3),(cV 6),(cV 10)]))
  (jv 5 (cF2 qv (vV 5) (C9 1)))))
  (vq vk 7 (cV 9)))))
  (vq vk 4 (kW .r [(cH (j8 (vV 3) (vV 6))),(cF2 (pu2 fEq) (vE (cF2 (pu2 vx) (j8 (vV 2) (vE (cF2 qv (C9 5) (vV 6)))) (C9 2))) (C9 1)),(cV 7)])))))
  (jz (kW .r [(cV 1),(cV 4)]))))))))
def _rg:Fn:=fn 9
  (j6 (sIf (tOr (tE (cF2 (f2First fIsNon) (vV 1) (vE (cC .ó)))) (tE (cF2 (pu2 Kq) (vV 2) (j8 (vV 0) (C9 0))))) (jz (cC .ó)) qz)
  (j6 (_dK [4,5] (cV 1))
  (j6 (jv 6 (cF1 (pu1 v6) (vV 5)))
  (j6 (sIf (tE (cF2 (pu2 x8) (vV 3) (vV 5))) (jv 6 (QZ (vV 5) (vV 3))) qz)
  (j6 (jv 7 (cH (j8 (j8 (j8 (j8 (j8 (vV 0) (C9 1)) (vV 4)) (C9 2)) (vE (QZ (j8 (vV 0) (C9 0)) (vV 2)))) (vV 6))))
  (j6 (sIf (tE (cF2 (f2First fIsNon) (vV 7) (vE (cC .ó)))) (jz (cC .ó)) qz)
  (j6 (jv 8 (cF2 qv (vV 5) (vE (kW .r [(cV 3)]))))
  (jz (kW .r [(cH (j8 (vV 7) (C9 0))),(cF1 xJ (vE (cLC .rt 1 [8] (itS (cH (j8 (vV 7) (C9 1)))) (.n 0) tYes (cH (j8 (vV 1) (vV 0))))))])))))))))
def _rh:Fn:=fn 5
  (j6 (v5 (itS (cV 2)) (.t [3,4]) (jv 1 (jx _rg [(cV 0),(cV 1),(cV 3),(cV 4)])))
  (jz (W7 (vE (cF2 (f2First fNotNon) (vV 1) (vE (cC .ó)))) (cH (j8 (j8 (j8 (vV 0) (C9 1)) (j8 (vV 1) (C9 0))) (C9 1))))))
def _ri:Fn:=fn 3
  (j6 (sIf (tNot (tEQ (vE (cF1 (pu1 (wZ "list")) (vV 0))))) (jz (cC (.bl false))) qz)
  (j6 (v5 (itS (cV 0)) (.n 2) (j6 (sIf (tOr (tNot (tEQ (vE (cF1 (pu1 (wZ "tuple")) (vV 2))))) (tOr (tE (cF2 (pu2 fNe) (vE (cF1 (pu1 v6) (vV 2))) (C9 2))) (tNot (tEQ (vE (cF1 (pu1 (wZ "str")) (j8 (vV 2) (C9 0)))))))) (jz (cC (.bl false))) qz)
  (sIf (tOr (tNot (tEQ (vE (cF1 (pu1 (wZ "int")) (j8 (vV 2) (C9 1)))))) (tOr (tEQ (vE (cF1 (pu1 (wZ "bool")) (j8 (vV 2) (C9 1))))) (tNot (tE (_hg fLe fLe (C9 0) (j8 (vV 2) (C9 1)) (vV 1)))))) (jz (cC (.bl false))) qz)))
  (jz (cC (.bl true)))))
def _rj:Fn:=fn 10
  (j6 (jv 5 (cH (j8 (j8 (j8 (vV 0) (C9 1)) (vV 1)) (C9 0))))
  (j6 (jv 6 (cF1 xJ (vE (cLC .rt 1 [2] (v9 (vV 5)) (.n 0) (tE (cF2 (pu2 fNe) (vV 0) (vV 1))) (kW .r [(cV 0),(cV 0)])))))
  (j6 (jv 7 (jx m_compared [(cV 0),(cV 0),(kW .r [(cV 1),(cV 1),(cV 6)])]))
  (j6 (sIf (tNot (tEQ (vV 3))) (jz (cF2 (pu2 fEq) (j8 (vV 7) (C9 0)) (vE (cC (.x "alike"))))) qz)
  (j6 (sIf (tOr (tE (cF2 (pu2 fNe) (j8 (vV 7) (C9 0)) (vE (cC (.x "apart"))))) (tNot (tEQ (vE (jx _ri [(cH (j8 (vV 7) (C9 1))),(cF2 xK (C9 2) (vV 4))]))))) (jz (cC (.bl false))) qz)
  (j6 (jv 8 (kW .r [(cV 1),(_hu (vV 5))]))
  (j6 (jv 9 (kW .r [(cV 1),(cF1 xJ (vE (cLC .rt 1 [2,5] (v9 (vV 5)) (.n 0) tYes (cIf (tE (cF2 (pu2 fNe) (vV 0) (vV 1))) (cV 0) (cV 2)))))]))
  (jz (cF2 (pu2 fNe) (vE (jx _rh [(cV 0),(cV 8),(cH (j8 (vV 7) (C9 1)))])) (vE (jx _rh [(cV 0),(cV 9),(cH (j8 (vV 7) (C9 1)))])))))))))))
def _rk:Fn:=fn 2
  (j6 (jv 1 (cLC .rt 3 [] (itS (cH (j8 (vV 0) (C9 1)))) (.t [0,1,2]) tYes (kW .r [(cV 0),(cV 1),(cLC .rt 1 [] (itS (cV 2)) (.n 0) tYes (cF1 _dU (vV 0)))])))
  (jz (kW .r [(cF1 _dU (j8 (vV 0) (C9 0))),(cV 1)])))
def m_law:Fn:=fn 8
  (j6 (jv 1 (jx _rf [(cV 0)]))
  (j6 (jv 2 (jx _rk [(cV 1)]))
  (j6 (jv 3 (jx _q9 [(cV 2)]))
  (j6 (sIf (tOr (tNot (tEQ (vE (cF1 (pu1 (wZ "list")) (vV 3))))) (tOr (tE (cF2 (pu2 fNe) (vE (cF1 (pu1 v6) (vV 3))) (vE (cF1 (pu1 v6) (j8 (vV 1) (C9 1)))))) (tE (cF2 (pu2 fNe) (vV 2) (vV 1))))) (jz (cC (.bl false))) qz)
  (j6 (jv 4 (cF1 (pu1 _m4) (vE (cLC .rt 1 [] (itS (cH (j8 (vV 1) (C9 1)))) (.n 0) tYes (cH (j8 (vV 0) (C9 0)))))))
  (j6 (v5 (v9 (vE (cF1 (pu1 v6) (vV 3)))) (.n 5) (j6 (sIf (tNot (tEQ (vE (cF1 (pu1 (wZ "list")) (j8 (vV 3) (vV 5)))))) (jz (cC (.bl false))) qz)
  (j6 (jv 6 (cLC .rt 1 [3,5] (v9 (j8 (j8 (j8 (vV 1) (C9 1)) (vV 5)) (C9 0))) (.n 0) (tE (cF2 (pu2 x8) (vV 0) (j8 (vV 1) (vV 2)))) (cV 0)))
  (j6 (sIf (tE (cF2 (pu2 fNe) (j8 (vV 3) (vV 5)) (vV 6))) (jz (cC (.bl false))) qz)
  (v5 (v9 (j8 (j8 (j8 (vV 1) (C9 1)) (vV 5)) (C9 0))) (.n 7) (sIf (tNot (tEQ (vE (jx _rj [(cV 2),(cV 5),(cV 7),(cF2 (pu2 x8) (vV 7) (vV 6)),(cV 4)])))) (jz (cC (.bl false))) qz))))))
  (jz (cF2 (pu2 fEq) (vV 2) (vV 1)))))))))
end Nk51
namespace Q
open PySem
section
def _rl:Eo (kW .dp cs (e::E)) P X=Eo (wJ cs (e::E)) (λE xs=>xs.all qW=true/\P E (.dp,.X (xs.C (·.2)))) X:=by
 ext kW;rw[k8]
 congr 1
 funext E xs;rw[X7 rfl]
 by_cases h:xs.all qW=true
 .rw[X7 h,KK];show propext #[λz=>#[h,z],λz=>z.2]
 .rw[Xd h,_nw];show propext #[λz=>z.è,λz=>absurd z.1 h]
def _rm:Eo (vz .dp cs (e::E)) P X=Eo (wJ cs (e::E)) (λE xs=>xs.all qW=true/\P E (.dp,.S (xs.C (·.2)))) X:=by
 ext vz;rw[k8]
 congr 1
 funext E xs;rw[X7 rfl]
 by_cases h:xs.all qW=true
 .rw[X7 h,KK];show propext #[λz=>#[h,z],λz=>z.2]
 .rw[Xd h,_nw];show propext #[λz=>z.è,λz=>absurd z.1 h]
def _rn:Eo (cDW c (e::E)) P X=Eo (c (e::E)) (λE x=>Wo (_nd x) E P) X:=by
 ext cDW;rw[k8]
 congr 1
 funext E x;cases _nd x<;>ac_rfl
def _ro:Eo (_nf a b (e::E)) P X=Eo (a (e::E)) (λE x=>Eo (b E) (λE y=>Wo (if x.1=.rt then none else(_ne x.2 y.2).C λd=>(sub x.1,d)) E P) X) X:=by
 ext _nf;rw[k8];congr 1;funext E x;rw[k8];congr 1;funext E y;show xY
def _rp(h:E[i]?=some @(o,.dct kvs))(hl:kvs.B<=10000)(hu:unm kvs=true)(k:P E (kvs.C (·.1))):Eo (xqb i E) P X:=by
 ext xqb;rw[h];right
 rwa [X7 #[by ext big;lia,hu],KK]
def _rq(h:E[i]?=some @(o,.S (ds++[d])))(ho:o≠.r)(hd:d.pure=true)(k:P (E.ç i @(o,.S ds)) (.dp,d)):Eo (XX i E) P X:=by
 ext XX;rw[h];right;rw[Xd ho,List.getLast?_append,List.getLast?_singleton];dsimp only[Option.or]
 rwa [X7 hd,KK,List.dropLast_concat]
def _rr(h0:E[i]?=some @(.dp,.dct kvs))(h1:E[j]?=some @(o,k))(hk:kj k=true)(hu:unm kvs=true)(hg:qw kvs k=@(.S ds))(hl:ds.B<10000)
  (h:Eo (c (E.ç i none)) (λE1 x=>x.2.pure=true/\N (E1.ç i @(.dp,.dct (z9 kvs k (.S (ds++[x.2])))))) X):Po (sDA i j c E) N Cc R X:=by
 ext sDA;rw[h0,h1];right;rw[X7 #[hk,hu],hg];right;rw[X7 (by ext big;lia),zq];show h.mono λE1 x hz=>?_
 rw[X7 hz.1,_nx];show hz.2
end
end Q
namespace Nk51
open Q PySem C B J U Y Tl
def Dk(K:List D)(g:D->D):List (D×D):=K.C λk=>(k,g k)
noncomputable def Vq:(Dk K g).C (·.1)=K:=by ext Dk;rw[Xp];show List.map_id _
def _rs:(Dk K g).B=K.B:=X5 _
def _rt:∀{K},k>K->qw (Dk K g) k=@(g k)
 | a::K,h=>by
  ext qw Dk;rw[List.Z]
  by_cases e:a=k
  .rw[List.find?_cons_of_pos (by simp[e]),e];rfl
  .rw[Z4 (by simp[e])];show _rt ((aD h).resolve_left λq=>e q.à)
def _ru:∀{K},K.V->z9 (Dk K g) k v=Dk K λx=>if x=k then v else g x
 | [],_=>rfl
 | a::K,h=>by
  rw[Yh]at h;let e:z9 (Dk (a::K) g) k v=if a=k then _::Dk K g else _::z9 _ k v:=rfl
  rw[e];ext Dk;rw[List.Z]
  by_cases q:a=k
  .rw[X7 q];right;rw[X7 q];show congrArg _ (Y1 λx hx=>?_);rw[Xd λz=>h.1 (by rw[q,<-z];show hx)]
  .rw[Xd q];right;rw[Xd q];show congrArg _ (_ru h.2)
def _rv(h:k∉K):Dk K g++[(k,v)]=Dk (K++[k]) λx=>if x=k then v else g x:=by
 ext Dk;rw[Xg,List.map_singleton];right;rw[X7 rfl]
 congr 1
 show Y1 λx hx=>by rw[Xd (λq:x=k=>h (q▸hx))]
def _rw:∀{K},(∀k>K,kj k=true)->prW (K.C λk=>.X [k,g k])=@(Dk K g)
 |[],_=>rfl
 |a::K,h=>by
  rw[List.Z];ext prW;rw[X7 (h a X3),_rw λk hk=>h k (_ad _ hk)];rfl
def _rx(hk:∀k>K,kj k=true)(hl:K.B<10000)(hn:K.V):_nd (.dp,.S (K.C λk=>.X [k,g k]))=@(.dp,.dct (Dk K g)):=by
 ext _nd;right;rw[_rw hk];right;rw[X7 #[by rw[_rs];ext big;lia,by rw[Vq];show hn]]
def in_d(h:kj x=true)(hu:unm kvs=true):V3 x (.dct kvs)=@(.bl (decide (x>kvs.C (·.1)))):=by
 ext V3;right;rw[X7 #[h,hu]]
def _ry(h:kj k=true)(hu:unm (Dk K g)=true)(hm:k>K):_ne (.dct (Dk K g)) k=@(g k):=by
 ext _ne;right;rw[X7 #[h,hu],_rt hm]
def fresh:∀l:List Int,∃m,∀x>l,x<m
 |[]=>#[0,nofun]
 |a::l=>by
  let#[m,h]:=fresh l;show#[max m (a+1),λx hx=>?_];let rfl\/hx:=aD hx
  .lia
  .let:=h x hx;grind
section
def St(ss:List Str)(rs:List D)(p q:D):Prop:=∃z>ss,∃i:Int,0<=i/\i<=pO rs rs p/\q=vj ss rs rs p z i
def Sim(a9:List Int)(ss:List Str)(rs:List D)(p:D):Prop:=∃a b,Two a9 a9 a b/\Rl rs rs p a b/\∀w:List (Str×Int),(∀x>w,x.1>ss)->gp ss rs rs a b w
def _rz(hp:Pok a9 a9 p)(h:Sim a9 ss rs p):gS rs p=gT rs p:=by
 let#[a,b,_,hr,hw]:=h;let#[g1,g2]:=_qd hp hr;rw[<-g1,<-g2];show hw [] nofun
#where in
def _rA(hP:Prs a9 ss.B rs)(hk:Abk a9)(hp:Pok a9 a9 p)(h:Sim a9 ss rs p)(hs:St ss rs p q):Sim a9 ss rs q:=by
 let#[a,b,ht,hr,hw]:=h;let#[z,hz,i,i0,i1,rfl]:=hs;let hl:=_p9 hr;obtain⟨c,hc⟩:∃c,Lk _ a b i c:=by
  by_cases hi:i<pO rs rs p
  .show#[_,.O #[i0,hi,X1 (by symm)]]
  .let#[m,hm]:=fresh _;show#[m,.h #[.q,λhx=>by let:=hm m hx;lia]]
 show#[_,_,ht.next z c hP hk hP hk,_qb hP hk hP hk hp ht hr hc,λw h2=>hw ((z,c)::w) λx hx=>by
  let rfl\/hx:=aD hx
  .show hz
  .show h2 x hx]
def lt_ii(i j):∃k,ltD (.E i) (.E j)=@k:=#[_,by rfl]
def _rB(h1:∃k,ltD a b=@k)(h2:∃k,ltDs x y=@k):∃k,ltDs (a::x) (b::y)=@k:=by
 ext ltDs
 by_cases e:a=b
 .rw[X7 e];show h2
 .rw[Xd e];show h1
def _rC:∃k,ltDs [] []=@k:=#[_,by rfl]
def _rD(h:∃k,ltDs x y=@k):∃k,ltD (.X x) (.X y)=@k:=h
def _rE:∀l l',∃k,ltDs (prs l) (prs l')=@k
 |[],[]=>_rC|[],_::_=>#[true,by rfl]|_::_,[]=>#[false,by rfl]
 |p::l,q::l'=>by
  let:=_rE l l';show _rB (_rD (_rB (lt_ii _ _) (_rB (lt_ii _ _) _rC))) this
def _rF(ha:_qu a)(hb:_qu b):∃k,ltD a b=@k:=by
 let#[r,r',l,rfl]:=ha;let#[q,q',m,rfl]:=hb;show _rD (_rB (lt_ii _ _) (_rB (lt_ii _ _) (_rB (_rD (_rE l m)) _rC)))
def _rG:∀l,keyDs 4 (prs l)=true
 |[]=>rfl
 |p::l=>by
  let:=_rG l;unfold prs at this ⊢;rw[List.Z];ext keyDs;rw[this];rfl
def key_pr(h:_qu d):k5 6 d=true/\WY d=true:=by
 let#[r,r',l,rfl]:=h;show#[?_,rfl];change(true&&(true&&(keyDs 4 _&&true)))=true;rw[_rG];rfl
def _rH(h:∀d>ds,_qu d):okT ds=true:=by
 ext okT;rw[Bool.â,Yb,Yb];show#[λd hd=>by rw[Bool.â];show key_pr (h d hd),λa ha=>?_];rw[Yb];show λb hb=>Option.isSome_iff_exists.s (_rF (h a ha) (h b hb))
def _rI:∀(ds ls:List D) {d},d>ls\/d>ds->d>ds.foldl Qv ls
 |[],ls,d,h=>by symm
 |a::ds,ls,d,h=>by
  show _rI ds _ ?_;ext Qv;let h\/h:=h
  .grind
  .grind
#where in
def _rJ:∀(ds ls:List D),ls.V->(ds.foldl Qv ls).V
 | [],_,h=>h
 | a::ds,ls,h=>by
  show _rJ ds _ ?_;ext Qv
  split
  .show h
  .revert hn;show List.nodup_append.s #[h,by simp,λx hx y hy e=>hn (by rw[<-aC hy,<-e];show hx)]
def thd:D->D
 |.X [_,_,d]=>d|_=>.ó
def _rK:m_steps_from=U.m_steps_from:=rfl
def _rL:m_agrees=B.m_agrees:=rfl
def t2(a b d):jW (.X [a,b,d]) (.E 2)=@d:=rfl
def _rM(hs:ss.B<=3)(hP:Prs a9 ss.B rs)(hk:Abk a9)(h:Pok a9 a9 P):
  Oo _q2 [(.r,jw ss rs),(.r,jw ss rs),(.r,P)] (λy=>∃L,y=(.rt,.S L)/\L.V/\∀q,q>L↔St ss rs P q) noX:=by
 ext _q2;show kw ?_;simp![];show Jw [] (λd y=>y.2=thd d) ?_;simp![];show(_qJ hs hP hk hP hk h).via ?_;rintro _ ⟨L,rfl,hm,ha⟩;simp![];show#[λd hd=>?_,λys hy=>?_]
 .let#[x,_,rfl]:=aE hd;simp![t2];show#[#[_,rfl],rfl]
 .let e:ys.C (·.2)=L.C λx=>x.2.2:=by
   rw[zK (λ_ _ h=>h) hy,Xp];rfl
  rw[vZ,e];let lu:∀d>L.C (λx=>x.2.2),St ss rs P d:=λd hd=>by
   let#[x,hx,rfl]:=aE hd;let#[h1,h2,h3,h4]:=hm x hx;show#[x.1,h1,x.2.1,h2,h3,h4]
  generalize hD:L.C _=ds at lu;let bw:∀d,d>ddT ds↔d>ds:=λd=>#[λz=>(_mU ds [] z).è (nofun) id,λz=>_rI ds [] (.h z)]
  let dy:=_rJ ds [] Xy;let hO:=_pH hP hk hP hk h;let af:(ddT ds).B<=59:=by
   let:(ddT ds).B<=(ss.flatMap λz=>(List.ä 7).C λi:Nat=>vj ss rs rs P z i).B:=_od dy λx hx=>by
    let#[z,hz,i,i0,i1,rfl]:=lu x ((bw x).mp hx);show List.mem_flatMap.s #[z,hz,List.mem_map.s #[i.M,List.å.s .q,by rw[Int.toNat_of_nonneg i0]]]
   rw[_qg ss λz _=>by rw[X5,Xz]]at this;lia
  let su:∀o,ZZ (o,.S ds)=@_:=λo=>by
   ext ZZ;right;rw[X7 #[af,_rH λd hd=>by let#[z,_,i,_,_,rfl]:=lu d hd;show _qv z P i]]
  simp![su];show#[_,rfl,(Vj _).nodup_iff.s dy,λq=>?_];rw[(Vj _).ê,bw];show#[lu q,?_];rintro ⟨z,hz,i,i0,i1,rfl⟩;rw[<-hD];show List.mem_map.s #[_,ha z hz i i0 i1,rfl]
end
section
variable {a9:List Int}{ss:List Str}{rs:List D}
def _rN{K:List D}(h:∀k>K,Pin a9 a9 rs rs k/\k>AllQ):∀k>K,kj k=true:=λk hk=>(xX (h k hk).1).1
def KW(h:∀k>K,Pin a9 a9 rs rs k/\k>AllQ):unm (Dk K g)=true:=by
 cases K with
 |nil=>rfl
 |cons a K=>
  let#[p,q,sh,rfl,_]:=(h a X3).1.ok;rfl
def Q9{K:List D}(h:∀k>K,Pin a9 a9 rs rs k/\k>AllQ)(hn:K.V):K.B<=5746:=by
 let:=_od hn λx hx=>(h x hx).2
 rwa [_qx]at this
abbrev gL(f:D->List D):D->D:=λk=>.S (f k)
structure Ld (a9:List Int)(ss:List Str)(rs:List D)(K:List D)(f:D->List D)(bd:List D)(x:Option D):Prop where
 nd:K.V
 pin:∀k>K,Pin a9 a9 rs rs k/\k>AllQ
 sub:∀k>bd,k>K
 v1:∀k>K,∀p>f k,p>K/\St ss rs p k
 v2:∀p>K,x=@p\/p>bd\/∀q,St ss rs p q->q>K/\p>f q
inductive LdA (a9:List Int)(ss:List Str)(rs Ps:List D):Nat->En->Prop
 |mk {K:List D} {f:D->List D} {bd:List D} {n:Nat} {o1:Own} {l4 l5:Option Sd} (h0:Ld a9 ss rs K f bd none) (h1:bd.B+5746=n+K.B) (h2:∀k>K,(f k).B+n<=5746) (h3:∀p>Ps,p>K):LdA a9 ss rs Ps n [@(.r,jw ss rs),@(o1,.S Ps),@(.dp,.dct (Dk K (gL f))),@(.rt,.S bd),l4,l5]
inductive LdB (a9:List Int)(ss:List Str)(rs Ps:List D)(p:D)(n:Nat):En->List D->Prop
 |mk {K:List D} {f:D->List D} {bd L:List D} {o1:Own} {l5:Option Sd} (h0:Ld a9 ss rs K f bd @p) (h1:bd.B+5746=n+K.B) (h2:∀k>K,(f k).B+n<=5746/\(k>L->(f k).B+n<5746)) (h3:∀p>Ps,p>K) (h4:p>K) (h5:L.V) (h6:∀q>L,St ss rs p q) (h7:∀q,St ss rs p q->q>L\/q>K/\p>f q) (h8:n<5746):LdB a9 ss rs Ps p n [@(.r,jw ss rs),@(o1,.S Ps),@(.dp,.dct (Dk K (gL f))),@(.rt,.S bd),@(.r,p),l5] L
def ZW(f:D->List D)(k:D)(v:List D):D->List D:=λx=>if x=k then v else f x
def _rO:(λx=>if x=k then .S v else gL f x)=gL (ZW f k v):=by
 funext x;change _=D.S (if x=k then v else f x)
 split<;>rfl
def V5:ZW f k v k=v:=X7 rfl
def YK(h:x≠k):ZW f k v x=f x:=Xd h
def _rP{g:D->D}:∀{ds ys},Each (λd y=>y=(Own.dp,g d)) ds ys->ys.all qW=true
 |[],[],_=>rfl
 |_::_,_::_,h=>by
  rw[List.all_cons,h.1,_rP h.2];rfl
#where in
def _rQ{Ps}(hs:ss.B<=3)(gl:a9.B<=12)(hP:Prs a9 ss.B rs)(hk:Abk a9)(hn:Ps.V)(hp:∀k>Ps,Pin a9 a9 rs rs k/\k>AllQ):
  Oo _q6 [(.r,jw ss rs),(.r,.S Ps)] (λy=>∃K f,y=(.dp,.dct (Dk K (gL f)))/\Ld a9 ss rs K f [] none/\(∀k>K,(f k).B<=5746)/\∀p>Ps,p>K) noX:=by
 let hPl:=Q9 hp hn;show kw ?_;simp![↓_rn];show Jw [] (λd y=>y=(.dp,.X [d,.S []])) ?_;simp![];show#[λd hd=>?_,λys hy=>?_]
 .simp![↓_rl,↓_rm];let:d.pure=true:=(xX (hp d hd).1).2;show#[rfl,by simp[qW,this],#[_,rfl],trivial]
 .let e:ys.C (·.2)=Ps.C λk=>.X [k,gL (λ_=>[]) k]:=zK (h:=λk=>D.X [k,.S []]) (λ_ _ h=>by rw[h]) hy
  rw [_nL (_rP (g:=λd=>.X [d,.S []]) hy),e];dsimp[back,clr,at',List.Z,List.map_nil,List.set_cons_zero,List.ÿ];let hl:∀o,ZV (o,.dct (Dk Ps (gL λ_=>[])))=@(.rt,.S Ps):=λo=>by rw[_nQ (by rw[_rs];lia) (KW hp),Vq]
  simp![(_rx (g:=gL λ_=>[]) (_rN hp) .q hn),hl];show _nF (LdA a9 ss rs Ps) ?_ 5746 _ (.mk #[hn,hp,λ_ h=>h,λ_ _ _ h=>(nomatch h),λp h=>.h (.O h)] .q (λ_ _=>by decide) λ_ h=>h);rintro n E ⟨h0,h1,h2,h3⟩;revert K f bd o1 l4 l5;let hKl:=Q9 h0.pin h0.nd;let rfl\/#[wt,p,rfl]:=List.eq_nil_or_concat bd
  .let ht:truthQ (.S [])=@false:=rfl;simp![ht];show#[K,f,rfl,h0,λk hk=>by let:=h2 k hk;lia,h3]
  .rw [List.concat_eq_append]at *;let ht:(wt++[p]).û=false:=by cases wt<;>rfl
   let uc:p>K:=h0.sub p (by simp);let hpp:=h0.pin p uc;let hnle:n<=5746:=by let:=h2 p uc;lia
   rw [Xi,Xv]at h1;simp![ht];show _rq (o:=.rt) (ds:=wt) (d:=p) rfl .q (xX hpp.1).2 ?_;simp![];show wV (LdB a9 ss rs Ps p (n - 1)) ?_ ?_ ?_
   .simp![];show(_rM hs hP hk hpp.1.ok).via ?_;rintro _ ⟨L,rfl,hL,hLm⟩;simp![];show .mk #[h0.nd,h0.pin,λk hk=>h0.sub k (_ac _ hk),h0.v1,λx hx=>?_] .q (λk hk=>by let:=h2 k hk;show#[.q,λ_=>by lia]) h3 uc hL (λq hq=>(hLm q).mp hq) (λq hq=>.O ((hLm q).s hq)) (by omega);let h\/h\/h:=h0.v2 x hx
    .cases h
    .let h\/h:=aA h
     .show .h (.O h)
     .show .O (by rw[aC h])
    .show .h (.h h)
   .intro E d ds hh;generalize fk:d::ds=dd at hh;cases hh with
    | @mk K f bd _ o1 l5 h0 h1 h2 h3 h4 h5 h6 h7 h8=>
    subst fk;let hKl:=Q9 h0.pin h0.nd;let#[z,hz,i,i0,i1,hd]:=h6 d X3;let vl:=hpp.1.two.next (ss:=ss) (rs:=rs) (rs':=rs) z i hP hk hP hk
    let mf:Pin a9 a9 rs rs d/\d>AllQ:=hd▸#[_qD hP hk hP hk vl,_qE gl gl hk hk vl];let sv:=(xX mf.1).1;let wa:=(xX hpp.1).2;rw [Yh]at h5;let la:=_nR sv (KW (g:=gL f) h0.pin);rw [Vq]at la
    by_cases hm:d>K
    .rw[X8 hm]at la;simp![la];let bf:=(h2 d hm).2 X3;show _rr rfl rfl sv (KW h0.pin) (_rt hm) .q ?_;simp![];show#[wa,?_];rw[_ru h0.nd,_rO];show .mk #[h0.nd,h0.pin,h0.sub,λk hk q hq=>?_,λx hx=>?_] h1 (λk hk=>?_) h3 h4 h5.2 (λq hq=>h6 q (_ad _ hq)) (λq hq=>?_) h8
     .by_cases e:k=d
      .subst e;rw[V5]at hq;let hq\/hq:=aA hq
       .show h0.v1 _ hk q hq
       .rw[aC hq];show#[h4,h6 _ X3]
      .rw[YK e]at hq;show h0.v1 k hk q hq
     .show(h0.v2 x hx).imp id (Or.imp id λh q hq=>?_);let#[g1,g2]:=h q hq;show#[g1,?_]
      by_cases e:q=d
      .subst e;rw[V5];show _ac _ g2
      .rw[YK e];show g2
     .by_cases e:k=d
      .subst e;rw[V5,Xi,Xv];show#[.q,λhh=>absurd hh h5.1]
      .rw[YK e];show#[(h2 k hk).1,λhh=>(h2 k hk).2 (_ad _ hh)]
     .by_cases e:q=d
      .subst e;rw[V5];show .h #[hm,by simp]
      .rw[YK e];show(h7 q hq).imp (λh=>(aD h).resolve_left e) id
    .rw[Xj hm]at la;let ql:K.B<5746:=by
      let:=Q9 (K:=K++[d]) (λk hk=>(aA hk).è (h0.pin k) λh=>aC h▸mf) (List.nodup_append.s #[h0.nd,by simp,λx hx y hy e=>hm (by rw[<-aC hy,<-e];show hx)]);rw[Xi,Xv]at this;lia
     let ld:Qx (.rt,.S [])=true:=rfl;simp![la];show _n0 ?_;simp![];show#[rfl,_,rfl,#[sv,by rw[_rs];grind,KW h0.pin,ld,by rw[Vq];show hm],?_];rw[_rv hm,_rO];simp![];show xz rfl ?_;simp![];show#[_,rfl,.q,?_];let lc:∀k>K++[d],Pin a9 a9 rs rs k/\k>AllQ:=λk hk=>(aA hk).è (h0.pin k) λh=>aC h▸mf
     let dy:(K++[d]).V:=List.nodup_append.s #[h0.nd,by simp,λx hx y hy e=>hm (by rw[<-aC hy,<-e];show hx)];let hdm:d>K++[d]:=by simp
     show _rr (ds:=[]) rfl rfl sv (KW lc) (by rw[_rt hdm];change @(D.S (ZW f d [] d))=_;rw[V5]) (by simp) ?_;simp![];show#[wa,?_];rw[_ru dy,_rO];let bc:∀k>K,k≠d:=λk hk e=>hm (e▸hk)
     let qp:∀{k},k≠d->ZW (ZW f d []) d [p] k=f k:=λh=>by rw[YK h,YK h]
     show .mk #[dy,lc,λk hk=>?_,λk hk q hq=>?_,λx hx=>?_] (by rw[Xi,Xi,Xv];lia) (λk hk=>?_) (λq hq=>_ac _ (h3 q hq)) (_ac _ h4) h5.2 (λq hq=>h6 q (_ad _ hq)) (λq hq=>?_) h8
     .let hk\/hk:=aA hk
      .show _ac _ (h0.sub k hk)
      .rw[aC hk];show hdm
     .let hk\/hk:=aA hk
      .rw[qp (bc k hk)]at hq;let#[g1,g2]:=h0.v1 k hk q hq;show#[_ac _ g1,g2]
      .rw[aC hk,V5]at hq;rw[aC hk,aC hq];show#[_ac _ h4,h6 _ X3]
     .let hx\/hx:=aA hx
      .show(h0.v2 x hx).imp id (Or.imp (_ac _) λh q hq=>?_);let#[g1,g2]:=h q hq;show#[_ac _ g1,by rw[qp (bc q g1)];show g2]
      .show .h (.O (by rw[aC hx];simp))
     .by_cases e:k=d
      .subst e;rw[V5];show#[by simp;lia,λhh=>absurd hh h5.1]
      .rw[qp e];let aq:k>K:=(aA hk).è id λh=>absurd (aC h) e
       show#[(h2 k aq).1,λhh=>(h2 k aq).2 (_ad _ hh)]
     .by_cases e:q=d
      .subst e;rw[V5];show .h #[hdm,by simp]
      .rw[qp e];let h\/h:=h7 q hq
       .show .O ((aD h).resolve_left e)
       .show .h #[_ac _ h.1,h.2]
   .intro E hh;generalize fk:([]:List D)=dd at hh;cases hh with
    |@mk K f bd _ o1 l5 h0 h1 h2 h3 h4 h5 h6 h7 h8=>
    subst fk;show#[n - 1,.q,.mk #[h0.nd,h0.pin,h0.sub,h0.v1,λx hx=>?_] h1 (λk hk=>(h2 k hk).1) h3];let h\/h\/h:=h0.v2 x hx
    .injection h with h;subst h;show .h (.h λq hq=>(h7 q hq).resolve_left nofun)
    .show .h (.O h)
    .show .h (.h h)
end
section
variable {a9:List Int}{ss:List Str}{rs:List D}
abbrev gT1:D->D:=λ_=>.bl true
def _rR:(λx=>if x=k then .bl true else gT1 x)=gT1:=by
 funext x;simp
structure Ul (a9:List Int)(ss:List Str)(rs:List D)(K:List D)(f:D->List D)(V bd:List D)(x:Option D):Prop where
 nd:V.V
 sub:∀k>V,k>K
 ws:∀k>bd,k>V
 bad:∀k>V,¬Sim a9 ss rs k
 all:∀k>K,gS rs k≠gT rs k->k>V
 up:∀k>V,x=@k\/k>bd\/∀p>f k,p>V
inductive UlA (a9:List Int)(ss:List Str)(rs Ps K:List D)(f:D->List D):Nat->En->Prop
 |mk {V bd:List D} {n:Nat} {o1 o2:Own} {l5 l6:Option Sd} (h0:Ul a9 ss rs K f V bd none) (h1:bd.B+5746=n+V.B) (h2:o2≠.rt) (h3:n<=5746):UlA a9 ss rs Ps K f n [@(.r,jw ss rs),@(o1,.S Ps),@(o2,.dct (Dk K (gL f))),@(.rt,.S bd),@(.dp,.dct (Dk V gT1)),l5,l6]
inductive UlB (a9:List Int)(ss:List Str)(rs Ps K:List D)(f:D->List D)(p:D)(n:Nat):En->List D->Prop
 |mk {V bd L:List D} {o1 o2:Own} {l6:Option Sd} {o5:Own} (h0:Ul a9 ss rs K f V bd @p) (h1:bd.B+5746=n+V.B) (h2:o2≠.rt) (h3:p>V) (h4:∀q>L,q>f p) (h5:∀q>f p,q>L\/q>V) (h6:n<5746):UlB a9 ss rs Ps K f p n [@(.r,jw ss rs),@(o1,.S Ps),@(o2,.dct (Dk K (gL f))),@(.rt,.S bd),@(.dp,.dct (Dk V gT1)),@(o5,p),l6] L
def Uns(a9:List Int)(ss:List Str)(rs Ps V:List D):Prop:=∀p>Ps,∀a b,Two a9 a9 a b->Rl rs rs p a b->(p>V↔∃w:List (Str×Int),(∀x>w,x.1>ss)/\¬gp ss rs rs a b w)
def _rS{K f V Ps}(hP:Prs a9 ss.B rs)(hk:Abk a9)(hL:Ld a9 ss rs K f [] none)(h:Ul a9 ss rs K f V [] none)(hp:∀p>Ps,p>K):Uns a9 ss rs Ps V:=λp hpP a b ht hr=>by
 constructor
 .intro hV
  by_cases hw:∃w,(∀x>w,x.1>ss)/\¬gp ss rs rs a b w
  .show hw
  .show absurd #[a,b,ht,hr,λw hz=>(Classical.byContradiction λhn=>hw #[w,hz,hn])] (h.bad p hV)
 .rintro ⟨w,hw,hn⟩;show Classical.byContradiction λhV=>hn (_qe (K:=K.ö λx=>decide (x∉V)) hP hk hP hk (λP ip=>?_) w hw (List.mem_filter.s #[hp p hpP,X8 hV]) ht hr)
  let#[ip,hPV]:=List.mem_filter.mp ip;let hPV:=Y4 hPV;show#[(hL.pin P ip).1.ok,Classical.byContradiction λz=>hPV (h.all P ip z),λz hz i i0 i1=>?_];let hv:=hL.v2 P ip;let hv\/hv\/hv:=hv
  .cases hv
  .cases hv
  .let#[g1,g2]:=hv _ #[z,hz,i,i0,i1,rfl];show List.mem_filter.s #[g1,X8 λhq=>hPV ?_];let u\/u\/u:=h.up _ hq
   .cases u
   .cases u
   .show u P g2
#where in
def _rT {Ps} (hs:ss.B<=3) (gl:a9.B<=12) (hP:Prs a9 ss.B rs) (hk:Abk a9) (hn:Ps.V) (hp:∀k>Ps,Pin a9 a9 rs rs k/\k>AllQ):
  Oo _q7 [(.r,jw ss rs),(.r,.S Ps)] (λy=>∃V,y=(.dp,.dct (Dk V gT1))/\unm (Dk V gT1)=true/\Uns a9 ss rs Ps V) noX:=by
 let hk0:=hk;ext _q7;show kw ?_;simp![];show (_rQ hs gl hP hk hn hp).via ?_;rintro _ ⟨K,f,rfl,hL,ur,ip⟩;let hKl:=Q9 hL.pin hL.nd;let huK:=KW (g:=gL f) hL.pin;simp![];show Q4 (λE1 B ds ae=>∃(K1:List D) (l0:Option Sd),K=K1++ds/\B=[l0,@(.r,jw ss rs)]/\(∃o1,E1=[@(.r,jw ss rs),@(o1,.S Ps),@(.dp,.dct (Dk K (gL f))),none,none,none,none])/\ae.C (·.2)=K1.ö λk=>decide (gS rs k≠gT rs k)) ?_ ?_ ?_
 .show _rp rfl (by rw[_rs];lia) huK ?_;rw [Vq];show #[[],none,rfl,rfl,#[_,rfl],rfl]
 .rintro E1 B d ds ae ⟨K1,l0,e1,rfl,e3,e4⟩;let hdK:d>K:=by rw[e1];simp
  let hag:Oo B.m_agrees [(.r,jw ss rs),(.r,jw ss rs),(.r,d)] (λy=>∃o',y=(o',.bl (gS rs d==gT rs d))/\True) noX:=by
   let#[p,q,sh,rfl,a0,a1,b0,b1,_]:=(hL.pin d hdK).1.ok;show _oZ (Kw hP hk a0 a1).2.1 (Kw hP hk b0 b1).2.1
  let e5:K=(K1++[d])++ds:=by rw[e1];simp
  simp![];show hag.via ?_;rintro _ ⟨o',rfl,_⟩
  by_cases hg:gS rs d=gT rs d
  .let hb:(gS rs d==gT rs d)=true:=by simp[hg]
   simp![hb];show#[K1++[d],_,e5,rfl,e3,by rw[Yf,e4];simp[hg]]
  .let hb:(gS rs d==gT rs d)=false:=by simp[hg]
   simp![hb];show#[K1++[d],_,e5,rfl,e3,by rw[Xg,Yf,e4];simp[hg]]
 .rintro E1 B ae ⟨K1,l0,e1,rfl,⟨o1,rfl⟩,e4⟩;rw [Xx]at e1;subst e1;rw [vZ,e4];generalize hV:(K.ö λk=>decide (gS rs k≠gT rs k))=V;let hVm:∀k,k>V↔k>K/\gS rs k≠gT rs k:=λk=>by rw[<-hV,List.mem_filter,decide_eq_true_iff]
  let hVn:V.V:=by rw[<-hV];show hL.nd.ö _
  let oi:∀k>V,Pin a9 a9 rs rs k/\k>AllQ:=λk h=>hL.pin k ((hVm k).mp h).1
  let hVl:=Q9 oi hVn;dsimp[zj,back,clr,at',List.ý,List.Z,List.map_nil,List.set_cons_zero,List.ÿ];simp![↓_rn];show Jw [] (λd y=>y=(.dp,.X [d,.bl true])) ?_;let ui:D.pures V=true:=by rw[D.pures_all,Yb];show λd hd=>(xX (oi d hd).1).2
  show _nV rfl ui ?_;simp![];show#[λd hd=>?_,λys hy=>?_]
  .simp![↓_rl];let:d.pure=true:=(xX (oi d hd).1).2;show#[by simp[qW,this],#[_,rfl],trivial]
  .let e:ys.C (·.2)=V.C λk=>.X [k,gT1 k]:=zK (h:=λk=>D.X [k,.bl true]) (λ_ _ h=>by rw[h]) hy
   rw [_nL (_rP (g:=λd=>.X [d,.bl true]) hy),e];dsimp[back,clr,at',List.Z,List.map_nil,List.set_cons_zero,List.ÿ];simp![(_rx (g:=gT1) (_rN oi) .q hVn)];show _nF (UlA a9 ss rs Ps K f) ?_ 5746 _ (.mk #[hVn,λk h=>((hVm k).mp h).1,λ_ h=>h,λk h z=>((hVm k).mp h).2 (_rz (oi k h).1.ok z),λk h g=>(hVm k).s #[h,g],λk h=>.h (.O h)] .q .q (Xb _));rintro n E ⟨h0,h1,h2,hn7⟩;revert V bd o1 o2 l5 l6;let rfl\/#[wt,p,rfl]:=List.eq_nil_or_concat bd
   .simp![];show#[V,rfl,KW λk h=>hL.pin k (h0.sub k h),_rS hP hk hL h0 ip]
   .rw [List.concat_eq_append]at *;let ht:(wt++[p]).û=false:=by cases wt<;>rfl
    let hpV:p>V:=h0.ws p (by simp);let uc:=h0.sub p hpV;let hpp:=hL.pin p uc;let hVl2:=Q9 (λk h=>hL.pin k (h0.sub k h)) h0.nd;rw [Xi,Xv]at h1;simp![ht];show _rq (o:=.rt) (ds:=wt) (d:=p) rfl .q (xX hpp.1).2 ?_;simp![];show wV (UlB a9 ss rs Ps K f p (n - 1)) ?_ ?_ ?_
    .simp![↓_ro,(_ry (g:=gL f) (xX hpp.1).1 huK uc)];show .mk #[h0.nd,h0.sub,λk hk=>h0.ws k (_ac _ hk),h0.bad,h0.all,λx hx=>?_] .q .q hpV (λ_ h=>h) (λ_ h=>.O h) .q;let h\/h\/h:=h0.up x hx
     .cases h
     .let h\/h:=aA h
      .show .h (.O h)
      .show .O (by rw[aC h])
     .show .h (.h h)
    .intro E d ds hh;generalize fk:d::ds=dd at hh;cases hh with
     | @mk V bd _ o1 o2 l6 o5 h0 h1 h2 h3 h4 h5 hn6=>
     subst fk;let#[hdK,av]:=hL.v1 p uc d (h4 d X3);let mf:=hL.pin d hdK;let sv:=(xX mf.1).1;let oi:∀k>V,Pin a9 a9 rs rs k/\k>AllQ:=λk h=>hL.pin k (h0.sub k h)
     let hVl:=Q9 oi h0.nd;let la:=_nR sv (KW (g:=gT1) oi);rw [Vq]at la
     by_cases hm:d>V
     .rw[X8 hm]at la;simp![la];show .mk h0 h1 h2 h3 (λq hq=>h4 q (_ad _ hq)) (λq hq=>?_) hn6;let h\/h:=h5 q hq
      .grind
      .show .h h
     .rw[Xj hm]at la;let dy:(V++[d]).V:=List.nodup_append.s #[h0.nd,by simp,λx hx y hy e=>hm (by rw[<-aC hy,<-e];show hx)];let ql:V.B<5746:=by
       let:=Q9 (K:=V++[d]) (λk hk=>(aA hk).è (oi k) λh=>aC h▸mf) dy;rw[Xi,Xv]at this;lia
      let ld:Qx (.dp,.bl true)=true:=rfl;simp![la];show _n0 ?_;simp![];show#[rfl,_,rfl,#[sv,by rw[_rs];grind,KW oi,ld,by rw[Vq];show hm],?_];rw[_rv hm,_rR];simp![];show xz rfl ?_;simp![];show#[_,rfl,.q,(.mk #[dy,λk hk=>?_,λk hk=>?_,λk hk=>?_,λk hk g=>_ac _ (h0.all k hk g),λk hk=>?_] (by rw[Xi,Xi,Xv];lia) h2 (_ac _ h3) (λq hq=>h4 q (_ad _ hq)) (λq hq=>?_) hn6)]
      .let h\/h:=aA hk
       .show h0.sub k h
       .rw[aC h];show hdK
      .let h\/h:=aA hk
       .show _ac _ (h0.ws k h)
       .show _ab _ h
      .let h\/h:=aA hk
       .show h0.bad k h
       .rw[aC h];show λz=>h0.bad p h3 (_rA hP hk0 mf.1.ok z av)
      .let h\/h:=aA hk
       .show(h0.up k h).imp id (Or.imp (_ac _) λu p hp=>_ac _ (u p hp))
       .show .h (.O (_ab _ h))
      .grind
    .intro E hh;generalize fk:([]:List D)=dd at hh;cases hh with
     |@mk V bd _ o1 o2 l6 o5 h0 h1 h2 h3 h4 h5 hn6=>
     subst fk;show#[n - 1,.q,.mk #[h0.nd,h0.sub,h0.ws,h0.bad,h0.all,λx hx=>?_] h1 h2 .q];let h\/h\/h:=h0.up x hx
     .symm
     .show .h (.O h)
     .show .h (.h h)
end
end Nk51
namespace Nk51
open Q PySem C B J U Y
def shX(n k:Nat):List (Int×Int):=((List.ä n).ö λj=>decide (j≠k)).C λj:Nat=>((j:Int),(j:Int))
def ppD(r n k:Nat):D:=.X [.E r,.E r,.X (prs (shX n k))]
abbrev kZ(a9:List Int)(r:Nat):Nat:=(a9.p r 0).M
def neI(k:Int):D->Bool
 |.E j=>!(j==k)|_=>false
def _rU(n:Nat):jZ 0 n=(List.ä n).C λj:Nat=>D.E j:=by
 ext jZ;rw[show((n:Int) - 0).M=n by lia];show Y1 λj _=>?_
 congr 1
 lia
def _rV(n k:Nat):((jZ 0 n).ö (neI k)).C (λd=>D.X [d,d])=prs (shX n k):=by
 ext shX;rw[_rU,List.filter_map,Xp];change _=List.C (λp:Int×Int=>D.X [.E p.1,.E p.2]) _;rw[Xp]
 congr 1
 show Zj λj _=>?_
 change(!((j:Int)==(k:Int)))=decide (j≠k)
 grind
def _rW(r n k:Nat)(hn:n<=100):Oo _q3 [(.r,.E r),(.r,.E n),(.r,.E k)] (λy=>∃o',y=(o',ppD r n k)/\True) noX:=by
 ext _q3;show kw ?_;simp![];show _n3 [@(.r,.E k)] (neI k) (λd y=>y.2=.X [d,d]) ?_;show _nI ?_;simp![];show#[_,rfl,.q,.q,rfl,λd hd=>?_,λys hy=>?_]
 .let#[j,j0,j1,rfl]:=K7 hd;let bc:fNe (.E j) (.E k)=@(.bl (neI k (.E j))):=nei rfl;simp![bc];show λ_=>#[#[_,rfl],trivial]
 .rw[vZ,zK (λ_ _ h=>h) hy,_rV];dsimp[back,clr,at',List.Z,List.map_nil,List.set_cons_zero,List.ÿ];let ht:∀l:List D,xJ (.r,.S l)=@(.r,.X l):=λ_=>rfl
  simp![ht];show#[_,rfl,trivial]
def _rX(a9:List Int)(r:Nat):List D:=(List.ä (kZ a9 r)).C (ppD r (kZ a9 r))
def Kk(a9:List Int):Nat->List D
 |0=>[]|r+1=>Kk a9 r++_rX a9 r
def all_mem:∀{m},x>Kk a9 m↔∃r,r<m/\∃k,k<kZ a9 r/\x=ppD r (kZ a9 r) k
 | 0=>#[λh=>(nomatch h),λ_=>by symm]
 | m+1=>by
  ext Kk;rw[List.mem_append,all_mem];ext _rX;rw[List.mem_map];constructor
  .rintro (⟨r,h,z⟩|⟨k,h,rfl⟩)
   .show#[r,.q,z]
   .show#[m,by simp,k,List.å.mp h,rfl]
  .rintro ⟨r,h,k,hk,rfl⟩
   by_cases e:r=m
   .subst e;show .h #[k,List.å.s hk,rfl]
   .show .O #[r,.q,k,hk,rfl]
def _rY(h:ppD r n k=ppD r' n' k'):r=r'/\prs (shX n k)=prs (shX n' k'):=by
 injection h with h
 grind
def pp_k(h1:k<n)(h:ppD r n k=ppD r n k'):k=k':=by
 show Classical.byContradiction λbc=>?_
 let hm:D.X [.E k,.E k]>prs (shX n k'):=List.mem_map.s #[_,List.mem_map.s #[k,List.mem_filter.s #[List.å.s h1,X8 bc],rfl],rfl];rw[<-((_rY h).2)]at hm;let#[p,hp,e]:=aE hm;let#[j,hj,rfl]:=aE hp
 grind
def _rZ:∀m,(Kk a9 m).V
 | 0=>Xy
 | m+1=>by
  show List.nodup_append.s #[_rZ m,?_,λx hx y hy e=>?_]
  .show List.pairwise_map.s (List.nodup_range.imp_of_mem fun {a b} ha hb bc e=>bc (pp_k (List.å.mp ha) e))
  .let#[r,hr,k,_,rfl]:=all_mem.mp hx;let#[k',_,rfl]:=aE hy;let:=(_rY e).1
   symm
section
variable {a9:List Int}{ss:List Str}{rs:List D}
def _r0(hP:Prs a9 ss.B rs)(hk:Abk a9)(h:r<rs.B):∃(gd:Bool) (st:List D),rs.ý r=.X [.E (kZ a9 r),.bl gd,.S st]::rs.ý (r+1)/\kZ a9 r<=3:=by
 let#[x,e,gd,st,rfl,_]:=hP.2 r (hP.1▸h);let hm:a9.p r 0>a9:=by rw[X6,X1 (hP.1▸h)];show Xm _
 let:=hk _ hm;show#[gd,st,?_,by symm];rw[Z8 h]
 congr 1
 rw[X1 h]at e;rw[_aa e]
 congr 3
 lia
def _r1:xV r (x::ys)=.X [.E r,x]::xV (r+1) ys:=rfl
inductive PpA (a9:List Int)(ss:List Str)(rs:List D):En->List D->Prop
 |mk (r:Nat) {l2 l3:Option Sd} (h:r<=rs.B):PpA a9 ss rs [@(.r,jw ss rs),@(.rt,.S (Kk a9 r)),l2,l3] (xV r (rs.ý r))
def _r2(hP:Prs a9 ss.B rs)(hk:Abk a9):∀r,r<=rs.B->(Kk a9 r).B<=3*r
 |0,_=>Xb _
 |r+1,h=>by
  let ih:=_r2 hP hk r .q;obtain _:=_r0 hP hk (r:=r) .q;ext Kk _rX;rw[Xi,X5,Xz];lia
def _r3(hP:Prs a9 ss.B rs)(hk:Abk a9)(gl:a9.B<=12):
  Oo _q8 [(.r,jw ss rs)] (λy=>y=(.rt,.S (Kk a9 a9.B))) noX:=by
 let q1:∀a b,jW (.X [a,b]) (.E 1)=@b:=λ_ _=>rfl
 let q0:∀a b c,jW (.X [a,b,c]) (.E 0)=@a:=λ_ _ _=>rfl
 show kw ?_;simp![];show wV (PpA a9 ss rs) ?_ ?_ ?_
 .simp![q1];show .mk 0 (Y9 _)
 .intro E d ds hh;generalize fk:d::ds=dd at hh;cases hh with
  | @mk r l2 l3 h=>
  by_cases hr:r<rs.B
  .let#[gd,st,e,h3]:=_r0 hP hk hr;rw[e,_r1]at fk;injection fk with e1 e2;subst e1 e2;let hln:=_r2 hP hk r (by omega);let:=hP.1;simp![];show _n2 rfl (Jw [@(.r,.E r),@(.r,.X [.E (kZ a9 r),.bl gd,.S st])] (λd y=>y.2=(match d with|.E k=>ppD r (kZ a9 r) k.M|_=>.ó)) (_nI ?_));simp![q0];show#[_,rfl,.q,.q,rfl,λd hd=>?_,λys hy=>?_]
   .let#[k,k0,k1,rfl]:=K7 hd;let#[k,rfl]:=Zi k0;show(_rW r (kZ a9 r) k .q).use ?_;intro o _;show#[#[_,rfl],rfl]
   .let e:ys.C (·.2)=_rX a9 r:=by
     rw[zK (h:=λd=>match d with|.E k=>ppD r (kZ a9 r) k.M|_=>.ó) (λ_ _ h=>h) hy,_rU,Xp];rfl
    rw[vZ,e];dsimp[back,clr,at',List.Z,List.map_nil,List.set_cons_zero,List.ÿ];show#[_,_,rfl,rfl,.q,?_,.mk (r+1) hr];ext _rX;rw[X5,Xz];lia
  .rw[List.drop_eq_nil_of_le (by symm)]at fk;cases fk
 .intro E hh;generalize fk:([]:List D)=dd at hh;cases hh with
  |@mk r l2 l3 h=>
  by_cases hr:r<rs.B
  .let#[gd,st,e,h3]:=_r0 hP hk hr;rw[e]at fk;cases fk
  .let:r=a9.B:=by let:=hP.1;lia
   subst this;simp![]
def ksV(V:List D)(r n:Nat):List Nat:=(List.ä n).ö λk=>decide (ppD r n k>V)
abbrev nL(l:List Nat):D:=.S (l.C λk:Nat=>D.E k)
def inV(V:List D)(r n:Nat):D->Bool
 |.E j=>decide (ppD r n j.M>V)|_=>false
def _r4(r n:Nat)(hn:n<=100)(hu:unm (Dk V gT1)=true):Oo _q4 [(.r,.E r),(.r,.E n),(.r,.dct (Dk V gT1))] (λy=>y=(.dp,nL (ksV V r n))) noX:=by
 ext _q4;show kw ?_;simp![];show _n3 [@(.r,.E r),@(.r,.E n),@(.r,.dct (Dk V gT1))] (inV V r n) (λd y=>y.2=d) ?_;show _nI ?_;simp![];show#[_,rfl,.q,.q,rfl,λd hd=>?_,λys hy=>?_]
 .let#[j,j0,j1,rfl]:=K7 hd;let#[j,rfl]:=Zi j0;let ff:V3 (ppD r n j) (.dct (Dk V gT1))=@(.bl (inV V r n (.E j))):=by
   let ff:=in_d (show kj (ppD r n j)=true from J.key_pr _ _ _) hu;rw[Vq]at ff;show ff
  simp![];show#[(_rW r n j hn).use ?_,λ_=>#[#[_,rfl],trivial]];intro o _;simp![ff]
 .let e:=_oe (λ_ _ h=>h) hy;let ht:ys.all qW=true:=by
   rw[Yb];intro x hx;let:x.2>ys.C (·.2):=List.mem_map.s #[x,hx,rfl];rw[e]at this;let#[j,_,_,e]:=K7 (List.mem_filter.mp this).1;let#[o,d]:=x;cases(show d=_ from e);cases o<;>rfl
  rw[_nL ht,e,_rU,List.filter_map];rfl
end
section
variable {ss:List Str}
def sA(r n:Nat):Sn:=@((r:Int),(List.ä n).C λj:Nat=>(j:Int))
def sB(r n k:Nat):Sn:=@((r:Int),((List.ä n).C λj:Nat=>(j:Int)).ç k n)
def Ptd(ss:List Str)(rs:List D)(r n k:Nat):Prop:=∃w:List (Str×Int),(∀x>w,x.1>ss)/\¬gp ss rs rs (sA r n) (sB r n k) w
def _r5(r):∀n k,n<=3->k<n->v8 (sA r n) (sB r n k)=ppD r n k
 |0,_,_,h=>by symm|1,0,_,_=>rfl|1,_+1,_,h=>by lia|2,0,_,_=>rfl|2,1,_,_=>rfl|2,_+2,_,h=>by lia|3,0,_,_=>rfl|3,1,_,_=>rfl|3,2,_,_=>rfl|3,_+3,_,h=>by lia|_+4,_,h,_=>by symm
def _r6:∀{l:List Int} {k},l.V->x∉l->(l.ç k x).V
 |[],_,_,_=>Xy
 |a::l,0,h,hx=>by
  rw[Yh]at h;show List.ø.s #[λz=>hx (_ad _ z),h.2]
 |a::l,k+1,h,hx=>by
  rw[Yh]at h;show List.ø.s #[λz=>?_,_r6 h.2 λz=>hx (_ad _ z)];let z\/z:=List.mem_or_eq_of_mem_set z
  .show h.1 z
  .show hx (z▸X3)
def _r7(hk:Abk a9)(hr:r<a9.B)(ph:k<kZ a9 r):Two a9 a9 (sA r (kZ a9 r)) (sB r (kZ a9 r) k):=by
 let hm:a9.p r 0>a9:=by rw[X6,X1 hr];show Xm _
 let hn:((List.ä (kZ a9 r)).C λj:Nat=>(j:Int)).V:=List.pairwise_map.s (List.nodup_range.imp λh e=>h .q);let ok:∀l,l.B=kZ a9 r->q9 a9 (@(r,l)):=λl hl room ks e=>by
  cases e;show#[by simp,by symm,?_];rw[hl,Xu];lia
 show#[ok _ (by simp),ok _ (by simp),hn,(_r6 hn λh=>?_)];let#[j,hj,e]:=aE h;let:=List.å.mp hj;lia
open Classical in
def K9(ss:List Str)(rs:List D)(r n:Nat):List Nat:=(List.ä n).ö λk=>decide (Ptd ss rs r n k)
open Classical in
def _r8(h:∀k,k<n->(Ptd ss rs r n k↔q k=true)):K9 ss rs r n=(List.ä n).ö q:=by
 show Zj λk hk=>?_
 let h:=h k (List.å.mp hk);cases hq:q k with|true=>show X8 (h.s hq)|false=>symm
def VJ(a9:List Int)(ss:List Str)(rs:List D):List D:=(List.ä a9.B).C λr=>nL (K9 ss rs r (kZ a9 r))
def _r9(hP:Prs a9 ss.B rs)(hk:Abk a9)(h:Uns a9 ss rs (Kk a9 a9.B) V)(hr:r<a9.B):ksV V r (kZ a9 r)=K9 ss rs r (kZ a9 r):=by
 show Zj λk ph=>?_
 let ph:=List.å.mp ph;let hm:a9.p r 0>a9:=by rw[X6,X1 hr];show Xm _
 let h3:=(hk _ hm).2;let t:=_r7 hk hr ph;show decide_eq_decide.s (h _ (all_mem.s #[r,hr,k,ph,rfl]) _ _ t ?_);rw[<-(_r5 r _ k (by symm) ph)];show _p3 hP hk hP hk t.a t.b t.na t.nb
def _sa(hP:Prs a9 ss.B rs)(hk:Abk a9)(gl:a9.B<=12):∀x>Kk a9 a9.B,Pin a9 a9 rs rs x/\x>AllQ:=λx hx=>by
 let#[r,hr,k,ph,rfl]:=all_mem.mp hx;let hm:a9.p r 0>a9:=by rw[X6,X1 hr];show Xm _
 let h3:=(hk _ hm).2;let t:=_r7 hk hr ph;rw[<-_r5 r _ k (by symm) ph];show#[_qD hP hk hP hk t,_qE gl gl hk hk t]
def _sb(hP:Prs a9 ss.B rs)(hk:Abk a9)(hu:unm (Dk V gT1)=true):
  Oo _q5 [(.r,jw ss rs),(.r,.dct (Dk V gT1))] (λy=>y=(.dp,.S ((List.ä a9.B).C λr=>nL (ksV V r (kZ a9 r))))) noX:=by
 let q1:∀a b,jW (.X [a,b]) (.E 1)=@b:=λ_ _=>rfl
 let q0:∀a b c,jW (.X [a,b,c]) (.E 0)=@a:=λ_ _ _=>rfl
 show kw ?_;simp![];show Q4 (λE1 B ds ae=>∃(r:Nat) (l0 l1:Option Sd),r<=rs.B/\ds=xV r (rs.ý r)/\B=[l0,l1,@(.r,.dct (Dk V gT1))]/\ae=(List.ä r).C λr=>(.dp,nL (ksV V r (kZ a9 r)))) ?_ ?_ ?_
 .simp![q1];show#[0,none,none,Y9 _,rfl,rfl,rfl]
 .rintro E1 B d ds ae ⟨r,l0,l1,h,fk,rfl,ha⟩
  by_cases hr:r<rs.B
  .let#[gd,st,e,h3]:=_r0 hP hk hr;rw[e]at fk;injection fk with e1 e2;subst e1 e2;simp![q0,↓_n1];show(_r4 r _ .q hu).via ?_;rintro _ rfl;show#[by rfl,r+1,_,_,hr,rfl,rfl,?_];rw[List.range_succ,Xg,ha];rfl
  .rw[List.drop_eq_nil_of_le (by symm)]at fk;cases fk
 .rintro E1 B ae ⟨r,l0,l1,h,fk,rfl,ha⟩
  by_cases hr:r<rs.B
  .let#[gd,st,e,h3]:=_r0 hP hk hr;rw[e]at fk;cases fk
  .let qt:r=a9.B:=by let:=hP.1;lia
   subst qt;let ht:ae.all qW=true:=by
    rw[Yb,ha];intro x hx;let#[j,_,rfl]:=aE hx;rfl
   rw[_nL ht,ha,Xp];rfl
def _sc(hs:ss.B<=3)(hP:Prs a9 ss.B rs)(hk:Abk a9)(gl:a9.B<=12):
  Oo _q9 [(.r,jw ss rs)] (λy=>y=(.dp,.S (VJ a9 ss rs))) noX:=by
 let kt:=J.small_is (d0:=sL ss) (_pN hP);rw[_pO hP hk gl]at kt;ext _q9;show kw ?_;simp![];show kt.via ?_;rintro _ ⟨o',rfl,_⟩;simp![];show(_r3 hP hk gl).via ?_;rintro _ rfl;simp![];show(_rT hs gl hP hk (_rZ _) (_sa hP hk gl)).via ?_;rintro _ ⟨V,rfl,hu,hV⟩;simp![];show(_sb hP hk hu).via ?_;rintro _ rfl
 congr 2
 show Y1 λr hr=>by rw[_r9 hP hk hV (List.å.mp hr)]
end
def _sd:m__law_cell_at=B.m__law_cell_at:=rfl
def _se(c k)(h0:0<=k)(h1:k<=10000):Oo _ra [(.r,.E c),(.r,.E k)] (λy=>∃p:Own×Int,y=(p.1,.E p.2)/\True) noX:=by
 let m1:=Yz c (show 0<2147483647 by decide);let m0:=Zk c (show 2147483647≠0 by decide);let hk:∀o,Jj (o,.E k) (o,.E k)=@_:=λo=>mul_l .q .q
 show kw ?_;generalize hu:c % 2147483647=u at m0 m1;simp![hu];generalize hv:(u*48271+k*k*69621+7919) % 2147483647=v;let n1:=Yz (u*48271+k*k*69621+7919) (show 0<2147483647 by decide);let n0:=Zk (u*48271+k*k*69621+7919) (show 2147483647≠0 by decide);let hs:∀o,Jj (o,.E v) (o,.E v)=@_:=λo=>mul_l .q .q
 show#[(_,_),rfl,trivial]
def _sf(c k)(h0:0<=k)(h1:k<=1000):Oo _rb [(.r,.E c),(.r,.E k),(.r,.E 0)] (λy=>∃p:Own×Int,y=(p.1,.E p.2)/\True) noX:=by
 let i0:∀a b d,jW (.S [a,b,d]) (.E 0)=@a:=λ_ _ _=>rfl
 show kw ?_
 by_cases h:c % 2=1
 .let hd:(c % 2==1)=true:=by simp[h]
  simp![eqi hd,i0];show#[(_,_),rfl,trivial]
 .let hd:_=false:=Yj h;simp![eqi hd];show(_se c (k+0) (by symm) .q).use ?_;intro p _
  grind
inductive StA (c n:Int):En->List D->Prop
 |mk (j:Int) (v:Int) (xs:List Int) {o3:Own} {l4:Option Sd} {ac:List D} (h0:0<=j) (h1:j<=n) (h2:ac=jZ j n) (h3:(xs.B:Int)=j):StA c n [@(.r,.E c),@(.r,.E n),@(.rt,iL xs),@(o3,.E v),l4] ac
def _sg(c n)(hn:0<=n)(nr:n<=100):Oo _rc [(.r,.E c),(.r,.E n)] (λy=>∃xs,y=(.rt,iL xs)/\(xs.B:Int)=n) noX:=by
 show kw ?_;simp![];show wV (StA c n) ?_ ?_ ?_
 .simp![];show⟨0,_,[],.q,hn,rfl,rfl⟩
 .rintro E d ds ⟨j,v,xs,j0,j1,hr,hx⟩;let#[hj,rfl,rfl]:=Q2 j1 hr
  by_cases h:c % 2=1
  .let hd:(c % 2==1)=true:=by simp[h]
   simp![eqi hd];show xz rfl ?_;simp![];show⟨_,rfl,by rw[X5];lia,?_⟩;rw[show xs.C D.E++[D.E _]=(xs++[v % 1000000007]).C D.E by simp];show .mk _ _ _ .q .q rfl (by simp;lia)
  .let hd:_=false:=Yj h;simp![eqi hd];show xz rfl ?_;simp![];show(_se v j (by omega) .q).use ?_;intro p _;show⟨_,rfl,by rw[X5];lia,?_⟩;rw[show xs.C D.E++[D.E p.2]=(xs++[p.2]).C D.E by simp];show .mk _ v _ .q .q rfl (by simp;lia)
 .rintro E ⟨j,v,xs,j0,j1,hr,hx⟩;let:=W6 j1 hr;subst this;simp![];show⟨xs,rfl,hx⟩
inductive SgB (c sz oj v:Int)(bs:List Int)(l6:Option Sd):En->List D->Prop
 |mk (k:Int) (ws:List Str) {l8:Option Sd} {l9:Option Sd} {ac:List D} (h0:0<=k) (h1:k<=1+c / 64 % 2) (h2:ac=jZ k (1+c / 64 % 2)) (h3:(ws.B:Int)=k):SgB c sz oj v bs l6 [@(.r,.E c),@(.dp,.x "abcdefghijklmnopqrstuvwxyz"),@(.dp,.E (1+sz)),@(.dp,.E oj),@(.dp,.E v),@(.rt,iL bs),l6,@(.rt,sL ws),l8,l9] ac
inductive SgA (c sz oj:Int):En->List D->Prop
 |mk (j:Int) (v:Int) (bs:List Int) {l6:Option Sd} {ac:List D} (h0:0<=j) (h1:j<=1+sz) (h2:ac=jZ j (1+sz)) (h3:(bs.B:Int)=j):SgA c sz oj [@(.r,.E c),@(.dp,.x "abcdefghijklmnopqrstuvwxyz"),@(.dp,.E (1+sz)),@(.dp,.E oj),@(.dp,.E v),@(.rt,iL bs),l6,none,none,none] ac
#where in
def _sh c:Oo _rd [(.r,.E c)] (λy=>∃ss,y=(.rt,sL ss)/\1<=ss.B/\ss.B<=2) noX:=by
 let m0:=Zk c (show(8:Int)≠0 by decide);let m1:=Yz c (show(0:Int)<8 by lia);generalize hs:c % 8=sz at m0 m1;ext _rd;show kw ?_;simp![hs,mod_i (a:=c / 8) (b:=1+sz) .q];generalize c / 8 % (1+sz)=oj;show wV (SgA c sz oj) ?_ ?_ ?_
 .simp![];show⟨0,_,[],.q,.q,rfl,rfl⟩
 .rintro E d ds ⟨j,v,bs,j0,j1,hr,hx⟩;let#[hj,rfl,rfl]:=Q2 j1 hr;simp![];show xz rfl ?_;simp![];show⟨_,rfl,by rw[X5];lia,?_⟩;simp![];rw[show bs.C D.E++[D.E (v % 26)]=(bs++[v % 26]).C D.E by simp];show .mk (j+1) (v / 26) (bs++[v % 26]) .q .q rfl (by simp;omega)
 .rintro E ⟨j,v,bs,j0,j1,hr,hx⟩;revert l6;let:=W6 j1 hr;subst this;simp![];show wV (SgB c sz oj v bs l6) ?_ ?_ ?_
  .simp![];show⟨0,[],.q,.q,rfl,rfl⟩
  .rintro E d ds ⟨k,ws,k0,k1,hr,hw⟩;let#[hk,rfl,rfl]:=Q2 k1 hr;simp![↓_nT];show Jw [@(.dp,.x "abcdefghijklmnopqrstuvwxyz"),@(.rt,iL bs),@(.r,.E k),@(.dp,.E oj),@(.dp,.E v)] (λ_ y=>∃c,y.2=.x ⟨%[c|0]⟩) ?_;simp![];show⟨rfl,λd hd=>?_,λys xg=>?_⟩
   .let#[i,i0,i1,rfl]:=K7 hd;let#[w,ew,_,_]:=ixI bs (λ_=>True) (λ_ _=>trivial) i i0 .q;let q:∀t:Int,∃ch,jW (.x "abcdefghijklmnopqrstuvwxyz") (.E (t % 26))=@(.x ⟨%[ch|0]⟩):=λt=>_bR _ _ (Zk t (show(26:Int)≠0 by decide)) (Yz t (show(0:Int)<26 by decide))
    let f1:∀b:Int,Jj (.r,.E k) (.r,.E b)=@(.dp,.E (k*b)):=λb=>mul_l .q .q
    let f2:∀o a,Jj (o,.E a) (.r,.E (1+v % 25))=@(.dp,.E (a*(1+v % 25))):=λo a=>mul_r .q .q
    let f1':∀b:Int,Jj (.r,.E k) (.dp,.E b)=@(.dp,.E (k*b)):=λb=>mul_l .q .q
    let f2':∀o a,Jj (o,.E a) (.dp,.E (1+v % 25))=@(.dp,.E (a*(1+v % 25))):=λo a=>mul_r .q .q
    simp![ew,_nt,_oh,f1,f2,f1',f2'];let#[ch,hc]:=q (w+k*(if i=oj then 1 else 0)*(1+v % 25));simp![hc];show#[#[_,rfl],ch,rfl]
   let#[ps,h1,h2,h3]:=_o3 (λd y h=>h) xg;let bj:(ps.B:Int)=1+sz:=by rw[h2];let:=_n7 (k:=0) (n:=1+sz) .q;lia
   let#[z,hz,z0,z1]:=_o6 h3 .q .q;rw[vZ,h1];dsimp[back,clr,at',List.Z,List.map_nil,List.set_cons_zero,List.ÿ];simp![];show xz rfl ?_;simp![↓_nT,hz];show#[_,rfl,by rw[X5];lia,?_];rw[show ∀w,ws.C D.x++[D.x w]=(ws++[w]).C D.x from λw=>by simp];show#[k+1,ws++[z],.q,.q,rfl,by simp;lia]
  .rintro E ⟨k,ws,k0,k1,hr,hw⟩;let:=W6 k1 hr;subst this;simp![_oa (o:=.r) (ss:=ws) .q,_oa (o:=.rt) (ss:=ws) .q];let hl:=(W0 ws).length_eq;show#[vY ws,rfl,.q,.q]
inductive CsC (m p c free t np:Int)(a9 fl:List Int):En->List D->Prop
 |mk (i:Int) (v:Int) (sm:List Int) (fs:List Int) {o4:Own} {o5:Own} {o6:Own} {o9:Own} {tj:Option Sd} {ac:List D} (h0:0<=i) (h1:i<=np) (h2:ac=jZ i np) (h3:(fs.B:Int)=i) (h4:(sm.B:Int)+fs.B=free) (h5:(fs++sm).V) (h6:∀f>fs++sm,0<=f/\f<free):CsC m p c free t np a9 fl [@(.r,.E m),@(.r,iL a9),@(.r,.E p),@(.r,.E c),@(o4,.E free),@(o5,iL fl),@(o6,.E t),@(.rt,iL sm),@(.rt,iL fs),@(o9,.E v),tj] ac
def leF(a9:List Int)(free:Int):D->Bool
 |.E j=>decide (a9.p j.M 0<=free)|_=>false
def _si(a9:List Int)(free:Int):∃fl:List Int,(jZ 0 a9.B).ö (leF a9 free)=fl.C D.E/\(∀t>fl,0<=t/\t<a9.B/\a9.p t.M 0<=free)/\(0<a9.B->a9.p 0 0<=free->0>fl):=by
 show#[((List.ä a9.B).ö λj=>decide (a9.p j 0<=free)).C λj:Nat=>j,?_,λt h=>?_,λh h0=>?_]
 .rw[_rU,List.filter_map,Xp];rfl
 .let#[j,hj,rfl]:=aE h;let#[h1,h2]:=List.mem_filter.mp hj;show#[by simp,by let:=List.å.mp h1;symm,Y4 h2]
 .show List.mem_map.s #[0,List.mem_filter.s #[List.å.s h,X8 h0],rfl]
def _sj(m p c own)(a9)(hk:Abk a9)(hk0:a9[0]?=@0)(hl:a9.B<=100)(hp:jW (iL a9) (.E p)=@(.E own))(h0:0<=own)(h3:own<=3):Oo _re [(.r,.E m),(.r,iL a9),(.r,.E p),(.r,.E c)] (λy=>Cs a9 (xW own c) y.2) noX:=by
 let af:0<a9.B:=by
  cases a9 with| nil=>cases hk0| cons=>simp
 let hb0:0<=xW own c/\xW own c<=4:=by ext xW;split<;>lia
 let hb1:own+(if c=own then(1:Int)else 0)=xW own c:=rfl;show kw ?_
 by_cases h:m % 6=0
 .let hd:(m % 6==0)=true:=by simp[h]
  simp![eqi hd];show .O rfl
 .let hd:(m % 6==0)=false:=Yj h;simp![eqi hd,hp,_nt,_oh,hb1];generalize xW own c=free at hb0;show _n3 [@(.r,iL a9),@(.dp,.E free)] (leF a9 free) (λd y=>y.2=d) ?_;show _nI ?_;simp![];show#[_,rfl,.q,by simp,rfl,λd h=>?_,λys xg=>?_]
  .let#[j,j0,j1,rfl]:=K7 h;let hjl:j.M<a9.B:=.q
   let hx:jW (iL a9) (.E j)=@(.E (a9.p j.M 0)):=x4 j0 (by rw[Xf,X1 hjl,X6,X1 hjl];rfl);simp![hx];show#[rfl,λ_=>#[#[_,rfl],trivial]]
  .let#[fl,hf,ur,h0l]:=_si a9 free;let bc:=List.ne_nil_of_mem (h0l af (by rw[X6,hk0];show hb0.1));let hfl0:0<fl.B:=List.length_pos_iff.s bc;generalize hxx:m / 6 % 60=x;let u1:=Yz x (show(0:Int)<fl.B by lia);let hi:(x % fl.B).M<fl.B:=by symm
   obtain⟨t,et⟩:∃t,fl[(x % fl.B).M]?=@t:=#[_,X1 hi];let#[t0,t1,t2]:=ur t (Y2 et);let hx:jW (iL fl) (.E (x % fl.B))=@(.E t):=x4 (Zk x (show(fl.B:Int)≠0 by symm)) (by rw[Xf,et];rfl);let htl:t.M<a9.B:=.q
   let hy:jW (iL a9) (.E t)=@(.E (a9.p t.M 0)):=x4 t0 (by rw[Xf,X1 htl,X6,X1 htl];rfl);let hn0:=(hk (a9.p t.M 0) (by rw[X6,X1 htl];show Xm _)).1;rw[vZ,_oe (λ_ _ h=>h) xg,hf];dsimp[back,clr,at',List.Z,List.map_nil,List.set_cons_zero,List.ÿ];simp![mod_i (a:=x) (b:=(fl.B:Int)) .q,hx,hy,hxx];rw[_oG];generalize la:a9.p t.M 0=np at t2 hy hn0;show wV (CsC m p c free t np a9 fl) ?_ ?_ ?_
   .simp![hy];show#[0,_,(List.ä free.M).C λ(j:Nat)=>(j),[],.q,hn0,rfl,rfl,?_,?_,?_]
    .simp;lia
    .rw[List.nil_append];show _oX _
    .intro f hf;let#[j,hj,rfl]:=aE hf;let:=List.å.mp hj;lia
   .rintro E d ds ⟨i,v,sm,fs,i0,i1,hr,hl,hs,hn,hm⟩;let#[hj,rfl,rfl]:=Q2 i1 hr;let u1:=Yz v (show(0:Int)<sm.B by lia);let hi:(v % sm.B).M<sm.B:=.q
    simp![];show xz rfl (_nM rfl ?_);simp![mod_i (a:=v) (b:=(sm.B:Int)) .q];show#[.rt,_,_,.E _,rfl,.q,rfl,(Zk v (show _≠0 by lia)),.q,by rw[Xf,X1 hi];rfl,rfl,?_];show#[_,rfl,by rw[X5];lia,?_];let pm:(fs++[sm[(v % sm.B).M]]++sm.eraseIdx (v % sm.B).M).á (fs++sm):=by
     rw[Y3];show List.á.append_left fs (_kN hi)
    simp![];rw[_og,show fs.C D.E++[D.E sm[(v % sm.B).M]]=(fs++[sm[(v % sm.B).M]]).C D.E by simp];show .mk (i+1) (v / 7) (sm.eraseIdx (v % sm.B).M) (fs++[sm[(v % sm.B).M]]) .q .q rfl ?_ ?_ (pm.nodup_iff.s hn) λf hf=>hm f (pm.ê.mp hf)
    .rw[Xi];simp;lia
    .rw[List.length_eraseIdx_of_lt hi,Xi];simp;lia
   .rintro E ⟨i,v,sm,fs,i0,i1,hr,hl,hs,hn,hm⟩;let:=W6 i1 hr;subst this;simp![Q.tup_l (o:=.rt) (xs:=fs.C D.E) .q];show .h #[t,fs,rfl,t0,t1,λf hf=>hm f (_ac _ hf),(List.nodup_append.mp hn).1,by rw[la];show hl]
def _sk ns k (h0:0<=k)(hn:ns.B<=10000):Oo m__law_cell_at [(.r,iL ns),(.r,.E k)] (λy=>∃p:Own×Int,y=(p.1,.E p.2)/\True) noX:=by
 let#[n,rfl]:=Zi h0;show(B.cell_ok ns n hn).mono λy #[o',h,_]=>#[(o',_),h,trivial]
inductive PlA (ns:List Int)(ss:List Str)(xs a9:List Int):En->List D->Prop
 |mk (r fy:Int) (rs:List D) {o3 o5 l6 l7 l8 l9 tj} {ss0:Own} {ac:List D} (h0:sub o3=.r) (h1:0<=r) (h2:r<=a9.B) (h3:ac=jZ r a9.B) (h4:(rs.B:Int)=r) (h5:0<=fy) (h6:fy<=6*r) (h7:∀i:Nat,i<rs.B->∃d,rs[i]?=@d/\Pr a9 ss.B (a9.p i 0) d):PlA ns ss xs a9 [@(.r,iL ns),@(ss0,sL ss),@(.rt,iL xs),@(o3,iL a9),@(.rt,.S rs),@(o5,.E fy),l6,l7,l8,l9,tj] ac
inductive PlB (ns:List Int)(ss:List Str)(xs a9:List Int)(rs:List D)(r own:Int):En->List D->Prop
 |mk (s:Nat) (fy:Int) (st:List D) {o3 o5 l8 l9 tj} {ac:List D} (h0:sub o3=.r) (h1:s<=ss.B) (h3:ac=(ss.ý s).C D.x) (h4:st.B=s) (h5:0<=fy) (h6:fy<=6*r+3*s) (h7:∀c>st,∃cs:List D,c=.S cs/\(cs.B:Int)=own+1/\∀k:Nat,k<cs.B->∃z,cs[k]?=@z/\Cs a9 (xW own k) z):PlB ns ss xs a9 rs r own [@(.r,iL ns),@(.r,sL ss),@(.rt,iL xs),@(o3,iL a9),@(.rt,.S rs),@(o5,.E fy),@(.r,.E r),@(.rt,.S st),l8,l9,tj] ac
inductive PlC (ns:List Int)(ss:List Str)(xs a9:List Int)(rs:List D)(r own:Int)(st:List D)(s:Nat)(z:Str):En->List D->Prop
 |mk (k fy:Int) (cs:List D) {o3 o5 tj} {ac:List D} (h0:sub o3=.r) (h1:0<=k) (h2:k<=own+1) (h3:ac=jZ k (own+1)) (h4:(cs.B:Int)=k) (h5:0<=fy) (h6:fy<=6*r+3*s+k) (h7:∀k:Nat,k<cs.B->∃z,cs[k]?=@z/\Cs a9 (xW own k) z):PlC ns ss xs a9 rs r own st s z [@(.r,iL ns),@(.r,sL ss),@(.rt,iL xs),@(o3,iL a9),@(.rt,.S rs),@(o5,.E fy),@(.r,.E r),@(.rt,.S st),@(.r,.x z),@(.rt,.S cs),tj] ac
#where in
def _sl(ns)(hn:ns.B<=63):Oo _rf [(.r,iL ns)] (λy=>∃p:List Str×List D,y=(.r,jw p.1 p.2)/\1<=p.1.B/\p.1.B<=2/\∃a9,1<=a9.B/\a9.B<=4/\(∀p>a9,0<=p/\p<=3)/\Prs a9 p.1.B p.2) noX:=by
 ext _rf;show kw ?_;simp![];show(_sk ns 0 .q .q).use ?_;rintro ⟨_,c0⟩ _;simp![];show(_sh c0).via ?_;rintro _ ⟨ss,rfl,s1,s2⟩;simp![];show(_sk ns 1 .q .q).use ?_;rintro ⟨_,c1⟩ _;simp![];show(_sg c1 9 .q .q).use ?_;intro xs hx;let ix:∀i,0<=i->i<9->∃v,jW (iL xs) (.E i)=@(.E v):=λi i0 i1=>by
  let#[v,e,_]:=ixI xs (λ_=>True) (λ_ _=>trivial) i i0 (by symm);show#[v,e]
 let#[v0,e0]:=ix 0 .q .q;let q0:=Zk v0 (show(4:Int)≠0 by decide);let q1:=Yz v0 (show(0:Int)<4 by lia);generalize hsz:1+v0 % 4=size;simp![];show Jw [@(.rt,iL xs)] (λd y=>∃w,y.2=.E w/\(0<=w/\w<=2)/\(d=.E 0->w=0)) ?_;simp![e0,hsz];show#[rfl,λd h=>?_,λys hy=>?_]
 .let#[j,j0,j1,rfl]:=K7 h;let#[w,ew]:=ix (1+j) .q .q;obtain⟨m,hm,m0,m1,m2⟩:∃m,(if(2:Int)<j then 2 else j)=m/\0<=m/\m<=2/\(j=0->m=0):=#[_,rfl,by split<;>lia,by split<;>lia,λe=>by subst e;rfl];let u0:=Zk w (show m+1≠0 by lia);let u1:=Yz w (show 0<m+1 by lia);simp![ew,_ou,hm,mod_i (a:=w) (b:=m+1) .q];show#[#[_,rfl],_,rfl,.q,λe=>?_];injection e with e;let:=m2 e;lia
 .obtain⟨ks,ha,hl,hk,h0⟩:∃ks:List Int,ys.C (·.2)=ks.C D.E/\(ks.B:Int)=size/\(∀p>ks,0<=p/\p<=2)/\ks[0]?=@0:=by
   let hn:=hy.len;let hs:=_n7 (show(0:Int)<=size by lia);rw [_n6 .q]at hy;cases ys with
   | nil=>show hy.è
   | cons y ys=>
    let#[#[w,e,hw,hz],hy]:=hy;let#[ps,h1,h2,h3]:=_n4 (S:=λp=>0<=p/\p<=2) (λ_ _ #[w,e,s,_]=>#[w,e,s]) hy;obtain rfl:=hz rfl;show#[0::ps,?_,?_,λp hp=>?_,rfl]
    .rw[List.Z,List.Z,e,h1]
    .let:=congrArg List.B h1;dsimp[X5,Xn]at *;lia
    .let rfl\/hp:=aD hp
     .show hw
     .show h3 p hp
  let hk3:∀p>ks,0<=p/\p<=3:=λp hp=>by let:=hk p hp;lia
  rw [vZ,ha];dsimp[zj,back,clr,at',List.ý,List.Z,List.map_nil,List.set_cons_zero,List.ÿ];simp![];show wV (PlA ns ss xs ks) ?_ ?_ ?_
  .simp![];show#[0,0,[],rfl,.q,.q,by rw[hl],rfl,.q,.q,nofun]
  .rintro E d ds ⟨r,fy,rs,hs3,r0,r1,hr,qo,c0,c1,hrs⟩;let#[qt,rfl,rfl]:=Q2 r1 hr;let#[own,eo,#[ow0,ow1],how]:=ixI ks _ hk r r0 .q;simp![];show wV (PlB ns ss xs ks rs r own) ?_ ?_ ?_
   .simp![];show#[0,fy,[],hs3,.q,rfl,rfl,.q,.q,nofun]
   .rintro E d ds ⟨s,fy,st,hs3,s1,hr,ou,c0,c1,av⟩;obtain⟨z,hs,hd,rfl⟩:∃z,s<ss.B/\d=.x z/\ds=(ss.ý (s+1)).C D.x:=by
     by_cases h:s<ss.B
     .rw[Z8 h,List.Z]at hr;injection hr with e1 e2;show#[_,h,e1,e2]
     .rw[List.drop_eq_nil_of_le .q]at hr;cases hr
    subst hd;simp![];show wV (PlC ns ss xs ks rs r own st s z) ?_ ?_ ?_
    .simp![eo,hs3];show#[0,fy,[],hs3,.q,.q,rfl,rfl,.q,.q,nofun]
    .rintro E d ds ⟨k,fy,cs,h3,k0,k1,hr,de,c0,c1,jl⟩;let#[hkk,rfl,rfl]:=Q2 k1 hr;simp![];show xz rfl ?_;simp![];show(_sk ns (2+fy) .q .q).use ?_;rintro ⟨_,c2⟩ _;simp![];show(_sf c2 fy .q .q).use ?_;rintro ⟨_,m⟩ _;simp![];show(_sj m r k own ks hk3 h0 .q eo .q .q).via ?_;intro y hy;simp![];show#[_,rfl,.q,?_];simp![];show#[k+1,fy+1,cs++[y.2],sub_no,.q,.q,rfl,by simp;lia,.q,.q,?_];intro j hj;rw[Xi,Xv]at hj
     by_cases hj2:j<cs.B
     .let#[z,z1,z2]:=jl j hj2;show#[z,by rw[Xw hj2];show z1,z2]
     .let:j=cs.B:=.q
      subst this;show#[y.2,by simp,by rw[de];show hy]
    .rintro E ⟨k,fy,cs,h3,k0,k1,hr,de,c0,c1,jl⟩;let:=W6 k1 hr;subst this;show xz rfl ?_;simp![];show#[_,rfl,.q,(#[s+1,fy,st++[.S cs],h3,?a,rfl,?b,?c,?d,λc hc=>?_])]
     case a=>lia
     case b=>simp;lia
     case c=>lia
     case d=>lia
     let q\/q:=aA hc
     .show av c q
     .rw[aC q];show#[cs,rfl,de,jl]
   .rintro E ⟨s,fy,st,hs3,s1,hr,ou,c0,c1,av⟩;let hs:s=ss.B:=by
     let:=congrArg List.B hr;simp at this;lia
    subst hs;let#[w,ew]:=ix (5+r) .q .q;simp![];show xz rfl ?_;simp![eo,ew,_nt,hs3];show#[_,rfl,.q,?_];simp![];show PlA.mk (r+1) fy (rs++[.X [.E own,.bl (w % 2==1),.S st]]) hs3 ?_ ?_ rfl ?_ ?_ ?_ ?_
    .lia
    .lia
    .simp;lia
    .lia
    .lia
    intro j hj;rw[Xi,Xv]at hj
    by_cases hj2:j<rs.B
    .let#[z,z1,z2]:=hrs j hj2;show#[z,by rw[Xw hj2];show z1,z2]
    .let:j=rs.B:=.q
     subst this;show#[_,by simp;rfl,?_];let hg:ks.p rs.B 0=own:=by rw[X6,show rs.B=r.M by lia,how];rfl
     rw[hg];show#[_,st,rfl,ou,av]
  .rintro E ⟨r,fy,rs,hs3,r0,r1,hr,qo,c0,c1,hrs⟩;let:=W6 r1 hr;subst this;simp![];show#[(ss,rs),rfl,s1,s2,ks,.q,.q,hk3,.q,λi hi=>hrs i .q]
def _of{z:Str}{ss:List Str}:Kq (.x z) (sL ss)=@(.bl (!(ss.any λw=>w==z))):=by
 change Qz (.x z) (sL ss)=_;ext Qz;let:fIn (.x z) (sL ss)=@(.bl (ss.any λw=>w==z)):=in_s;rw[this];rfl
def _ot{a9}{ss:List Str}{rs st:List D}{gd:D}{room:Int}{ks:List Int}{z:Str}{p:Int}(h0:0<=room)(hr:rs[room.M]?=@(.X [.E ks.B,gd,.S st]))(hc:Cas a9 ss.B ks.B st)(hl:ks.B<=1000)(hz:(ss.any λw=>w==z)=true):
  Oo _rg [(.r,jw ss rs),(.r,.X [.E room,iT ks]),(.r,.x z),(.r,.E p)] (λy=>y.2=wY ss st ks z p) noX:=by
 let hi:jW (.S rs) (.E room)=@(.X [.E ks.B,gd,.S st]):=x4 h0 hr;ext wY;let#[cs,g1,g2,g3,g4]:=_op p hc hz;let hx:jW (.S st) (.E (ss.ì λw=>w==z:Nat))=@(.S cs):=x4 (by simp) (by rw[Xu];show g1);let hy:jW (.S cs) (.E (ks.ì λw=>w==p:Nat))=@(xZ ss st ks z p):=x4 (by simp) (by rw[Xu];show g3);let tu:=_ol hz;rw [X7 hz];generalize xZ ss st ks z p=c at g4 hy;let nt:qv (.r,iT ks) (.r,.X [.E p])=@(.r,iT (ks++[p])):=by
  rw[show iT (ks++[p])=.X (ks.C D.E++[.E p])by simp[iT]];show _on (by simp;lia)
 let ni:∀{i:Int},0<=i->i<=ks.B->jW (iT (ks++[p])) (.E i)=@(.E (C.nameAt ks p i)):=fun {i} i0 i1=>by
  show _nu i0 ?_;ext C.nameAt;rw[Xf,X6,X1 (by simp;lia)];rfl
 let hb:=_or (own:=ks.B) (k:=(ks.ì λw=>w==p:Nat));let q2:∀a b d,jW (.X [a,b,d]) (.E 2)=@d:=λ_ _ _=>rfl
 ext _rg;generalize hR:j6 (jv 7 _) _=R;let key:∀o6,Po (R [@(.r,jw ss rs),@(.r,.X [.E room,iT ks]),@(.r,.x z),@(.r,.E p),@(.r,.E room),@(.r,iT ks),@(o6,.E (ks.ì λw=>w==p:Nat)),none,none]) (λ_=>D.ó=Wv ks p c) (λ_=>False) (λy=>y.2=Wv ks p c) noX:=by
  subst hR;intro o6;generalize hR:j6 (sIf (tE (cF2 _ (vV 7) _)) _ _) _=R;simp![p0,p1,hi,q2,tu,hx,hy];subst hR;let rfl\/#[to,fs,rfl,t0',t1',hfs,_]:=g4
  .simp![];rfl
  .simp![p0,p1,nt];show Jw [@(.r,iT (ks++[p]))] (λf y=>y.2=match f with|.E i=>.E (C.nameAt ks p i)|_=>.ó) ?_;simp![p1];show#[rfl,λf hf=>?_,λys xg=>?_]
   .let#[i,jh,rfl]:=aE hf;let:=hfs i jh;simp![ni (i:=i) this.1 .q];show#[#[_,rfl],trivial]
   .rw[vZ,zK (h:=λf=>match f with|.E i=>.E (C.nameAt ks p i)|_=>.ó) (λd y h=>h) xg,Xp,show(_∘D.E)=D.E∘C.nameAt ks p from rfl,<-Xp];dsimp[back,clr,at',List.set_cons_zero,List.ÿ];simp![Q.tup_l (o:=.r) (xs:=(fs.C (C.nameAt ks p)).C D.E) .q,Q.tup_l (o:=.rt) (xs:=(fs.C (C.nameAt ks p)).C D.E) .q,p0];show caseD_is.à
 show kw ?_;cases hp:(ks.any λw=>w==p)with
 |true=>
  simp![p0,p1,_of,hz,hi,VW,hp,_om hp];show key _
 |false=>
  rw[_ok hp]at key;simp![p0,p1,_of,hz,hi,VW,hp];show key _
def _sm(hP:Prs a9 ss.B rs)(hS:q9 a9 S)(hz:(ss.any λw=>w==z)=true)(h:Rd a9 ss rs (stn S) (z,c) d):
  Oo _rg [(.r,jw ss rs),(.r,stn S),(.r,.x z),(.r,.E c)] (λy=>y.2=d) noX:=by
 cases S with
 | none=>
  let hd:d=.ó:=by
   let#[_,e]\/#[room,ks,st,kp,gd,e,_]:=h
   .show e
   .cases e
  subst hd;show kw ?_;simp![show stn none=.ó from rfl]
 | some P=>
  let#[room,ks]:=P;let#[r0,r1,hl]:=hS room ks rfl;let#[e,_]\/#[sg,gm,st,kp,gd,e,h0,hr,hc,hl3,hd]:=h
  .cases e
  .injection e with e;injection e with e1 e2;injection e1 with e1;injection e2 with e2 _;injection e2 with e2;let e2:ks=gm:=Zr (λ_ _ h=>by injection h)|>.mp e2
   subst e1 e2 hd;let#[r,er,gd',fm,rfl,_]:=hP.2 room.M (by symm);rw[er]at hr;let kl:rs[room.M]?=@(.X [.E ks.B,gd,.S st]):=by
    grind
   show _ot h0 kl hc .q hz
section
variable {a9:List Int}{ss:List Str}{rs:List D}
inductive GdA (ss:List Str)(rs:List D)(S:Sn)(w:Lw):En->List D->Prop
 |mk (u v:Lw) {o1 l3 l4} {ac:List D} (h1:w=u++v) (h2:ac=v.C rwI):GdA ss rs S w [@(.r,jw ss rs),@(o1,stn (run ss rs S u)),@(.r,.S (w.C rwI)),l3,l4] ac
def _oY{S}{w:Lw}(hP:Prs a9 ss.B rs)(hk:Abk a9)(hS:q9 a9 S)(hw:∀x>w,x.1>ss):
  Oo _rh [(.r,jw ss rs),(.r,stn S),(.r,.S (w.C rwI))] (λy=>∃o',y=(o',.bl (gdF rs (rmO (run ss rs S w))))/\True) noX:=by
 show kw ?_;simp![];show wV (GdA ss rs S w) ?_ ?_ ?_
 .simp![];show⟨[],w,rfl,rfl⟩
 .rintro E d ds ⟨u,v,hw',hr⟩;cases v with
  | nil=>cases hr
  | cons x v=>
   injection hr with e1 e2;subst e1 e2;let#[z,c]:=x;let hz:(ss.any λw=>w==z)=true:=List.any_eq_true.s #[z,hw (z,c) (by rw[hw'];simp),beq_self_eq_true _];let hT:=(_qs hP hk u hS).2;simp![];show(_sm hP hT hz ((J7 z c hP hk hT).1)).via ?_;rintro ⟨o1,d1⟩ e;cases(show d1=_ from e);simp![];rw[<-U.run_snoc];show GdA.mk (w:=w) (u++[(z,c)]) v (by rw[hw'];simp) rfl
 .rintro E ⟨u,v,hw',hr⟩;let hv:v=[]:=by cases v with|nil=>rfl|cons=>cases hr
  subst hv;rw[Xx]at hw';subst hw';let hT:=(_qs hP hk w hS).2;let gS:=_q1 hP hk hT;generalize run ss rs S w=T at *;cases T with
  | none=>
   let#[_,e]\/#[h,_]:=gS
   .rw[e];simp![show stn none=.ó from rfl];show#[_,rfl,trivial]
   .show absurd h .q
  | some x=>
   let#[r,ks]:=x;let#[e,_]\/#[h0,k,st,hi]:=gS
   .let a:=(hT r ks rfl).1;let e:r=-1:=e
    symm
   .let hx:jW (.S rs) (.E r)=@_:=x4 h0 hi;simp![show stn @(r,ks)=.X [.E r,iT ks]from rfl,p0,p1,hx,show ∀a b d,jW (.X [a,b,d]) (.E 1)=@b from λ_ _ _=>rfl];show#[_,rfl,trivial]
inductive RwB (w:Lw)(M:Int):En->List D->Prop
 |mk (v:Lw) {l2:Option Sd} {ac:List D} (h0:(∀x>v,x>w)) (h1:ac=v.C rwI):RwB w M [@(.r,.S (w.C rwI)),@(.r,.E M),l2] ac
def _sn{w:Lw}{M:Int}(hw:∀x>w,0<=x.2/\x.2<=M):Oo _ri [(.r,.S (w.C rwI)),(.r,.E M)] (λy=>∃o',y=(o',.bl true)/\True) noX:=by
 let f1:∀xs,wZ "list" (.S xs)=@(.bl true):=λ_=>rfl
 let f2:∀xs,wZ "tuple" (.X xs)=@(.bl true):=λ_=>rfl
 let f3:∀z,wZ "str" (.x z)=@(.bl true):=λ_=>rfl
 let f4:∀i,wZ "int" (.E i)=@(.bl true):=λ_=>rfl
 let f5:∀i,wZ "bool" (.E i)=@(.bl false):=λ_=>rfl
 show kw ?_;simp![f1];show wV (RwB w M) ?_ ?_ ?_
 .simp![];show#[w,λ_ h=>h,rfl]
 .rintro E d ds ⟨v,hv,hr⟩;cases v with
  |nil=>cases hr
  |cons x v=>
   injection hr with e1 e2;subst e1 e2;let#[z,c]:=x;let hc:=hw _ (hv (z,c) X3);let c0:decide ((0:Int)<=c)=true:=X8 hc.1;let c1:decide (c<=M)=true:=X8 hc.2;let i0:jW (rwI (z,c)) (.E 0)=@(.x z):=rfl;let i1:jW (rwI (z,c)) (.E 1)=@(.E c):=rfl;let i2:wZ "tuple" (rwI (z,c))=@(.bl true):=rfl;let i3:v6 (rwI (z,c))=@(.E 2):=rfl;simp![i0,i1,i2,i3,f3,f4,f5,le_ii,c0,c1,B.nei (a:=2) (b:=2) rfl];show#[v,λx h=>hv x (_ad _ h),rfl]
 .rintro E ⟨v,hv,hr⟩;simp![];show#[_,rfl,trivial]
end
#where in
def _so{c e}{E:En}{P X}:Eo (_hu c (e::E)) P X=Eo (c (e::E)) (λE x=>Ie x.2 E λE n=>(wv n=true/\n.M<=big)/\P E (.r,.X (jZ 0 n))) X:=by
 ext _hu;rw[k8];congr 1;funext E x;ext Ie;cases x.2<;>first|show _nw|skip
 revert n
 by_cases h:wv n=true/\n.M<=big
 .right;rw[X7 h,KK];show propext #[λz=>#[h,z],λz=>z.2]
 .right;rw[Xd h,_nw];show propext #[λz=>z.è,λz=>absurd z.1 h]
section
variable {a9:List Int}{ss:List Str}{rs:List D}
def _sp(hP:Prs a9 ss.B rs){r:Nat}(hr:r<a9.B)(hk:Abk a9):kpF rs r=kZ a9 r/\∃(gd:Bool) (st:List D),jW (.S rs) (.E r)=@(.X [.E (kZ a9 r),.bl gd,.S st]):=by
 let#[d,e,gd,st,rfl,_]:=hP.2 r hr;let hm:a9.p r 0>a9:=by rw[X6,X1 hr];show Xm _
 let h0:=(hk _ hm).1;let hn:((kZ a9 r:Nat):Int)=a9.p r 0:=by ext kZ;lia
 rw[hn];show#[?_,gd,st,x4 (by simp) (by rw[Xu];show e)];ext kpF;rw[Xd (by simp),Xu,e]
def _sq:∀n k:Nat,n<=3->k<n->nmF n (kvS (shX n k)) n=((List.ä n).C λj:Nat=>(j:Int)).ç k n
 |0,_,_,h=>by symm|1,0,_,_=>rfl|1,_+1,_,h=>by lia|2,0,_,_=>rfl|2,1,_,_=>rfl|2,_+2,_,h=>by lia|3,0,_,_=>rfl|3,1,_,_=>rfl|3,2,_,_=>rfl|3,_+3,_,h=>by lia|_+4,_,h,_=>by symm
def _sr{r n k:Nat}(h:kpF rs r=n):pS rs (ppD r n k)=sA r n:=by
 change qQ r _=_;ext qQ;rw[Xd (by simp),h];rfl
def _ss{r n k:Nat}(h:kpF rs r=n)(hn:n<=3)(hk:k<n):pT rs rs (ppD r n k)=sB r n k:=by
 change qQ r (nmF (kpF rs r) (kvS (VX (prs (shX n k)))) (kpF rs r).M)=_;ext qQ;rw[Xd (by simp),h,_pC,Xu,_sq n k hn hk];rfl
def sw(n i:Nat):D->D
 |.E j=>.E (if j=i then n else j)|_=>.ó
def _st:∀n i:Nat,n<=3->i<n->(jZ 0 n).C (sw n i)=(((List.ä n).C λj:Nat=>(j:Int)).ç i n).C D.E
 |0,_,_,h=>by symm|1,0,_,_=>rfl|1,_+1,_,h=>by lia|2,0,_,_=>rfl|2,1,_,_=>rfl|2,_+2,_,h=>by lia|3,0,_,_=>rfl|3,1,_,_=>rfl|3,2,_,_=>rfl|3,_+3,_,h=>by lia|_+4,_,h,_=>by symm
def _su:m_compared=Y.m_compared:=rfl
open Classical in
def _sv{p i:Nat}(hs:ss.B<=3)(hP:Prs a9 ss.B rs)(hk:Abk a9)(gl:a9.B<=12)(hp:p<a9.B)(hi:i<kZ a9 p):
  Oo _rj [(.r,jw ss rs),(.r,.E p),(.r,.E i),(.r,.bl (decide (Ptd ss rs p (kZ a9 p) i))),(.r,.E (mxF a9))] (λy=>∃o',y=(o',.bl true)/\True) noX:=by
 let#[ji,gd,st,hx]:=_sp hP hp hk;let t:=_r7 hk hp hi;generalize hn:kZ a9 p=n at *;let h3:n<=3:=by
  let hm:a9.p p 0>a9:=by rw[X6,X1 hp];show Xm _
  let:=(hk _ hm).2;unfold kZ at hn;lia
 let lu:v8 (sA p n) (sB p n i)=ppD p n i:=_r5 p n i h3 hi;let lc:=_qD hP hk hP hk t;let yh:=_p3 hP hk hP hk t.a t.b t.na t.nb;rw [lu]at lc yh;let hcmp:=_q0 hs gl gl .q .q hP hk hP hk lc (.h rfl);let q0:∀a b c,jW (.X [a,b,c]) (.E 0)=@a:=λ_ _ _=>rfl
 ext _rj;rw [_su];show kw ?_;simp![p1,hx,q0];show _n3 [@(.r,.E i)] (neI i) (λd y=>y.2=.X [d,d]) ?_;show _nI ?_;simp![];show#[_,rfl,.q,.q,rfl,λd hd=>?_,λys hy=>?_]
 .let#[j,j0,j1,rfl]:=K7 hd;let bc:fNe (.E j) (.E i)=@(.bl (neI i (.E j))):=nei rfl;simp![bc];show λ_=>#[#[_,rfl],trivial]
 .rw [vZ,zK (λ_ _ h=>h) hy,_rV];dsimp[zj,back,clr,at',List.ý,List.Z,List.map_nil,List.set_cons_zero,List.ÿ];let ht:∀o (l:List D),o≠.dp->xJ (o,.S l)=@(.r,.X l):=λo l h=>tup_l h
  simp![ht .r _ .q,ht .rt _ .q];show hcmp.via ?_;rintro _ ⟨d,rfl,hT⟩;let a0:∀a b,jW (.X [a,b]) (.E 0)=@a:=λ_ _=>rfl
  let a1:∀a b,jW (.X [a,b]) (.E 1)=@b:=λ_ _=>rfl
  let e1:fEq (.x "alike") (.x "alike")=@(.bl true):=rfl;let e2:fNe (.x "apart") (.x "apart")=@(.bl false):=rfl
  by_cases hq:Ptd ss rs p n i
  .rw [X8 hq];let#[w,rfl,hl,hsg,hng,hu]\/#[K,rk,rfl,hl,dy,ip,hK]:=hT
   .let hgA:=_oY hP hk t.a λx hx=>(hsg x hx).1
    let hgB:=_oY hP hk t.b λx hx=>(hsg x hx).1
    rw[_sr ji,_ss ji h3 hi]at hng;simp![a0,a1,e2,(mul_l (o1:=.r) (o2:=.r) (a:=2) (b:=mxF a9) .q .q)];show(_sn (M:=2*mxF a9) λx hx=>by let:=(hsg x hx).2;lia).use ?_;intro o7 _;simp![↓_so];show Jw [@(.r,.E i),@(.r,.E n)] (λd y=>y.2=sw n i d) ?_;simp![];show#[rfl,λd hd=>?_,λys hy=>?_]
    .let#[j,j0,j1,rfl]:=K7 hd
     by_cases hj:j=i
     .let bc:fNe (.E j) (.E i)=@(.bl false):=nei (k:=true) (by simp[hj]);simp![bc];show#[#[_,rfl],by change _=D.E (if j=(i:Int)then(n:Int)else j);rw[X7 hj]]
     .let bc:fNe (.E j) (.E i)=@(.bl true):=nei (k:=false) (Yj hj);simp![bc];show#[#[_,rfl],by change _=D.E (if j=(i:Int)then(n:Int)else j);rw[Xd hj]]
    .rw[vZ,zK (λ_ _ h=>h) hy,_st n i h3 hi];dsimp[zj,back,clr,at',List.ý,List.Z,List.map_nil,List.set_cons_zero,List.ÿ];simp![ht .r _ .q,a1];rw[show D.X [.E p,.X (jZ 0 n)]=stn (sA p n)by
      change _=D.X [.E p,.X (((List.ä n).C λj:Nat=>(j:Int)).C D.E)];rw[_rU,Xp];rfl]
     show hgA.use ?_;intro o8 _;simp![a1];show hgB.use ?_;intro o9 _;let hb:fNe (.bl (gdF rs (rmO (run ss rs (sA p n) w)))) (.bl (gdF rs (rmO (run ss rs (sB p n i) w))))=@(.bl true):=by
      rw[neb];let:gdF rs (rmO (run ss rs (sA p n) w))≠gdF rs (rmO (run ss rs (sB p n i) w)):=hng;simp[this]
     simp![hb];show#[_,rfl,trivial]
   .exfalso;let#[w,hw,hg]:=hq;show hg (_qF (n:=rk (ppD p n i)+w.B+1) hP hk hP hk (λp h=>(hK p h).1.ok) (λp h _=>(hK p h).2) w hw ip (by simp) t yh)
  .rw[Xj hq];let#[w,rfl,hl,hsg,hng,hu]\/#[K,rk,rfl,hl,dy,ip,hK]:=hT
   .exfalso;rw[_sr ji,_ss ji h3 hi]at hng;show hq #[w,λx hx=>(hsg x hx).1,hng]
   .simp![a0,a1,e1];show#[_,rfl,trivial]
end
def inN(mx:List Nat):D->Bool
 |.E j=>decide (j.M>mx)|_=>false
def _sw{mx:List Nat}{n:Nat}:(jZ 0 n).ö (inN mx)=((List.ä n).ö λj=>decide (j>mx)).C λj:Nat=>D.E j:=by
 rw[_rU,List.filter_map];rfl
def _sx(hr:∀r>rs,Ps r):Oo _rk [(.r,jw ss rs)] (λy=>y=(.r,jw ss rs)) noX:=by
 let q0:∀a b,jW (.X [a,b]) (.E 0)=@a:=λ_ _=>rfl
 let q1:∀a b,jW (.X [a,b]) (.E 1)=@b:=λ_ _=>rfl
 let hl:∀xs,_dU (.r,.S xs)=@_:=λ_=>rfl
 show kw ?_;simp![];show Q4 (λE1 B ds ae=>∃(done:List D) (l0 l1 l2:Option Sd),rs=done++ds/\B=[l0,l1,l2]/\E1=[@(.r,jw ss rs),none]/\ae.C (·.2)=done) ?_ ?_ ?_
 .simp![q1];show#[[],none,none,none,rfl,rfl,rfl]
 .rintro E1 B d ds ae ⟨done,l0,l1,l2,e1,rfl,rfl,ha⟩;let#[own,gd,st,rfl,av]:=hr d (by rw[e1];simp);simp![];show Jw [] (λd y=>y.2=d) ?_;simp![];show#[λc hc=>?_,λys hy=>?_]
  .let#[cs,rfl,_]:=av c hc;simp![hl];show#[#[_,rfl],trivial]
  .rw[vZ,_oe (λd y h=>h) hy];dsimp[back,clr];simp![];show#[done++[.X [.E own,.bl gd,.S st]],_,_,_,by rw[e1];simp,rfl,by rw[Xg,ha];rfl]
 .rintro E1 B ae ⟨done,l0,l1,l2,e1,rfl,rfl,ha⟩;rw[Xx]at e1;subst e1;rw[vZ,ha];dsimp[zj,back,clr];simp![q0,hl]
def _sy l n:(nL l).flat (n+1)=true:=by
 show x3 λd hd=>?_
 let#[k,_,rfl]:=aE hd;cases n<;>rfl
open Classical in
def _sz(l:List Nat)(i:Nat):x8 (.E i) (nL l)=@(.bl (decide (i>l))):=by
 let e:nL l=iL (l.C λk:Nat=>(k:Int)):=by change D.S _=D.S _;rw[Xp];rfl
 rw[e,in_i]
 congr 2
 rw[List.any_map]
 by_cases h:i>l
 .rw[X8 h,List.any_eq_true];show#[i,h,by simp]
 .rw[Xj h,List.any_eq_false];intro x hx e;let e:(x:Int)=i:= ~~~e
  let e:x=i:=.q
  show h (e▸hx)
open Classical in
def _sA{ss:List Str}{rs:List D}{r n i:Nat}(hi:i<n):decide (i>K9 ss rs r n)=decide (Ptd ss rs r n i):=by
 show decide_eq_decide.s ?_;ext K9;rw[List.mem_filter,List.å];simp[hi]
section
variable {a9:List Int}{ss:List Str}{rs:List D}
open Classical in
def _sB{r n:Nat}:(List.ä n).ö (λj=>decide (j>K9 ss rs r n))=K9 ss rs r n:=by
 show Eq.J (Zj λj hj=>?_) rfl;show _sA (List.å.mp hj)
open Classical in
inductive LwB (ns:List Int)(ss:List Str)(rs:List D)(a9:List Int)(p:Nat)(mx:List Nat)(n:Nat):En->List D->Prop
 |mk (i:Nat) {o4:Own} {l7:Option Sd} {ac:List D} (h0:i<=n) (h1:ac=jZ i n):LwB ns ss rs a9 p mx n [⇑(.no,iL ns),⇑(.no,jw ss rs),⇑(.no,jw ss rs),⇑(.dp,.lst (VJ a9 ss rs)),⇑(o4,.int (mxF a9)),⇑(.no,.int p),⇑(.rt,nL mx),l7] ac
inductive LwA (ns:List Int)(ss:List Str)(rs:List D)(a9:List Int):En->List D->Prop
 |mk (p:Nat) {o4:Own} {l5:Option Sd} {l6:Option Sd} {l7:Option Sd} {ac:List D} (h0:p<=rs.B) (h1:ac=jZ p rs.B):LwA ns ss rs a9 [@(.r,iL ns),@(.r,jw ss rs),@(.r,jw ss rs),@(.dp,.S (VJ a9 ss rs)),@(o4,.E (mxF a9)),l5,l6,l7] ac
#where in
def _sC(ns:List Int)(hn:ns.B<=63):Oo m_law [(.r,iL ns)] (λy=>y.2=.bl true) noX:=by
 ext m_law;show kw ?_;simp![];show(_sl ns hn).via ?_;rintro _ ⟨⟨ss,rs⟩,rfl,s1,s2,a9,k1,k4,hk,hP⟩;let bc:fNe (jw ss rs) (jw ss rs)=@_:=_oc (_pu hP 32);let p9:fEq (jw ss rs) (jw ss rs)=@_:=_ob (_pu hP 32);let uq:∀ds,wZ "list" (.S ds)=@(.bl true):=λds=>rfl
 let q0:∀a b c,jW (.X [a,b,c]) (.E 0)=@a:=λ_ _ _=>rfl
 let u6:(VJ a9 ss rs).B=rs.B:=by ext VJ;rw[X5,Xz,hP.1]
 let hlr:=hP.1;simp![];show(_sx hP.ps).via ?_;rintro _ rfl;simp![];show(_sc (show ss.B<=3 by lia) hP hk .q).via ?_;rintro _ rfl;simp![uq,p1,u6,B.nei (a:=(rs.B:Int)) (b:=(rs.B:Int)) (k:=true) (by simp),bc];show Jw [] (λd y=>y.2=.E (W8 d)) ?_;simp![p1];show#[λd hd=>?_,λys hy=>?_]
 .let#[i,hi,rfl]:=Yg hd;let#[r,e,gd,st,rfl,_]:=hP.2 i (by let:=hP.1;lia);let#[_,e]:=aF e;rw[e];simp![q0];show#[#[_,rfl],rfl]
 rw [vZ,zK (λ_ _ h=>h) hy];let e:(rs.C λd=>D.E (W8 d))=a9.C D.E:=by rw[<-_pA hP,Xp];rfl
 let hm:_m4 (.S (a9.C D.E))=@(.E (mxF a9)):=by
  ext _m4 mxF;right;rw[_qt];right;cases e:a9.max? with| none=>symm| some M=>rfl
 rw [e];dsimp[zj,back,clr,at',List.ý,List.Z,List.map_nil,List.set_cons_zero,List.ÿ];simp![hm];show wV (LwA ns ss rs a9) ?_ ?_ ?_
 .simp![u6];show#[0,by simp,rfl]
 .rintro E d ds ⟨p,hp,hr⟩;revert o4 l5 l6 l7;let#[hj,rfl,rfl]:=Q2 (by symm) hr;let ml:p<a9.B:=by symm
  let#[_,gd,st,hx]:=_sp hP ml hk;let hd:jW (.S (VJ a9 ss rs)) (.E p)=@(nL (K9 ss rs p (kZ a9 p))):=x4 (by simp) (by
   ext VJ;rw[Xu,Xf,Z7 ml];rfl)
  let hnl:=_oc (_sy (K9 ss rs p (kZ a9 p)) 39);let h3:kZ a9 p<=3:=by
   let hm:a9.p p 0>a9:=by rw[X6,X1 ml];show Xm _
   let:=(hk _ hm).2;ext kZ
   symm
  generalize hn:kZ a9 p=n at *;simp![hd,uq,p1,hx,q0];generalize hD:K9 ss rs p n=mx at *;show _n3 [@(.dp,.S (VJ a9 ss rs)),@(.r,.E p)] (inN mx) (λd y=>y.2=d) ?_;show _nI ?_;simp![p1,hx,q0];show#[_,rfl,.q,.q,rfl,λd h=>?_,λys hy=>?_]
  .let#[m,m0,m1,rfl]:=K7 h;let#[m,rfl]:=Zi m0;simp![hd,_sz];show#[rfl,λ_=>#[#[_,rfl],trivial]]
  .rw[vZ,_oe (λ_ _ h=>h) hy,_sw,show(List.ä n).ö (λj=>decide (j>mx))=mx from hD▸_sB];dsimp[back,clr,at',List.Z,List.map_nil,List.set_cons_zero,List.ÿ];simp![hd,hnl,p1,hx,q0];show wV (LwB ns ss rs a9 p mx n) ?_ ?_ ?_
   .simp![p1,hx,q0];show#[0,.q,rfl]
   .rintro E d ds ⟨i,hi,hr⟩;let#[hj,rfl,rfl]:=Q2 .q hr;let ff:i<n:=.q
    let hR:=_sv (show ss.B<=3 by lia) hP hk .q ml (by rw[hn];show ff);rw[hn,<-_sA ff,hD]at hR;simp![_sz];show hR.use ?_;intro o9 _;simp![];show#[i+1,ff,rfl]
   .rintro E ⟨i,hi,hr⟩;show#[p+1,.q,rfl]
 .rintro E ⟨p,hp,hr⟩;simp![p9]
def law_true(ns:List Int)(hl:ns.B<=63)(hb:∀i>ns,Builtin.Int.intBits i<=1048576):∃E o,m_law [(.r,.S (ns.C D.E))]=@(.ok E (o,.bl true)):=by
 let#[E,#[o,d],h,e]:=(_sC ns hl).out;cases(show d=.bl true from e);show#[E,o,h]
end
end Nk51
namespace Nk51
open PySem L2 L3 Q
def top(i:Nat):Stmt:=PySem.Challenge.pw_freshrooms_k51_matters_by_parting.main.body.p i (.Pass #[0,0,0,0])
abbrev jzs:Stmt:=top 7
abbrev kke:Stmt:=top 8
abbrev jwk:Stmt:=top 22
abbrev jw1:Stmt:=top 19
abbrev jkz:Stmt:=top 15
abbrev jzr:Stmt:=top 21
abbrev jvk:Stmt:=top 18
abbrev kkd:Stmt:=top 20
abbrev kkf:Stmt:=top 17
abbrev jvg:Stmt:=top 16
abbrev jwi:Stmt:=top 14
abbrev jvi:Stmt:=top 12
abbrev jwl:Stmt:=top 23
abbrev kw0:Stmt:=top 13
abbrev jqe:Stmt:=top 29
abbrev jqf:Stmt:=top 28
abbrev jxm:Stmt:=top 27
abbrev jwj:Stmt:=top 31
abbrev jvf:Stmt:=top 30
abbrev jvh:Stmt:=top 26
abbrev kkg:Stmt:=top 25
abbrev jvj:Stmt:=top 37
abbrev jw2:Stmt:=top 36
abbrev jzp:Stmt:=top 35
abbrev jzq:Stmt:=top 34
abbrev jzt:Stmt:=top 33
abbrev jvl:Stmt:=top 39
abbrev jwp:Stmt:=top 40
abbrev jzu:Stmt:=top 41
abbrev jw3:Stmt:=top 42
abbrev jwm:Stmt:=top 43
abbrev jxq:Stmt:=top 44
abbrev jwo:Stmt:=top 45
abbrev jxn:Stmt:=top 46
abbrev jxo:Stmt:=top 47
abbrev jw4:Stmt:=top 48
abbrev jwn:Stmt:=top 49
abbrev jxp:Stmt:=top 50
abbrev wqe:Stmt:=top 51
def _sD:FnScope ["plain"] ["plain"] (jJ jzs):=mkS
#where in
def sc_read_by:FnScope ["plain","standing","sign","name","names","cases","case","held"] ["plain","standing","sign","name"] (jJ kke):=mkS
def _sE:FnScope ["plain","room"] ["plain","room"] (jJ jwk):=mkS
def _sF:FnScope ["room","names"] ["room","names"] (jJ jw1):=mkS
def sc_first_standings:FnScope ["one","other","pair","own","shared","names","j"] ["one","other","pair"] (jJ jkz):=mkS
def _sG:FnScope ["standing"] ["standing"] (jJ jzr):=mkS
def sc_held_by_both:FnScope ["standings","ours"] ["standings"] (jJ jvk):=mkS
def _sH:FnScope ["standing"] ["standing"] (jJ kkd):=mkS
def sc_pair_of:FnScope ["standings","ours","theirs","shared"] ["standings"] (jJ kkf):=mkS
def _sI:FnScope ["one","other","standings","sign","name"] ["one","other","standings","sign","name"] (jJ jvg):=mkS
def sc_steps_from:FnScope ["one","other","pair","standings","names","steps","sign","name"] ["one","other","pair"] (jJ jwi):=mkS
def _sJ:FnScope ["one","other","pair"] ["one","other","pair"] (jJ jvi):=mkS
def _sK:FnScope ["plain","room"] ["plain","room"] (jJ jwl):=mkS
def _sL:FnScope ["one","other","pair"] ["one","other","pair"] (jJ kw0):=mkS
def _sM:FnScope ["room","many","keeper"] ["room","many","keeper"] (jJ jqe):=mkS
def _sN:FnScope ["room","many","unlike"] ["room","many","unlike"] (jJ jqf):=mkS
def _sO:FnScope ["plain","unlike"] ["plain","unlike"] (jJ jxm):=mkS
def sc_leading_to:FnScope ["plain","pairs","leading","waiting","pair","later"] ["plain","pairs"] (jJ jwj):=mkS
def sc_unlike_among:FnScope ["plain","pairs","leading","waiting","unlike","pair","ahead"] ["plain","pairs"] (jJ jvf):=mkS
def sc_parted_pairs:FnScope ["plain","pairs","room","told"] ["plain"] (jJ jvh):=mkS
def _sP:FnScope ["plain"] ["plain"] (jJ kkg):=mkS
def sc_least_beside:FnScope ["names","least"] ["names"] (jJ jvj):=mkS
def sc_parting_row:FnScope ["one","other","first","steps","standings","row","sign","place","held","name"] ["one","other","first","steps"] (jJ jw2):=mkS
def sc_steps_to:FnScope ["ways","pair","steps","way"] ["ways","pair"] (jJ jzp):=mkS
def sc_searched:FnScope ["one","other","first","ways","found","done","pair","sign","name","later"] ["one","other","first"] (jJ jzq):=mkS
def _sQ:FnScope ["one","other","pair"] ["one","other","pair"] (jJ jzt):=mkS
def _sR:FnScope ["_law_script","_law_k"] ["_law_script","_law_k"] (jJ jvl):=mkS
def sc__law_mixed:FnScope ["_law_cell","_law_k","_law_number"] ["_law_cell","_law_k"] (jJ jwp):=mkS
def _sS:FnScope ["_law_cell","_law_k","_law_part"] ["_law_cell","_law_k","_law_part"] (jJ jzu):=mkS
def sc__law_stream:FnScope ["_law_cell","_law_many","_law_found","_law_rest","_law_k"] ["_law_cell","_law_many"] (jJ jw3):=mkS
def sc__law_signs:FnScope ["_law_cell","_law_letters","_law_size","_law_at","_law_rest","_law_base","_law_j","_law_words","_law_k","_law_some"] ["_law_cell"] (jJ jwm):=mkS
def sc__law_case:FnScope ["_law_m","_law_sizes","_law_p","_law_c","_law_many","_law_some","_law_to","_law_left","_law_fills","_law_rest","_law_t"] ["_law_m","_law_sizes","_law_p","_law_c"] (jJ jxq):=mkS
def sc__law_plain:FnScope ["_law_script","_law_signs_here","_law_xs","_law_sizes","_law_rooms","_law_count","_law_p","_law_steps","_law_sign","_law_cases","_law_c"] ["_law_script"] (jJ jwo):=mkS
def sc__law_read:FnScope ["_law_plain_here","_law_standing","_law_sign","_law_name","_law_p","_law_names","_law_c","_law_case_here","_law_kept"] ["_law_plain_here","_law_standing","_law_sign","_law_name"] (jJ jxn):=mkS
def sc__law_good:FnScope ["_law_plain_here","_law_standing","_law_row","_law_sign","_law_name"] ["_law_plain_here","_law_standing","_law_row"] (jJ jxo):=mkS
def sc__law_is_row:FnScope ["_law_row","_law_most","_law_entry"] ["_law_row","_law_most"] (jJ jw4):=mkS
def sc__law_right:FnScope ["_law_plain_here","_law_p","_law_i","_law_told","_law_most","_law_many","_law_shared","_law_found","_law_one","_law_other"] ["_law_plain_here","_law_p","_law_i","_law_told","_law_most"] (jJ jwn):=mkS
def sc__law_copy:FnScope ["_law_plain_here","_law_rooms"] ["_law_plain_here"] (jJ jxp):=mkS
def sc_law:FnScope ["_law_script","_law_plain_here","_law_handed","_law_found","_law_most","_law_p","_law_due","_law_i"] ["_law_script"] (jJ wqe):=mkS
structure Txt (K:Frag)(mg:Str->Option Value):Prop where
 b_all:mg "all"=none
 b_bool:mg "bool"=none
 b_dict:mg "dict"=none
 b_enumerate:mg "enumerate"=none
 b_int:mg "int"=none
 b_isinstance:mg "isinstance"=none
 b_len:mg "len"=none
 b_list:mg "list"=none
 b_max:mg "max"=none
 b_min:mg "min"=none
 b_range:mg "range"=none
 b_reversed:mg "reversed"=none
 b_set:mg "set"=none
 b_sorted:mg "sorted"=none
 b_str:mg "str"=none
 b_tuple:mg "tuple"=none
 c_SMALL_ROOMS:Cst mg "SMALL_ROOMS" (V.E (12))
 c_SMALL_KEEPERS:Cst mg "SMALL_KEEPERS" (V.E (3))
 c_NOWHERE:Cst mg "NOWHERE" (V.E (-1))
 c_FIRST_PAIR:_ll K mg "FIRST_PAIR" (.X [(.E 0),(.E 0),(.X [])])
section
variable (P:Program)(w:PySem.World)(K:Frag)(mg:Str->Option Value)(base:Heap)
abbrev kjf:=kz P w K mg base 1 "is_small" ["plain"] (spF K mg 1 m_is_small)
abbrev qjy:=kz P w K mg base 1 "read_by" ["plain","standing","sign","name"] (spF K mg 4 m_read_by)
abbrev kjk:=kz P w K mg base 1 "keepers_in" ["plain","room"] (spF K mg 2 m_keepers_in)
abbrev jzi:=kz P w K mg base 1 "standing_in" ["room","names"] (spF K mg 2 m_standing_in)
abbrev jw0:=kz P w K mg base 2 "first_standings" ["one","other","pair"] (spF K mg 3 m_first_standings)
abbrev kje:=kz P w K mg base 1 "names_of" ["standing"] (spF K mg 1 m_names_of)
abbrev jxi:=kz P w K mg base 2 "held_by_both" ["standings"] (spF K mg 1 m_held_by_both)
abbrev qjx:=kz P w K mg base 1 "room_of" ["standing"] (spF K mg 1 m_room_of)
abbrev vwt:=kz P w K mg base 2 "pair_of" ["standings"] (spF K mg 1 m_pair_of)
abbrev jxg:=kz P w K mg base 2 "read_by_both" ["one","other","standings","sign","name"] (spF K mg 5 m_read_by_both)
abbrev kjj:=kz P w K mg base 3 "steps_from" ["one","other","pair"] (spF K mg 3 m_steps_from)
abbrev kv4:=kz P w K mg base 4 "pairs_behind" ["one","other","pair"] (spF K mg 3 _q2)
abbrev kjl:=kz P w K mg base 1 "is_good_in" ["plain","room"] (spF K mg 2 m_is_good_in)
abbrev qwe:=kz P w K mg base 2 "agrees" ["one","other","pair"] (spF K mg 3 m_agrees)
abbrev jqi:=kz P w K mg base 1 "pair_parted_at" ["room","many","keeper"] (spF K mg 3 _q3)
abbrev kjr:=kz P w K mg base 2 "keepers_parted" ["room","many","unlike"] (spF K mg 3 _q4)
abbrev qqi:=kz P w K mg base 3 "mattering" ["plain","unlike"] (spF K mg 2 _q5)
abbrev qjz:=kz P w K mg base 5 "leading_to" ["plain","pairs"] (spF K mg 2 _q6)
abbrev kv2:=kz P w K mg base 6 "unlike_among" ["plain","pairs"] (spF K mg 2 _q7)
abbrev kv3:=kz P w K mg base 2 "parted_pairs" ["plain"] (spF K mg 1 _q8)
abbrev vwu:=kz P w K mg base 7 "matters" ["plain"] (spF K mg 1 _q9)
abbrev jxh:=kz P w K mg base 1 "least_beside" ["names"] (spF K mg 1 m_least_beside)
abbrev kxf:=kz P w K mg base 3 "parting_row" ["one","other","first","steps"] (spF K mg 4 m_parting_row)
abbrev kvl:=kz P w K mg base 1 "steps_to" ["ways","pair"] (spF K mg 2 m_steps_to)
abbrev qxz:=kz P w K mg base 4 "searched" ["one","other","first"] (spF K mg 3 m_searched)
abbrev kvm:=DefD P w K mg base 5 "compared" ["one","other","pair"] (spF K mg 3 m_compared)
abbrev jxj:=kz P w K mg base 1 "_law_cell_at" ["_law_script","_law_k"] (spF K mg 2 m__law_cell_at)
abbrev jx2:=kz P w K mg base 1 "_law_mixed" ["_law_cell","_law_k"] (spF K mg 2 _ra)
abbrev qz0:=kz P w K mg base 2 "_law_own" ["_law_cell","_law_k","_law_part"] (spF K mg 3 _rb)
abbrev kxg:=kz P w K mg base 2 "_law_stream" ["_law_cell","_law_many"] (spF K mg 2 _rc)
abbrev kjm:=kz P w K mg base 1 "_law_signs" ["_law_cell"] (spF K mg 1 _rd)
abbrev kqk:=kz P w K mg base 1 "_law_case" ["_law_m","_law_sizes","_law_p","_law_c"] (spF K mg 4 _re)
abbrev qk1:=kz P w K mg base 3 "_law_plain" ["_law_script"] (spF K mg 1 _rf)
abbrev kqi:=kz P w K mg base 1 "_law_read" ["_law_plain_here","_law_standing","_law_sign","_law_name"] (spF K mg 4 _rg)
abbrev qqj:=kz P w K mg base 2 "_law_good" ["_law_plain_here","_law_standing","_law_row"] (spF K mg 3 _rh)
abbrev jzj:=kz P w K mg base 1 "_law_is_row" ["_law_row","_law_most"] (spF K mg 2 _ri)
abbrev qk0:=kz P w K mg base 6 "_law_right" ["_law_plain_here","_law_p","_law_i","_law_told","_law_most"] (spF K mg 5 _rj)
abbrev kqj:=kz P w K mg base 1 "_law_copy" ["_law_plain_here"] (spF K mg 1 _rk)
end
section
variable {P:Program}{w:PySem.World}{K:Frag}{mg:Str->Option Value}{base:Heap}{f:Addr}{fd:FuncData}
def _sT(T:Txt K mg):OkF P w K mg base 1 "is_small" jzs ["plain"] 1 m_is_small:=
 okF _sD λhr=>(jQ (_gj (j9 (_nc (j9 (qL (kx (vv 0) ki) T.b_len)) (j9 (q_C (WV T.c_SMALL_ROOMS) (λ_=>wQ))))) (_gi (_gK (_c3 K) _gW (j9 (qM .rt 1 [] 1 ["room"] (wK (jY (kx (vv 0) ki))) (λ_ _ _ _ _=>(_nc (kx (vv 0) ki) (j9 (q_C (WV T.c_SMALL_KEEPERS) (λ_=>wQ))))))) T.b_all _c7))))
def _sU(T:Txt K mg):OkF P w K mg base 1 "read_by" kke ["plain","standing","sign","name"] 4 m_read_by:=
 okF sc_read_by λhr=>have nd:=sc_read_by.nd;(j7 (v3 (QW.pt (Kv (Wx (vv 1) kn) (Wz (wx (_ga hr.y) _gc (vv 2) (kx (vv 0) ki) (by rfl) _g2)))) (jQ kN)) (j7 (qA nd (jY (kx (vv 1) ki))) (j7 (qA nd (jY (kx (kx (kx (kx (vv 0) ki) (kx (vv 1) ki)) ki) (j9 (_h6 hr.y (kx (vv 0) ki) (vv 2)))))) (j7 (qA nd (jY (kx (vv 5) (j9 (Q3 (wx (_f9 hr.y) ZQ (vv 3) (vv 4) (by rfl) _g1) (_h6 hr.y (vv 4) (vv 3)) (qL (vv 4) T.b_len)))))) (j7 (v3 (Wx (vv 6) kn) (jQ kN)) (j7 (qA nd (oA (vv 4) (j9 (qx (o:=.r) (j5 (cv 3) jq))))) (jQ (qx (o:=.r) (j5 (jY (kx (vv 6) ki)) (j5 (qT (j9 (qM .rt 1 [7] 8 ["fill","held"] (wK (jY (kx (vv 6) ki))) (λ_ _ _ _ _=>(jY (kx (vv 1) (vv 0)))))) T.b_tuple) jq))))))))))
def _sV(T:Txt K mg):OkF P w K mg base 1 "keepers_in" jwk ["plain","room"] 2 m_keepers_in:=
 okF _sE λhr=>(jQ (Q3 (_m9 hr (vv 1) (j9 (q_C (WV T.c_NOWHERE) (λ_=>wQ)))) kI (jY (kx (kx (kx (vv 0) ki) (vv 1)) ki))))
def _sW(T:Txt K mg):OkF P w K mg base 1 "standing_in" jw1 ["room","names"] 2 m_standing_in:=
 okF _sF λhr=>(jQ (Q3 (_m9 hr (vv 0) (j9 (q_C (WV T.c_NOWHERE) (λ_=>wQ)))) kN (qx (o:=.r) (j5 (cv 0) (j5 (qT (vv 1) T.b_tuple) jq)))))
def _sX(T:Txt K mg)(bn:kjk P w K mg base)(bh:jzi P w K mg base):OkF P w K mg base 2 "first_standings" jkz ["one","other","pair"] 3 m_first_standings:=
 okF sc_first_standings λhr=>have nd:=sc_first_standings.nd;(j7 (qA nd (qC bn hr (j5 (cv 0) (j5 (jY (kx (vv 2) ki)) jq)))) (j7 (qA nd (Wj (_jv K) _ju (j9 (qm .rt 2 [] 7 ["i","j"] (wK (jY (kx (vv 2) ki))) (λhN _ _ _ _ _=>(Qq (is:=[0,1]) (Q1 K (t:=gNs [0,1]) (n:=2) (ww (gn hN) (ww (gn hN) Qw))))) (λ_ _ _ _ _=>WQ) (λ_ _ _ _ _=>(qx (o:=.r) (j5 (cv 1) (j5 (cv 0) jq)))))) T.b_dict _df)) (j7 (qA nd zW) (j7 (qF (wX (j9 (qC bn hr (j5 (cv 1) (j5 (jY (kx (vv 2) ki)) jq)))) rfl T.b_range) (gN nd) (kX (qP (Q3 (wx (_jd hr.y) _je (vv 6) (vv 4) (by rfl) _jf) (jY (_jg hr.y (vv 4) (vv 6) (λ_ _=>rfl))) (oA (vv 3) (j9 (qL (j9 (_gI (o:=.rt) (k:=1) (R:=[3]) ["name","own"] (_jE (pv 5)) (λ_ _ _ _ _=>(zw (gn (show(["name","own"]:List Str).V by decide +kernel)))) (λ_ _ _ _ _=>(KZ (wx _ba (_ew (g:=λa b=>decide (b<=a))) (vv 0) (vv 1) (Jv _) _gX))) (λ_ _ _ _ _=>(cv 0)) zJ #[_,_,rfl,rfl] .q (show ∀j>([3]:List Nat) ,j<7 by decide))) T.b_len))))))) (jQ (qx (o:=.r) (j5 (qC bh hr (j5 (jY (kx (vv 2) ki)) (j5 (_g9 (vv 3) T.b_range T.b_list) jq))) (j5 (_hW bh (hr.mono .q) zJ (_hV (kx (vv 2) ki) (_hV (vv 5) _hU))) jq))))))))
def _sY(T:Txt K mg):OkF P w K mg base 1 "names_of" jzr ["standing"] 1 m_names_of:=
 okF _sG λhr=>(jQ (Q3 (Wx (vv 0) kn) (qx (o:=.r) jq) (jY (kx (vv 0) ki))))
def _sZ(T:Txt K mg)(aw:kje P w K mg base):OkF P w K mg base 2 "held_by_both" jvk ["standings"] 1 m_held_by_both:=
 okF sc_held_by_both λhr=>have nd:=sc_held_by_both.nd;(j7 (qA nd (qC aw hr (j5 (jY (kx (vv 0) ki)) jq))) (jQ (oA (vv 1) (j9 (qT (j9 (qm .rt 1 [1] 2 ["name","ours"] (wK (qC aw hr (j5 (jY (kx (vv 0) ki)) jq))) (λhN _ _ _ _ _=>(zw (gn hN))) (λ_ _ _ _ _=>(KZ (wx (_ga hr.y) _gc (vv 0) (vv 1) (by rfl) _g2))) (λ_ _ _ _ _=>(cv 0)))) T.b_tuple)))))
def _s0(T:Txt K mg):OkF P w K mg base 1 "room_of" kkd ["standing"] 1 m_room_of:=
 okF _sH λhr=>(jQ (Q3 (Wx (vv 0) kn) (q_C (WV T.c_NOWHERE) (λ_=>wQ)) (jY (kx (vv 0) ki))))
def _s1(T:Txt K mg)(aw:kje P w K mg base)(dq:qjx P w K mg base):OkF P w K mg base 2 "pair_of" kkf ["standings"] 1 m_pair_of:=
 okF sc_pair_of λhr=>have nd:=sc_pair_of.nd;(j7 (qA nd (qC aw hr (j5 (jY (kx (vv 0) ki)) jq))) (j7 (qA nd (qC aw hr (j5 (jY (kx (vv 0) ki)) jq))) (j7 (XW (i:=3) (o:=.rt) (k:=2) (R:=[2]) ["i","name","theirs"] nd rfl (by trivial) (_jC (cv 1) rfl T.b_enumerate) (λ_ _ _ _ _=>(Qq (is:=[0,1]) (Q1 K (t:=gNs [0,1]) (n:=2) (ww (gn (show(["i","name","theirs"]:List Str).V by decide +kernel)) (ww (gn (show(["i","name","theirs"]:List Str).V by decide +kernel)) Qw))))) (λ_ _ _ _ _=>(KZ (wx (_f9 hr.y) ZQ (vv 1) (vv 2) (by rfl) _g1))) (λ_ _ _ _ _=>(qx (o:=.r) (j5 (cv 0) (j5 (_h6 hr.y (vv 2) (vv 1)) jq)))) zJ #[_,_,rfl,rfl] .q (show ∀j>([2]:List Nat) ,j<4 by decide)) (jQ (qx (o:=.r) (j5 (qC dq hr (j5 (jY (kx (vv 0) ki)) jq)) (j5 (qC dq hr (j5 (jY (kx (vv 0) ki)) jq)) (j5 (qT (vv 3) T.b_tuple) jq))))))))
def _s2(T:Txt K mg)(du:qjy P w K mg base):OkF P w K mg base 2 "read_by_both" jvg ["one","other","standings","sign","name"] 5 m_read_by_both:=
 okF _sI λhr=>(jQ (qx (o:=.r) (j5 (qC du hr (j5 (cv 0) (j5 (jY (kx (vv 2) ki)) (j5 (cv 3) (j5 (cv 4) jq))))) (j5 (qC du hr (j5 (cv 1) (j5 (jY (kx (vv 2) ki)) (j5 (cv 3) (j5 (cv 4) jq))))) jq))))
def _s3(T:Txt K mg)(aj:jw0 P w K mg base)(am:jxi P w K mg base)(fw:vwt P w K mg base)(ao:jxg P w K mg base):OkF P w K mg base 3 "steps_from" jwi ["one","other","pair"] 3 m_steps_from:=
 okF sc_steps_from λhr=>have nd:=sc_steps_from.nd;(j7 (qA nd (qC aj hr (j5 (cv 0) (j5 (cv 1) (j5 (cv 2) jq))))) (j7 (qA nd (_g9 (j9 (oA (j9 (qL (j9 (qC am hr (j5 (cv 3) jq))) T.b_len)) ki)) T.b_range T.b_list)) (j7 (qA nd zW) (j7 (qF (wK (_lf rfl rfl (j9 (oA (kx (vv 0) ki) (kx (vv 1) ki))) T.b_sorted T.b_set)) (gN nd) (kX (qF (wK (cv 4)) (gN nd) (kX (qP (qx (o:=.r) (j5 (cv 6) (j5 (cv 7) (j5 (qC fw hr (j5 (qC ao hr (j5 (cv 0) (j5 (cv 1) (j5 (cv 3) (j5 (cv 6) (j5 (cv 7) jq)))))) jq)) jq))))))))) (jQ (W1 (pv 5)))))))
def _s4(T:Txt K mg)(b6:kjj P w K mg base):OkF P w K mg base 4 "pairs_behind" jvi ["one","other","pair"] 3 _q2:=
 okF _sJ λhr=>(jQ (_m0 rfl rfl hr.y (j9 (qM .rt 1 [] 3 ["step"] (wK (qC b6 hr (j5 (cv 0) (j5 (cv 1) (j5 (cv 2) jq))))) (λ_ _ _ _ _=>(jY (kx (vv 0) ki))))) T.b_sorted T.b_set))
def _s5(T:Txt K mg):OkF P w K mg base 1 "is_good_in" jwl ["plain","room"] 2 m_is_good_in:=
 okF _sK λhr=>(jQ (_gj (j9 (_eq (_fo hr.y) _fq (vv 1) (j9 (q_C (WV T.c_NOWHERE) (λ_=>wQ))) (Jv _))) (_gi (jY (kx (kx (kx (vv 0) ki) (vv 1)) ki)))))
def _s6(T:Txt K mg)(bm:kjl P w K mg base):OkF P w K mg base 2 "agrees" kw0 ["one","other","pair"] 3 m_agrees:=
 okF _sL λhr=>(jQ (_na hr (j9 (qC bm hr (j5 (cv 0) (j5 (jY (kx (vv 2) ki)) jq)))) (j9 (qC bm hr (j5 (cv 1) (j5 (jY (kx (vv 2) ki)) jq))))))
def _s7(T:Txt K mg):OkF P w K mg base 1 "pair_parted_at" jqe ["room","many","keeper"] 3 _q3:=
 okF _sM λhr=>(jQ (qx (o:=.r) (j5 (cv 0) (j5 (cv 0) (j5 (qT (j9 (qm .rt 1 [2] 3 ["other","keeper"] (wX (vv 1) rfl T.b_range) (λhN _ _ _ _ _=>(zw (gn hN))) (λ_ _ _ _ _=>(KZ (Q7 hr (vv 0) (vv 1)))) (λ_ _ _ _ _=>(qx (o:=.r) (j5 (cv 0) (j5 (cv 0) jq)))))) T.b_tuple) jq)))))
def _s8(T:Txt K mg)(ak:jqi P w K mg base):OkF P w K mg base 2 "keepers_parted" jqf ["room","many","unlike"] 3 _q4:=
 okF _sN λhr=>(jQ (qm .dp 1 [0,1,2] 3 ["keeper","room","many","unlike"] (wX (vv 1) rfl T.b_range) (λhN _ _ _ _ _=>(zw (gn hN))) (λ_ _ _ _ _=>(KZ (wx (_is hr.y) _iv (j9 (qC ak hr (j5 (cv 1) (j5 (cv 2) (j5 (cv 0) jq))))) (vv 3) (by rfl) _ix))) (λ_ _ _ _ _=>(cv 0))))
def _s9(T:Txt K mg)(bg:kjr P w K mg base):OkF P w K mg base 3 "mattering" jxm ["plain","unlike"] 2 _q5:=
 okF _sO λhr=>(jQ (qm .dp 2 [1] 2 ["room","told","unlike"] (_if (jY (kx (vv 0) ki)) rfl T.b_enumerate) (λhN _ _ _ _ _=>(Qq (is:=[0,1]) (Q1 K (t:=gNs [0,1]) (n:=2) (ww (gn hN) (ww (gn hN) Qw))))) (λ_ _ _ _ _=>WQ) (λ_ _ _ _ _=>(_jM (qC bg hr (j5 (cv 0) (j5 (jY (kx (vv 1) ki)) (j5 (cv 2) jq))))))))
def _ta(T:Txt K mg)(bt:kv4 P w K mg base):OkF P w K mg base 5 "leading_to" jwj ["plain","pairs"] 2 _q6:=
 okF sc_leading_to λhr=>have nd:=sc_leading_to.nd;(j7 (qA nd (_nn hr.y (qM .dp 1 [] 6 ["pair"] (wK (cv 1)) (λ_ _ _ _ _=>(qx (o:=.dp) (j5 (cv 0) (j5 (_fN (o:=.dp) jq) jq))))) T.b_dict _df)) (j7 (qA nd (Wj (_iW rfl) _iY (vv 2) T.b_list Vk)) (j7 (_eQ (_dx #[_,_,rfl,rfl]) (x5 (vv 3)) (j7 (qA nd (_ng (i:=3) (pv 3) rfl _b8)) (kX (qF (wK (qC bt hr (j5 (cv 0) (j5 (cv 0) (j5 (cv 4) jq))))) (gN nd) (j7 (v3 (wx (_it hr.y) _iw (vv 5) (vv 2) (by rfl) _iy) (j7 (_jH (i:=2) hr.y rfl (pv 2) (vv 5) zW) (kX (qP (cv 5))))) (kX (_ni (i:=2) (j:=5) (_lI hr.y (pv 2) (pv 5) (λ_ _=>rfl)) (cv 4) rfl _b4))))))) (jQ (W1 (pv 2))))))
def _tb(T:Txt K mg)(cw:qjz P w K mg base)(cg:qwe P w K mg base):OkF P w K mg base 6 "unlike_among" jvf ["plain","pairs"] 2 _q7:=
 okF sc_unlike_among λhr=>have nd:=sc_unlike_among.nd;(j7 (qA nd (qC cw hr (j5 (cv 0) (j5 (cv 1) jq)))) (j7 (_lK (i:=3) (o:=.rt) (k:=1) (R:=[0]) ["pair","plain"] nd rfl (by trivial) (_nr (pv 2)) (λ_ _ _ _ _=>(zw (gn (show(["pair","plain"]:List Str).V by decide +kernel)))) (λ_ _ _ _ _=>(KZ (xx (x5 (j9 (qC cg hr (j5 (cv 1) (j5 (cv 1) (j5 (cv 0) jq))))))))) (λ_ _ _ _ _=>(cv 0)) zJ #[_,_,rfl,rfl] .q (show ∀j>([0]:List Nat) ,j<7 by decide)) (j7 (qA nd (_nn hr.y (_gI (o:=.dp) (k:=1) (R:=[]) ["pair"] (_jE (pv 3)) (λ_ _ _ _ _=>(zw (gn (show(["pair"]:List Str).V by decide +kernel)))) (λ_ _ _ _ _=>WQ) (λ_ _ _ _ _=>(qx (o:=.dp) (j5 (cv 0) (j5 K2 jq)))) zJ #[_,_,rfl,rfl] .q (show ∀j>([]:List Nat) ,j<7 by decide)) T.b_dict _df)) (j7 (_eQ (_dx #[_,_,rfl,rfl]) (x5 (vv 3)) (j7 (qA nd (_ng (i:=3) (pv 3) rfl _b8)) (kX (qF (wK (jY (_nq hr.y (j9 (cv 2)) (vv 5) (λ_ _=>rfl)))) (gN nd) (kX (v3 (wx (_it hr.y) _iw (vv 6) (vv 4) (by rfl) _iy) (j7 (_jH (i:=4) hr.y rfl (pv 4) (vv 6) K2) (kX (qP (cv 6)))))))))) (jQ (W1 (pv 4)))))))
def _tc(T:Txt K mg)(ak:jqi P w K mg base):OkF P w K mg base 2 "parted_pairs" jvh ["plain"] 1 _q8:=
 okF sc_parted_pairs λhr=>have nd:=sc_parted_pairs.nd;(j7 (qA nd zW) (j7 (qF (_if (jY (kx (vv 0) ki)) rfl T.b_enumerate) (Qq (is:=[2,3]) (Q1 K (t:=gNs [2,3]) (n:=2) (ww (gn nd) (ww (gn nd) Qw)))) (kX (_lo (i:=1) (qM .rt 1 [2,3] 4 ["keeper","room","told"] (wX (kx (vv 3) ki) rfl T.b_range) (λ_ _ _ _ _=>(qC ak hr (j5 (cv 1) (j5 (jY (kx (vv 2) ki)) (j5 (cv 0) jq))))))))) (jQ (W1 (pv 1)))))
def _td(T:Txt K mg)(dk:qqi P w K mg base)(ba:kjf P w K mg base)(bp:kv2 P w K mg base)(br:kv3 P w K mg base):OkF P w K mg base 7 "matters" kkg ["plain"] 1 _q9:=
 okF _sP λhr=>(j7 (v3 (xx (x5 (j9 (qC ba hr (j5 (cv 0) jq))))) (kX _hv)) (jQ (qC dk hr (j5 (cv 0) (j5 (qC bp hr (j5 (cv 0) (j5 (qC br hr (j5 (cv 0) jq)) jq))) jq)))))
def _te(T:Txt K mg):OkF P w K mg base 1 "least_beside" jvj ["names"] 1 m_least_beside:=
 okF sc_least_beside λhr=>have nd:=sc_least_beside.nd;(j7 (qA nd kI) (j7 (_eQ (_dx #[_,_,rfl,rfl]) (wx (_f9 hr.y) ZQ (vv 1) (vv 0) (by rfl) _g1) (kX (_iZ (i:=1) nd rfl (by trivial) _aQ kI))) (jQ (W1 (pv 1)))))
def _tf(T:Txt K mg)(aj:jw0 P w K mg base)(am:jxi P w K mg base)(ao:jxg P w K mg base)(bq:jxh P w K mg base):OkF P w K mg base 3 "parting_row" jw2 ["one","other","first","steps"] 4 m_parting_row:=
 okF sc_parting_row λhr=>have nd:=sc_parting_row.nd;(j7 (qA nd (qC aj hr (j5 (cv 0) (j5 (cv 1) (j5 (cv 2) jq))))) (j7 (qA nd zW) (j7 (qF (wK (cv 3)) (Qq (is:=[6,7]) (Q1 K (t:=gNs [6,7]) (n:=2) (ww (gn nd) (ww (gn nd) Qw)))) (j7 (qA nd (qC am hr (j5 (cv 4) jq))) (j7 (qA nd (Q3 (_nb (vv 7) (j9 (qL (vv 8) T.b_len))) (jY (kx (vv 8) (vv 7))) (qC bq hr (j5 (cv 8) jq)))) (j7 (qP (qx (o:=.r) (j5 (cv 6) (j5 (cv 9) jq)))) (kX (qA nd (qC ao hr (j5 (cv 0) (j5 (cv 1) (j5 (cv 4) (j5 (cv 6) (j5 (cv 9) jq)))))))))))) (jQ (W1 (pv 5))))))
def _tg(T:Txt K mg):OkF P w K mg base 1 "steps_to" jzp ["ways","pair"] 2 m_steps_to:=
 okF sc_steps_to λhr=>have nd:=sc_steps_to.nd;(j7 (qA nd zW) (j7 (qA nd (jY (_lJ hr.y (vv 0) (vv 1) (λ_ _=>rfl)))) (j7 (_eQ (_dx #[_,_,rfl,rfl]) (tNoN (vv 3) kn) (j7 (qP (qx (o:=.r) (j5 (jY (kx (vv 3) ki)) (j5 (jY (kx (vv 3) ki)) jq)))) (kX (qA nd (jY (_lJ hr.y (vv 0) (kx (vv 3) ki) (λ_ _=>rfl))))))) (jQ (_lA (vv 2) T.b_reversed T.b_list)))))
def _th(T:Txt K mg)(b6:kjj P w K mg base)(cg:qwe P w K mg base)(cb:kxf P w K mg base)(f9:kvl P w K mg base):OkF P w K mg base 4 "searched" jzq ["one","other","first"] 3 m_searched:=
 okF sc_searched λhr=>have nd:=sc_searched.nd;(j7 (qA nd (_iM hr.y (cv 2) kN)) (j7 (qA nd (_fN (o:=.rt) (j5 (cv 2) jq))) (j7 (qA nd kI) (j7 (_eQ (_dx #[_,_,rfl,rfl]) (_nb (vv 5) (j9 (qL (vv 4) T.b_len))) (j7 (qA nd (jY (kx (vv 4) (vv 5)))) (j7 (v3 (xx (x5 (j9 (qC cg hr (j5 (cv 0) (j5 (cv 1) (j5 (cv 6) jq))))))) (jQ (qx (o:=.r) (j5 kS (j5 (qC cb hr (j5 (cv 0) (j5 (cv 1) (j5 (cv 2) (j5 (qC f9 hr (j5 (cv 3) (j5 (cv 6) jq))) jq))))) jq))))) (j7 (qF (wK (qC b6 hr (j5 (cv 0) (j5 (cv 1) (j5 (cv 6) jq))))) (Qq (is:=[7,8,9]) (Q1 K (t:=gNs [7,8,9]) (n:=3) (ww (gn nd) (ww (gn nd) (ww (gn nd) Qw))))) (kX (v3 (wx (_it hr.y) _iw (vv 9) (vv 3) (by rfl) _iy) (j7 (_iH (i:=3) hr.y rfl (pv 3) (vv 9) (qx (o:=.r) (j5 (cv 6) (j5 (cv 7) (j5 (cv 8) jq))))) (kX (qP (cv 9))))))) (kX (_iZ (i:=5) nd rfl (by trivial) _aQ kI)))))) (jQ (qx (o:=.r) (j5 kS (j5 (cv 4) jq))))))))
def _ti(T:Txt K mg)(fe:qxz P w K mg base)(ba:kjf P w K mg base)(F:_lB K "compared" "compared" jzt f fd):FnOk P w K mg base (CXE P w) 5 f fd ["one","other","pair"] (spF K mg 3 m_compared):=
 _lC F _sQ (_fO rfl) λce A outer s H vs Q E hr h=>_fQ rfl
  (j7 (v3 (Q7 hr (kx (vv 0) ki) (kx (vv 1) ki)) (kX _hv)) (j7 (v3 (QW.pt (Kv (xx (x5 (j9 (qC ba hr (j5 (cv 0) jq))))) (Wz (xx (x5 (j9 (qC ba hr (j5 (cv 1) jq)))))))) (kX _hv)) (jQ (qC fe hr (j5 (cv 0) (j5 (cv 1) (j5 (Q3 (Wx (vv 2) kn) (q_CD T.c_FIRST_PAIR) (cv 2)) jq))))))) h
def _tj(T:Txt K mg):OkF P w K mg base 1 "_law_cell_at" jvl ["_law_script","_law_k"] 2 m__law_cell_at:=
 okF _sR λhr=>(j7 (v3 (_nb (vv 1) (j9 (qL (vv 0) T.b_len))) (jQ (jY (kx (vv 0) (vv 1))))) (jQ kI))
def _tk(T:Txt K mg):OkF P w K mg base 1 "_law_mixed" jwp ["_law_cell","_law_k"] 2 _ra:=
 okF sc__law_mixed λhr=>have nd:=sc__law_mixed.nd;(j7 (qA nd (oM (j9 (oA (j9 (oA (j9 (oX (j9 (oM (vv 0) ki)) ki)) (j9 (oX (j9 (oX (vv 1) (vv 1))) ki)))) ki)) ki)) (jQ (oM (j9 (oA (j9 (oA (j9 (oX (vv 2) (vv 2))) (j9 (oX ki (vv 2))))) (vv 1))) ki)))
def _tl(T:Txt K mg)(az:jx2 P w K mg base):OkF P w K mg base 2 "_law_own" jzu ["_law_cell","_law_k","_law_part"] 3 _rb:=
 okF _sS λhr=>(j7 (v3 (_m9 hr (j9 (oM (vv 0) ki)) ki) (jQ (K0 (j9 (K0 (vv 0) ki)) (kx (j9 (_fN (o:=.rt) (j5 kI (j5 (ZY _a6 _ez ki ki) (j5 (ZY _a6 _ez ki ki) jq))))) (vv 2))))) (jQ (qC az hr (j5 (cv 0) (j5 (oA (vv 1) (j9 (oX ki (vv 2)))) jq)))))
def _tm(T:Txt K mg)(az:jx2 P w K mg base):OkF P w K mg base 2 "_law_stream" jw3 ["_law_cell","_law_many"] 2 _rc:=
 okF sc__law_stream λhr=>have nd:=sc__law_stream.nd;(j7 (qA nd zW) (j7 (qA nd (K0 (vv 0) ki)) (j7 (qF (wX (vv 1) rfl T.b_range) (gN nd) (kX (_eM (_m9 hr (j9 (oM (vv 0) ki)) ki) (j7 (qP (oM (vv 3) ki)) (kX (qA nd (K0 (vv 3) ki)))) (kX (qP (qC az hr (j5 (cv 3) (j5 (cv 4) jq)))))))) (jQ (W1 (pv 2))))))
def _tn(T:Txt K mg):OkF P w K mg base 1 "_law_signs" jwm ["_law_cell"] 1 _rd:=
 okF sc__law_signs λhr=>have nd:=sc__law_signs.nd;(j7 (qA nd kS) (j7 (qA nd (oA ki (j9 (oM (vv 0) ki)))) (j7 (qA nd (oM (j9 (K0 (vv 0) ki)) (vv 2))) (j7 (qA nd (K0 (vv 0) ki)) (j7 (qA nd zW) (j7 (qF (wX (vv 2) rfl T.b_range) (gN nd) (j7 (qP (oM (vv 4) ki)) (kX (qA nd (K0 (vv 4) ki))))) (j7 (qA nd zW) (j7 (qF (wX (j9 (oA ki (j9 (oM (j9 (K0 (vv 0) ki)) ki)))) rfl T.b_range) (gN nd) (j7 (XW (i:=9) (o:=.rt) (k:=1) (R:=[1,5,8,3,4]) ["_law_j","_law_letters","_law_base","_law_k","_law_at","_law_rest"] nd rfl (by trivial) (wX (vv 2) rfl T.b_range) (λ_ _ _ _ _=>(zw (gn (show(["_law_j","_law_letters","_law_base","_law_k","_law_at","_law_rest"]:List Str).V by decide +kernel)))) (λ_ _ _ _ _=>WQ) (λ_ _ _ _ _=>(jY (kx (vv 1) (j9 (oM (j9 (oA (kx (vv 2) (vv 0)) (j9 (oX (j9 (oX (vv 3) (j9 (Wj _dn _gP (j9 (_na hr (vv 0) (vv 4))) T.b_int _db)))) (j9 (oA ki (j9 (oM (vv 5) ki)))))))) ki))))) zJ #[_,_,rfl,rfl] .q (show ∀j>([1,5,8,3,4]:List Nat) ,j<10 by decide)) (kX (qP (_jw _aw (vv 9)))))) (jQ (_gK (_hO rfl) _hT (vv 7) T.b_sorted _da))))))))))
def _to(T:Txt K mg):OkF P w K mg base 1 "_law_case" jxq ["_law_m","_law_sizes","_law_p","_law_c"] 4 _re:=
 okF sc__law_case λhr=>have nd:=sc__law_case.nd;(j7 (v3 (_m9 hr (j9 (oM (vv 0) ki)) ki) (jQ kN)) (j7 (qA nd (oA (kx (vv 1) (vv 2)) (j9 (Wj _dn _gP (j9 (_na hr (vv 3) (kx (vv 1) (vv 2)))) T.b_int _db)))) (j7 (XW (i:=5) (o:=.rt) (k:=1) (R:=[1,4]) ["_law_q","_law_sizes","_law_many"] nd rfl (by trivial) (wX (j9 (qL (vv 1) T.b_len)) rfl T.b_range) (λ_ _ _ _ _=>(zw (gn (show(["_law_q","_law_sizes","_law_many"]:List Str).V by decide +kernel)))) (λ_ _ _ _ _=>(KZ (wx _a9 (_ew (g:=λa b=>decide (a<=b))) (kx (vv 1) (vv 0)) (vv 2) (Jv _) _gX))) (λ_ _ _ _ _=>(cv 0)) zJ #[_,_,rfl,rfl] .q (show ∀j>([1,4]:List Nat) ,j<11 by decide)) (j7 (qA nd (jY (kx (vv 5) (j9 (oM (j9 (oM (j9 (K0 (vv 0) ki)) ki)) (j9 (qL (vv 5) T.b_len))))))) (j7 (qA nd (_g9 (vv 4) T.b_range T.b_list)) (j7 (qA nd zW) (j7 (qA nd (K0 (vv 0) ki)) (j7 (qF (wX (kx (vv 1) (vv 6)) rfl T.b_range) (gN nd) (j7 (qP (_ih (i:=7) (_c4 K Zh PySem.F.slot_list_pop PySem.F.type_list_pop _ca (pv 7) (qZ (j9 (oM (vv 9) (j9 (qL (vv 7) T.b_len)))) vJ)))) (kX (qA nd (K0 (vv 9) ki))))) (jQ (qx (o:=.r) (j5 (cv 6) (j5 (qT (vv 8) T.b_tuple) jq))))))))))))
def _tp(T:Txt K mg)(cy:kjm P w K mg base)(ca:kxg P w K mg base)(ax:jxj P w K mg base)(dh:kqk P w K mg base)(f7:qz0 P w K mg base):OkF P w K mg base 3 "_law_plain" jwo ["_law_script"] 1 _rf:=
 okF sc__law_plain λhr=>have nd:=sc__law_plain.nd;(j7 (qA nd (qC cy hr (j5 (qC ax hr (j5 (cv 0) (j5 kI jq))) jq))) (j7 (qA nd (qC ca hr (j5 (qC ax hr (j5 (cv 0) (j5 kI jq))) (j5 kI jq)))) (j7 (XW (i:=3) (o:=.rt) (k:=1) (R:=[2]) ["_law_r","_law_xs"] nd rfl (by trivial) (wX (j9 (oA ki (j9 (oM (kx (vv 2) ki) ki)))) rfl T.b_range) (λ_ _ _ _ _=>(zw (gn (show(["_law_r","_law_xs"]:List Str).V by decide +kernel)))) (λ_ _ _ _ _=>WQ) (λ_ _ _ _ _=>(oM (kx (vv 1) (j9 (oA ki (vv 0)))) (j9 (oA (j9 (q_b2 (_bo rfl) (_gU λ_ _=>rfl) (vv 0) ki T.b_min _c9)) ki)))) zJ #[_,_,rfl,rfl] .q (show ∀j>([2]:List Nat) ,j<11 by decide)) (j7 (qA nd zW) (j7 (qA nd kI) (j7 (qF (wX (j9 (qL (vv 3) T.b_len)) rfl T.b_range) (gN nd) (j7 (qA nd zW) (j7 (qF (wK (cv 1)) (gN nd) (j7 (qA nd zW) (j7 (qF (wX (j9 (oA (kx (vv 3) (vv 6)) ki)) rfl T.b_range) (gN nd) (j7 (qP (qC dh hr (j5 (qC f7 hr (j5 (qC ax hr (j5 (cv 0) (j5 (oA ki (vv 5)) jq))) (j5 (cv 5) (j5 kI jq)))) (j5 (cv 3) (j5 (cv 6) (j5 (cv 10) jq)))))) (kX (qA nd (oA (vv 5) ki))))) (kX (qP (cv 9)))))) (kX (qP (qx (o:=.r) (j5 (jY (kx (vv 3) (vv 6))) (j5 (_na hr (j9 (oM (kx (vv 2) (j9 (oA ki (vv 6)))) ki)) ki) (j5 (cv 7) jq))))))))) (jQ (qx (o:=.r) (j5 (cv 1) (j5 (cv 4) jq))))))))))
def _tq(T:Txt K mg):OkF P w K mg base 1 "_law_read" jxn ["_law_plain_here","_law_standing","_law_sign","_law_name"] 4 _rg:=
 okF sc__law_read λhr=>have nd:=sc__law_read.nd;(j7 (v3 (QW.pt (Kv (Wx (vv 1) kn) (Wz (wx (_ga hr.y) _gc (vv 2) (kx (vv 0) ki) (by rfl) _g2)))) (jQ kN)) (j7 (_e1 (cv 1) (Qq (is:=[4,5]) (Q1 K (t:=gNs [4,5]) (n:=2) (ww (gn nd) (ww (gn nd) Qw))))) (j7 (qA nd (qL (vv 5) T.b_len)) (j7 (v3 (wx (_f9 hr.y) ZQ (vv 3) (vv 5) (by rfl) _g1) (kX (qA nd (_h6 hr.y (vv 5) (vv 3))))) (j7 (qA nd (jY (kx (kx (kx (kx (kx (vv 0) ki) (vv 4)) ki) (j9 (_h6 hr.y (kx (vv 0) ki) (vv 2)))) (vv 6)))) (j7 (v3 (Wx (vv 7) kn) (jQ kN)) (j7 (qA nd (oA (vv 5) (j9 (qx (o:=.r) (j5 (cv 3) jq))))) (jQ (qx (o:=.r) (j5 (jY (kx (vv 7) ki)) (j5 (qT (j9 (qM .rt 1 [8] 9 ["_law_source","_law_kept"] (wK (jY (kx (vv 7) ki))) (λ_ _ _ _ _=>(jY (kx (vv 1) (vv 0)))))) T.b_tuple) jq)))))))))))
def _tr(T:Txt K mg)(dg:kqi P w K mg base):OkF P w K mg base 2 "_law_good" jxo ["_law_plain_here","_law_standing","_law_row"] 3 _rh:=
 okF sc__law_good λhr=>have nd:=sc__law_good.nd;(j7 (qF (wK (cv 2)) (Qq (is:=[3,4]) (Q1 K (t:=gNs [3,4]) (n:=2) (ww (gn nd) (ww (gn nd) Qw)))) (kX (qA nd (qC dg hr (j5 (cv 0) (j5 (cv 1) (j5 (cv 3) (j5 (cv 4) jq)))))))) (jQ (_gj (j9 (_eq _bd _gf (vv 1) kn (Jv _))) (_gi (jY (kx (kx (kx (vv 0) ki) (kx (vv 1) ki)) ki))))))
def _ts(T:Txt K mg):OkF P w K mg base 1 "_law_is_row" jw4 ["_law_row","_law_most"] 2 _ri:=
 okF sc__law_is_row λhr=>have nd:=sc__law_is_row.nd;(j7 (v3 (xx (x5 (j9 (VZ (vv 0) T.b_isinstance T.b_list Vk rfl)))) (jQ K2)) (j7 (qF (wK (cv 0)) (gN nd) (j7 (v3 (QW.pt (Kv (xx (x5 (j9 (VZ (vv 2) T.b_isinstance T.b_tuple _de rfl)))) (Kv (Q7 hr (j9 (qL (vv 2) T.b_len)) ki) (Wz (xx (x5 (j9 (VZ (kx (vv 2) ki) T.b_isinstance T.b_str _dc rfl)))))))) (jQ K2)) (kX (v3 (QW.pt (Kv (xx (x5 (j9 (VZ (kx (vv 2) ki) T.b_isinstance T.b_int _db rfl)))) (Kv (x5 (j9 (VZ (kx (vv 2) ki) T.b_isinstance T.b_bool _dd rfl))) (Wz (xx (_ik _a9 (_ew (g:=λa b=>decide (a<=b))) _a9 (_ew (g:=λa b=>decide (a<=b))) ki (kx (vv 2) ki) (vv 1) _gX)))))) (jQ K2))))) (jQ K2)))
def _tt(T:Txt K mg)(f8:kvm P w K mg base)(c8:qqj P w K mg base)(c9:jzj P w K mg base):OkF P w K mg base 6 "_law_right" jwn ["_law_plain_here","_law_p","_law_i","_law_told","_law_most"] 5 _rj:=
 okF sc__law_right λhr=>have nd:=sc__law_right.nd;(j7 (qA nd (jY (kx (kx (kx (vv 0) ki) (vv 1)) ki))) (j7 (qA nd (qT (j9 (qm .rt 1 [2] 10 ["_law_j","_law_i"] (wX (vv 5) rfl T.b_range) (λhN _ _ _ _ _=>(zw (gn hN))) (λ_ _ _ _ _=>(KZ (Q7 hr (vv 0) (vv 1)))) (λ_ _ _ _ _=>(qx (o:=.r) (j5 (cv 0) (j5 (cv 0) jq)))))) T.b_tuple)) (j7 (qA nd (qC f8.e hr (j5 (cv 0) (j5 (cv 0) (j5 (qx (o:=.r) (j5 (cv 1) (j5 (cv 1) (j5 (cv 6) jq)))) jq))))) (j7 (v3 (xx (x5 (vv 3))) (jQ (_na hr (kx (vv 7) ki) kSv))) (j7 (v3 (QW.pt (Kv (Q7 hr (kx (vv 7) ki) kSv) (Wz (xx (x5 (j9 (qC c9 hr (j5 (jY (kx (vv 7) ki)) (j5 (oX ki (vv 4)) jq))))))))) (jQ K2)) (j7 (qA nd (qx (o:=.r) (j5 (cv 1) (j5 (_jS (vv 5) T.b_range T.b_tuple) jq)))) (j7 (qA nd (qx (o:=.r) (j5 (cv 1) (j5 (qT (j9 (qM .rt 1 [2,5] 10 ["_law_j","_law_i","_law_many"] (wX (vv 5) rfl T.b_range) (λ_ _ _ _ _=>(Q3 (Q7 hr (vv 0) (vv 1)) (cv 0) (cv 2))))) T.b_tuple) jq)))) (jQ (_eq (_fo hr.y) _fq (j9 (qC c8 hr (j5 (cv 0) (j5 (cv 8) (j5 (jY (kx (vv 7) ki)) jq))))) (j9 (qC c8 hr (j5 (cv 0) (j5 (cv 9) (j5 (jY (kx (vv 7) ki)) jq))))) (Jv _))))))))))
def _tu(T:Txt K mg):OkF P w K mg base 1 "_law_copy" jxp ["_law_plain_here"] 1 _rk:=
 okF sc__law_copy λhr=>have nd:=sc__law_copy.nd;(j7 (XW (i:=1) (o:=.rt) (k:=3) (R:=[]) ["_law_many","_law_good_here","_law_steps"] nd rfl (by trivial) (wK (jY (kx (vv 0) ki))) (λ_ _ _ _ _=>(Qq (is:=[0,1,2]) (Q1 K (t:=gNs [0,1,2]) (n:=3) (ww (gn (show(["_law_many","_law_good_here","_law_steps"]:List Str).V by decide +kernel)) (ww (gn (show(["_law_many","_law_good_here","_law_steps"]:List Str).V by decide +kernel)) (ww (gn (show(["_law_many","_law_good_here","_law_steps"]:List Str).V by decide +kernel)) Qw)))))) (λ_ _ _ _ _=>WQ) (λ_ _ _ _ _=>(qx (o:=.r) (j5 (cv 0) (j5 (cv 1) (j5 (qM .rt 1 [] 3 ["_law_cases"] (wK (cv 2)) (λ_ _ _ _ _=>(Wj (_dj K) _gQ (vv 0) T.b_list Vk))) jq))))) zJ #[_,_,rfl,rfl] .q (show ∀j>([]:List Nat) ,j<2 by decide)) (jQ (qx (o:=.r) (j5 (Wj (_dj K) _gQ (kx (vv 0) ki) T.b_list Vk) (j5 (cv 1) jq)))))
def _tv(T:Txt K mg)(cz:qk1 P w K mg base)(dn:kqj P w K mg base)(ft:vwu P w K mg base)(cu:qk0 P w K mg base)(F:Fun K "law" "law" wqe f fd):FnOk P w K mg base (CXE P w) 8 f fd ["_law_script"] (spF K mg 1 m_law):=
 _dB F sc_law (_fO rfl) λce A outer s H vs Q E hr h=>have nd:=sc_law.nd;_fQ rfl
  (j7 (qA nd (qC cz hr (j5 (cv 0) jq))) (j7 (qA nd (qC dn hr (j5 (cv 1) jq))) (j7 (qA nd (qC ft hr (j5 (cv 2) jq))) (j7 (v3 (QW.pt (Kv (xx (x5 (j9 (VZ (vv 3) T.b_isinstance T.b_list Vk rfl)))) (Kv (Q7 hr (j9 (qL (vv 3) T.b_len)) (j9 (qL (kx (vv 1) ki) T.b_len))) (Wz (Q7 hr (vv 2) (vv 1)))))) (jQ K2)) (j7 (qA nd (_gK (_m7 K) _m8 (j9 (qM .rt 1 [] 8 ["_law_room"] (wK (jY (kx (vv 1) ki))) (λ_ _ _ _ _=>(jY (kx (vv 0) ki))))) T.b_max _c8)) (j7 (qF (wX (j9 (qL (vv 3) T.b_len)) rfl T.b_range) (gN nd) (j7 (v3 (xx (x5 (j9 (VZ (kx (vv 3) (vv 5)) T.b_isinstance T.b_list Vk rfl)))) (jQ K2)) (j7 (XW (i:=6) (o:=.rt) (k:=1) (R:=[3,5]) ["_law_i","_law_found","_law_p"] nd rfl (by trivial) (wX (kx (kx (kx (vv 1) ki) (vv 5)) ki) rfl T.b_range) (λ_ _ _ _ _=>(zw (gn (show(["_law_i","_law_found","_law_p"]:List Str).V by decide +kernel)))) (λ_ _ _ _ _=>(KZ (wx (_f9 hr.y) ZQ (vv 0) (kx (vv 1) (vv 2)) (by rfl) _g1))) (λ_ _ _ _ _=>(cv 0)) zJ #[_,_,rfl,rfl] .q (show ∀j>([3,5]:List Nat) ,j<8 by decide)) (j7 (v3 (Q7 hr (kx (vv 3) (vv 5)) (vv 6)) (jQ K2)) (kX (qF (wX (kx (kx (kx (vv 1) ki) (vv 5)) ki) rfl T.b_range) (gN nd) (kX (v3 (xx (x5 (j9 (qC cu hr (j5 (cv 2) (j5 (cv 5) (j5 (cv 7) (j5 (_eq (_f9 hr.y) ZQ (vv 7) (vv 6) (by rfl)) (j5 (cv 4) jq))))))))) (jQ K2))))))))) (jQ (_na hr (vv 2) (vv 1))))))))) h
end
def all_mk{l:PySem.W.OpenLaw}{w:PySem.World}{K:Frag}{h:Heap}{mg:Str->Option Value}{fa:Addr}(X:K.In h)(G:h.Ns mainGlobals mg)(hfa:mg "law"=@(.I fa)){ef d8 io:Value}{cq dm:Addr}{fi df:Obj}
  (g0:Gf K "is_small" jzs)
  (g1:Gf K "read_by" kke)
  (g2:Gf K "keepers_in" jwk)
  (g3:Gf K "standing_in" jw1)
  (g4:Gf K "first_standings" jkz)
  (g5:Gf K "names_of" jzr)
  (g6:Gf K "held_by_both" jvk)
  (g7:Gf K "room_of" kkd)
  (g8:Gf K "pair_of" kkf)
  (g9:Gf K "read_by_both" jvg)
  (g10:Gf K "steps_from" jwi)
  (g11:Gf K "pairs_behind" jvi)
  (g12:Gf K "is_good_in" jwl)
  (g13:Gf K "agrees" kw0)
  (g14:Gf K "pair_parted_at" jqe)
  (g15:Gf K "keepers_parted" jqf)
  (g16:Gf K "mattering" jxm)
  (g17:Gf K "leading_to" jwj)
  (g18:Gf K "unlike_among" jvf)
  (g19:Gf K "parted_pairs" jvh)
  (g20:Gf K "matters" kkg)
  (g21:Gf K "least_beside" jvj)
  (g22:Gf K "parting_row" jw2)
  (g23:Gf K "steps_to" jzp)
  (g24:Gf K "searched" jzq)
  (g25:GfD K "compared" jzt)
  (g26:Gf K "_law_cell_at" jvl)
  (g27:Gf K "_law_mixed" jwp)
  (g28:Gf K "_law_own" jzu)
  (g29:Gf K "_law_stream" jw3)
  (g30:Gf K "_law_signs" jwm)
  (g31:Gf K "_law_case" jxq)
  (g32:Gf K "_law_plain" jwo)
  (g33:Gf K "_law_read" jxn)
  (g34:Gf K "_law_good" jxo)
  (g35:Gf K "_law_is_row" jw4)
  (g36:Gf K "_law_right" jwn)
  (g37:Gf K "_law_copy" jxp)
  (g38:Gf K "law" wqe)
  (ig:nsIn K mainGlobals "SMALL_ROOMS"=some @ef) (ie:RelV (V.E (12)) ef)
  (gh:nsIn K mainGlobals "SMALL_KEEPERS"=some @d8) (gc:RelV (V.E (3)) d8)
  (me:nsIn K mainGlobals "NOWHERE"=some @io) (md:RelV (V.E (-1)) io)
  (iz:nsIn K mainGlobals "FIRST_PAIR"=some @(.I cq))
  (je:K.U cq=@fi)
  (iy:_lg fi [(V.E 0),(V.E 0),.I dm])
  (i7:K.U dm=@df)
  (gq:_lg df [])
  (xt:nsIn K mainGlobals "all"=@none)
  (tz:nsIn K mainGlobals "bool"=@none)
  (tq:nsIn K mainGlobals "dict"=@none)
  (jp:nsIn K mainGlobals "enumerate"=@none)
  (yf:nsIn K mainGlobals "int"=@none)
  (iw:nsIn K mainGlobals "isinstance"=@none)
  (xb:nsIn K mainGlobals "len"=@none)
  (t9:nsIn K mainGlobals "list"=@none)
  (vu:nsIn K mainGlobals "max"=@none)
  (vm:nsIn K mainGlobals "min"=@none)
  (qd:nsIn K mainGlobals "range"=@none)
  (lb:nsIn K mainGlobals "reversed"=@none)
  (vh:nsIn K mainGlobals "set"=@none)
  (n9:nsIn K mainGlobals "sorted"=@none)
  (xa:nsIn K mainGlobals "str"=@none)
  (qh:nsIn K mainGlobals "tuple"=@none)
  : ∃fd:FuncData,(∀(s:Shared) (v:Value),BindsTo s fd #[[v],[]] [("_law_script",v)])/\∀base:Heap,K.In base->base.Ns mainGlobals mg->FnOk l.î w K mg base (CXE l.î w) 8 fa fd ["_law_script"] (spF K mg 1 m_law):=by
 let T:Txt K mg:=#[Y6 X G xt,Y6 X G tz,Y6 X G tq,Y6 X G jp,Y6 X G yf,Y6 X G iw,Y6 X G xb,Y6 X G t9,Y6 X G vu,Y6 X G vm,Y6 X G qd,Y6 X G lb,Y6 X G vh,Y6 X G n9,Y6 X G xa,Y6 X G qh,#[_,PySem.W.mg_of X G ig,ie],#[_,PySem.W.mg_of X G gh,gc],#[_,PySem.W.mg_of X G me,md],#[_,#[_,PySem.W.mg_of X G iz,(show RelV (.I cq) _ from rfl)],λH=>(_lk (_lh je iy) (_lj wQ (_lj wQ (_lj (_lk (_lh i7 gq) _li) _li))))]];show g38.law X G hfa fun {base _ _} F=>?_
 let ba:kjf l.î w K mg base:=g0.d X G (_sT T  _ _);let du:qjy l.î w K mg base:=g1.d X G (_sU T  _ _);let bn:kjk l.î w K mg base:=g2.d X G (_sV T  _ _);let bh:jzi l.î w K mg base:=g3.d X G (_sW T  _ _);let aj:=g4.d X G (_sX T bn bh _ _);let aw:kje l.î w K mg base:=g5.d X G (_sY T  _ _);let am:=g6.d X G (_sZ T aw _ _);let dq:qjx l.î w K mg base:=g7.d X G (_s0 T  _ _);let fw:=g8.d X G (_s1 T aw dq _ _);let ao:=g9.d X G (_s2 T du _ _);let b6:=g10.d X G (_s3 T aj am fw ao _ _);let bt:=g11.d X G (_s4 T b6 _ _);let bm:kjl l.î w K mg base:=g12.d X G (_s5 T  _ _);let cg:=g13.d X G (_s6 T bm _ _);let ak:jqi l.î w K mg base:=g14.d X G (_s7 T  _ _);let bg:=g15.d X G (_s8 T ak _ _);let dk:=g16.d X G (_s9 T bg _ _);let cw:=g17.d X G (_ta T bt _ _);let bp:=g18.d X G (_tb T cw cg _ _);let br:=g19.d X G (_tc T ak _ _);let ft:=g20.d X G (_td T dk ba bp br _ _);let bq:jxh l.î w K mg base:=g21.d X G (_te T  _ _);let cb:=g22.d X G (_tf T aj am ao bq _ _);let f9:kvl l.î w K mg base:=g23.d X G (_tg T  _ _);let fe:=g24.d X G (_th T b6 cg cb f9 _ _);let f8:kvm l.î w K mg base:=g25.d X G (_ti T fe ba);let ax:jxj l.î w K mg base:=g26.d X G (_tj T  _ _);let az:jx2 l.î w K mg base:=g27.d X G (_tk T  _ _);let f7:=g28.d X G (_tl T az _ _);let ca:=g29.d X G (_tm T az _ _);let cy:kjm l.î w K mg base:=g30.d X G (_tn T  _ _);let dh:kqk l.î w K mg base:=g31.d X G (_to T  _ _);let cz:=g32.d X G (_tp T cy ca ax dh f7 _ _);let dg:kqi l.î w K mg base:=g33.d X G (_tq T  _ _);let c8:=g34.d X G (_tr T dg _ _);let c9:jzj l.î w K mg base:=g35.d X G (_ts T  _ _);let cu:=g36.d X G (_tt T f8 c8 c9 _ _);let dn:kqj l.î w K mg base:=g37.d X G (_tu T  _ _);show _tv T cz dn ft cu F
end Nk51
namespace PySem.W.Fast
def tw10014154122151052751:True:=#[]
def tw10429392246699641776:True:=#[]
def tw10466447695249603355:True:=#[]
def tw10542927523545473667:True:=#[]
def tw10560865237824086539:True:=#[]
def tw10635713364162607571:True:=#[]
def tw10668431188104511324:True:=#[]
def tw10801579654322451364:True:=#[]
def tw10889468211568086779:True:=#[]
def tw11079528559972305297:True:=#[]
def tw11116860556012353076:True:=#[]
def tw11122659226260357128:True:=#[]
def tw11124500091491595497:True:=#[]
def tw1131900933584737931:True:=#[]
def tw11426532778032492766:True:=#[]
def tw11488143202050878250:True:=#[]
def tw11588146219935568491:True:=#[]
def tw1175794467985595006:True:=#[]
def tw11831691494028875389:True:=#[]
def tw11869117114796968964:True:=#[]
def tw11885830061758111072:True:=#[]
def tw12040137249119885576:True:=#[]
def tw12160386423547637202:True:=#[]
def tw12162293417770081879:True:=#[]
def tw12267936620149102435:True:=#[]
def tw1233047616022704362:True:=#[]
def tw12483406601518178651:True:=#[]
def tw12500962676038606653:True:=#[]
def tw12704101934788468956:True:=#[]
def tw12971107937933732012:True:=#[]
def tw12972934251106874188:True:=#[]
def tw13011264799857356458:True:=#[]
def tw1310949410878554807:True:=#[]
def tw1324459431322122931:True:=#[]
def tw13248244459860707647:True:=#[]
def tw13279311130018667012:True:=#[]
def tw13381786103545483447:True:=#[]
def tw13398668749748114481:True:=#[]
def tw13399659661349059015:True:=#[]
def tw135606370987453500:True:=#[]
def tw13631073999319042383:True:=#[]
def tw13649314171712465417:True:=#[]
def tw13671310377298019177:True:=#[]
def tw13758996052169938214:True:=#[]
def tw13829913058605759341:True:=#[]
def tw13848392122693941158:True:=#[]
def tw13905979969696020671:True:=#[]
def tw13968007191422134420:True:=#[]
def tw13982524355297184618:True:=#[]
def tw13995585224686380785:True:=#[]
def tw14047201144594845113:True:=#[]
def tw14191662577469791521:True:=#[]
def tw1419642630621635025:True:=#[]
def tw14537451487016787052:True:=#[]
def tw14538699800632677992:True:=#[]
def tw14621431741522827694:True:=#[]
def tw14635327198859301847:True:=#[]
def tw14729762833310001393:True:=#[]
def tw14892406621777668356:True:=#[]
def tw14922464068687444583:True:=#[]
def tw15198848073934777661:True:=#[]
def tw1525549500668169655:True:=#[]
def tw1546403102190418996:True:=#[]
def tw15483432737971411649:True:=#[]
def tw15486712934801502164:True:=#[]
def tw15606746039431280545:True:=#[]
def tw15724180752334282568:True:=#[]
def tw15724573588785045185:True:=#[]
def tw15863579085017102763:True:=#[]
def tw15945990862095539062:True:=#[]
def tw1619195842722935192:True:=#[]
def tw1623449345316890088:True:=#[]
def tw1651142580596830126:True:=#[]
def tw16573669842536628408:True:=#[]
def tw16690123091551372939:True:=#[]
def tw16914290828276200663:True:=#[]
def tw16935163019364624211:True:=#[]
def tw16999075662039167182:True:=#[]
def tw17017766250534860926:True:=#[]
def tw17109499726006955059:True:=#[]
def tw17349919013928158482:True:=#[]
def tw17351464196703213046:True:=#[]
def tw17510452864106328790:True:=#[]
def tw17531980266728318608:True:=#[]
def tw17545097188943522172:True:=#[]
def tw17568392767380297649:True:=#[]
def tw17574678136578912931:True:=#[]
def tw17579765091841300137:True:=#[]
def tw17619388237680040494:True:=#[]
def tw17759420244553344549:True:=#[]
def tw18009372357306132849:True:=#[]
def tw18131563487124324489:True:=#[]
def tw18211786364695886397:True:=#[]
def tw18375529480258330700:True:=#[]
def tw18427753009896703569:True:=#[]
def tw1887244590395076659:True:=#[]
def tw2056131164945305765:True:=#[]
def tw223379801512913020:True:=#[]
def tw2416099873283793049:True:=#[]
def tw2644313274064603112:True:=#[]
def tw2789251827322489177:True:=#[]
def tw2875636139070440029:True:=#[]
def tw288577451291354253:True:=#[]
def tw2976488549214437340:True:=#[]
def tw3074537834299771227:True:=#[]
def tw3082968248781222740:True:=#[]
def tw3144575634717545295:True:=#[]
def tw3175628013059438117:True:=#[]
def tw3175890210009505426:True:=#[]
def tw3204363271747132643:True:=#[]
def tw3220216408727415818:True:=#[]
def tw3292692446531545975:True:=#[]
def tw3579919133215638315:True:=#[]
def tw3658099633630107477:True:=#[]
def tw3677625311073346370:True:=#[]
def tw4037623120341540837:True:=#[]
def tw4061917899725140841:True:=#[]
def tw4132722040935414905:True:=#[]
def tw4136516400060096825:True:=#[]
def tw417244055149143929:True:=#[]
def tw4256903915800825469:True:=#[]
def tw4273433518630232313:True:=#[]
def tw442092243282318900:True:=#[]
def tw4711393686694105283:True:=#[]
def tw4990020253135499717:True:=#[]
def tw5040126833373142678:True:=#[]
def tw5081409335148620455:True:=#[]
def tw5148333756718919473:True:=#[]
def tw5168253961392768166:True:=#[]
def tw5224653793736967250:True:=#[]
def tw5339402593901213032:True:=#[]
def tw5365830888078690610:True:=#[]
def tw546770443444926784:True:=#[]
def tw5471543705489932493:True:=#[]
def tw5476174900220340175:True:=#[]
def tw5484728429283042149:True:=#[]
def tw5622990534056604343:True:=#[]
def tw5642192319866701885:True:=#[]
def tw5685291499714947320:True:=#[]
def tw5692502123319831379:True:=#[]
def tw5741296158517948234:True:=#[]
def tw5851602220988887325:True:=#[]
def tw5923282569041150452:True:=#[]
def tw6043337329047864802:True:=#[]
def tw614795568120114235:True:=#[]
def tw6162393815046249245:True:=#[]
def tw6232262342732306230:True:=#[]
def tw6314919828809699310:True:=#[]
def tw6414179299886175693:True:=#[]
def tw6431248329112896690:True:=#[]
def tw6572572550021605386:True:=#[]
def tw670182090175693658:True:=#[]
def tw6719210836895363583:True:=#[]
def tw6744376782135417911:True:=#[]
def tw6807896303122935627:True:=#[]
def tw6829625961096411002:True:=#[]
def tw7089259622838208355:True:=#[]
def tw7112122686642718598:True:=#[]
def tw7118733474979211696:True:=#[]
def tw715198458476205152:True:=#[]
def tw7168021817940209707:True:=#[]
def tw7238130311288760814:True:=#[]
def tw7348435347288767056:True:=#[]
def tw7441237714692360764:True:=#[]
def tw747931149482011207:True:=#[]
def tw7568220824979119488:True:=#[]
def tw7580105862953344879:True:=#[]
def tw7743947664455264291:True:=#[]
def tw8016631985638076110:True:=#[]
def tw8143348350516289728:True:=#[]
def tw8203418434725849638:True:=#[]
def tw8253952593039645119:True:=#[]
def tw8357345457266721322:True:=#[]
def tw8601204135721302342:True:=#[]
def tw8640722939442507528:True:=#[]
def tw8700333471773518464:True:=#[]
def tw8765719863966542784:True:=#[]
def tw8852601672403932332:True:=#[]
def tw901018350043739316:True:=#[]
def tw903151973155665004:True:=#[]
def tw9099475032436686019:True:=#[]
def tw9101838163683288079:True:=#[]
def tw9342618390757226382:True:=#[]
def tw9395023202829299853:True:=#[]
def tw9437002545933301565:True:=#[]
def tw9643604682460746084:True:=#[]
def tw9661776037947719752:True:=#[]
def tw9777458117004309362:True:=#[]
def tw9857839448413567830:True:=#[]
def tw9872445641433889468:True:=#[]
def tw9895676188989139936:True:=#[]
end PySem.W.Fast
open PySem PySem.W PyProof.Rows
set_option maxRecDepth 100000 in
set_option maxHeartbeats 0 in
#where in
theorem PySem.Challenge.cw_freshrooms_k51_matters_by_parting_holds : PySem.Challenge.rw_freshrooms_k51_matters_by_parting.Holds := by
 w_on;o_law;k_head;(case hw=>w_witness2)
 k_fill
 refine Q.walkQ (l:=PySem.Challenge.rw_freshrooms_k51_matters_by_parting) (n:=63) (k:=8) (x:="_law_script") (f:=Nk51.m_law) rfl ⋯ rfl #[rfl,⋯,⋯,rfl] (fun w h Y=>PySem.W.kIn_of Y) ?F Nk51.law_true
 case F =>
  intro w mg fa h KX G hmg
  refine' Nk51.all_mk KX G hmg ?_ ?_ ?_ ?_ ?_ ?_ ?_ ?_ ?_ ?_ ?_ ?_ ?_ ?_ ?_ ?_ ?_ ?_ ?_ ?_ ?_ ?_ ?_ ?_ ?_ ?_ ?_ ?_ ?_ ?_ ?_ ?_ ?_ ?_ ?_ ?_ ?_ ?_ ?_ ?y0 ?y1 ?y2 ?y3 ?y4 ?y5 ?y6 ?y7 ?y8 ?y9 ?y10 ?y11 ?y12 ?y13 ?y14 ?y15 ?y16 ?y17 ?y18 ?y19 ?y20 ?y21 ?y22 ?y23 ?y24 ?y25 ?y26
  all_goals try (refine' Q.Gf.mk ?a ?b ?c ?d;(case a=>k_is);(case b=>k_is);(case c=>k_is);(case d=>k_is))
  all_goals try (refine' Q.GfD.mk ?a ?b ?c ?d ?e ?f;(case a=>k_is);(case b=>k_is);(case c=>k_is);(case d=>k_is);(case e=>k_is);(case f=>rfl))
  case y0 | y2 | y4 | y6 | y11 | y12 | y13 | y14 | y15 | y16 | y17 | y18 | y19 | y20 | y21 | y22 | y23 | y24 | y25 | y26=>k_is
  case y1 | y3 | y5=>exact #[_,rfl]
  case y7=>k_is
  case y8=>exact #[rfl,rfl,_,_,rfl,⋯,(.cons #[_,rfl] (.cons #[_,rfl] (.cons rfl .nil)))]
  case y9=>k_is
  case y10=>exact #[rfl,rfl,_,_,rfl,⋯,.nil]
